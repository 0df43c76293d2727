import PyProof.Rows.All
import Wide.All
import OpenK.AllK
import Wide.FinOn
import Lean
import PyProof.EqAt
import PyProof.EqKinds
import PyProof.TupleCall
import PySem.SetTable
import PyProof.TupleKey
import Wide.Seal
import PyProof.DictRoadsH
import PyProof.Rows.TupTab
import PyProof.Draws
import PyProof.EnumMake
import OpenK.KRaise
import OpenK.KOwn
import PyProof.Rows.TopTwo
import PyProof.RulesAs
import PyProof.RulesDel
import PyProof.ExcArgsOwn
import PyProof.ExcAttrAll.ValueError
import PyProof.Rows.CountFlat
import PyProof.SumWalk
import PyProof.Rows.SeqCalls
import PyProof.ZipIter
import KE.KRevIter
import PyProof.CollectIter
import PyProof.TupleOfGen
import PyProof.ListRange
import PyProof.WalkInts
import PySem.Challenge.RW_floorfits_k41_whole_joined
set_option Elab.async false
set_option linter.all false
set_option maxRecDepth 100000
set_option maxHeartbeats 4000000
abbrev Z1:=Nat->Nat->Option Int
abbrev Z2:=List (List Int)
abbrev Z3:=List (PySem.Addr×PySem.Obj)
abbrev Z4:=List (Option Int)
abbrev Z5:=PySem.Value->PySem.Shared->Prop
abbrev Z6:=PySem.Str->Option PySem.Value
def yaa:=@PySem.wpAny_bind
def yab:=@Bool.and_eq_true
def yac:=@List.getElem?_eq_getElem
def yad:=@PySem.Heap.get?_push_of_some
def yae:=@List.getD_eq_getElem?_getD
def yaf:=@List.length_map
def yag:=@List.getElem?_eq_some_iff
def yah:=@PySem.wpAny_pure
def yai:=@List.length_cons
def yaj:=@Nat.le_trans
def yak:=@List.size_toArray
def yal:=@List.length_append
def yam:=@Nat.le_refl
def yan:=@Nat.lt_of_lt_of_le
def yao:=@List.getElem?_map
def yap:=@List.mem_cons_of_mem
def yaq:=@List.map_cons
def yar:=@PySem.Heap.get?_push_size
def yas:=@PySem.Heap.lt_size
def yat:=@of_decide_eq_true
def yau:=@List.getElem?_append_right
def yav:=@List.mem_cons
def yaw:=@List.mem_map
def yax:=@List.mem_cons_self
def yay:=@List.lookup_cons
def yaz:=@List.getElem?_append_left
def yaA:=@List.getElem?_set_self
def yaB:=@Nat.ne_of_lt
def yaC:=@List.mem_range
def yaD:=@List.map_congr_left
def yaE:=@List.length_replicate
def yaF:=@Nat.add_sub_cancel_left
def yaG:=@List.getElem?_eq_none
def yaH:=@List.length_set
def yaI:=@PySem.mem_of_lookup
def yaJ:=@List.not_mem_nil
def yaK:=@List.mem_append_right
def yaL:=@Option.some_ne_none
def yaM:=@decide_eq_true
def yaN:=@PySem.W.mg_none_of
def yaO:=@PyProof.Rows.callWith_type1
def yaP:=@List.getElem?_set_ne
def yaQ:=@List.mem_singleton
def yaR:=@Nat.lt_irrefl
def yaS:=@decide_eq_false
def yaT:=@PyProof.Rows.slot_tuple_getitem
def yaU:=@List.flatMap_cons
def yaV:=@PySem.Heap.size_push
def yaW:=@Bool.false_eq_true
def yaX:=@List.map_map
def yaY:=@List.nodup_iff_pairwise_ne
def yaZ:=@Int.toNat_natCast
def ya0:=@Nat.mul_le_mul
def ya1:=@beq_eq_false_iff_ne
def ya2:=@List.mem_filter
def ya3:=@Nat.ne_of_gt
def ya4:=@PySem.W.kia_one
def ya5:=@List.append_nil
def ya6:=@List.replicate_succ
def ya7:=@List.getElem?_replicate
def ya8:=@PySem.wpAny_callSpecial?_slot
def ya9:=@PySem.W.mg_of
def yba:=@Bool.false_ne_true
def ybb:=@decide_eq_true_iff
def ybc:=@Bool.eq_iff_iff
def ybd:=@PySem.wpAny_field
def ybe:=@PySem.wpAny_truthy_bool
def ybf:=@List.length_singleton
def ybg:=@List.nodup_cons
def ybh:=@List.getElem?_drop
def ybi:=@List.length_take
def ybj:=@PySem.wpAny_call_entry
def ybk:=@List.all_eq_true
def ybl:=@List.take_of_length_le
def ybm:=@Nat.zero_le
def ybn:=@PySem.wpAny_newObj_type
def ybo:=@Bool.not_eq_true'
def ybp:=@PySem.wpAny_seqItems
def ybq:=@List.sum_cons
def ybr:=@Nat.mul_comm
def ybs:=@PySem.wpAny_mono
def ybt:=@List.getElem_mem
def ybu:=@List.eq_nil_of_length_eq_zero
def ybv:=@List.isEmpty_iff
def ybw:=@List.mem_flatMap
def ybx:=@Nat.mul_le_mul_right
def yby:=@List.flatten_cons
def ybz:=@decide_eq_true_eq
def ybA:=@List.ext_getElem?
def ybB:=@PySem.wpAny_loadPart_at
def ybC:=@List.range_succ
def ybD:=@Nat.min_eq_left
def ybE:=@PySem.F.slot_tuple_iterator_next
def ybF:=@List.length_drop
def ybG:=@beq_self_eq_true
def ybH:=@List.all_cons
def ybI:=@PySem.wpAny_setField_rec
def ybJ:=@Nat.sub_self
def ybK:=@List.getLastD_eq_getLast?
def ybL:=@List.mem_of_getElem?
def ybM:=@List.mem_append
def ybN:=@List.getElem?_take_of_lt
def ybO:=@List.length_nil
def ybP:=@List.map_append
def ybQ:=@decide_eq_false_iff_not
def ybR:=@Int.eq_ofNat_of_zero_le
def ybS:=@beq_iff_eq
def ybT:=@PySem.wpAny_Call_Name_kw
def ybU:=@or_false
def ybV:=@Nat.succ_mul
def ybW:=@PySem.F.slot_int_rmul
def ybX:=@if_false
def ybY:=@List.length_range
def ybZ:=@PySem.F.excBase_ValueError
def yb0:=@PySem.wpAny_binaryOp_repeat_ref
def yb1:=@List.drop_eq_getElem_cons
def yb2:=@List.getLast?_eq_getElem?
def yb3:=@Nat.lt_succ_self
def yb4:=@if_true
def yb5:=@PySem.F.args_tuple_add_2
def yb6:=@PySem.AutoSeq1.wpAny_loadPart'
def yb7:=@Nat.zero_add
def yb8:=@PySem.wpAny_holding
def yb9:=@PySem.wpAny_pyIter_tuple
def yca:=@List.mem_filterMap
def ycb:=@PySem.wpAny_passesOwn
def ycc:=@PySem.F.entry_tuple_add
def ycd:=@List.nil_append
def yce:=@List.find?_cons
def ycf:=@PySem.F.plainAttrs_list
def ycg:=@List.contains_cons
def ych:=@List.getElem?_take
def yci:=@Nat.div_add_mod
def ycj:=@List.flatten_replicate_singleton
def yck:=@PySem.F.slot_tuple_add
def ycl:=@PyProof.Rows.subscriptTail_builtinR
def ycm:=@PySem.wpAny_pyIter_list
def ycn:=@PySem.call_meets
def yco:=@Nat.le_succ
def ycp:=@PySem.wpAny_pyIter_enum
def ycq:=@PySem.F.typeOf_object_class
def ycr:=@List.length_filter_le
def ycs:=@PySem.F.slot_tuple_mul
def yct:=@PySem.wpAny_isInstance
def ycu:=@List.filter_cons
def ycv:=@List.map_flatMap
def ycw:=@List.mem_append_left
def ycx:=@PySem.Calls.evalArgs_plain
def ycy:=@PySem.wpAny_updateSeq_pair
def ycz:=@List.length_dropLast
def ycA:=@Bool.not_true
def ycB:=@PySem.wpAny_onRaise
def ycC:=@PySem.typeIs_int
def ycD:=@List.filterMap_cons
def ycE:=@Array.length_toList
def ycF:=@PySem.wpAny_execs_nil
def ycG:=@PySem.W.plainGet_of
def ycH:=@List.forIn_cons
def ycI:=@Bool.or_eq_true
def ycJ:=@PySem.F.slot_zip_next
def ycK:=@List.getElem?_range
def ycL:=@PySem.Calls.spliced_cons
def ycM:=@PySem.wpAny_tupleItemsOf
def ycN:=@Array.forIn_toList
def ycO:=@PySem.W.callWith_K
def ycP:=@Int.emod_lt_of_pos
def ycQ:=@List.drop_zero
def ycR:=@List.append_assoc
def ycS:=@PySem.F.args_int_rmul_2
def ycT:=@Nat.le_of_succ_le
def ycU:=@PySem.wpAny_rule
def ycV:=@List.take_add_one
def ycW:=@List.pairwise_map
def ycX:=@Bool.false_or
def S2.bdI{c k:Nat}(h:c<=k)(hk:k<=1000000):-1000000<=(c:Int)/\(c:Int)<=1000000:=⟨Int.le_trans (by decide) (Int.natCast_nonneg c),Int.ofNat_le.mpr (yaj h hk)⟩
def S2.bdN{c k:Nat}(h:c<=k)(hk:k<=1000000):0<=(c:Int)/\(c:Int)<=1000000:=⟨Int.natCast_nonneg c,Int.ofNat_le.mpr (yaj h hk)⟩
local macro_rules | `(tactic| omega) => `(tactic| first | assumption | exact yaj (by assumption) (by decide) | exact yan (by assumption) (by assumption) | exact yan (by assumption) (by decide) | exact Nat.le_of_lt (by assumption) | exact S2.bdI (by assumption) (by decide) | exact yaj (by assumption) (by assumption) | omega +splitDisjunctions)
namespace L2
open PySem PySem.Spec PyProof.Rows
abbrev Key:=Sum Int Str
def zjD:Key->Value->Bool
 | .inl k,v=>Value.isInt k v
 | .inr x,v=>Value.isStrOf x v
def zy9(w:World):Key->Int
 | .inl k=>hashInt k
 | .inr x=>hashStr w x
theorem zaV:∀{k:Key} {v:Value},zjD k v=true->(∃i t,k=Sum.inl i/\v=Value.int i t)\/(∃x t,k=Sum.inr x/\v=Value.str x t)
 | .inl i,v,h=>by
  obtain ⟨t,e⟩:=Value.isInt_shape (k:=i) (v:=v) h;exact .inl ⟨i,t,rfl,e⟩
 | .inr x,v,h=>by
  obtain ⟨t,e⟩:=Value.isStrOf_shape (x:=x) (v:=v) h;exact .inr ⟨x,t,rfl,e⟩
def zli(i:Int)(t:Tok):zjD (.inl i) (.int i t)=true:=by simp [zjD,Value.isInt]
def zlh(x:Str)(t:Tok):zjD (.inr x) (.str x t)=true:=by simp [zjD,Value.isStrOf]
def zsV(a b:Int):decide ((Sum.inl a:Key)=Sum.inl b)=(a == b):=by
 by_cases e:a=b
 ·subst e;simp
 ·have h:¬ (Sum.inl a:Key)=Sum.inl b:=fun q=>e (Sum.inl.inj q)
  rw [yaS h];exact (ya1.mpr e).symm
def zsS(a b:Str):decide ((Sum.inr a:Key)=Sum.inr b)=decide (a=b):=by
 by_cases e:a=b
 ·subst e;simp
 ·have h:¬ (Sum.inr a:Key)=Sum.inr b:=fun q=>e (Sum.inr.inj q)
  rw [yaS h,yaS e]
def zsU(a:Int)(b:Str):decide ((Sum.inl a:Key)=Sum.inr b)=false:=yaS (fun q=>nomatch q)
def zsT(a:Str)(b:Int):decide ((Sum.inr a:Key)=Sum.inl b)=false:=yaS (fun q=>nomatch q)
def zb9(prog:Program)(w:World):PySem.KeyKind prog w Key where
 is:=zjD
 hash:=zy9 w
 inj:=fun v a b ha hb=>by
  rcases zaV ha with ⟨i,t,rfl,rfl⟩ | ⟨x,t,rfl,rfl⟩
  ·rcases zaV hb with ⟨j,u,rfl,e⟩ | ⟨y,u,rfl,e⟩
   ·injection e with e1 _;rw [e1]
   ·exact nomatch e
  ·rcases zaV hb with ⟨j,u,rfl,e⟩ | ⟨y,u,rfl,e⟩
   ·exact nomatch e
   ·injection e with e1 _;rw [e1]
 byValue:=fun k v h=>by
  rcases zaV h with ⟨i,t,rfl,rfl⟩ | ⟨x,t,rfl,rfl⟩<;>rfl
 pyHash:=fun hv h=>by
  rcases zaV hv with ⟨i,t,rfl,rfl⟩ | ⟨x,t,rfl,rfl⟩
  ·exact wpAny_pyHash_int h
  ·exact wpAny_pyHash_str h
 eqBool:=fun hu hv h=>by
  rcases zaV hu with ⟨i,t,rfl,rfl⟩ | ⟨x,t,rfl,rfl⟩
  ·rcases zaV hv with ⟨j,u,rfl,rfl⟩ | ⟨y,u,rfl,rfl⟩
   ·rw [zsV] at h;exact wpAny_eqBool_int h
   ·rw [zsU] at h;exact SeqAt.EqAt.int_str i t y u _ _ _ _ h
  ·rcases zaV hv with ⟨j,u,rfl,rfl⟩ | ⟨y,u,rfl,rfl⟩
   ·rw [zsT] at h;exact SeqAt.EqAt.str_int x t j u _ _ _ _ h
   ·rw [zsS] at h;exact wpAny_eqBool_str h
 «strs»:=fun k x t v h=>by
  rcases zaV h with ⟨i,u,rfl,e⟩ | ⟨y,u,rfl,e⟩
  ·exact nomatch e
  ·injection e with e1 _
   subst e1
   cases v<;>rfl
def zhT(prog:Program)(w:World)(i:Int)(t:Tok):(zb9 prog w).is (.inl i) (.int i t)=true:=zli i t
def zhS(prog:Program)(w:World)(x:Str)(t:Tok):(zb9 prog w).is (.inr x) (.str x t)=true:=zlh x t
end L2
namespace L2
open PySem PySem.Spec PyProof.Rows
inductive V where
 | non | bl (b:Bool) | int (i:Int) | str (x:Str) | byt (b:Array UInt8) | flt (b:UInt64) | ref (a:Addr) | ty (n:String)
 deriving DecidableEq
def za2:V->Value->Prop
 | .non,u=>u=Value.none
 | .bl b,u=>u=Value.bool b
 | .int i,u=>∃t,u=Value.int i t
 | .str x,u=>∃t,u=Value.str x t
 | .byt b,u=>∃t,u=Value.bytes b t
 | .flt b,u=>∃t,u=Value.float b t
 | .ref a,u=>u=Value.ref a
 | .ty n,u=>u=Value.type n
abbrev Vals:List V->List Value->Prop:=Paired za2
theorem Vals.length{xs:List V}{us:List Value}(r:Vals xs us):xs.length=us.length:=Paired.length r
theorem Vals.get:∀{xs:List V} {us:List Value} {i:Nat} {x:V},Vals xs us->xs[i]?=some x->∃u,us[i]?=some u/\za2 x u
 | _,_,_,_,.nil,e=>by simp at e
 | _,_,0,_,.cons r _,e=>by simp at e;subst e;exact ⟨_,rfl,r⟩
 | _,_,i+1,x,.cons _ t,e=>by
  obtain ⟨u,h1,h2⟩:=Vals.get (i:=i) (x:=x) t (by simpa using e);exact ⟨u,by simpa using h1,h2⟩
theorem Vals.set{x:V}{u:Value}(r:za2 x u):∀{xs:List V} {us:List Value} (i:Nat),Vals xs us->Vals (xs.set i x) (us.set i u)
 | _,_,_,.nil=>.nil
 | _,_,0,.cons _ t=>.cons r t
 | _,_,i+1,.cons q t=>.cons q (Vals.set r i t)
theorem Vals.append:∀{xs ys:List V} {us ws:List Value},Vals xs us->Vals ys ws->Vals (xs++ys) (us++ws)
 | _,_,_,_,.nil,s=>s
 | _,_,_,_,.cons r t,s=>.cons r (Vals.append t s)
theorem Vals.take:∀{xs:List V} {us:List Value} (n:Nat),Vals xs us->Vals (xs.take n) (us.take n)
 | _,_,0,_=>.nil
 | _,_,_+1,.nil=>.nil
 | _,_,n+1,.cons r t=>.cons r (Vals.take n t)
theorem Vals.drop:∀{xs:List V} {us:List Value} (n:Nat),Vals xs us->Vals (xs.drop n) (us.drop n)
 | _,_,0,r=>r
 | _,_,_+1,.nil=>.nil
 | _,_,n+1,.cons _ t=>Vals.drop n t
def zie:Option V->Option Value->Prop
 | some v,some u=>za2 v u
 | none,none=>True
 | _,_=>False
def KV{κ:Type}:List (κ×V)->List (κ×Value)->Prop:=Paired fun (p:κ×V) (q:κ×Value)=>p.1=q.1/\za2 p.2 q.2
def kV:Key->V
 | .inl i=>.int i
 | .inr x=>.str x
inductive HO where
 | lst (xs:List V)
 | tup (xs:List V)
 | dK (kvs:List (Key×V)) | dT (kvs:List (List Key×V))
 | set (S:Int->Bool) (n:Nat)
 | ins (C dx:Addr) (fs:List (Str×V))
 | own (x:Addr)
 | xd (fs:List (Str×V))
 | met (f x:Addr)
 | rng (lo hi:Int)
 | frz (o:Obj) (u:HO)
 | tbl (ps:Array Value)
 | ext (φ:Heap->Prop)
abbrev Hp:=Addr->Option HO
def upd(H:Hp)(a:Addr)(o:HO):Hp:=fun b=>if b=a then some o else H b
def zaR{H:Hp}{a:Addr}{o:HO}:upd H a o a=some o:=by unfold upd;rw [if_pos rfl]
def zal{H:Hp}{a b:Addr}{o:HO}(h:b≠a):upd H a o b=H b:=by unfold upd;rw [if_neg h]
def zvC{H:Hp}{a b:Addr}{o u:HO}(h:H a=some o)(h':H b=some u)(d:o≠u):a≠b:=by
 intro e;subst e;rw [h] at h';exact d (Option.some.inj h')
def zax{H:Hp}{a b:Addr}{o:HO}(h:H a=some o)(h':H b=none):a≠b:=by
 intro e;subst e;rw [h] at h';cases h'
section
variable(P:Program)(w:World)
def zbu(H:Hp)(h:Heap)(a:Addr):HO->Prop
 | .lst xs=>xs.length<=sizeLine/\∃(its:List Value) (n:Nat),Vals xs its/\h.get? a=some { cls:=.type "list",data:=.seq its.toArray n }
 | .tup xs=>xs.length<=sizeLine/\∃its:List Value,Vals xs its/\IsTup h a its.toArray
 | .dK kvs=>kvs.length<=sizeLine/\(a == sysModules)=false/\∃vs,KV kvs vs/\h.DictOf (zb9 P w) a vs
 | .dT kvs=>kvs.length<=sizeLine/\(a == sysModules)=false/\∃xs:List (List Key×Addr×Value),
   Paired (fun (p:List Key×V) (q:List Key×Addr×Value)=>p.1=q.1/\H q.2.1=some (.tup (p.1.map kV))/\za2 p.2 q.2.2) kvs xs ∧
   ∃o es ep,h.get? a=some o/\o.ExactDict/\o.data=.dict es ep/\es.toList=xs.map (entryOfKey (tupleKind (zb9 P w)))/\(xs.map (·.1)).Nodup
 | .set S n=>h.SetOf (intKind P w) a S n
 | .ins C dx fs=>H dx=some (.own a)/\fs.length<=1000/\dx≠a/\h.get? a=some (PySem.W.instObj C dx) ∧
   ∃mA,h.Ns1 dx mA/\(∀f,zie (fs.lookup f) (mA f))/\PySem.Within mA (fs.map (·.1))
 | .own _=>∃o,h.get? a=some o
 | .xd fs=>∃mA,h.Ns1 a mA/\∀f,zie (fs.lookup f) (mA f)
 | .rng lo hi=>∃t u v,h.get? a=some { cls:=.type "range",data:=.fields #[.int lo t,.int hi u,.int 1 v] }
 | .frz o u=>h.get? a=some o/\zbu H h a u
 | .tbl ps=>h.get? a=some { cls:=.none,data:=.fields ps }
 | .met f x=>h.get? a=some (PySem.W.methodObj (.ref f) (.ref x))
 | .ext φ=>φ h/\(∃o,h.get? a=some o)/\∀h1 h2:Heap,φ h1->(∀o,h1.get? a=some o->h2.get? a=some o)->φ h2
def HOk(H:Hp)(h:Heap):Prop:=∀a o,H a=some o->zbu P w H h a o
end
section
variable{P:Program}{w:World}{H H':Hp}{h h':Heap}{a:Addr}{o:HO}
theorem zbu.lt(x:zbu P w H h a o):a<h.objs.size:=by
 cases o with
 | lst xs=>obtain ⟨_,_,_,_,e⟩:=x;exact yas e
 | tup xs=>obtain ⟨_,_,_,p⟩:=x;exact p.lt
 | dK kvs=>obtain ⟨_,_,_,_,o,_,_,e,_⟩:=x;exact yas e
 | dT kvs=>obtain ⟨_,_,_,_,o,_,_,e,_⟩:=x;exact yas e
 | set S n=>obtain ⟨o,_,_,_,e,_⟩:=x;exact yas e
 | ins C dx fs=>obtain ⟨_,_,_,e,_⟩:=x;exact yas e
 | own y=>obtain ⟨_,e⟩:=x;exact yas e
 | xd fs=>obtain ⟨_,⟨_,_,_,e,_⟩,_⟩:=x;exact yas e
 | rng lo hi=>obtain ⟨_,_,_,e⟩:=x;exact yas e
 | frz ob u=>obtain ⟨e,_⟩:=x;exact yas e
 | tbl ps=>exact yas (show h.get? a=some _ from x)
 | met f y=>exact yas (show h.get? a=some _ from x)
 | ext φ=>obtain ⟨_,⟨_,e⟩,_⟩:=x;exact yas e
theorem Paired.mapP{α β:Type}{F G:α->β->Prop}:∀{l₁:List α} {l₂:List β},Paired F l₁ l₂->(∀a b,F a b->G a b)->Paired G l₁ l₂
 | _,_,.nil,_=>.nil
 | _,_,.cons r t,f=>.cons (f _ _ r) (Paired.mapP t f)
def zbu.stay(x:zbu P w H h a o)(k:∀b u,(b=a\/H b=some (.own a))->h.get? b=some u->h'.get? b=some u)
  (ho:∀b,H b=some (.own a)->H' b=some (.own a)) (ht:∀b xs,H b=some (.tup xs)->H' b=some (.tup xs)):zbu P w H' h' a o:=by
 induction o with
 | lst xs=>obtain ⟨z,its,n,r,e⟩:=x;exact ⟨z,its,n,r,k _ _ (.inl rfl) e⟩
 | tup xs=>obtain ⟨z,its,r,ob,e,c⟩:=x;exact ⟨z,its,r,ob,k _ _ (.inl rfl) e,c⟩
 | dK kvs=>obtain ⟨z,y,vs,r,ob,es,ep,e,c⟩:=x;exact ⟨z,y,vs,r,ob,es,ep,k _ _ (.inl rfl) e,c⟩
 | dT kvs =>
  obtain ⟨z,y,xs,r,ob,es,ep,e,c⟩:=x;exact ⟨z,y,xs,Paired.mapP r fun p q z=>⟨z.1,ht _ _ z.2.1,z.2.2⟩,ob,es,ep,k _ _ (.inl rfl) e,c⟩
 | set S n=>obtain ⟨ob,es,ep,t,e,c⟩:=x;exact ⟨ob,es,ep,t,k _ _ (.inl rfl) e,c⟩
 | ins C dx fs =>
  obtain ⟨d,z,ne,e,mA,⟨od,es,ep,e2,c⟩,r⟩:=x;exact ⟨ho _ d,z,ne,k _ _ (.inl rfl) e,mA,⟨od,es,ep,k _ _ (.inr d) e2,c⟩,r⟩
 | own y=>obtain ⟨ob,e⟩:=x;exact ⟨ob,k _ _ (.inl rfl) e⟩
 | xd fs=>obtain ⟨mA,⟨od,es,ep,e,c⟩,r⟩:=x;exact ⟨mA,⟨od,es,ep,k _ _ (.inl rfl) e,c⟩,r⟩
 | rng lo hi=>obtain ⟨t,u,v,e⟩:=x;exact ⟨t,u,v,k _ _ (.inl rfl) e⟩
 | frz ob u ih=>obtain ⟨e,q⟩:=x;exact ⟨k _ _ (.inl rfl) e,ih q⟩
 | tbl ps =>
  have e:h.get? a=some { cls:=.none,data:=.fields ps }:=x;show h'.get? a=some { cls:=.none,data:=.fields ps };exact k a _ (.inl rfl) e
 | met f y =>
  have e:h.get? a=some (PySem.W.methodObj (.ref f) (.ref y)):=x;show h'.get? a=some (PySem.W.methodObj (.ref f) (.ref y));exact k a _ (.inl rfl) e
 | ext φ=>obtain ⟨p,⟨o,e⟩,st⟩:=x;exact ⟨st _ _ p fun o q=>k _ _ (.inl rfl) q,⟨o,k _ _ (.inl rfl) e⟩,st⟩
theorem HOk.lt(x:HOk P w H h)(e:H a=some o):a<h.objs.size:=(x a o e).lt
def HOk.fresh(x:HOk P w H h)(e:h.objs.size<=a):H a=none:=by
 cases q:H a with
 | none=>rfl
 | some u=>exact absurd (yan (x.lt q) e) (yaR _)
def HOk.kept(x:HOk P w H h)(k:∀b u,h.get? b=some u->h'.get? b=some u):HOk P w H h':=fun a o e =>
 (x a o e).stay (fun b u _ q=>k b u q) (fun _ q=>q) fun _ _ q=>q
def HOk.laid(x:HOk P w H h)(k:∀b u,h.get? b=some u->h'.get? b=some u)(hp:h.objs.size<=a)(new:zbu P w (upd H a o) h' a o):HOk P w (upd H a o) h':=fun b u e=>by
 have hn:=x.fresh hp
 by_cases hb:b=a
 ·subst hb;rw [zaR] at e;cases e;exact new
 ·rw [zal hb] at e
  exact (x b u e).stay (fun c v _ q=>k c v q) (fun c q=>by rw [zal (zax q hn)];exact q) fun c xs q=>by rw [zal (zax q hn)];exact q
end
def Rd(H:Hp)(a:Addr)(u:HO):Prop:=H a=some u\/∃o,H a=some (.frz o u)
def Rd.ok{P:Program}{w:World}{H:Hp}{h:Heap}{a:Addr}{u:HO}(r:Rd H a u)(x:HOk P w H h):zbu P w H h a u:=by
 rcases r with r | ⟨o,r⟩
 ·exact x a u r
 ·obtain ⟨_,q⟩:=x a _ r;exact q
def Mut:Option HO->Prop
 | some (.lst _)=>True
 | some (.dK _)=>True
 | some (.dT _)=>True
 | some (.set _ _)=>True
 | some (.ins _ _ _)=>True
 | some (.ext _)=>True
 | _=>False
section
variable{P:Program}{w:World}{H:Hp}{h h':Heap}{x e:Addr}{o':HO}
def HOk.write(ok:HOk P w H h)(mu:Mut (H x))(he:e=x\/H e=some (.own x))(k:∀b u,b≠e->h.get? b=some u->h'.get? b=some u)(heo:∃u,h'.get? e=some u)
  (new:zbu P w (upd H x o') h' x o'):HOk P w (upd H x o') h':=fun b u q=>by
 have nown:∀c y,H c=some (.own y)->c≠x:=fun c y r z=>by subst z;rwa [r] at mu
 have ntup:∀c xs,H c=some (.tup xs)->c≠x:=fun c xs r z=>by subst z;rwa [r] at mu
 by_cases hb:b=x
 ·subst hb;rw [zaR] at q;cases q;exact new
 ·rw [zal hb] at q
  by_cases hbe:b=e
  ·have q':H b=some (.own x):=by
    rcases he with z | z
    ·exact absurd (hbe.trans z) hb
    ·rw [hbe];exact z
   rw [q] at q';cases q';obtain ⟨v,hv⟩:=heo;exact ⟨v,by rw [hbe];exact hv⟩
  ·refine (ok b u q).stay (fun c v hc r=>k c v ?_ r) (fun c r=>by rw [zal (nown c b r)];exact r) fun c xs r=>by rw [zal (ntup c xs r)];exact r
   rcases hc with rfl | hc
   ·exact hbe
   ·rintro rfl
    rcases he with z | z
    ·exact nown c b hc z
    ·rw [hc] at z;cases z;exact hb rfl
end
structure Un(fs ex:List Addr)(H H':Hp)(h h':Heap):Prop where
 keep:∀b o,h.get? b=some o->H b=none->b ∉ fs->b ∉ ex->h'.get? b=some o
 slot:∀b o,h.get? b=some o->H b=none->b∈fs->b ∉ ex->∃sl,h'.get? b=some { o with slots:=sl }
 free:∀b o,h.get? b=some o->H b=none->b ∉ ex->H' b=none
 there:∀b o,h.get? b=some o->b ∉ ex->∃o',h'.get? b=some o'
 tups:∀b xs,H b=some (.tup xs)->H' b=some (.tup xs)
 frzs:∀b o u,H b=some (.frz o u)->H' b=some (.frz o u)
 tbls:∀b ps,H b=some (.tbl ps)->∃more,H' b=some (.tbl (ps++more))
section
variable{fs fs' ex ex':List Addr}{H H1 H2:Hp}{h h1 h2 h':Heap}{a x e:Addr}{o:HO}
def Un.any(u:Un fs ex H H1 h h1){b:Addr}{ob:Obj}(q:h.get? b=some ob)(n:H b=none)(hx:b ∉ ex):∃sl,h1.get? b=some { ob with slots:=sl }:=by
 by_cases hb:b∈fs
 ·exact u.slot b ob q n hb hx
 ·exact ⟨ob.slots,u.keep b ob q n hb hx⟩
def Un.kept(k:∀b u,h.get? b=some u->h'.get? b=some u):Un fs ex H H h h' :=
 ⟨fun b ob q _ _ _=>k b ob q,fun b ob q _ _ _=>⟨ob.slots,k b ob q⟩,fun _ _ _ n _=>n,fun b ob q _=>⟨ob,k b ob q⟩,fun _ _ q=>q,fun _ _ _ q=>q,fun _ ps q=>⟨#[],by rw [q];simp⟩⟩
def Un.refl:Un fs ex H H h h:=Un.kept fun _ _ q=>q
def Un.laid(k:∀b u,h.get? b=some u->h'.get? b=some u)(hp:h.objs.size<=a)(hn:H a=none):Un fs ex H (upd H a o) h h' where
 keep:=fun b u q _ _ _=>k b u q
 slot:=fun b u q _ _ _=>⟨u.slots,k b u q⟩
 free:=fun b u q n _=>by rw [zal (yaB (yan (yas q) hp))];exact n
 there:=fun b u q _=>⟨u,k b u q⟩
 tups:=fun b xs q=>by rw [zal (zax q hn)];exact q
 frzs:=fun b u xs q=>by rw [zal (zax q hn)];exact q
 tbls:=fun b ps q=>⟨#[],by rw [zal (zax q hn),q];simp⟩
def Un.write(mu:Mut (H x))(he:e=x\/H e=some (.own x))(k:∀b u,b≠e->h.get? b=some u->h'.get? b=some u)(heo:∃u,h'.get? e=some u):Un fs ex H (upd H x o) h h':=by
 have hx:∀b,H b=none->b≠x:=fun b n z=>by subst z;rwa [n] at mu
 have hb:∀b,H b=none->b≠e:=fun b n z=>by
  subst z
  rcases he with r | r
  ·exact hx b n r
  ·rw [n] at r;cases r
 have hm:∀b u,H b=some u->¬ Mut (some u)->b≠x:=fun b u q nm z=>by subst z;rw [q] at mu;exact nm mu
 refine ⟨fun b u q n _ _=>k b u (hb b n) q,fun b u q n _ _=>⟨u.slots,k b u (hb b n) q⟩,fun b u q n _=>by rw [zal (hx b n)];exact n,fun b u q _=>?_,
  fun b xs q=>by rw [zal (hm b _ q fun z=>z)];exact q,fun b u xs q=>by rw [zal (hm b _ q fun z=>z)];exact q,fun b ps q=>⟨#[],by rw [zal (hm b _ q fun z=>z),q];simp⟩⟩
 by_cases hbe:b=e
 ·subst hbe;exact heo
 ·exact ⟨u,k b u hbe q⟩
end
def trk(h:Heap)(H:Hp):List Addr:=(List.range h.objs.size).filter fun a=>(H a).isSome
def znp(h:Heap)(H:Hp):Heap:=PySem.W.hideAll h (trk h H)
def zlz(h:Heap)(H:Hp):(znp h H).objs.size=h.objs.size:=PySem.W.hideAll_size _ _
def zno{h:Heap}{H:Hp}{b:Addr}{o:Obj}(e:h.get? b=some o)(n:H b=none):(znp h H).get? b=some o :=
 PySem.W.hideAll_get _ e fun hm=>by
  have q:(H b).isSome=true:=(ya2.mp hm).2;rw [n] at q;simp at q
def zpO{h:Heap}{H:Hp}{b:Addr}{o:Obj}(e:(znp h H).get? b=some o):h.get? b=some o/\H b=none:=by
 have e':h.get? b=some o:=PySem.W.of_hideAll (trk h H) e;refine ⟨e',?_⟩
 cases q:H b with
 | none=>rfl
 | some x =>
  have hm:b∈trk h H:=ya2.mpr ⟨yaC.mpr (yas e'),by simp [q]⟩;have z:(znp h H).get? b=none:=PySem.W.hideAll_none (trk h H) hm;rw [z] at e;cases e
def zqP(g h:Heap)(L:Addr):List (Addr×Obj):=(List.range h.objs.size).filterMap fun a=>if a=L\/(g.get? a).isSome=true then none else (h.get? a).map fun o=>(a,o)
def zci(g h:Heap)(L d:Addr):List (Addr×Obj):=(zqP g h L).filter fun p=>decide (p.1≠d)
end L2
namespace L2
open PySem PySem.Spec PyProof.Rows
structure Mod(K:PySem.W.Frag)(mg:Z6)(base:Heap):Prop where
 kin:K.In base
 glob:base.Ns mainGlobals mg
 blt:∃mb,base.Ns builtinsNs mb/\∀x:Str,x ≠ "__name__" -> mb x=bootBuiltins x
 nolimit:base.NoLimit
structure Cx where
 prog:Program
 w:World
 K:PySem.W.Frag
 mg:Str->Option Value
 base:Heap
 A:Around
 N:List Str
 s₀:Shared
 H₀:Hp
 env:Env
 outer:List Env
 stack:List Env
 ex:List Addr
 fn:Str->Bool
 calm:Bool
 pn:List (Addr×Obj)
 xe:Value->Shared->Prop
def frs(l:List Env):List Addr:=l.filterMap (·.frame)
abbrev Cx.fs(X:Cx):List Addr:=frs X.outer
def Vis(sc:Scope)(x:Str):Prop:=sc.names.lookup x=some .local\/sc.names.lookup x=some .cell\/sc.names.lookup x=some .free
def Loc(sc:Scope)(x:Str):Prop:=sc.names.lookup x=some .local\/sc.names.lookup x=some .cell
def zzT(env:Env)(h:Heap)(m:Z6)(x:Str)(u:Value):Prop :=
 (env.kindOf x=some .local/\m x=some u)\/((env.kindOf x=some .cell\/env.kindOf x=some .free)/\∃c,env.cells.lookup x=some c/\h.IsCell c (some u))
structure Cx.Ok(X:Cx):Prop where
 mod:Mod X.K X.mg X.base
 kind:X.env.scope.kind=.function
 glob:X.env.globals=mainGlobals
 blt:X.env.builtins=builtinsNs
 above:X.s₀.heap.objs.size<=X.env.locals
 inj:∀x y c,X.env.cells.lookup x=some c->X.env.cells.lookup y=some c->x=y
 has:∀x,(X.env.kindOf x=some .cell\/X.env.kindOf x=some .free)->∃c,X.env.cells.lookup x=some c
 cab:∀x c,X.fn x=true->X.env.cells.lookup x=some c->X.s₀.heap.objs.size<=c
 hd:X.calm=true->X.A.handled=none
 frames:X.A.frames=some X.stack
 stk:X.stack=X.outer\/(X.stack=X.env::X.outer/\X.env.frame=some X.env.locals)
 exf:∀b∈X.ex,b≠X.env.locals/\∀x c,X.env.cells.lookup x=some c->c≠b
 bs:∀b o,X.base.get? b=some o->X.s₀.heap.get? b=some o/\X.H₀ b=none
 bsz:X.base.objs.size<=X.s₀.heap.objs.size
 noex:∀b o,X.base.get? b=some o->b ∉ X.ex
 exfs:∀b∈X.ex,b ∉ X.fs
 funs:X.s₀.heap.FunFrames X.base X.outer
 frf:∀b∈X.fs,X.H₀ b=none
structure Inv(X:Cx)(pins:Z3)(σ:List (Option V))(H:Hp)(s:Shared):Prop where
 ok:X.Ok
 os:s.os=X.s₀.os
 bare:AllBare s.gens
 base:Un X.fs X.ex X.H₀ H X.s₀.heap s.heap
 loc:∃m,s.heap.Ns X.env.locals m/\∀(i:Nat) (x:Str) (v:V),X.N[i]?=some x->σ[i]?=some (some v)->Vis X.env.scope x->∃u,za2 v u/\zzT X.env s.heap m x u
 cell:∀x c,X.env.cells.lookup x=some c->∃v,s.heap.IsCell c v
 free:H X.env.locals=none
 freeC:∀x c,X.env.cells.lookup x=some c->H c=none
 pin:∀p∈X.pn++pins,s.heap.get? p.1=some p.2/\H p.1=none/\p.1≠X.env.locals/\p.1 ∉ X.fs/\∀v,p.2.data≠.cell v
 hok:HOk X.prog X.w H s.heap
 len:σ.length=X.N.length
section
variable{X:Cx}{pins:Z3}{σ:List (Option V)}{H H':Hp}{s:Shared}{h':Heap}
def Cx.Ok.nofr(ok:X.Ok){b:Addr}{o:Obj}(e:X.base.get? b=some o):b ∉ X.fs:=fun hb=>by
 have:=(ok.funs.mem hb).1;rw [e] at this;cases this
theorem Inv.bs(I:Inv X pins σ H s):∀b o,X.base.get? b=some o->s.heap.get? b=some o/\H b=none:=fun b o e =>
 ⟨I.base.keep b o (I.ok.bs b o e).1 (I.ok.bs b o e).2 (I.ok.nofr e) (I.ok.noex b o e),I.base.free b o (I.ok.bs b o e).1 (I.ok.bs b o e).2 (I.ok.noex b o e)⟩
def Inv.bk(I:Inv X pins σ H s):∀b o,X.base.get? b=some o->s.heap.get? b=some o:=fun b o e=>(I.bs b o e).1
theorem Inv.mod(I:Inv X pins σ H s):Mod X.K X.mg X.base:=I.ok.mod
def Inv.kIn(I:Inv X pins σ H s):X.K.In s.heap:=I.ok.mod.kin.keeps I.bk
theorem Inv.lt(I:Inv X pins σ H s):X.env.locals<s.heap.objs.size:=let ⟨_,hn,_⟩:=I.loc;hn.lt
def Inv.sz(I:Inv X pins σ H s):X.s₀.heap.objs.size<=s.heap.objs.size:=yaj I.ok.above (Nat.le_of_lt I.lt)
def Inv.nofs(I:Inv X pins σ H s){a:Addr}(h:s.heap.objs.size<=a):a ∉ X.fs:=fun hb=>by
 obtain ⟨_,o,ho,_⟩:=I.ok.funs.mem hb;exact absurd (yan (yas ho) (yaj I.sz h)) (yaR _)
def Inv.cne(I:Inv X pins σ H s):∀x c,X.env.cells.lookup x=some c->c≠X.env.locals:=fun x c e z=>by
 obtain ⟨v,o,ho,hd⟩:=I.cell x c e;obtain ⟨m,⟨o',es,ep,ho',hd',_⟩,_⟩:=I.loc;rw [z,ho'] at ho;cases ho;rw [hd'] at hd;cases hd
theorem Inv.funs(I:Inv X pins σ H s):s.heap.FunFrames X.base X.outer:=by
 have all:∀(l:List Env),(∀b∈frs l,b∈X.fs)->X.s₀.heap.FunFrames X.base l->s.heap.FunFrames X.base l:=by
  intro l
  induction l with
  | nil=>intro _ _;trivial
  | cons env r ih =>
   intro hs hl;obtain ⟨hk,⟨L,o,hf,hn,ho,hd⟩,hr⟩:=hl;have hL:L∈X.fs:=hs L (by unfold frs;rw [ycD,hf];exact yax);obtain ⟨sl,e⟩:=I.base.slot L o ho (I.ok.frf L hL) hL fun z=>I.ok.exfs L z hL
   exact ⟨hk,⟨L,_,hf,hn,e,hd⟩,ih (fun b hb=>hs b (by unfold frs;rw [ycD,hf];exact yap _ hb)) hr⟩
 exact all X.outer (fun _ hb=>hb) I.ok.funs
theorem Inv.stack(I:Inv X pins σ H s):s.heap.FunFrames X.base X.stack:=by
 rcases I.ok.stk with e | ⟨e,hf⟩
 ·rw [e];exact I.funs
 ·rw [e];obtain ⟨m,hn,_⟩:=I.loc;refine .cons (by rw [I.ok.kind];decide) hf hn ?_ I.funs;exact Heap.get?_none_of_le (yaj I.ok.bsz I.ok.above)
def Inv.stkSub(I:Inv X pins σ H s):∀b∈frs X.stack,b∈X.env.locals::X.fs:=fun b hb=>by
 rcases I.ok.stk with e | ⟨e,hf⟩
 ·rw [e] at hb;exact yap _ hb
 ·rw [e] at hb;unfold frs at hb;rwa [ycD,hf] at hb
def Inv.stkFree(I:Inv X pins σ H s):∀b∈frs X.stack,H b=none:=fun b hb=>by
 rcases yav.mp (I.stkSub b hb) with e | hb
 ·rw [e];exact I.free
 ·obtain ⟨_,o,ho,_⟩:=I.ok.funs.mem hb;exact I.base.free b o ho (I.ok.frf b hb) fun z=>I.ok.exfs b z hb
def Inv.step{g':Array GenState}{t':Nat}{d':Drawn}{ch:List Addr}(I:Inv X pins σ H s)
  (hch:∀b∈ch,(b∈X.ex\/X.s₀.heap.objs.size<=b)/\b≠X.env.locals/\(∀x c,X.env.cells.lookup x=some c->c≠b)/\∀p∈X.pn++pins,p.1≠b)
  (keep:∀b o,b≠X.env.locals->b ∉ X.fs->b ∉ ch->s.heap.get? b=some o->H b=none->h'.get? b=some o)
  (slot:∀b o,b≠X.env.locals->b∈X.fs->b ∉ ch->s.heap.get? b=some o->H b=none->∃sl,h'.get? b=some { o with slots:=sl }) (free:∀b o,b ∉ ch->s.heap.get? b=some o->H b=none->H' b=none)
  (there:∀b o,b ∉ ch->s.heap.get? b=some o->∃o',h'.get? b=some o')
  (tups:∀b xs,H b=some (.tup xs)->H' b=some (.tup xs)) (frzs:∀b o u,H b=some (.frz o u)->H' b=some (.frz o u)) (tbls:∀b ps,H b=some (.tbl ps)->∃more,H' b=some (.tbl (ps++more)))
  (ns:∀m,s.heap.Ns X.env.locals m->h'.Ns X.env.locals m) (hok:HOk X.prog X.w H' h') (hg:AllBare g') :
  Inv X pins σ H' { s with heap:=h',gens:=g',drawn:=d',toks:=t' }:=by
 have neL:∀b o,X.s₀.heap.get? b=some o->b≠X.env.locals:=fun b o e=>yaB (yan (yas e) I.ok.above)
 have neC:∀b o,X.s₀.heap.get? b=some o->b ∉ X.ex->b ∉ ch:=fun b o e hx hb=>by
  rcases (hch b hb).1 with z | z
  ·exact hx z
  ·exact absurd (yan (yas e) z) (yaR _)
 have cellK:∀x c,X.env.cells.lookup x=some c->∀v,s.heap.IsCell c v->h'.IsCell c v:=fun x c e v ⟨o,ho,hd⟩=>by
  have nch:c ∉ ch:=fun z=>(hch c z).2.2.1 x c e rfl
  by_cases hc:c∈X.fs
  ·obtain ⟨sl,q⟩:=slot c o (I.cne x c e) hc nch ho (I.freeC x c e);exact ⟨_,q,hd⟩
  ·exact ⟨o,keep c o (I.cne x c e) hc nch ho (I.freeC x c e),hd⟩
 refine ⟨I.ok,I.os,hg,⟨fun b o e n hb hx=>?_,fun b o e n hb hx=>?_,fun b o e n hx=>?_,fun b o e hx=>?_,fun b xs e=>tups b xs (I.base.tups b xs e),fun b o xs e=>frzs b o xs (I.base.frzs b o xs e),fun b ps e=>?_⟩,?_,fun x c e=>?_,?_,fun x c e=>?_,fun p hp=>?_,hok,I.len⟩
 ·exact keep b o (neL b o e) hb (neC b o e hx) (I.base.keep b o e n hb hx) (I.base.free b o e n hx)
 ·obtain ⟨sl,e1⟩:=I.base.slot b o e n hb hx;obtain ⟨sl',e2⟩:=slot b _ (neL b o e) hb (neC b o e hx) e1 (I.base.free b o e n hx);exact ⟨sl',e2⟩
 ·obtain ⟨o',e1⟩:=I.base.there b o e hx;exact free b o' (neC b o e hx) e1 (I.base.free b o e n hx)
 ·obtain ⟨o',e1⟩:=I.base.there b o e hx;exact there b o' (neC b o e hx) e1
 ·obtain ⟨m1,e1⟩:=I.base.tbls b ps e;obtain ⟨m2,e2⟩:=tbls b _ e1;exact ⟨m1++m2,by rw [e2,Array.append_assoc]⟩
 ·obtain ⟨m,hn,hl⟩:=I.loc;refine ⟨m,ns m hn,fun i x v e1 e2 e3=>?_⟩;obtain ⟨u,r,l⟩:=hl i x v e1 e2 e3;refine ⟨u,r,?_⟩
  rcases l with l | ⟨k,c,e,z⟩
  ·exact .inl l
  ·exact .inr ⟨k,c,e,cellK x c e _ z⟩
 ·obtain ⟨v,z⟩:=I.cell x c e;exact ⟨v,cellK x c e v z⟩
 ·obtain ⟨m,⟨o,_,_,ho,_⟩,_⟩:=I.loc;exact free _ o (fun z=>(hch _ z).2.1 rfl) ho I.free
 ·obtain ⟨v,o,ho,hd⟩:=I.cell x c e;exact free c o (fun z=>(hch c z).2.2.1 x c e rfl) ho (I.freeC x c e)
 ·obtain ⟨e,n,ne,nf,d⟩:=I.pin p hp;have nch:p.1 ∉ ch:=fun z=>(hch p.1 z).2.2.2 p hp rfl
  exact ⟨keep p.1 p.2 ne nf nch e n,free p.1 p.2 nch e n,ne,nf,d⟩
def Inv.un{t':Nat}(I:Inv X pins σ H s)(u:Un X.fs [] H H' s.heap h')(hok:HOk X.prog X.w H' h'):Inv X pins σ H' { s with heap:=h',toks:=t' }:=by
 obtain ⟨m,⟨o,es,ep,ho,r⟩,_⟩:=id I.loc;obtain ⟨sl,hL⟩:=u.any ho I.free (by simp)
 exact I.step (g':=s.gens) (d':=s.drawn) (ch:=[]) (fun _ z=>nomatch z) (fun b o _ hb _ e n=>u.keep b o e n hb (by simp)) (fun b o _ hb _ e n=>u.slot b o e n hb (by simp)) (fun b o _ e n=>u.free b o e n (by simp)) (fun b o _ e=>u.there b o e (by simp)) u.tups u.frzs u.tbls (fun m' hm=>by
  obtain ⟨o',es',ep',ho',r'⟩:=hm;rw [ho] at ho';cases ho'
  exact ⟨_,es',ep',hL,r'⟩) hok I.bare
def Inv.call{g':Array GenState}{t':Nat}{d':Drawn}{ch:List Addr}(I:Inv X pins σ H s)(u:Un (frs X.stack) ch H H' s.heap h')(hok:HOk X.prog X.w H' h')(hg:AllBare g')
  (hch:∀b∈ch,(b∈X.ex\/X.s₀.heap.objs.size<=b)/\b≠X.env.locals/\(∀x c,X.env.cells.lookup x=some c->c≠b)/\∀p∈X.pn++pins,p.1≠b) :
  Inv X pins σ H' { s with heap:=h',gens:=g',drawn:=d',toks:=t' }:=by
 obtain ⟨m,⟨o,es,ep,ho,r⟩,_⟩:=id I.loc;obtain ⟨sl,hL⟩:=u.any ho I.free fun z=>(hch _ z).2.1 rfl
 exact I.step (ch:=ch) hch (fun b o hL hb hc e n=>u.keep b o e n (fun z=>(yav.mp (I.stkSub b z)).elim hL hb) hc) (fun b o _ _ hc e n=>u.any e n hc) (fun b o hc e n=>u.free b o e n hc) (fun b o hc e=>u.there b o e hc) u.tups u.frzs u.tbls (fun m' hm=>by
  obtain ⟨o',es',ep',ho',r'⟩:=hm;rw [ho] at ho';cases ho'
  exact ⟨_,es',ep',hL,r'⟩) hok hg
def Inv.turned{t':Nat}{it:Addr}(I:Inv X pins σ H s)(k:∀b o,b≠it->s.heap.get? b=some o->h'.get? b=some o)(hn:H it=none)(hL:it≠X.env.locals)
  (h1:it∈X.ex\/X.s₀.heap.objs.size<=it) (h2:∀x c,X.env.cells.lookup x=some c->c≠it) (h3:∀p∈X.pn++pins,p.1≠it):Inv X pins σ H { s with heap:=h',toks:=t' }:=by
 have nit:∀b u,H b=some u->b≠it:=fun b u e z=>by rw [z,hn] at e;cases e
 refine I.step (g':=s.gens) (d':=s.drawn) (ch:=[it]) (fun b hb=>?_) (fun b o _ _ hc e _=>k b o (fun z=>hc (by simp [z])) e) (fun b o _ _ hc e _=>⟨o.slots,k b o (fun z=>hc (by simp [z])) e⟩) (fun _ _ _ _ n=>n)
  (fun b o hc e=>⟨o,k b o (fun z=>hc (by simp [z])) e⟩) (fun _ _ e=>e) (fun _ _ _ e=>e) (fun b ps e=>⟨#[],by rw [e];simp⟩) (fun m hm=>?_) (fun b u e=>?_) I.bare
 ·have e:b=it:=by simpa using hb
  subst e;exact ⟨h1,hL,h2,h3⟩
 ·obtain ⟨o,es,ep,ho,r⟩:=hm;exact ⟨o,es,ep,k _ o (Ne.symm hL) ho,r⟩
 ·refine (I.hok b u e).stay (fun c v hc q=>k c v ?_ q) (fun _ q=>q) fun _ _ q=>q
  rcases hc with z | z
  ·rw [z];exact nit b u e
  ·exact nit c _ z
def Inv.tok(I:Inv X pins σ H s)(t:Nat):Inv X pins σ H { s with toks:=t }:=I.un (h':=s.heap) (t':=t) Un.refl I.hok
theorem Inv.kept{t':Nat}(I:Inv X pins σ H s)(k:∀b u,s.heap.get? b=some u->h'.get? b=some u):Inv X pins σ H { s with heap:=h',toks:=t' }:=I.un (Un.kept k) (I.hok.kept k)
theorem Inv.laid{a:Addr}{o:HO}{t':Nat}(I:Inv X pins σ H s)(k:∀b u,s.heap.get? b=some u->h'.get? b=some u)(hp:s.heap.objs.size<=a)(new:zbu X.prog X.w (upd H a o) h' a o) :
  Inv X pins σ (upd H a o) { s with heap:=h',toks:=t' }:=I.un (Un.laid k hp (I.hok.fresh hp)) (I.hok.laid k hp new)
theorem Inv.write{x e:Addr}{o:HO}{t':Nat}(I:Inv X pins σ H s)(mu:Mut (H x))(he:e=x\/H e=some (.own x))(k:∀b u,b≠e->s.heap.get? b=some u->h'.get? b=some u)(heo:∃u,h'.get? e=some u)
  (new:zbu X.prog X.w (upd H x o) h' x o):Inv X pins σ (upd H x o) { s with heap:=h',toks:=t' }:=I.un (Un.write mu he k heo) (I.hok.write mu he k heo new)
def Inv.pins_of{pins':Z3}(I:Inv X pins σ H s)(h:∀p∈pins',s.heap.get? p.1=some p.2/\H p.1=none/\p.1≠X.env.locals/\p.1 ∉ X.fs/\∀v,p.2.data≠.cell v):Inv X pins' σ H s :=
 ⟨I.ok,I.os,I.bare,I.base,I.loc,I.cell,I.free,I.freeC,fun p hp=>(ybM.mp hp).elim (fun z=>I.pin p (ycw _ z)) (h p),I.hok,I.len⟩
def zgl{N:List Str}(hN:N.Nodup){i j:Nat}{x:Str}(a:N[i]?=some x)(b:N[j]?=some x):i=j:=by
 obtain ⟨h1,e1⟩:=yag.mp a;obtain ⟨h2,e2⟩:=yag.mp b;exact (List.getElem_inj hN).mp (e1.trans e2.symm)
def zgN{M:Model}{A:Around}{E:Z5}{i:Nat}{x:Str}{v:V}{u:Value}{Q:Unit->Shared->Prop}(I:Inv X pins σ H s)(hN:X.N.Nodup)(hi:X.N[i]?=some x)(hx:Loc X.env.scope x)(r:za2 v u)
  (h:∀s',Inv X pins (σ.set i (some v)) H s'->(∃a,Heap.SameBut a s.heap s'.heap/\(a=X.env.locals\/X.env.cells.lookup x=some a))->Q () s') (hf:X.fn x=true\/X.env.scope.names.lookup x=some .local:=by first | exact .inl rfl | exact .inr rfl | assumption):wpAny M A (storeName X.env x u) Q E s:=by
 obtain ⟨m,hn,hl⟩:=id I.loc
 have hcls:(X.env.scope.kind == .class||(X.env.scope.kind == .module&&X.env.locals != X.env.globals))=false:=by rw [I.ok.kind];rfl
 have hiσ:i<σ.length:=by rw [I.len];exact (yag.mp hi).1
 have cne:=I.cne
 have tracked:∀{a:Addr} {h':Heap},(∃o,s.heap.get? a=some o/\H a=none)->Heap.SameBut a s.heap h'->HOk X.prog X.w H h':=fun {a h'} ha hs b ob e=>by
  obtain ⟨_,_,hfree⟩:=ha;refine (I.hok b ob e).stay (fun c w' hc q=>(hs.2 c ?_).trans q) (fun _ q=>q) fun _ _ q=>q
  rintro rfl
  rcases hc with rfl | hc
  ·rw [hfree] at e;cases e
  ·rw [hfree] at hc;cases hc
 rcases hx with hk | hk
 ·refine wpAny_storeName_local hk hn (fun h' hn' hs=>?_) hcls;obtain ⟨oL,_,_,hoL,_⟩:=id hn;refine h _ ⟨I.ok,I.os,I.bare,⟨fun b o e n hb hx=>?_,fun b o e n hb hx=>?_,I.base.free,fun b o e hx=>?_,I.base.tups,I.base.frzs,I.base.tbls⟩,⟨_,hn',fun j y v' e1 e2 e3=>?_⟩,fun y c e=>?_,I.free,I.freeC,fun p hp=>?_,tracked ⟨oL,hoL,I.free⟩ hs,by simpa using I.len⟩ ⟨_,hs,.inl rfl⟩
  ·exact (hs.2 b (yaB (yan (yas e) I.ok.above))).trans (I.base.keep b o e n hb hx)
  ·obtain ⟨sl,e1⟩:=I.base.slot b o e n hb hx;exact ⟨sl,(hs.2 b (yaB (yan (yas e) I.ok.above))).trans e1⟩
  ·obtain ⟨o',e1⟩:=I.base.there b o e hx;exact ⟨o',(hs.2 b (yaB (yan (yas e) I.ok.above))).trans e1⟩
  ·by_cases hj:j=i
   ·subst hj;rw [hi] at e1;cases e1;rw [yaA hiσ] at e2;cases e2;exact ⟨u,r,.inl ⟨hk,by simp⟩⟩
   ·rw [yaP (Ne.symm hj)] at e2;obtain ⟨u',r',q⟩:=hl j y v' e1 e2 e3;refine ⟨u',r',?_⟩
    rcases q with ⟨k,e⟩ | ⟨k,c,e,z⟩
    ·refine .inl ⟨k,?_⟩;have:y≠x:=fun e=>hj (zgl hN e1 (e ▸ hi))
     simp [this,e]
    ·exact .inr ⟨k,c,e,z.sameBut hs (cne y c e)⟩
  ·obtain ⟨w',z⟩:=I.cell y c e;exact ⟨w',z.sameBut hs (cne y c e)⟩
  ·obtain ⟨e,n,ne,nf,d⟩:=I.pin p hp;exact ⟨(hs.2 p.1 ne).trans e,n,ne,nf,d⟩
 ·have hfn:X.fn x=true:=by
   rcases hf with z | z
   ·exact z
   ·rw [z] at hk;cases hk
  obtain ⟨c,hc⟩:=I.ok.has x (.inl hk);obtain ⟨w',z⟩:=I.cell x c hc;refine wpAny_storeName_cell I.ok.kind hk hc z (fun h' hc' hs=>?_);obtain ⟨oc,hoc,hocd⟩:=id z;refine h { s with heap:=h' } ⟨I.ok,I.os,I.bare,⟨fun b o e n hb hx=>?_,fun b o e n hb hx=>?_,I.base.free,fun b o e hx=>?_,I.base.tups,I.base.frzs,I.base.tbls⟩,⟨m,hn.sameBut hs (Ne.symm (cne x c hc)),fun j y v' e1 e2 e3=>?_⟩,fun y c' e=>?_,I.free,I.freeC,fun p hp=>?_,tracked ⟨oc,hoc,I.freeC x c hc⟩ hs,by simpa using I.len⟩ ⟨c,hs,.inr hc⟩
  ·exact (hs.2 b (yaB (yan (yas e) (I.ok.cab x c hfn hc)))).trans (I.base.keep b o e n hb hx)
  ·obtain ⟨sl,e1⟩:=I.base.slot b o e n hb hx;exact ⟨sl,(hs.2 b (yaB (yan (yas e) (I.ok.cab x c hfn hc)))).trans e1⟩
  ·obtain ⟨o',e1⟩:=I.base.there b o e hx;exact ⟨o',(hs.2 b (yaB (yan (yas e) (I.ok.cab x c hfn hc)))).trans e1⟩
  ·by_cases hj:j=i
   ·subst hj;rw [hi] at e1;cases e1;rw [yaA hiσ] at e2;cases e2;exact ⟨u,r,.inr ⟨.inl hk,c,hc,hc'⟩⟩
   ·rw [yaP (Ne.symm hj)] at e2;obtain ⟨u',r',q⟩:=hl j y v' e1 e2 e3;refine ⟨u',r',?_⟩
    rcases q with q | ⟨k,c',e,z'⟩
    ·exact .inl q
    ·refine .inr ⟨k,c',e,z'.sameBut hs ?_⟩;rintro rfl;exact hj (zgl hN e1 (I.ok.inj _ _ _ e hc ▸ hi))
  ·by_cases hcc:c'=c
   ·subst hcc;exact ⟨_,hc'⟩
   ·obtain ⟨w2,z2⟩:=I.cell y c' e;exact ⟨w2,z2.sameBut hs hcc⟩
  ·obtain ⟨e,n,ne,nf,d⟩:=I.pin p hp;refine ⟨(hs.2 p.1 ?_).trans e,n,ne,nf,d⟩;intro q;rw [q,hoc] at e;have q':oc=p.2:=Option.some.inj e;exact d w' (by rw [<-q'];exact hocd)
def zdJ{M:Model}{A:Around}{E:Z5}{i:Nat}{x:Str}{v:V}{u:Value}{Q:Unit->Shared->Prop}(I:Inv X pins σ H s)(hN:X.N.Nodup)(hi:X.N[i]?=some x)(hx:Loc X.env.scope x)(r:za2 v u)
  (h:∀s',Inv X pins (σ.set i (some v)) H s'->Q () s') (hf:X.fn x=true\/X.env.scope.names.lookup x=some .local:=by first | exact .inl rfl | exact .inr rfl | assumption):wpAny M A (storeName X.env x u) Q E s :=
 zgN I hN hi hx r (fun s' I' _=>h s' I') hf
def Inv.call'{s':Shared}{ch:List Addr}(I:Inv X pins σ H s)(ho:s'.os=s.os)(u:Un (frs X.stack) ch H H' s.heap s'.heap)(hok:HOk X.prog X.w H' s'.heap)(hg:AllBare s'.gens)
  (hch:∀b∈ch,(b∈X.ex\/X.s₀.heap.objs.size<=b)/\b≠X.env.locals/\(∀x c,X.env.cells.lookup x=some c->c≠b)/\∀p∈X.pn++pins,p.1≠b):Inv X pins σ H' s':=by
 obtain ⟨h',g',d',t',o'⟩:=s';have e:o'=s.os:=ho;subst e;exact I.call (g':=g') (t':=t') (d':=d') u hok hg hch
end
abbrev XK:=Value->Option Addr->Hp->Prop
abbrev St:=List (Option V)
abbrev VK:=V->Hp->Prop
abbrev TE:=St->Hp->VK->Prop
abbrev TT:=St->Hp->(Bool->Hp->Prop)->Prop
abbrev TA:=St->Hp->(List V->Hp->Prop)->Prop
structure Ends where
 nx:St->Hp->Prop
 rt:VK
 bk:St->Hp->Prop:=fun _ _=>False
 ct:St->Hp->Prop:=fun _ _=>False
abbrev TS:=Ends->St->Hp->Prop
def EP(X:Cx)(pins:Z3)(σ:St)(Q:VK)(u:Value)(s':Shared):Prop:=∃v H',Inv X pins σ H' s'/\za2 v u/\Q v H'
def TP(X:Cx)(pins:Z3)(σ:St)(Q:Bool->Hp->Prop)(b:Bool)(s':Shared):Prop:=∃H',Inv X pins σ H' s'/\Q b H'
def AP(X:Cx)(pins:Z3)(σ:St)(Q:List V->Hp->Prop)(us:List Value)(s':Shared):Prop:=∃vs H',Inv X pins σ H' s'/\Vals vs us/\Q vs H'
def SP(X:Cx)(pins:Z3)(D:Ends)(f:Flow)(s':Shared):Prop :=
 match f with
 | .next=>∃σ' H',Inv X pins σ' H' s'/\D.nx σ' H'
 | .brk=>∃σ' H',Inv X pins σ' H' s'/\D.bk σ' H'
 | .cont=>∃σ' H',Inv X pins σ' H' s'/\D.ct σ' H'
 | .ret u=>∃v σ' H',Inv X pins σ' H' s'/\za2 v u/\D.rt v H'
def PE(X:Cx)(e:Expr)(t:TE):Prop :=
 ∀(pins:Z3) (s:Shared) (σ:St) (H:Hp) (Q:VK),Inv X pins σ H s->t σ H Q->wpAny (model X.prog X.w) X.A (eval e X.env) (EP X pins σ Q) X.xe s
def PT(X:Cx)(e:Expr)(t:TT):Prop :=
 ∀(pins:Z3) (s:Shared) (σ:St) (H:Hp) (Q:Bool->Hp->Prop),Inv X pins σ H s->t σ H Q->wpAny (model X.prog X.w) X.A (isTrue e X.env (eval e X.env)) (TP X pins σ Q) X.xe s
def PW(X:Cx)(e:Expr)(t:TT):Prop :=
 ∀(whole:Sem Value) (pins:Z3) (s:Shared) (σ:St) (H:Hp) (Q:Bool->Hp->Prop),Inv X pins σ H s->t σ H Q->wpAny (model X.prog X.w) X.A (isTrue e X.env whole) (TP X pins σ Q) X.xe s
def PW.pt{X:Cx}{e:Expr}{t:TT}(h:PW X e t):PT X e t:=h _
def PA(X:Cx)(es:List Expr)(t:TA):Prop :=
 ∀(pos:Pos) (pins:Z3) (s:Shared) (σ:St) (H:Hp) (Q:List V->Hp->Prop),Inv X pins σ H s->t σ H Q->wpAny (model X.prog X.w) X.A (spliced (backTo pos (starEach es X.env))) (AP X pins σ Q) X.xe s
def PS(X:Cx)(st:Stmt)(t:TS):Prop :=
 ∀(pins:Z3) (s:Shared) (σ:St) (H:Hp) (D:Ends),Inv X pins σ H s->t D σ H->wpAny (model X.prog X.w) X.A (exec st X.env) (SP X pins D) X.xe s
def PSs(X:Cx)(st:List Stmt)(t:TS):Prop :=
 ∀(pins:Z3) (s:Shared) (σ:St) (H:Hp) (D:Ends),Inv X pins σ H s->t D σ H->wpAny (model X.prog X.w) X.A (execs st X.env) (SP X pins D) X.xe s
def thn{α:Type}{t:Sem α}{Q Q':α->Shared->Prop}{M:Model}{A:Around}{E:Z5}{s:Shared}(h:wpAny M A t Q E s)(hQ:∀a s,Q a s->Q' a s):wpAny M A t Q' E s:=ybs h hQ fun _ _ x=>x
end L2
namespace L2
open PySem PySem.Spec PyProof.Rows
section
variable{X:Cx}
def zuL(i:Nat):TE:=fun σ H Q=>∃v,σ[i]?=some (some v)/\Q v H
def tC(v:V):TE:=fun _ H Q=>Q v H
def zcn{i:Nat}{x:Str}{pos:Pos}(hN:X.N[i]?=some x)(hv:Vis X.env.scope x)(hd:(x == ("__debug__":Str))=false:=by decide)(hcd:(x == ("__classdict__":Str))=false:=by decide):PE X (.Name x pos) (zuL i):=by
 intro pins s σ H Q I h;obtain ⟨v,e,h⟩:=h;obtain ⟨m,hn,hl⟩:=I.loc;obtain ⟨u,r,l⟩:=hl i x v hN e hv;have fin:EP X pins σ Q u s:=⟨v,H,I,r,h⟩
 rcases l with ⟨hk,hm⟩ | ⟨hk,c,hc,hcell⟩
 ·exact wpAny_Name (wpAny_loadName_local I.ok.kind hk hn hm fin) hd
 ·rcases hk with hk | hk
  ·exact wpAny_Name (wpAny_loadName_cell I.ok.kind hk hc hcell fin) hd
  ·exact wpAny_Name (wpAny_loadName_free I.ok.kind hk hc hcell fin hcd) hd
def zsq{i j pos}:PE X (.Constant (.int i) j pos) (tC (.int i)):=fun _ _ _ H _ I h=>wpAny_Constant_int ⟨.int i,H,I.tok _,⟨_,rfl⟩,h⟩
def zvt{b j pos}:PE X (.Constant (.bool b) j pos) (tC (.bl b)):=fun _ _ _ H _ I h=>Constant_bool ⟨.bl b,H,I,rfl,h⟩
def zsn{j pos}:PE X (.Constant .none j pos) (tC .non):=fun _ _ _ H _ I h=>Constant_none ⟨.non,H,I,rfl,h⟩
def zsi{x j pos}:PE X (.Constant (.str x) j pos) (tC (.str x)):=fun _ _ _ H _ I h=>Calls.Constant_str ⟨.str x,H,I.tok _,⟨_,rfl⟩,h⟩
def Gl(X:Cx)(x:Str):Prop:=X.env.kindOf x=some .globalImplicit
def zd8{E:Z5}{pins:Z3}{s:Shared}{σ:St}{H:Hp}{x:Str}{u:Value}{pos:Pos}{Q:Z5}(I:Inv X pins σ H s)(hg:Gl X x)(hm:X.mg x=some u)(h:Q u s)
  (hd:(x == ("__debug__":Str))=false:=by decide):wpAny (model X.prog X.w) X.A (eval (.Name x pos) X.env) Q E s :=
 Calls.Name_function_global I.ok.kind hg (Calls.loadGlobal_global (by rw [I.ok.glob];exact I.mod.glob.keeps I.bk) hm h) hd
def zdt{E:Z5}{pins:Z3}{s:Shared}{σ:St}{H:Hp}{x:Str}{u:Value}{pos:Pos}{Q:Z5}(I:Inv X pins σ H s)(hg:Gl X x)(hm:X.mg x=none)(hv:bootBuiltins x=some u)(h:Q u s)
  (hn:x ≠ "__name__":=by decide) (hd:(x == ("__debug__":Str))=false:=by decide):wpAny (model X.prog X.w) X.A (eval (.Name x pos) X.env) Q E s:=by
 obtain ⟨mb,h1,h2⟩:=I.mod.blt;exact Calls.Name_function_global I.ok.kind hg (Calls.loadGlobal_builtin (by rw [I.ok.glob];exact I.mod.glob.keeps I.bk) hm (by rw [I.ok.blt];exact h1.keeps I.bk) ((h2 x hn).trans hv) h) hd
def zkV{x:Str}{v:V}{u:Value}{pos:Pos}(hg:Gl X x)(hm:X.mg x=some u)(r:za2 v u)(hd:(x == ("__debug__":Str))=false:=by decide):PE X (.Name x pos) (tC v) :=
 fun _ _ _ H _ I h=>zd8 I hg hm ⟨v,H,I,r,h⟩ hd
def zkY{x:Str}{v:V}{u:Value}{pos:Pos}(hg:Gl X x)(hm:X.mg x=none)(hv:bootBuiltins x=some u)(r:za2 v u)(hn:x ≠ "__name__":=by decide)(hd:(x == ("__debug__":Str))=false:=by decide):PE X (.Name x pos) (tC v) :=
 fun _ _ _ H _ I h=>zdt I hg hm hv ⟨v,H,I,r,h⟩ hn hd
variable{a b:Expr}{ta tb:TE}{pos:Pos}
def tB(t:TE):TT:=fun σ H Q=>t σ H fun x H1=>∃c,x=.bl c/\Q c H1
def zsb{e:Expr}{t:TE}(h:PE X e t)(he:∀whole,isTrue e X.env whole=(do let v ← whole;standAt e.pos;holding [v] (truthy v)):=by intro _;rfl):PT X e (tB t):=by
 intro pins s σ H Q I hw;refine isTrue_plain (thn (h pins s σ H _ I hw) fun v s1 ⟨x,H1,I1,r1,q1⟩=>?_) (he _);obtain ⟨d,rfl,q⟩:=q1;cases r1;exact ybe ⟨H1,I1,q⟩
variable{tA tB':TT}{zci:List Expr}
def zw4(t u:TT):TT:=fun σ H Q=>t σ H fun c H1=>if c=true then u σ H1 Q else Q false H1
def tOr(t u:TT):TT:=fun σ H Q=>t σ H fun c H1=>if c=true then Q true H1 else u σ H1 Q
def zw2(t:TT):TT:=fun σ H Q=>t σ H fun c H1=>Q (!c) H1
def zpt(ha:PT X a tA):PW X (.BoolOp .And [a] pos) tA:=by
 intro wh pins s σ H Q I h;refine isTrue_and (thn (ha pins s σ H Q I h) fun c s1 e=>?_)
 cases c with
 | true=>exact isTrue_and_nil e
 | false=>exact e
def zr8(ha:PT X a tA):PW X (.BoolOp .Or [a] pos) tA:=by
 intro wh pins s σ H Q I h;refine isTrue_or (thn (ha pins s σ H Q I h) fun c s1 e=>?_)
 cases c with
 | false=>exact isTrue_or_nil e
 | true=>exact e
def zr9(ha:PT X a tA)(hb:PW X (.BoolOp .And (b::zci) pos) tB'):PW X (.BoolOp .And (a::b::zci) pos) (zw4 tA tB'):=by
 intro wh pins s σ H Q I h;refine isTrue_and (thn (ha pins s σ H _ I h) fun c s1 ⟨H1,I1,q1⟩=>?_)
 cases c with
 | true=>exact hb wh pins s1 σ H1 Q I1 q1
 | false=>exact ⟨H1,I1,q1⟩
def zvn(ha:PT X a tA)(hb:PW X (.BoolOp .Or (b::zci) pos) tB'):PW X (.BoolOp .Or (a::b::zci) pos) (tOr tA tB'):=by
 intro wh pins s σ H Q I h;refine isTrue_or (thn (ha pins s σ H _ I h) fun c s1 ⟨H1,I1,q1⟩=>?_)
 cases c with
 | true=>exact ⟨H1,I1,q1⟩
 | false=>exact hb wh pins s1 σ H1 Q I1 q1
def zsc(ha:PT X a tA):PT X (.UnaryOp .Not a pos) (zw2 tA):=by
 intro pins s σ H Q I h;exact isTrue_not (ha pins s σ H (fun c H1=>Q (!c) H1) I h)
def zuW(ta tb:TE):TE:=fun σ H Q=>ta σ H fun x H1=>∃c,x=.bl c/\if c=true then tb σ H1 Q else Q (.bl false) H1
def zyU(ta tb:TE):TE:=fun σ H Q=>ta σ H fun x H1=>∃c,x=.bl c/\if c=true then Q (.bl true) H1 else tb σ H1 Q
def zuN(ta:TE):TE:=fun σ H Q=>ta σ H fun x H1=>∃c,x=.bl c/\Q (.bl (!c)) H1
def zsl{op}{t:TE}(h:PE X a t):PE X (.BoolOp op [a] pos) t:=fun pins s σ H Q I hw=>BoolOp_one (h pins s σ H Q I hw)
def zsr(ha:PE X a ta)(hb:PE X (.BoolOp .And (b::zci) pos) tb):PE X (.BoolOp .And (a::b::zci) pos) (zuW ta tb):=by
 intro pins s σ H Q I h;refine BoolOp_and (thn (ha pins s σ H _ I h) fun v s1 ⟨x,H1,I1,r1,q1⟩=>?_);obtain ⟨c,rfl,q1⟩:=q1;cases r1;refine ybe ?_
 cases c with
 | true=>exact hb pins s1 σ H1 Q I1 q1
 | false=>exact ⟨.bl false,H1,I1,rfl,q1⟩
def zvs(ha:PE X a ta)(hb:PE X (.BoolOp .Or (b::zci) pos) tb):PE X (.BoolOp .Or (a::b::zci) pos) (zyU ta tb):=by
 intro pins s σ H Q I h;refine BoolOp_or (thn (ha pins s σ H _ I h) fun v s1 ⟨x,H1,I1,r1,q1⟩=>?_);obtain ⟨c,rfl,q1⟩:=q1;cases r1;refine ybe ?_
 cases c with
 | false=>exact hb pins s1 σ H1 Q I1 q1
 | true=>exact ⟨.bl true,H1,I1,rfl,q1⟩
def zsm(ha:PE X a ta):PE X (.UnaryOp .Not a pos) (zuN ta):=by
 intro pins s σ H Q I h;refine UnaryOp_ (thn (ha pins s σ H _ I h) fun v s1 ⟨x,H1,I1,r1,q1⟩=>?_);obtain ⟨c,rfl,q1⟩:=q1;cases r1;exact not_of (ybe ⟨.bl (!c),H1,I1,rfl,q1⟩)
def tIf(t:TT)(ta tb:TE):TE:=fun σ H Q=>t σ H fun c H1=>if c=true then ta σ H1 Q else tb σ H1 Q
def zmQ{c:Expr}(hc:PT X c tA)(ha:PE X a ta)(hb:PE X b tb):PE X (.IfExp c a b pos) (tIf tA ta tb):=by
 intro pins s σ H Q I h;refine wpAny_IfExp (thn (hc pins s σ H _ I h) fun d s1 ⟨H1,I1,q1⟩=>?_)
 cases d with
 | true=>exact ha pins s1 σ H1 Q I1 q1
 | false=>exact hb pins s1 σ H1 Q I1 q1
end
end L2
namespace L2
open PySem PySem.Spec PyProof.Rows
def SqL(K:PySem.W.Frag)(H:Hp)(a:Addr)(xs:List V):Prop :=
 Rd H a (.lst xs) ∨
  ∃(o:Obj) (its:Array Value) (n:Nat),K.lookup a=some o/\o.cls=.type "list" /\ o.dict=none/\o.data=.seq its n/\its.size<=sizeLine/\Vals xs its.toList
def SqT(K:PySem.W.Frag)(H:Hp)(a:Addr)(xs:List V):Prop :=
 Rd H a (.tup xs) ∨
  ∃(o:Obj) (its:Array Value) (n:Nat),K.lookup a=some o/\o.cls=.type "tuple" /\ o.data=.seq its n/\its.size<=sizeLine/\Vals xs its.toList
def zzS:Value->Option V
 | .none=>some .non
 | .bool b=>some (.bl b)
 | .int i _=>some (.int i)
 | .str x _=>some (.str x)
 | .bytes b _=>some (.byt b)
 | .float b _=>some (.flt b)
 | .ref a=>some (.ref a)
 | .type n=>some (.ty n)
 | _=>none
def za2.abs{x:V}{u:Value}(r:za2 x u):zzS u=some x:=by
 cases x with
 | non=>cases r;rfl
 | bl _=>cases r;rfl
 | int _=>obtain ⟨t,rfl⟩:=r;rfl
 | str _=>obtain ⟨t,rfl⟩:=r;rfl
 | byt _=>obtain ⟨t,rfl⟩:=r;rfl
 | flt _=>obtain ⟨t,rfl⟩:=r;rfl
 | ref _=>cases r;rfl
 | ty _=>cases r;rfl
theorem za2.inj{x y:V}{u:Value}(r:za2 x u)(q:za2 y u):x=y:=Option.some.inj (r.abs.symm.trans q.abs)
theorem Vals.inj:∀{xs ys:List V} {us:List Value},Vals xs us->Vals ys us->xs=ys
 | _,_,_,.nil,.nil=>rfl
 | _,_,_,.cons r t,.cons r' t'=>by rw [r.inj r',Vals.inj t t']
section
variable{X:Cx}{pins:Z3}{σ:St}{H:Hp}{s:Shared}{a:Addr}{xs ys:List V}
def SqL.of{K:PySem.W.Frag}(h:H a=some (.lst xs)):SqL K H a xs:=.inl (.inl h)
def SqT.of{K:PySem.W.Frag}(h:H a=some (.tup xs)):SqT K H a xs:=.inl (.inl h)
def Inv.list(I:Inv X pins σ H s)(h:SqL X.K H a xs):∃its:List Value,Vals xs its/\PlainL s.heap a its.toArray/\xs.length<=sizeLine:=by
 rcases h with h | ⟨o,its,n,hk,hc,hd,hs,hz,r⟩
 ·obtain ⟨z,its,n,r,e⟩:=h.ok I.hok;exact ⟨its,r,⟨_,n,e,rfl,rfl,rfl⟩,z⟩
 ·refine ⟨its.toList,r,⟨o,n,I.kIn a o hk,hc,hd,by simpa using hs⟩,?_⟩;have e:=r.length;simp only [ycE] at e;omega
def Inv.tuple(I:Inv X pins σ H s)(h:SqT X.K H a xs):∃its:List Value,Vals xs its/\IsTup s.heap a its.toArray/\xs.length<=sizeLine:=by
 rcases h with h | ⟨o,its,n,hk,hc,hs,hz,r⟩
 ·obtain ⟨z,its,r,p⟩:=h.ok I.hok;exact ⟨its,r,p,z⟩
 ·refine ⟨its.toList,r,⟨o,I.kIn a o hk,hc,n,by simpa using hs⟩,?_⟩;have e:=r.length;simp only [ycE] at e;omega
def Inv.list_inj(I:Inv X pins σ H s)(h:SqL X.K H a xs)(h':SqL X.K H a ys):xs=ys:=by
 obtain ⟨its,r,⟨o,n,e,_,_,d⟩,_⟩:=I.list h;obtain ⟨its',r',⟨o',n',e',_,_,d'⟩,_⟩:=I.list h';rw [e] at e';cases e';rw [d] at d'
 injection d' with d1 _
 have:its=its':=by simpa using congrArg Array.toList d1
 subst this;exact r.inj r'
def Inv.tuple_inj(I:Inv X pins σ H s)(h:SqT X.K H a xs)(h':SqT X.K H a ys):xs=ys:=by
 obtain ⟨its,r,⟨o,e,_,n,d⟩,_⟩:=I.tuple h;obtain ⟨its',r',⟨o',e',_,n',d'⟩,_⟩:=I.tuple h';rw [e] at e';cases e';rw [d] at d'
 injection d' with d1 _
 have:its=its':=by simpa using congrArg Array.toList d1
 subst this;exact r.inj r'
end
section
variable{X:Cx}{pins:Z3}{σ:St}{H:Hp}{s:Shared}{E:Z5}
end
section
variable{X:Cx}{st:Stmt}{zci:List Stmt}{t u:TS}{e:Expr}{te:TE}{pos:Pos}
def zro:TS:=fun D σ H=>D.nx σ H
def zyR(t u:TS):TS:=fun D σ H=>t { D with nx:=u D } σ H
def zpv:PSs X [] zro:=fun _ _ σ H _ I h=>ycF ⟨σ,H,I,h⟩
def zmG(h1:PS X st t)(h2:PSs X zci u):PSs X (st::zci) (zyR t u):=by
 intro pins s σ H D I h;refine wpAny_execs_cons (thn (h1 pins s σ H { D with nx:=u D } I h) fun f s1 q=>?_)
 cases f with
 | next =>
  obtain ⟨σ',H',I',q⟩:=q;exact h2 pins s1 σ' H' D I' q
 | ret v=>exact q
 | brk=>exact q
 | cont=>exact q
def zpu(h1:PS X st t):PSs X [st] t:=by
 intro pins s σ H D I h;refine wpAny_execs_cons (thn (h1 pins s σ H D I h) fun f s1 q=>?_)
 cases f with
 | next=>exact ycF q
 | ret v=>exact q
 | brk=>exact q
 | cont=>exact q
def zrs:TS:=fun D σ H=>D.bk σ H
def zpy:PS X (.Pass pos) zro:=fun _ _ σ H _ I h=>wpAny_Pass ⟨σ,H,I,h⟩
def zmI:PS X (.Break pos) zrs:=fun _ _ σ H _ I h=>wpAny_Break ⟨σ,H,I,h⟩
def Inv.quiet{pins:Z3}{σ:St}{H:Hp}{s:Shared}(I:Inv X pins σ H s):interactive X.env=false:=by simp [interactive,I.ok.kind]
def zuS(te:TE):TS:=fun D σ H=>te σ H fun _ H1=>D.nx σ H1
def zhP(he:PE X e te)(hs:swapsWith e none pos.line X.env=pure false:=by rfl):PS X (.Expr e pos) (zuS te):=by
 intro pins s σ H D I h;exact wpAny_Expr_any (thn (he pins s σ H _ I h) fun v s1 ⟨x,H1,I1,r1,q1⟩=>⟨σ,H1,I1,q1⟩) I.quiet hs
def zyT(te:TE):TS:=fun D σ H=>te σ H D.rt
def zkM(he:PE X e te):PS X (.Return (some e) pos) (zyT te):=by
 intro pins s σ H D I h;exact wpAny_Return_some (thn (he pins s σ H _ I h) fun v s1 ⟨x,H1,I1,r1,q1⟩=>⟨x,σ,H1,I1,r1,q1⟩)
def zuM:TS:=fun D _ H=>D.rt .non H
def zpx:PS X (.Return none pos) zuM:=fun _ _ σ H _ I h=>wpAny_Return_none ⟨.non,σ,H,I,rfl,h⟩
def zyW(c:TT)(t u:TS):TS:=fun D σ H=>c σ H fun b H1=>if b=true then t D σ H1 else u D σ H1
def zvq{c:Expr}{a b:List Stmt}{tc:TT}(hc:PT X c tc)(ha:PSs X a t)(hb:PSs X b u):PS X (.If c a b pos) (zyW tc t u):=by
 intro pins s σ H D I h;refine wpAny_If (thn (hc pins s σ H _ I h) fun d s1 ⟨H1,I1,q1⟩=>?_)
 cases d with
 | true=>exact ha pins s1 σ H1 D I1 q1
 | false=>exact hb pins s1 σ H1 D I1 q1
end
abbrev TG:=V->St->Hp->(St->Hp->Prop)->Prop
abbrev TGs:=List V->St->Hp->(St->Hp->Prop)->Prop
def PG(X:Cx)(target:Expr)(t:TG):Prop :=
 ∀(pins:Z3) (s:Shared) (σ:St) (H:Hp) (v:V) (u:Value) (Q:St->Hp->Prop),Inv X pins σ H s->za2 v u->t v σ H Q →
  wpAny (model X.prog X.w) X.A (assign target X.env u) (fun _ s'=>∃σ' H',Inv X pins σ' H' s'/\Q σ' H') X.xe s
def PGs(X:Cx)(ts:List Expr)(t:TGs):Prop :=
 ∀(pins:Z3) (s:Shared) (σ:St) (H:Hp) (vs:List V) (us:List Value) (Q:St->Hp->Prop),Inv X pins σ H s->Vals vs us->t vs σ H Q →
  wpAny (model X.prog X.w) X.A (assignInOrder ((assignEach ts X.env).map (·.2)) us) (fun _ s'=>∃σ' H',Inv X pins σ' H' s'/\Q σ' H') X.xe s
abbrev TSet:=V->V->V->Hp->(Hp->Prop)->Prop
def zwp(X:Cx)(t:TSet):Prop :=
 ∀(pins:Z3) (s:Shared) (σ:St) (H:Hp) (o i v:V) (ov iv u:Value) (Q:Hp->Prop),Inv X pins σ H s->za2 o ov->za2 i iv->za2 v u->t o i v H Q →
  wpAny (model X.prog X.w) X.A (setItem ov iv u) (fun _ s'=>∃H',Inv X pins σ H' s'/\Q H') X.xe s
abbrev TIp:=V->V->Hp->VK->Prop
def PIp(X:Cx)(op:Operator)(t:TIp):Prop :=
 ∀(pins:Z3) (s:Shared) (σ:St) (H:Hp) (x y:V) (v u:Value) (Q:VK),Inv X pins σ H s->za2 x v->za2 y u->t x y H Q →
  wpAny (model X.prog X.w) X.A (inplaceOp op v u) (EP X pins σ Q) X.xe s
section
variable{X:Cx}{pos:Pos}
def zjH(i:Nat):TG:=fun v σ H Q=>Q (σ.set i (some v)) H
def zkT{i:Nat}{x:Str}(hN:X.N.Nodup)(hi:X.N[i]?=some x)(hx:Loc X.env.scope x)(hf:X.fn x=true\/X.env.scope.names.lookup x=some .local:=by first | exact .inl rfl | exact .inr rfl | assumption):PG X (.Name x pos) (zjH i):=by
 intro pins s σ H v u Q I r h;exact wpAny_assign_Name (zdJ I hN hi hx r (fun s' I'=>⟨_,H,I',h⟩) hf)
def zzN:TGs:=fun vs σ H Q=>vs=[]/\Q σ H
def zv3(t:TG)(u:TGs):TGs:=fun vs σ H Q=>∃v r,vs=v::r/\t v σ H fun σ' H'=>u r σ' H' Q
def zpG:PGs X [] zzN:=by
 intro pins s σ H vs us Q I r h;obtain ⟨e,h⟩:=h;subst e;cases r;exact assignInOrder_nil ⟨σ,H,I,h⟩
def zmN{e:Expr}{es:List Expr}{t:TG}{u:TGs}(h1:PG X e t)(h2:PGs X es u)
  (hs:(assignEach (e::es) X.env).map (·.2)=assign e X.env::(assignEach es X.env).map (·.2):=by rfl):PGs X (e::es) (zv3 t u):=by
 intro pins s σ H vs us Q I r h;obtain ⟨v,vr,e1,h⟩:=h;subst e1
 cases r with
 | cons r rr =>
  rw [hs];refine assignInOrder_cons (thn (h1 pins s σ H _ _ _ I r h) fun _ s1 ⟨σ1,H1,I1,q1⟩=>?_);exact h2 pins s1 σ1 H1 _ _ Q I1 rr q1
def zzL(K:PySem.W.Frag)(n:Nat)(t:TGs):TG:=fun v σ H Q=>∃a xs,v=.ref a/\SqT K H a xs/\xs.length=n/\t xs σ H Q
def zsg{es:List Expr}{k:Nat}{t:TGs}{n:Nat}(hc:X.calm=true)(h:PGs X es t)
  (hn:(assignEach es X.env).length=n:=by rfl) (hst:(assignEach es X.env).findIdx? (·.1)=none:=by rfl):PG X (.Tuple es k pos) (zzL X.K n t):=by
 intro pins s σ H v u Q I r hw;obtain ⟨a,xs,e1,hq,hl,hw⟩:=hw;subst e1;cases r;obtain ⟨its,rv,ht,hz⟩:=I.tuple hq;refine assign_Tuple_tuple (I.ok.hd hc) ht (by simp [hn,<-hl,rv.length]) hst fun h' hx=>?_
 have I1:Inv X pins σ H { s with heap:=h' }:=I.kept (t':=s.toks) fun b o e=>hx b o (yaB (yas e)) e
 exact h pins _ σ H xs _ Q I1 (by simpa using rv) hw
def zzM(to ti:TE)(t:TSet):TG:=fun v σ H Q=>to σ H fun o H1=>ti σ H1 fun i H2=>t o i v H2 fun H3=>Q σ H3
def zoe{o i:Expr}{to ti:TE}{t:TSet}(ho:PE X o to)(hi:PE X i ti)(hs:zwp X t)
  (ha:∀v,assign (.Subscript o i pos) X.env v=(do
   let ov ← holding [v] (eval o X.env)
   let iv ← holding [v,ov] (eval i X.env)
   standAt pos
   holding [v,ov,iv] (setItem ov iv v)
   release [v,ov,iv] []):=by intro _;rfl):PG X (.Subscript o i pos) (zzM to ti t):=by
 intro pins s σ H v u Q I r h;rw [ha];refine yaa (yb8 (thn (ho pins s σ H _ I h) fun ov s1 ⟨x,H1,I1,r1,q1⟩=>?_));refine yaa (yb8 (thn (hi pins s1 σ H1 _ I1 q1) fun iv s2 ⟨y,H2,I2,r2,q2⟩=>?_));refine yaa (wpAny_standAt (yaa (yb8 (thn (hs pins s2 σ H2 x y v ov iv u _ I2 r1 r2 r q2) fun _ s3 ⟨H3,I3,q3⟩=>?_))));exact wpAny_release ⟨σ,H3,I3,q3⟩
def zoV(te:TE)(g:TG):TS:=fun D σ H=>te σ H fun x H1=>g x σ H1 D.nx
def zkO{tg e:Expr}{te:TE}{g:TG}(he:PE X e te)(hg:PG X tg g)(hs:swapsWithSole [tg] e pos.line X.env=pure false:=by rfl)(hw:swappedStores [tg] e X.env=pure none:=by rfl)
  (h1:(assignEach [tg] X.env).map (·.2)=[assign tg X.env]:=by rfl):PS X (.Assign [tg] e pos) (zoV te g):=by
 intro pins s σ H D I h;refine wpAny_Assign_stores (thn (he pins s σ H _ I h) fun v s1 ⟨x,H1,I1,r1,q1⟩=>?_) hs hw;rw [h1];exact thn (hg pins s1 σ H1 x v _ I1 r1 q1) fun _ s2 q=>q
def zkL{i:Nat}{x:Str}{e:Expr}{te:TE}{pos':Pos}(hN:X.N.Nodup)(hi:X.N[i]?=some x)(hx:Loc X.env.scope x)(he:PE X e te)(hs:swapsWith e (some (.Name x pos')) pos.line X.env=pure false:=by rfl)(hf:X.fn x=true\/X.env.scope.names.lookup x=some .local:=by first | exact .inl rfl | exact .inr rfl | assumption) :
  PS X (.Assign [.Name x pos'] e pos) (zoV te (zjH i)):=by
 intro pins s σ H D I h;refine wpAny_Assign_Name (thn (he pins s σ H _ I h) fun v s1 ⟨y,H1,I1,r1,q1⟩=>?_) hs;exact zdJ I1 hN hi hx r1 (fun s2 I2=>⟨_,H1,I2,q1⟩) hf
def zz0(i j:Nat)(ta:TA):TS:=fun D σ H=>ta σ H fun vs H1=>∃v w,vs=[v,w]/\D.nx ((σ.set i (some v)).set j (some w)) H1
def zyY(i:Nat)(te:TE)(ti:TIp):TS:=fun D σ H=>∃x,σ[i]?=some (some x)/\te σ H fun y H1=>ti x y H1 fun z H2=>D.nx (σ.set i (some z)) H2
def zse{i:Nat}{x:Str}{e:Expr}{te:TE}{op:Operator}{ti:TIp}{pos':Pos}(hN:X.N.Nodup)(hi:X.N[i]?=some x)(hx:Loc X.env.scope x)(he:PE X e te)(ho:PIp X op ti)(hf:X.fn x=true\/X.env.scope.names.lookup x=some .local:=by first | exact .inl rfl | exact .inr rfl | assumption) :
  PS X (.AugAssign (.Name x pos') op e pos) (zyY i te ti):=by
 intro pins s σ H D I h;obtain ⟨v,e1,h⟩:=h;obtain ⟨m,hn,hl⟩:=I.loc
 have vis:Vis X.env.scope x:=by rcases hx with k | k;exact .inl k;exact .inr (.inl k)
 obtain ⟨u,r,l⟩:=hl i x v hi e1 vis;refine wpAny_AugAssign_Name ?_
 have go:wpAny (model X.prog X.w) X.A (eval e X.env) (fun w s₂=>wpAny (model X.prog X.w) X.A (inplaceOp op u w) (fun r s₃=>wpAny (model X.prog X.w) X.A (storeName X.env x r) (fun _=>SP X pins D .next) X.xe s₃) X.xe s₂) X.xe s:=by
  refine thn (he pins s σ H _ I h) fun w s1 ⟨y,H1,I1,r1,q1⟩=>?_
  refine thn (ho pins s1 σ H1 v y u w _ I1 r r1 q1) fun z s2 ⟨zv,H2,I2,r2,q2⟩=>?_
  exact zdJ I2 hN hi hx r2 (fun s3 I3=>⟨_,H2,I3,q2⟩) hf
 rcases l with ⟨hk,hm⟩ | ⟨hk,c,hc,hcell⟩
 ·exact wpAny_loadName_local I.ok.kind hk hn hm go
 ·rcases hk with hk | hk
  ·exact wpAny_loadName_cell I.ok.kind hk hc hcell go
  ·rcases hx with k | k
   ·have:X.env.scope.names.lookup x=some .free:=hk;rw [k] at this;cases this
   ·have:X.env.scope.names.lookup x=some .free:=hk;rw [k] at this;cases this
end
section
variable{X:Cx}{pos:Pos}
end
structure It where
 go:Nat->Hp->Prop
 yld:Nat->Hp->V->Hp->Prop
 stop:Nat->Hp->Prop
def zmb(X:Cx)(pins:Z3)(H:Hp)(b:Addr):Prop :=
 H b=none/\b≠X.env.locals/\b ∉ X.fs/\(b∈X.ex\/X.s₀.heap.objs.size<=b)/\(∀x c,X.env.cells.lookup x=some c->c≠b)/\∀p∈X.pn++pins,p.1≠b
def Inv.fpOk{X:Cx}{pins:Z3}{σ:St}{H H':Hp}{s:Shared}{b:Addr}(I:Inv X pins σ H s)(hb:s.heap.objs.size<=b)(hn:H' b=none):zmb X pins H' b:=by
 refine ⟨hn,ya3 (yan I.lt hb),I.nofs hb,.inr (yaj I.sz hb),fun x c e z=>?_,fun p hp z=>?_⟩
 ·obtain ⟨v,q⟩:=I.cell x c e;exact absurd (yan q.lt (by rw [z];exact hb)) (yaR _)
 ·exact absurd (yan (yas (I.pin p hp).1) (by rw [z];exact hb)) (yaR _)
structure Turn(P:Program)(w:World)(K:PySem.W.Frag)(tg:Expr)(J:It)(fp:List Addr)(it:Addr)(tn:Nat->Heap->Prop):Prop where
 mem:it∈fp
 obj:∀i h,tn i h->∀b∈fp,∃o,h.get? b=some o/\∀v,o.data≠.cell v
 keep:∀i h h',tn i h->(∀b∈fp,∀o,h.get? b=some o->h'.get? b=some o)->tn i h'
 item:∀(X:Cx),X.prog=P->X.w=w->X.K=K->X.calm=true->∀(i:Nat) (pins:Z3) (s:Shared) (σ:St) (H:Hp) (E:Z5),Inv X pins σ H s->(∀b∈fp,zmb X pins H b)->tn i s.heap->J.go i H →
  wpAny (model P w) X.A (pyNext (.ref it)) (fun r s1=>∃u,r=some u ∧
   wpAny (model P w) X.A (letOwnedTupleGo tg (.ref it) u) (fun _ s2=>∃x H',Inv X pins σ H' s2/\za2 x u/\J.yld i H x H'/\tn (i+1) s2.heap/\∀b∈fp,H' b=none) E s1) E s
 done:∀(X:Cx),X.prog=P->X.w=w->X.K=K->X.calm=true->∀(i:Nat) (pins:Z3) (s:Shared) (σ:St) (H:Hp) (E:Z5),Inv X pins σ H s->(∀b∈fp,zmb X pins H b)->tn i s.heap->J.stop i H →
  wpAny (model P w) X.A (pyNext (.ref it)) (fun r s1=>r=none/\Inv X pins σ H s1) E s
 self:∀(A:Around) (i:Nat) (s:Shared) (Q:Z5) (E:Z5),tn i s.heap->Q (.ref it) s->wpAny (model P w) A (pyIter (.ref it)) Q E s
abbrev TI:=St->Hp->(It->Hp->Prop)->Prop
def PIE(X:Cx)(pins:Z3)(σ:St)(tg:Expr)(R:It->Hp->Prop)(itv:Value)(s2:Shared):Prop :=
 ∃(it:Addr) (fp:List Addr) (tn:Nat->Heap->Prop) (J:It) (H':Hp),itv=.ref it/\Inv X pins σ H' s2/\Turn X.prog X.w X.K tg J fp it tn/\tn 0 s2.heap/\(∀b∈fp,zmb X pins H' b)/\R J H'
def PI(X:Cx)(tg iter:Expr)(wi:TI):Prop :=
 ∀(pins:Z3) (s:Shared) (σ:St) (H:Hp) (R:It->Hp->Prop),Inv X pins σ H s->wi σ H R →
  wpAny (model X.prog X.w) X.A (eval iter X.env) (fun v s1=>wpAny (model X.prog X.w) X.A (pyIter v) (PIE X pins σ tg R) X.xe s1) X.xe s
def znq {M : Model} {A : Around} {E : Z5} {s : Shared} {tg : Expr} {it : Addr} {u : Value} {o : Obj} {n : String} {vs : Array Value} {Q : Unit -> Shared -> Prop} (ho : s.heap.get? it = some o) (hc : o.cls = .type n) (hd : o.data = .fields vs)
    (hn : ["enumerate", "zip", "dict_itemiterator", "dict_reverseitemiterator", "odict_iterator", "itertools.zip_longest", "itertools.pairwise"].contains n = false) (hQ : Q () s) : wpAny M A (letOwnedTupleGo tg (.ref it) u) Q E s := by
  unfold letOwnedTupleGo
  cases tg <;> first
    | exact yah hQ
    | (cases u <;> first
        | exact yah hQ
        | (refine yaa (wpAny_load ho ?_)
           rw [hc, hd];show wpAny M A (if (["enumerate", "zip", "dict_itemiterator", "dict_reverseitemiterator", "odict_iterator", "itertools.zip_longest", "itertools.pairwise"].contains n && vs[0]? == some (rawInt _)) = true then _ else _) Q E s;rw [if_neg (by intro h; rw [hn, Bool.false_and] at h; cases h)]
           exact yah hQ))
def Itl(K:PySem.W.Frag)(a:Addr):It :=
 ⟨fun i H=>∃xs x,SqL K H a xs/\xs[i]?=some x,fun i H x H'=>H'=H/\∀xs,SqL K H a xs->xs[i]?=some x,fun i H=>∃xs,SqL K H a xs/\xs.length<=i⟩
def Itt(K:PySem.W.Frag)(a:Addr):It :=
 ⟨fun i H=>∃xs x,SqT K H a xs/\xs[i]?=some x,fun i H x H'=>H'=H/\∀xs,SqT K H a xs->xs[i]?=some x,fun i H=>∃xs,SqT K H a xs/\xs.length<=i⟩
def Itr(lo:Int)(n:Nat):It:=⟨fun i _=>i<n,fun i H x H'=>H'=H/\x=.int (lo+i),fun i _=>n<=i⟩
def zj7{P:Program}{w:World}{K:PySem.W.Frag}{tg:Expr}(a it:Addr):Turn P w K tg (Itl K a) [it] it (fun i h=>h.IsListIter it a i) where
 mem:=by simp
 obj:=fun i h st b hb=>by
  have e:b=it:=by simpa using hb
  subst e;obtain ⟨o,e,c,d⟩:=st;exact ⟨o,e,fun v z=>by rw [d] at z;cases z⟩
 keep:=fun i h h' st k=>st.at fun o e=>k it (by simp) o e
 item:=by
  intro X hP hw hK hc i pins s σ H E I hf st hg;subst hP hw hK;obtain ⟨xs,x,hq,hx⟩:=hg;obtain ⟨its,rv,p,hz⟩:=I.list hq;obtain ⟨u,hu,ru⟩:=rv.get hx;obtain ⟨f0,f1,f2,f3,f4,f5⟩:=hf it (by simp);refine wpAny_pyNext_list_item st p.isList (x:=u) (by simpa using hu) fun h' st' sb=>?_
  have I1:Inv X pins σ H { s with heap:=h' }:=I.turned (t':=s.toks) (fun b o hb e=>(sb.2 b hb).trans e) f0 f1 f3 f4 f5;obtain ⟨o,e,c,d⟩:=id st';exact ⟨u,rfl,znq (s:={ s with heap:=h' }) e c d (by decide) ⟨x,H,I1,ru,⟨rfl,fun ys hy=>by rw [I.list_inj hy hq];exact hx⟩,st',fun b hb=>(hf b hb).1⟩⟩
 done:=by
  intro X hP hw hK hc i pins s σ H E I hf st hg;subst hP hw hK;obtain ⟨xs,hq,hx⟩:=hg;obtain ⟨its,rv,p,hz⟩:=I.list hq;obtain ⟨f0,f1,f2,f3,f4,f5⟩:=hf it (by simp);have hl:=rv.length;exact wpAny_pyNext_list_end (I.ok.hd hc) st p.isList (by simp;omega) fun h' eb=>⟨rfl,I.turned (t':=s.toks) (fun b o hb e=>eb b o hb e) f0 f1 f3 f4 f5⟩
 self:=fun _ _ _ _ _ st h=>wpAny_pyIter_listiter st h
def zjh{P:Program}{w:World}{K:PySem.W.Frag}{tg:Expr}(a it:Addr):Turn P w K tg (Itt K a) [it] it (fun i h=>h.IsTupleIter it a i) where
 mem:=by simp
 obj:=fun i h st b hb=>by
  have e:b=it:=by simpa using hb
  subst e;obtain ⟨o,e,c,d⟩:=st;exact ⟨o,e,fun v z=>by rw [d] at z;cases z⟩
 keep:=fun i h h' st k=>st.at fun o e=>k it (by simp) o e
 item:=by
  intro X hP hw hK hc i pins s σ H E I hf st hg;subst hP hw hK;obtain ⟨xs,x,hq,hx⟩:=hg;obtain ⟨its,rv,p,hz⟩:=I.tuple hq;obtain ⟨u,hu,ru⟩:=rv.get hx;obtain ⟨f0,f1,f2,f3,f4,f5⟩:=hf it (by simp);refine wpAny_pyNext_tuple_item st (show s.heap.IsTuple a its.toArray from p) (x:=u) (by simpa using hu) fun h' st' sb=>?_
  have I1:Inv X pins σ H { s with heap:=h' }:=I.turned (t':=s.toks) (fun b o hb e=>(sb.2 b hb).trans e) f0 f1 f3 f4 f5;obtain ⟨o,e,c,d⟩:=id st';exact ⟨u,rfl,znq (s:={ s with heap:=h' }) e c d (by decide) ⟨x,H,I1,ru,⟨rfl,fun ys hy=>by rw [I.tuple_inj hy hq];exact hx⟩,st',fun b hb=>(hf b hb).1⟩⟩
 done:=by
  intro X hP hw hK hc i pins s σ H E I hf st hg;subst hP hw hK;obtain ⟨xs,hq,hx⟩:=hg;obtain ⟨its,rv,p,hz⟩:=I.tuple hq;obtain ⟨f0,f1,f2,f3,f4,f5⟩:=hf it (by simp);have hl:=rv.length;exact wpAny_pyNext_tuple_end (I.ok.hd hc) st (show s.heap.IsTuple a its.toArray from p) (by simp;omega) fun h' eb=>⟨rfl,I.turned (t':=s.toks) (fun b o hb e=>eb b o hb e) f0 f1 f3 f4 f5⟩
 self:=fun _ _ _ _ _ st h=>wpAny_pyIter_tupleiter st h
def zji{P:Program}{w:World}{K:PySem.W.Frag}{tg:Expr}(it:Addr)(lo:Int)(n:Nat):Turn P w K tg (Itr lo n) [it] it (fun i h=>IsRangeIter h it (lo+(i:Nat)*1) ((n:Int)-(i:Nat)) 1) where
 mem:=by simp
 obj:=fun i h st b hb=>by
  have e:b=it:=by simpa using hb
  subst e
  exact ⟨_,st,fun v z=>by
   have z':Data.fields _=Data.cell v:=z
   cases z'⟩
 keep:=fun i h h' st k=>k it (by simp) _ st
 item:=by
  intro X hP hw hK hc i pins s σ H E I hf st hg;subst hP hw hK;obtain ⟨f0,f1,f2,f3,f4,f5⟩:=hf it (by simp);have W:=Walks.range (prog:=X.prog) (w:=X.w) (I.ok.hd hc) it lo 1 n;refine W.item i s _ _ hg st fun v h' tk hv st' kk=>?_
  obtain ⟨t,rfl⟩:=hv;have I1:Inv X pins σ H { s with heap:=h',toks:=tk }:=I.turned (fun b o hb e=>kk b o (by simpa using hb) e) f0 f1 f3 f4 f5;refine ⟨_,rfl,znq (s:={ s with heap:=h',toks:=tk }) (n:="range_iterator") st' rfl rfl (by decide) ⟨.int (lo+i),H,I1,⟨t,?_⟩,⟨rfl,rfl⟩,st',fun b hb=>(hf b hb).1⟩⟩;rw [Int.mul_one]
 done:=by
  intro X hP hw hK hc i pins s σ H E I hf st hg;subst hP hw hK;obtain ⟨f0,f1,f2,f3,f4,f5⟩:=hf it (by simp);exact wpAny_pyNext_range_end (I.ok.hd hc) st (by have:n<=i:=hg;omega) fun h' eb=>⟨rfl,I.turned (t':=s.toks) (fun b o hb e=>eb b o hb e) f0 f1 f3 f4 f5⟩
 self:=fun _ _ _ _ _ st h=>wpAny_pyIter_rangeiter st h
end L2
namespace L2
open PySem PySem.Spec PyProof.Rows
section
variable{X:Cx}{tg:Expr}
def zv1(K:PySem.W.Frag)(tl:TE):TI:=fun σ H R=>tl σ H fun x H1=>∃a,x=.ref a/\(∃xs,SqL K H1 a xs)/\R (Itl K a) H1
def zzJ(K:PySem.W.Frag)(tl:TE):TI:=fun σ H R=>tl σ H fun x H1=>∃a,x=.ref a/\(∃xs,SqT K H1 a xs)/\R (Itt K a) H1
def zpF{l:Expr}{tl:TE}(hl:PE X l tl):PI X tg l (zv1 X.K tl):=by
 intro pins s σ H R I h;refine thn (hl pins s σ H _ I h) fun v s1 ⟨x,H1,I1,r1,q1⟩=>?_
 obtain ⟨a,e,⟨xs,hq⟩,q⟩:=q1;subst e;cases r1;obtain ⟨its,rv,p,hz⟩:=I1.list hq;refine ycm p.isList ?_;refine ⟨s1.heap.objs.size,[s1.heap.objs.size],_,_,H1,rfl,I1.kept (t':=s1.toks) fun b o e=>yad _ e,zj7 a _,⟨_,yar _ rfl,rfl,rfl⟩,fun b hb=>?_,q⟩
 have e:b=s1.heap.objs.size:=by simpa using hb
 subst e;exact I1.fpOk (yam _) (I1.hok.fresh (yam _))
def zsf{l:Expr}{tl:TE}(hl:PE X l tl):PI X tg l (zzJ X.K tl):=by
 intro pins s σ H R I h;refine thn (hl pins s σ H _ I h) fun v s1 ⟨x,H1,I1,r1,q1⟩=>?_
 obtain ⟨a,e,⟨xs,hq⟩,q⟩:=q1;subst e;cases r1;obtain ⟨its,rv,p,hz⟩:=I1.tuple hq;refine yb9 (show s1.heap.IsTuple a its.toArray from p) ?_;refine ⟨s1.heap.objs.size,[s1.heap.objs.size],_,_,H1,rfl,I1.kept (t':=s1.toks) fun b o e=>yad _ e,zjh a _,⟨_,yar _ rfl,rfl,rfl⟩,fun b hb=>?_,q⟩
 have e:b=s1.heap.objs.size:=by simpa using hb
 subst e;exact I1.fpOk (yam _) (I1.hok.fresh (yam _))
def ziD{pins:Z3}{σ:St}{H:Hp}{s:Shared}{R:It->Hp->Prop}{E:Z5}{lo hi:Int}{t u v:Tok}{tk:Nat}(I:Inv X pins σ H s)(h1:-(2 ^ 62)<=lo)(h2:lo<2 ^ 62)(h3:-(2 ^ 62)<=hi)(h4:hi<2 ^ 62)
  (q:R (Itr lo (hi-lo).toNat) H):wpAny (model X.prog X.w) X.A (pyIter (.ref s.heap.objs.size)) (PIE X pins σ tg R) E { s with heap:=s.heap.push { cls:=.type "range",data:=.fields #[.int lo t,.int hi u,.int 1 v] },toks:=tk }:=by
 refine wpAny_pyIter_range (IsRange.new ..) (small_one h1 h2 h3 h4) ?_;have I1:Inv X pins σ H { s with heap:=s.heap.push { cls:=.type "range",data:=.fields #[.int lo t,.int hi u,.int 1 v] },toks:=tk }:=I.kept fun b o e=>yad _ e
 refine ⟨(s.heap.push { cls:=.type "range",data:=.fields #[.int lo t,.int hi u,.int 1 v] }).objs.size,[(s.heap.push { cls:=.type "range",data:=.fields #[.int lo t,.int hi u,.int 1 v] }).objs.size],_,_,H,rfl,
  I1.kept (t':=tk) fun b o e=>yad _ e,zji _ lo (hi-lo).toNat,?_,fun b hb=>?_,q⟩
 ·have e1:lo+((0:Nat):Int)*1=lo:=by simp
  have e2:(((hi-lo).toNat:Nat):Int)-((0:Nat):Int)=Builtin.Range.rangeSize lo hi 1:=by rw [rangeSize_one];split<;>omega
  show IsRangeIter _ _ (lo+((0:Nat):Int)*1) ((((hi-lo).toNat:Nat):Int)-((0:Nat):Int)) 1;rw [e1,e2];exact yar _ rfl
 ·have e:b=(s.heap.push { cls:=.type "range",data:=.fields #[.int lo t,.int hi u,.int 1 v] }).objs.size:=by simpa using hb
  subst e;exact I1.fpOk (yam _) (I1.hok.fresh (yam _))
def zv0(ta:TA):TI:=fun σ H R=>ta σ H fun vs H1=>∃j:Int,vs=[.int j]/\-(2 ^ 62)<=j/\j<2 ^ 62/\R (Itr 0 j.toNat) H1
def zvZ(ta:TA):TI:=fun σ H R=>ta σ H fun vs H1=>∃i j:Int,vs=[.int i,.int j]/\(-(2 ^ 62)<=i/\i<2 ^ 62/\-(2 ^ 62)<=j/\j<2 ^ 62)/\R (Itr i (j-i).toNat) H1
def zkS{a:Expr}{ta:TA}{p pos:Pos}(hg:Gl X "range")(hm:X.mg "range" = none)(ha:PA X [a] ta)(hs:starEach [a] X.env=[(false,eval a X.env)]:=by rfl):PI X tg (.Call (.Name "range" p) [a] [] pos) (zv0 ta):=by
 intro pins s σ H R I h;refine Call_ (zdt I hg hm boot_range (yaO (thn (ha pos pins s σ H _ I h) fun us s1 ⟨vs,H1,I1,r1,q1⟩=>?_) hs rfl));obtain ⟨j,e,q1,q2,q⟩:=q1;subst e
 cases r1 with
 | cons r rr =>
  cases rr;obtain ⟨t,rfl⟩:=r;exact call_range_1 (ziD I1 (by omega) (by omega) q1 q2 (by simpa using q))
def zkR{a b:Expr}{ta:TA}{p pos:Pos}(hg:Gl X "range")(hm:X.mg "range" = none)(ha:PA X [a,b] ta)(hs:starEach [a,b] X.env=[(false,eval a X.env),(false,eval b X.env)]:=by rfl)(hs2:starEach [b] X.env=[(false,eval b X.env)]:=by rfl) :
  PI X tg (.Call (.Name "range" p) [a,b] [] pos) (zvZ ta):=by
 intro pins s σ H R I h;refine Call_ (zdt I hg hm boot_range (yaO (thn (ha pos pins s σ H _ I h) fun us s1 ⟨vs,H1,I1,r1,q1⟩=>?_) (by rw [hs,hs2]) (by rw [hs2];rfl)));obtain ⟨i,j,e,⟨q1,q2,q3,q4⟩,q⟩:=q1;subst e
 cases r1 with
 | cons r rr =>
  cases rr with
  | cons r' rr =>
   cases rr;obtain ⟨t,rfl⟩:=r;obtain ⟨t',rfl⟩:=r';exact call_range_2 (ziD I1 q1 q2 q3 q4 q)
def zyX(wi:TI)(g:TG)(tb:TS):TS:=fun D σ H=>wi σ H fun J H1=>∃W:Nat->Nat->St->Hp->Prop,(∃m,W 0 m σ H1)/\∀i m σ H,W i m σ H →
 (J.stop i H/\D.nx σ H)\/(J.go i H/\∃N:St->Hp->Prop,(∀σ' H',N σ' H'->∃m',m'<m/\W (i+1) m' σ' H')/\∀x H',J.yld i H x H'->g x σ H' fun σ2 H2=>tb { D with nx:=N,ct:=N,bk:=D.nx } σ2 H2)
def zg3(fp:List Addr)(h:Heap):List (Addr×Obj):=fp.filterMap fun b=>(h.get? b).map fun o=>(b,o)
def zdc{fp:List Addr}{h:Heap}{b:Addr}{o:Obj}(hb:b∈fp)(e:h.get? b=some o):(b,o)∈zg3 fp h:=yca.mpr ⟨b,hb,by rw [e];rfl⟩
def zk6{fp:List Addr}{h:Heap}{p:Addr×Obj}(hp:p∈zg3 fp h):p.1∈fp/\h.get? p.1=some p.2:=by
 obtain ⟨b,hb,e⟩:=yca.mp hp
 cases q:h.get? b with
 | none=>rw [q] at e;cases e
 | some o =>
  rw [q] at e;have e':(b,o)=p:=Option.some.inj e;subst e';exact ⟨hb,q⟩
def Inv.pinned{pins:Z3}{σ:St}{H:Hp}{s:Shared}{fp:List Addr}(I:Inv X pins σ H s)(hf:∀b∈fp,zmb X pins H b)(ho:∀b∈fp,∃o,s.heap.get? b=some o/\∀v,o.data≠.cell v):Inv X (pins++zg3 fp s.heap) σ H s :=
 I.pins_of fun p hp=>(ybM.mp hp).elim (fun z=>I.pin p (yaK _ z)) fun z=>by
  obtain ⟨hb,e⟩:=zk6 z;obtain ⟨f0,f1,f2,_⟩:=hf p.1 hb;obtain ⟨o,e',d⟩:=ho p.1 hb;rw [e] at e';cases e';exact ⟨e,f0,f1,f2,d⟩
def Inv.unpinned{pins pl:Z3}{σ:St}{H:Hp}{s:Shared}(I:Inv X (pins++pl) σ H s):Inv X pins σ H s:=I.pins_of fun p hp=>I.pin p (yaK _ (ycw _ hp))
def zsd{iter:Expr}{body:List Stmt}{wi:TI}{g:TG}{tb:TS}{pos:Pos}(hp:PassesOwn (model X.prog X.w) X.A X.env X.xe)(hc:X.calm=true)(hi:PI X tg iter wi)(hg:PG X tg g)(hb:PSs X body tb)
  (hs:∀x,foldedSetIterable iter X.env x=pure x:=by intro _;rfl):PS X (.For tg iter body [] pos) (zyX wi g tb):=by
 intro pins s σ H D I h;refine wpAny_For (thn (hi pins s σ H _ I h) fun v s1 h1=>thn h1 fun itv s2 h2=>?_) hs;obtain ⟨it,fp,tn,J,H2,e,I2,T,st2,f2,W,⟨m0,w0⟩,turn⟩:=h2;subst e;have stat:∀{H':Hp},(∀b∈fp,H' b=none)->∀b∈fp,zmb X pins H' b:=fun hn b hb=>⟨hn b hb,(f2 b hb).2⟩
 refine codeAny_forLoop_any (fun n s'=>∃i σ' H',Inv X pins σ' H' s'/\tn i s'.heap/\(∀b∈fp,H' b=none)/\W i n σ' H') ?_ m0 ⟨0,σ,H2,I2,st2,fun b hb=>(f2 b hb).1,w0⟩;rintro n s3 ⟨i,σ3,H3,I3,st3,fr3,w3⟩
 rcases turn i n σ3 H3 w3 with ⟨stop,qn⟩ | ⟨go,N,hN,step⟩
 ·refine ycb hp (thn (T.done X rfl rfl rfl hc i pins s3 σ3 H3 X.xe I3 (stat fr3) st3 stop) fun r s4 ⟨hr,I4⟩=>?_);subst hr;exact ycF ⟨σ3,H3,I4,qn⟩
 ·refine ycb hp (thn (T.item X rfl rfl rfl hc i pins s3 σ3 H3 X.xe I3 (stat fr3) st3 go) fun r s4 ⟨u,hr,h4⟩=>?_);subst hr;refine ycb hp (thn h4 fun _ s5 ⟨x,H5,I5,r5,y5,st5,fr5⟩=>?_);have I5':=I5.pinned (stat fr5) (T.obj _ _ st5);refine ycb hp (thn (hg _ s5 σ3 H5 x u _ I5' r5 (step x H5 y5)) fun _ s6 ⟨σ6,H6,I6,q6⟩=>?_);refine ycb hp (thn (hb _ s6 σ6 H6 _ I6 q6) fun f s7 q7=>?_)
  have again:∀{σ7:St} {H7:Hp},Inv X (pins++zg3 fp s5.heap) σ7 H7 s7->N σ7 H7->∃m,m<n/\∃i σ' H',Inv X pins σ' H' s7/\tn i s7.heap/\(∀b∈fp,H' b=none)/\W i m σ' H':=fun {σ7 H7} I7 n7=>by
   obtain ⟨m',hm,w7⟩:=hN σ7 H7 n7;refine ⟨m',hm,i+1,σ7,H7,I7.unpinned,T.keep _ _ _ st5 fun b hb o e=>(I7.pin (b,o) (yaK _ (yaK _ (zdc hb e)))).1,fun b hb=>?_,w7⟩;obtain ⟨o,e,d⟩:=T.obj _ _ st5 b hb;exact (I7.pin (b,o) (yaK _ (yaK _ (zdc hb e)))).2.1
  cases f with
  | next=>obtain ⟨σ7,H7,I7,n7⟩:=q7;exact again I7 n7
  | cont=>obtain ⟨σ7,H7,I7,n7⟩:=q7;exact again I7 n7
  | brk=>obtain ⟨σ7,H7,I7,q7⟩:=q7;exact ⟨σ7,H7,I7.unpinned,q7⟩
  | ret v=>obtain ⟨x7,σ7,H7,I7,r7,q7⟩:=q7;exact ⟨x7,σ7,H7,I7.unpinned,r7,q7⟩
end
end L2
namespace L2
open PySem PySem.Spec PyProof.Rows
abbrev R2:=V->V->Hp->VK->Prop
def OpR(X:Cx)(f:Value->Value->Sem Value)(r:R2):Prop :=
 ∀(pins:Z3) (s:Shared) (σ:St) (H:Hp) (x y:V) (v u:Value) (Q:VK),Inv X pins σ H s->za2 x v->za2 y u->r x y H Q →
  wpAny (model X.prog X.w) X.A (f v u) (EP X pins σ Q) X.xe s
def UnR(X:Cx)(f:Value->Sem Value)(r:V->Hp->VK->Prop):Prop :=
 ∀(pins:Z3) (s:Shared) (σ:St) (H:Hp) (x:V) (v:Value) (Q:VK),Inv X pins σ H s->za2 x v->r x H Q →
  wpAny (model X.prog X.w) X.A (f v) (EP X pins σ Q) X.xe s
def zd4(X:Cx)(f:Value)(r:List V->Hp->VK->Prop):Prop :=
 ∀(pins:Z3) (s:Shared) (σ:St) (H:Hp) (xs:List V) (us:List Value) (Q:VK),Inv X pins σ H s->Vals xs us->r xs H Q →
  wpAny (model X.prog X.w) X.A (call f us) (EP X pins σ Q) X.xe s
def tOp(r:R2)(ta tb:TE):TE:=fun σ H Q=>ta σ H fun x H1=>tb σ H1 fun y H2=>r x y H2 Q
def tUn(r:V->Hp->VK->Prop)(ta:TE):TE:=fun σ H Q=>ta σ H fun x H1=>r x H1 Q
def rI(C:Int->Int->Prop)(g:Int->Int->V):R2:=fun x y H Q=>∃i j,x=.int i/\y=.int j/\C i j/\Q (g i j) H
def rI0(g:Int->Int->V):R2:=fun x y H Q=>∃i j,x=.int i/\y=.int j/\Q (g i j) H
def rU(g:Int->V):V->Hp->VK->Prop:=fun x H Q=>∃i,x=.int i/\Q (g i) H
section
variable{X:Cx}{a b c:Expr}{ta tb tc:TE}{pos:Pos}
def zwc(ha:PE X a ta)(hb:PE X b tb){pins:Z3}{s:Shared}{σ:St}{H:Hp}{R:V->V->Hp->Prop}(I:Inv X pins σ H s)
  (h:ta σ H fun x H1=>tb σ H1 fun y H2=>R x y H2) {Q:Z5} {f:Value->Value->Sem Value}
  (hf:∀v u s2 x y H2,Inv X pins σ H2 s2->za2 x v->za2 y u->R x y H2->wpAny (model X.prog X.w) X.A (f v u) Q X.xe s2) :
  wpAny (model X.prog X.w) X.A (eval a X.env) (fun v s₁=>wpAny (model X.prog X.w) X.A (eval b X.env) (fun u s₂=>wpAny (model X.prog X.w) X.A (f v u) Q X.xe s₂) X.xe s₁) X.xe s:=by
 refine thn (ha pins s σ H _ I h) fun v s1 ⟨x,H1,I1,r1,q1⟩=>?_
 refine thn (hb pins s1 σ H1 _ I1 q1) fun u s2 ⟨y,H2,I2,r2,q2⟩=>?_
 exact hf v u s2 x y H2 I2 r1 r2 q2
def zsk{op:Operator}{r:R2}(ho:OpR X (binaryOp op) r)(ha:PE X a ta)(hb:PE X b tb):PE X (.BinOp a op b pos) (tOp r ta tb):=by
 intro pins s σ H Q I h;exact wpAny_BinOp (zwc ha hb I h fun v u s2 x y H2 I2 rx ry q=>ho pins s2 σ H2 x y v u Q I2 rx ry q)
def zvr{op:UnaryOp}{r:V->Hp->VK->Prop}(ho:UnR X (unaryOp op) r)(ha:PE X a ta):PE X (.UnaryOp op a pos) (tUn r ta):=by
 intro pins s σ H Q I h;exact UnaryOp_ (thn (ha pins s σ H _ I h) fun v s1 ⟨x,H1,I1,r1,q1⟩=>ho pins s1 σ H1 x v Q I1 r1 q1)
def opI{f:Value->Value->Sem Value}{C:Int->Int->Prop}{g:Int->Int->Int}
  (rule:∀(i j:Int) (t u:Tok) (s:Shared) (Q:Z5) (E:Z5),C i j->Q (.int (g i j) s.toks) { s with toks:=s.toks+1 }->wpAny (model X.prog X.w) X.A (f (.int i t) (.int j u)) Q E s) :
  OpR X f (rI C fun i j=>.int (g i j)):=by
 intro pins s σ H x y v u Q I rx ry h;obtain ⟨i,j,rfl,rfl,hc,q⟩:=h;obtain ⟨t,rfl⟩:=rx;obtain ⟨t',rfl⟩:=ry;exact rule i j t t' s _ _ hc ⟨.int (g i j),H,I.tok _,⟨_,rfl⟩,q⟩
def zxb{f:Value->Value->Sem Value}{g:Int->Int->Int}
  (rule:∀(i j:Int) (t u:Tok) (s:Shared) (Q:Z5) (E:Z5),Q (.int (g i j) s.toks) { s with toks:=s.toks+1 }->wpAny (model X.prog X.w) X.A (f (.int i t) (.int j u)) Q E s) :
  OpR X f (rI0 fun i j=>.int (g i j)):=by
 intro pins s σ H x y v u Q I rx ry h;obtain ⟨i,j,rfl,rfl,q⟩:=h;obtain ⟨t,rfl⟩:=rx;obtain ⟨t',rfl⟩:=ry;exact rule i j t t' s _ _ ⟨.int (g i j),H,I.tok _,⟨_,rfl⟩,q⟩
def zt8{f:Value->Value->Sem Value}{g:Int->Int->Bool}
  (rule:∀(i j:Int) (t u:Tok) (s:Shared) (Q:Z5) (E:Z5),Q (.bool (g i j)) s->wpAny (model X.prog X.w) X.A (f (.int i t) (.int j u)) Q E s) :
  OpR X f (rI0 fun i j=>.bl (g i j)):=by
 intro pins s σ H x y v u Q I rx ry h;obtain ⟨i,j,rfl,rfl,q⟩:=h;obtain ⟨t,rfl⟩:=rx;obtain ⟨t',rfl⟩:=ry;exact rule i j t t' s _ _ ⟨.bl (g i j),H,I,rfl,q⟩
def zzV(i j:Int):Prop:=0<j/\j<1073741824
def zwq(i j:Int):Prop:=(-(2 ^ 64)<i/\i<2 ^ 64)\/(-(2 ^ 64)<j/\j<2 ^ 64)
def zwq.ok{i j:Int}(h:zwq i j):IntMulOk i j:=by
 rcases h with ⟨h1,h2⟩ | ⟨h1,h2⟩
 ·exact .of_left (intBits_le_64 h1 h2)
 ·exact .of_right (intBits_le_64 h1 h2)
def zsy:OpR X (binaryOp .Add) (rI0 fun i j=>.int (i+j)):=zxb fun _ _ _ _ _ _ _ q=>add_int q
def zst:OpR X (binaryOp .Sub) (rI0 fun i j=>.int (i-j)):=zxb fun _ _ _ _ _ _ _ q=>sub_int q
def zsu:OpR X (binaryOp .Mult) (rI zwq fun i j=>.int (i*j)):=opI fun _ _ _ _ _ _ _ hc q=>mul_int q hc.ok
def zpL:OpR X (binaryOp .FloorDiv) (rI zzV fun i j=>.int (i / j)):=opI fun i j _ _ _ _ _ hc q=>by
 have h1:(0:Int)<j:=hc.1;have h2:j<1073741824:=hc.2;exact floordiv_int (by omega) (by rw [Int.fdiv_eq_ediv_of_nonneg i (by omega)];exact q) (.inl (PyProof.noPylong_small (by omega)))
def zsv:OpR X (binaryOp .Mod) (rI (fun _ j=>0<j) fun i j=>.int (i % j)):=opI fun i j _ _ _ _ _ hc q=>by
 have h1:(0:Int)<j:=hc;exact mod_int' (by omega) (by rw [Int.fmod_eq_emod_of_nonneg i (by omega)];exact q)
def unI{f:Value->Sem Value}{g:Int->Int}
  (rule:∀(i:Int) (t:Tok) (s:Shared) (Q:Z5) (E:Z5),Q (.int (g i) s.toks) { s with toks:=s.toks+1 }->wpAny (model X.prog X.w) X.A (f (.int i t)) Q E s) :
  UnR X f (rU fun i=>.int (g i)):=by
 intro pins s σ H x v Q I rx h;obtain ⟨i,rfl,q⟩:=h;obtain ⟨t,rfl⟩:=rx;exact rule i t s _ _ ⟨.int (g i),H,I.tok _,⟨_,rfl⟩,q⟩
def zrg:UnR X (unaryOp .USub) (rU fun i=>.int (-i)):=unI fun _ _ _ _ _ q=>neg_int q
end
section
variable{X:Cx}{a b c:Expr}{ta tb tc:TE}{pos:Pos}
def zov{pins:Z3}{σ:St}{H:Hp}{s:Shared}{Q:VK}{k k':Bool}(I:Inv X pins σ H s)(q:Q (.bl k) H)(e:k=k'):EP X pins σ Q (.bool k') s:=by
 subst e;exact ⟨.bl k,H,I,rfl,q⟩
def zvu:OpR X (compareOp .Lt) (rI0 fun i j=>.bl (decide (i<j))):=zt8 fun _ _ _ _ _ _ _ q=>lt_int q
def zvv:OpR X (compareOp .LtE) (rI0 fun i j=>.bl (decide (i<=j))):=zt8 fun _ _ _ _ _ _ _ q=>le_int q
def zvw:OpR X (compareOp .Gt) (rI0 fun i j=>.bl (decide (j<i))):=zt8 fun _ _ _ _ _ _ _ q=>gt_int q
def zvx:OpR X (compareOp .GtE) (rI0 fun i j=>.bl (decide (j<=i))):=zt8 fun _ _ _ _ _ _ _ q=>ge_int q
def zsw:OpR X (compareOp .Is) (fun x y H Q=>y=.non/\Q (.bl (decide (x=.non))) H):=by
 intro pins s σ H x y v u Q I rx ry h;obtain ⟨rfl,q⟩:=h;cases ry;refine is_none_gen (zov I q ?_)
 cases x<;>first
  | (cases rx;rfl)
  | (obtain ⟨t,rfl⟩:=rx;rfl)
def zpK:OpR X (compareOp .IsNot) (fun x y H Q=>y=.non/\Q (.bl (!decide (x=.non))) H):=by
 intro pins s σ H x y v u Q I rx ry h;obtain ⟨rfl,q⟩:=h;cases ry;refine isnot_none_gen (zov I q ?_)
 cases x<;>first
  | (cases rx;rfl)
  | (obtain ⟨t,rfl⟩:=rx;rfl)
def zkW{op:CmpOp}{r:R2}(ho:OpR X (compareOp op) r)(ha:PE X a ta)(hb:PE X b tb)(hm:behindInMarks op b=false):PE X (.Compare a [op] [b] pos) (tOp r ta tb):=by
 intro pins s σ H Q I h;exact wpAny_Compare1 (zwc ha hb I h fun v u s2 x y H2 I2 rx ry q=>ho pins s2 σ H2 x y v u Q I2 rx ry q) hm
def zoT(t:TE):TT:=fun σ H Q=>t σ H fun x H'=>∃k,x=.bl k/\Q k H'
def zkK{op:CmpOp}{r:R2}(ho:OpR X (compareOp op) r)(ha:PE X a ta)(hb:PE X b tb)(hm:behindInMarks op b=false):PT X (.Compare a [op] [b] pos) (zoT (tOp r ta tb)):=by
 intro pins s σ H Q I h
 refine wpAny_isTrue_Compare1 (thn (ha pins s σ H _ I h) fun v s1 ⟨x,H1,I1,r1,q1⟩=>thn (hb pins s1 σ H1 _ I1 q1) fun u s2 ⟨y,H2,I2,r2,q2⟩ =>
  thn (ho pins s2 σ H2 x y v u _ I2 r1 r2 q2) fun c s3 ⟨z,H3,I3,r3,k,e,q3⟩=>?_) hm
 subst e;cases r3;exact ybe ⟨H3,I3,q3⟩
def zkk(r r':R2)(ta tb tc:TE):TE:=fun σ H Q=>ta σ H fun x H1=>tb σ H1 fun y H2=>r x y H2 fun z H3=>∃k,z=.bl k ∧
 (if k=true then tc σ H3 fun w' H4=>r' y w' H4 Q else Q (.bl false) H3)
def zmU{op op':CmpOp}{r r':R2}(ho:OpR X (compareOp op) r)(ho':OpR X (compareOp op') r')(ha:PE X a ta)(hb:PE X b tb)(hc:PE X c tc)
  (hm:lastMarks [op,op'] [b,c]=false:=by with_unfolding_all rfl):PE X (.Compare a [op,op'] [b,c] pos) (zkk r r' ta tb tc):=by
 intro pins s σ H Q I h
 refine Compare_chain (thn (ha pins s σ H _ I h) fun v s1 ⟨x,H1,I1,r1,q1⟩=>chain_link (thn (hb pins s1 σ H1 _ I1 q1) fun u s2 ⟨y,H2,I2,r2,q2⟩ =>
  thn (ho pins s2 σ H2 x y v u _ I2 r1 r2 q2) fun d s3 ⟨z,H3,I3,r3,k,e,q3⟩=>?_)) hm
 subst e;cases r3;refine ybe ?_
 cases k with
 | false=>exact ite_ff ⟨.bl false,H3,I3,rfl,q3⟩
 | true=>exact ite_tt (chain_last (thn (hc pins s3 σ H3 _ I3 q3) fun w' s4 ⟨z',H4,I4,r4,q4⟩=>ho' pins s4 σ H4 y z' u w' Q I4 r2 r4 q4))
def zmF{op op':CmpOp}{r r':R2}(ho:OpR X (compareOp op) r)(ho':OpR X (compareOp op') r')(ha:PE X a ta)(hb:PE X b tb)(hc:PE X c tc)
  (hm:lastMarks [op,op'] [b,c]=false:=by with_unfolding_all rfl):PT X (.Compare a [op,op'] [b,c] pos) (zoT (zkk r r' ta tb tc)):=by
 intro pins s σ H Q I h
 refine isTrue_chain (thn (ha pins s σ H _ I h) fun v s1 ⟨x,H1,I1,r1,q1⟩=>test_link (thn (hb pins s1 σ H1 _ I1 q1) fun u s2 ⟨y,H2,I2,r2,q2⟩ =>
  thn (ho pins s2 σ H2 x y v u _ I2 r1 r2 q2) fun d s3 ⟨z,H3,I3,r3,k,e,q3⟩=>?_)) hm
 subst e;cases r3;refine ybe ?_
 cases k with
 | false =>
  obtain ⟨k',e',q'⟩:=q3;cases e';exact ite_ff ⟨H3,I3,q'⟩
 | true =>
  refine ite_tt (test_last (thn (hc pins s3 σ H3 _ I3 q3) fun w' s4 ⟨z',H4,I4,r4,q4⟩=>thn (ho' pins s4 σ H4 y z' u w' _ I4 r2 r4 q4) fun d' s5 ⟨z2,H5,I5,r5,k2,e2,q5⟩=>?_));subst e2;cases r5;exact ybe ⟨H5,I5,q5⟩
def zhc:(sizeLine:Nat)<2 ^ 63:=by rw [sizeLine_eq];decide
def zjt:OpR X (binaryOp .Add) (fun x y H Q=>∃i j,x=.str i/\y=.str j/\i.length+j.length<=sizeLine/\Q (.str (i++j)) H):=by
 intro pins s σ H x y v u Q I rx ry h;obtain ⟨i,j,rfl,rfl,hz,q⟩:=h;obtain ⟨t,rfl⟩:=rx;obtain ⟨t',rfl⟩:=ry;exact add_str (fun t' tk=>⟨.str (i++j),H,I.tok _,⟨_,rfl⟩,q⟩) hz
def zhD{x:V}{us:List Value}(r:Vals [x] us):∃u,us=[u]/\za2 x u:=by
 cases r with
 | cons r1 r2=>cases r2;exact ⟨_,rfl,r1⟩
def zur{x y:V}{us:List Value}(r:Vals [x,y] us):∃u w',us=[u,w']/\za2 x u/\za2 y w':=by
 cases r with
 | cons r1 r2 =>
  cases r2 with
  | cons r3 r4=>cases r4;exact ⟨_,_,rfl,r1,r3⟩
def zlX(hc:X.calm=true):zd4 X (.builtin "max") (fun xs H Q=>∃i j,xs=[.int i,.int j]/\Q (.int (if j > i then j else i)) H):=by
 intro pins s σ H xs us Q I r h;obtain ⟨i,j,rfl,q⟩:=h;obtain ⟨u,w',rfl,⟨t,rfl⟩,⟨t',rfl⟩⟩:=zur r;refine max_two_ints (I.ok.hd hc) fun h' tk k=>⟨_,H,I.kept k,?_,q⟩
 by_cases hj:j > i
 ·rw [if_pos hj,if_pos hj];exact ⟨_,rfl⟩
 ·rw [if_neg hj,if_neg hj];exact ⟨_,rfl⟩
end
end L2
namespace L2
open PySem PySem.Spec PyProof.Rows
structure ObjM(h:Heap)(x dx C:Addr)(mA:Z6):Prop where
 obj:h.get? x=some (PySem.W.instObj C dx)
 ns:h.Ns1 dx mA
 ne:dx≠x
def zld{h:Heap}{dx:Addr}{mA:Z6}(n:h.Ns1 dx mA):∃od,h.get? dx=some od/\∀name,PySem.W.lookIn name od=some (mA name):=by
 obtain ⟨o,es,ep,ho,hd,hk,_,hm⟩:=n;refine ⟨o,ho,fun name=>?_⟩;have e:=hm name;unfold nsFind findBy at e;rw [<-Array.find?_toList] at e;unfold PySem.W.lookIn;rw [hd];dsimp only;split
 ·rename_i y q;rw [q] at e;exact congrArg some e
 ·rename_i q;rw [q] at e
  have a:es.toList.any (·.refKey)=false:=by
   rw [List.any_eq_false];intro y hy;obtain ⟨z,t,hkey⟩:=hk y (Array.mem_toList_iff.mp hy);simp [DictEntry.refKey,hkey]
  have a':¬ es.toList.any (·.refKey)=true:=by rw [a];exact yba
  rw [if_neg a'];exact congrArg some e
def ObjM.look{h:Heap}{x dx C:Addr}{mA:Z6}(I:ObjM h x dx C mA):∃od,PySem.W.InstAt h x (PySem.W.instObj C dx) C (some od)/\∀name,PySem.W.lookIn name od=some (mA name) :=
 let ⟨od,ho,hl⟩:=zld I.ns
 ⟨od,⟨I.obj,rfl,rfl,ho⟩,hl⟩
section
variable{prog:Program}{w:World}{A:Around}{E:Z5}{s:Shared}{K:PySem.W.Frag}{x dx C f:Addr}{mA:Z6}{name:Str}{v:Value}
def zql{expr:Bool}{Q:Z5}(X:K.In s.heap)(I:ObjM s.heap x dx C mA)(hg:PySem.W.plainGet K C name=true)(hh:PySem.W.hasDictIn K C=true)
  (ha:PySem.W.findIn K (.ref C) name=some none) (hv:mA name=some v) (hv':PySem.W.handedIn v=true) (h:Q v { s with toks:=s.toks+1 }) :
  wpAny (model prog w) A (getAttr (.ref x) name expr) Q E s:=by
 obtain ⟨od,J,hl⟩:=I.look;exact PySem.W.get_value X J (ycG hg).1 (PySem.W.findObj_own hh ha rfl (by rw [hl,hv])) hv' h
def znr{pl:Sem Bool}{Q:Value×List Value->Shared->Prop}(X:K.In s.heap)(I:ObjM s.heap x dx C mA)(hg:PySem.W.plainGet K C name=true)
  (hf:PySem.W.findIn K (.ref C) name=some (some (.ref f))) (ht:PySem.W.isFn K (.ref f)=true) (hv:mA name=none) (h:Q (.ref f,[.ref x]) s) :
  wpAny (model prog w) A (getMethod (.ref x) name pl) Q E s:=by
 obtain ⟨od,J,hl⟩:=I.look;exact PySem.W.method_fn X J (ycG hg).1 (ycG hg).2 hf (ybS.mp ht) (by show (PySem.W.lookIn name od).map (·.isSome)=some false;rw [hl,hv];rfl) h
def zph{ns:List Str}{Q:Unit->Shared->Prop}(X:K.In s.heap)(I:ObjM s.heap x dx C mA)
  (hs:PySem.W.findIn K (.ref C) "__setattr__" = some (some (.builtin "object.__setattr__"))) (hp:PySem.W.plainOver K C=true) (ht:PySem.W.takerIn K C name=some none) (hh:PySem.W.hasDictIn K C=true)
  (hw:PySem.Within mA ns) (hsz:ns.length<=sizeLine)
  (h:∀h',ObjM h' x dx C (fun y=>if y=name then some v else mA y)->Heap.SameBut dx s.heap h'->Q () { s with heap:=h',toks:=s.toks+2 }) :
  wpAny (model prog w) A (setAttr (.ref x) name v) Q E s:=by
 obtain ⟨od,J,hl⟩:=I.look;refine PySem.W.set_plain X J hs (PySem.W.osa_open (s:={ s with toks:=s.toks+1 }) (r:=none) X J hp ht fun b=>?_);obtain ⟨cd,hc,hd'⟩:=PySem.W.any_some hh;have hx:s.heap.get? x=some ⟨.ref C,some dx,.plain,#[]⟩:=I.obj;refine yaa (yah (yaa (yaa (wpAny_loadPart hx (yaa (PySem.W.Looks.here (s:={ s with toks:=s.toks+1 }) (PySem.W.looks_clsIn X hc) ?_))))));rw [hd'];refine yah (a:=some dx) (yaa (yah (yaa ?_)));refine wpAny_nsSet1 (s:={ s with toks:=s.toks+1 }) I.ns fun h' hn2 hs2=>?_
 obtain ⟨oD,esD,epD,hoD,hdD,hcD⟩:=hn2.count (PySem.Within.cons name v hw);refine yaa (wpAny_lookBehind hoD (by rw [hdD];exact pastItsLine_dict (yaj hcD (by rw [yai];omega))) ?_);exact yah (h _ ⟨(hs2.2 _ (Ne.symm I.ne)).trans I.obj,hn2,I.ne⟩ hs2)
def zm9{R:Result->Shared->Prop}{vs:List Value}{kw:List (Str×Value)}(X:K.In s.heap)(hm:PySem.W.makesIn K C=true)
  (hi:PySem.W.findIn K (.ref C) "__init__" = some (some (.ref f))) (hf:PySem.W.typeIn K (.ref f)=some (.type "function"))
  (h:codeAny (model prog w) (A.under (.builtin "type.__call__" ⟨.ref C::vs,kw⟩)) (.call (.ref f) ⟨.ref (s.heap.objs.size+1)::vs,kw⟩) (PySem.W.InitBack (s.heap.objs.size+1) R)
   { s with heap:=(s.heap.push PySem.W.emptyDict).push (PySem.W.instObj C s.heap.objs.size) }) :
  codeAny (model prog w) A (.call (.ref C) ⟨vs,kw⟩) R s:=by
 obtain ⟨hh,g,d,t,os⟩:=s;exact PySem.W.make_core (PySem.W.makes_of X hm) (PySem.W.looks_findIn X hi) (fun self=>PySem.W.bind_fn X self hf) (.inl rfl) h
end
def zdy(f:Str)(v:V):List (Str×V)->List (Str×V)
 | []=>[(f,v)]
 | (g,x)::r=>if g=f then (g,v)::r else (g,x)::zdy f v r
theorem ze4(f g:Str)(v:V):∀fs:List (Str×V),(zdy f v fs).lookup g=if g=f then some v else fs.lookup g
 | []=>by
  show List.lookup g [(f,v)]=_
  by_cases h:g=f
  ·have hb:(g == f)=true:=ybS.mpr h;simp only [List.lookup,hb,if_pos h]
  ·have hb:(g == f)=false:=ya1.mpr h;simp only [List.lookup,hb,if_neg h]
 | (k,x)::r=>by
  have ih:=ze4 f g v r;rw [show zdy f v ((k,x)::r)=(if k=f then (k,v)::r else (k,x)::zdy f v r) from rfl]
  by_cases hk:k=f
  ·rw [if_pos hk]
   by_cases h:g=k
   ·have hb:(g == k)=true:=ybS.mpr h;simp only [List.lookup,hb,if_pos (h.trans hk)]
   ·have hb:(g == k)=false:=ya1.mpr h;simp only [List.lookup,hb,if_neg (fun e:g=f=>h (e.trans hk.symm))]
  ·rw [if_neg hk]
   by_cases h:g=k
   ·have hb:(g == k)=true:=ybS.mpr h;simp only [List.lookup,hb,if_neg (fun e:g=f=>hk (h.symm.trans e))]
   ·have hb:(g == k)=false:=ya1.mpr h;simp only [List.lookup,hb];exact ih
theorem ze6(f:Str)(v:V):∀fs:List (Str×V),f∈(zdy f v fs).map (·.1)/\∀g,g∈fs.map (·.1)->g∈(zdy f v fs).map (·.1)
 | []=>⟨by simp [zdy],fun g h=>by simp at h⟩
 | (k,x)::r=>by
  obtain ⟨i1,i2⟩:=ze6 f v r;rw [show zdy f v ((k,x)::r)=(if k=f then (k,v)::r else (k,x)::zdy f v r) from rfl]
  by_cases hk:k=f
  ·rw [if_pos hk];subst hk;exact ⟨by simp,fun g h=>by simpa using h⟩
  ·rw [if_neg hk];refine ⟨?_,fun g h=>?_⟩
   ·rw [yaq];exact yap _ i1
   ·rw [yaq] at h ⊢
    rcases yav.mp h with e | e
    ·exact yav.mpr (.inl e)
    ·exact yap _ (i2 g e)
theorem ze5(f:Str)(v:V):∀fs:List (Str×V),(zdy f v fs).length<=fs.length+1
 | []=>by simp [zdy]
 | (k,x)::r=>by
  have ih:=ze5 f v r;rw [show zdy f v ((k,x)::r)=(if k=f then (k,v)::r else (k,x)::zdy f v r) from rfl]
  by_cases hk:k=f
  ·rw [if_pos hk,yai,yai];omega
  ·rw [if_neg hk,yai,yai];omega
def zie.some_of{v:V}{o:Option Value}(r:zie (some v) o):∃u,o=some u/\za2 v u:=by
 cases o with
 | none=>exact (show False from r).elim
 | some u=>exact ⟨u,rfl,r⟩
def zie.none_of{o:Option Value}(r:zie none o):o=none:=by
 cases o with
 | none=>rfl
 | some u=>exact (show False from r).elim
def zlB{v:V}{u:Value}(r:za2 v u):PySem.W.handedIn u=true:=by
 cases v with
 | non=>cases (show u=Value.none from r);rfl
 | bl b=>cases (show u=Value.bool b from r);rfl
 | int i=>obtain ⟨t,e⟩:=(show ∃t,u=Value.int i t from r);cases e;rfl
 | str x=>obtain ⟨t,e⟩:=(show ∃t,u=Value.str x t from r);cases e;rfl
 | byt b=>obtain ⟨t,e⟩:=(show ∃t,u=Value.bytes b t from r);cases e;rfl
 | flt b=>obtain ⟨t,e⟩:=(show ∃t,u=Value.float b t from r);cases e;rfl
 | ref a=>cases (show u=Value.ref a from r);rfl
 | ty n=>cases (show u=Value.type n from r);rfl
section
variable{P:Program}{w:World}{H H':Hp}{h h':Heap}{a C dx:Addr}{fs fs':List (Str×V)}
def zgp(hok:HOk P w H h)(e:H a=some (.ins C dx fs)):∃mA,ObjM h a dx C mA/\(∀f,zie (fs.lookup f) (mA f))/\PySem.Within mA (fs.map (·.1))/\fs.length<=1000/\H dx=some (.own a):=by
 obtain ⟨d,z,ne,ob,mA,n,r,q⟩:=(show zbu P w H h a (.ins C dx fs) from hok a _ e);exact ⟨mA,⟨ob,n,ne⟩,r,q,z,d⟩
end
structure Cls(K:PySem.W.Frag)(C:Addr):Prop where
 pg:PySem.W.plainGet K C Str.empty=true
 hd:PySem.W.hasDictIn K C=true
 po:PySem.W.plainOver K C=true
 sa:PySem.W.findIn K (.ref C) "__setattr__" = some (some (.builtin "object.__setattr__"))
def Cls.get{K:PySem.W.Frag}{C:Addr}(c:Cls K C)(f:Str):PySem.W.plainGet K C f=true:=c.pg
def zdv(K:PySem.W.Frag)(C:Addr)(f:Str):Prop:=PySem.W.findIn K (.ref C) f=some none
def zdv.taker{K:PySem.W.Frag}{C:Addr}{f:Str}(n:zdv K C f):PySem.W.takerIn K C f=some none:=by
 unfold PySem.W.takerIn;rw [show PySem.W.findIn K (.ref C) f=some none from n];rfl
structure Meth(K:PySem.W.Frag)(C:Addr)(m:Str)(f:Addr):Prop where
 at_:PySem.W.findIn K (.ref C) m=some (some (.ref f))
 fn:PySem.W.isFn K (.ref f)=true
 kp:PySem.W.keepIn K (.ref f)=true
section
variable{X:Cx}{pins:Z3}{σ:St}{H:Hp}{s:Shared}{a C dx:Addr}{fs:List (Str×V)}{f:Str}{v:V}{A:Around}{E:Z5}
def zjG{b:Bool}{Q:Z5}(I:Inv X pins σ H s)(e:H a=some (.ins C dx fs))(c:Cls X.K C)(n:zdv X.K C f)(l:fs.lookup f=some v)
  (h:∀u s',Inv X pins σ H s'->za2 v u->Q u s'):wpAny (model X.prog X.w) A (getAttr (.ref a) f b) Q E s:=by
 obtain ⟨mA,O,r,_,_,_⟩:=zgp I.hok e;obtain ⟨u,hu,ru⟩:=zie.some_of (v:=v) (o:=mA f) (by rw [<-l];exact r f);exact zql I.kIn O (c.get f) c.hd n hu (zlB ru) (h u _ (I.tok _) ru)
def zfR{m:Str}{g:Addr}{pl:Sem Bool}{Q:Value×List Value->Shared->Prop}(I:Inv X pins σ H s)(e:H a=some (.ins C dx fs))(c:Cls X.K C)(k:Meth X.K C m g)(l:fs.lookup m=none)
  (h:Q (.ref g,[.ref a]) s):wpAny (model X.prog X.w) A (getMethod (.ref a) m pl) Q E s:=by
 obtain ⟨mA,O,r,_,_,_⟩:=zgp I.hok e;have hn:mA m=none:=zie.none_of (by rw [<-l];exact r m);exact znr I.kIn O (c.get m) k.at_ k.fn hn h
def zjn{y:V}{u:Value}{Q:Unit->Shared->Prop}(I:Inv X pins σ H s)(e:H a=some (.ins C dx fs))(c:Cls X.K C)(n:zdv X.K C f)(hl:fs.length<1000)(ry:za2 y u)
  (h:∀s',Inv X pins σ (upd H a (.ins C dx (zdy f y fs))) s'->Q () s'):wpAny (model X.prog X.w) A (setAttr (.ref a) f u) Q E s:=by
 obtain ⟨mA,O,r,wi,_,ho⟩:=zgp I.hok e
 have hz:(fs.map (·.1)).length<=sizeLine:=by rw [yaf,sizeLine_eq];omega
 refine zph I.kIn O c.sa c.po n.taker c.hd wi hz fun h' O' sb=>h _ ?_
 have hd:∃o,h'.get? dx=some o:=let ⟨o,_,_,e',_⟩:=O'.ns;⟨o,e'⟩
 refine I.write (x:=a) (e:=dx) (by rw [e];exact True.intro) (.inr ho) (fun b q hb z=>(sb.2 b hb).trans z) hd ?_;refine ⟨by rw [zal O.ne];exact ho,?_,O.ne,O'.obj,_,O'.ns,fun g=>?_,fun g hg=>?_⟩
 ·have:=ze5 f y fs;omega
 ·show zie ((zdy f y fs).lookup g) (if g=f then some u else mA g);rw [ze4]
  by_cases q:g=f
  ·rw [if_pos q,if_pos q];exact ry
  ·rw [if_neg q,if_neg q];exact r g
 ·by_cases q:g=f
  ·rw [q];exact (ze6 f y fs).1
  ·refine (ze6 f y fs).2 g (wi g fun z=>hg ?_);show (if g=f then some u else mA g)=none;rw [if_neg q];exact z
def Inv.made(I:Inv X pins σ H s):Inv X pins σ (upd (upd H s.heap.objs.size (.own (s.heap.objs.size+1))) (s.heap.objs.size+1) (.ins C s.heap.objs.size []))
  { s with heap:=(s.heap.push PySem.W.emptyDict).push (PySem.W.instObj C s.heap.objs.size) }:=by
 have e1:(s.heap.push PySem.W.emptyDict).get? s.heap.objs.size=some PySem.W.emptyDict:=yar s.heap rfl
 have e2:((s.heap.push PySem.W.emptyDict).push (PySem.W.instObj C s.heap.objs.size)).get? (s.heap.objs.size+1)=some (PySem.W.instObj C s.heap.objs.size):=by
  have:=yar (s.heap.push PySem.W.emptyDict) (o:=PySem.W.instObj C s.heap.objs.size) rfl
  rwa [yaV] at this
 have e3:(s.heap.push PySem.W.emptyDict).Ns s.heap.objs.size (fun _=>none):=⟨PySem.W.emptyDict,#[],_,e1,rfl,(fun e he=>absurd he (by simp)),fun _=>rfl⟩;have I1:=I.laid (a:=s.heap.objs.size) (o:=.own (s.heap.objs.size+1)) (h':=s.heap.push PySem.W.emptyDict) (t':=s.toks) (fun b u q=>yad _ q) (yam _) ⟨_,e1⟩;refine I1.laid (a:=s.heap.objs.size+1) (o:=.ins C s.heap.objs.size []) (t':=s.toks) (fun b u q=>yad _ q) (Nat.le_of_eq (yaV _ _)) ?_;have ne:s.heap.objs.size≠s.heap.objs.size+1:=yaB (yb3 _);refine ⟨by rw [zal ne,zaR],ybm _,ne,e2,fun _=>none,(Heap.Ns1.of_empty e3).at fun o q=>yad _ q,fun _=>True.intro,fun y hy=>absurd rfl hy⟩
def zqH{prog:Program}{w:World}{env:Env}{e:Expr}{f:Str}{pos:Pos}{s:Shared}{Q:Z5}(hb:attributeBase e f env (eval e env)=eval e env)
  (h:wpAny (model prog w) A (eval e env) (fun o s₁=>wpAny (model prog w) A (getAttr o f true) Q E s₁) E s):wpAny (model prog w) A (eval (.Attribute e f pos) env) Q E s :=
 Attribute_any_ h (by rw [arm_eval_Attribute,hb])
end
def zw3(K:PySem.W.Frag)(ta:TE)(f:Str):TE:=fun σ H Q=>ta σ H fun x H1=>∃a C dx fs v,x=.ref a/\H1 a=some (.ins C dx fs)/\Cls K C/\zdv K C f/\fs.lookup f=some v/\Q v H1
def zyZ(K:PySem.W.Frag)(ta tv:TE)(f:Str):TS:=fun D σ H=>tv σ H fun y H1=>ta σ H1 fun x H2=>∃a C dx fs,x=.ref a/\H2 a=some (.ins C dx fs)/\Cls K C/\zdv K C f/\fs.length<1000 ∧
 D.nx σ (upd H2 a (.ins C dx (zdy f y fs)))
def zyi(X:Cx)(op:Operator)(rd:V->V->Hp->VK->Prop):Prop :=
 ∀(pins:Z3) (s:Shared) (σ:St) (H:Hp) (x y:V) (u v:Value) (Q:VK),Inv X pins σ H s->za2 x u->za2 y v->rd x y H Q->wpAny (model X.prog X.w) X.A (inplaceOp op u v) (EP X pins σ Q) X.xe s
section
variable{X:Cx}{o e value:Expr}{f:Str}{pos pos' tpos:Pos}{ta tv:TE}
def zg4(he:PE X e ta)(hb:attributeBase e f X.env (eval e X.env)=eval e X.env):PE X (.Attribute e f pos) (zw3 X.K ta f):=by
 intro pins s σ H Q I h;refine zqH hb (thn (he pins s σ H _ I h) fun u s1 ⟨x,H1,I1,rx,a,C,dx,fs,v,ex,ea,c,n,l,q⟩=>?_);subst ex;obtain rfl:u=Value.ref a:=rx;exact zjG I1 ea c n l fun u' s2 I2 ru=>⟨v,H1,I2,ru,q⟩
def zoc(ha:PE X o ta)(hv:PE X value tv)(hs:swapsWith value (some (.Attribute o f pos')) pos.line X.env=pure false):PS X (.Assign [.Attribute o f pos'] value pos) (zyZ X.K ta tv f):=by
 intro pins s σ H D I h;refine plainObj_wpAny_Assign_Attribute (thn (hv pins s σ H _ I h) fun u s1 ⟨y,H1,I1,ry,q⟩=>thn (ha pins s1 σ H1 _ I1 q) fun ov s2 ⟨x,H2,I2,rx,a,C,dx,fs,ex,ea,c,n,l,q2⟩=>?_) hs;subst ex;obtain rfl:ov=Value.ref a:=rx;exact zjn I2 ea c n l ry fun s3 I3=>⟨σ,_,I3,q2⟩
def zxa:V->V->Hp->VK->Prop:=fun x y H Q=>∃i j,x=.int i/\y=.int j/\Q (.int (i+j)) H
def zw9:V->V->Hp->VK->Prop:=fun x y H Q=>∃i j,x=.int i/\y=.int j/\Q (.int (i-j)) H
def zth:zyi X .Add zxa:=by
 rintro pins s σ H x y u v Q I rx ry ⟨i,j,rfl,rfl,q⟩;obtain ⟨t,rfl⟩:=(show ∃t,u=Value.int i t from rx);obtain ⟨t',rfl⟩:=(show ∃t',v=Value.int j t' from ry);exact PyProof.Rows.iadd_int ⟨.int (i+j),H,I.tok _,⟨_,rfl⟩,q⟩
def ztg:zyi X .Sub zw9:=by
 rintro pins s σ H x y u v Q I rx ry ⟨i,j,rfl,rfl,q⟩;obtain ⟨t,rfl⟩:=(show ∃t,u=Value.int i t from rx);obtain ⟨t',rfl⟩:=(show ∃t',v=Value.int j t' from ry);exact PyProof.Rows.isub_int ⟨.int (i-j),H,I.tok _,⟨_,rfl⟩,q⟩
end
section
variable{X:Cx}{pins:Z3}{σ:St}{H:Hp}{s:Shared}{A:Around}{E:Z5}{Q:Z5}{c:Value}{b:Bool}
inductive TyOf(K:PySem.W.Frag)(H:Hp):V->Value->Prop where
 | non:TyOf K H .non (.type "NoneType")
 | bl (x:Bool):TyOf K H (.bl x) (.type "bool")
 | int (i:Int):TyOf K H (.int i) (.type "int")
 | str (x:Str):TyOf K H (.str x) (.type "str")
 | flt (x:UInt64):TyOf K H (.flt x) (.type "float")
 | lst {a:Addr} {xs:List V} (e:H a=some (.lst xs)):TyOf K H (.ref a) (.type "list")
 | frz {a:Addr} {o:Obj} {xs:List V} (e:H a=some (.frz o (.lst xs))):TyOf K H (.ref a) (.type "list")
 | tup {a:Addr} {xs:List V} (e:H a=some (.tup xs)):TyOf K H (.ref a) (.type "tuple")
 | dK {a:Addr} {kvs:List (Key×V)} (e:H a=some (.dK kvs)):TyOf K H (.ref a) (.type "dict")
 | dT {a:Addr} {kvs:List (List Key×V)} (e:H a=some (.dT kvs)):TyOf K H (.ref a) (.type "dict")
 | ins {a C dx:Addr} {fs:List (Str×V)} (e:H a=some (.ins C dx fs)) (cl:Cls K C) (ha:PySem.W.findIn K (.ref C) "__class__" = some (some (.builtin "object.__class__")))
   (hn:PySem.W.specialIn K (.builtin "object.__class__") "__get__" = some (some (.builtin "getset_descriptor.__get__"))) (htk:PySem.W.takesIn K (.builtin "object.__class__")=some true)
   (hm:PySem.W.mroIn K C (.type "object")=some true):TyOf K H (.ref a) (.ref C)
def zlr{x:V}{u t:Value}(I:Inv X pins σ H s)(rx:za2 x u)(ty:TyOf X.K H x t)(e:PySem.W.kitOne X.K t c=some b)(h:∀tk,Q (.bool b) { s with toks:=tk }) :
  wpAny (model X.prog X.w) A (call (.builtin "isinstance") [u,c]) Q E s:=by
 cases ty with
 | non=>cases (show u=Value.none from rx);exact ya4 PySem.W.kitx_none I.kIn True.intro e (fun z=>nomatch z) h
 | bl y=>cases (show u=Value.bool y from rx);exact ya4 PySem.W.kitx_bool I.kIn True.intro e (fun z=>nomatch z) h
 | int i=>obtain ⟨t,q⟩:=(show ∃t,u=Value.int i t from rx);cases q;exact ya4 PySem.W.kitx_int I.kIn True.intro e (fun z=>nomatch z) h
 | str y=>obtain ⟨t,q⟩:=(show ∃t,u=Value.str y t from rx);cases q;exact ya4 PySem.W.kitx_str I.kIn True.intro e (fun z=>nomatch z) h
 | flt y=>obtain ⟨t,q⟩:=(show ∃t,u=Value.float y t from rx);cases q;exact ya4 PySem.W.kitx_float I.kIn True.intro e (fun z=>nomatch z) h
 | @lst a xs ea =>
  cases (show u=Value.ref a from rx);obtain ⟨_,_,n,_,h1⟩:=(show zbu X.prog X.w H s.heap a (.lst xs) from I.hok a _ ea);exact ya4 PySem.W.kitx_list I.kIn ⟨_,h1,rfl⟩ e (fun z=>nomatch z) h
 | @frz a ob xs ea =>
  cases (show u=Value.ref a from rx);obtain ⟨_,_,_,n,_,h1⟩:=(show zbu X.prog X.w H s.heap a (.frz ob (.lst xs)) from I.hok a _ ea);exact ya4 PySem.W.kitx_list I.kIn ⟨_,h1,rfl⟩ e (fun z=>nomatch z) h
 | @tup a xs ea =>
  cases (show u=Value.ref a from rx);obtain ⟨_,_,_,p⟩:=(show zbu X.prog X.w H s.heap a (.tup xs) from I.hok a _ ea);obtain ⟨o,h1,h2,_⟩:=p;exact ya4 PySem.W.kitx_tuple I.kIn ⟨o,h1,h2⟩ e (fun z=>nomatch z) h
 | @dK a kvs ea =>
  cases (show u=Value.ref a from rx);obtain ⟨_,_,vs,_,p⟩:=(show zbu X.prog X.w H s.heap a (.dK kvs) from I.hok a _ ea);obtain ⟨o,es,ep,h1,h2,_⟩:=p;exact ya4 PySem.W.kitx_dict I.kIn ⟨o,h1,h2.1⟩ e (fun z=>nomatch z) h
 | @dT a kvs ea =>
  cases (show u=Value.ref a from rx);obtain ⟨_,_,xs,_,o,es,ep,h1,h2,_⟩:=(show zbu X.prog X.w H s.heap a (.dT kvs) from I.hok a _ ea);exact ya4 PySem.W.kitx_dict I.kIn ⟨o,h1,h2.1⟩ e (fun z=>nomatch z) h
 | @ins a C dx fs ea cl ha hn htk hm =>
  cases (show u=Value.ref a from rx);obtain ⟨mA,O,_⟩:=zgp I.hok ea;obtain ⟨od,J,_⟩:=O.look;exact ya4 (PySem.W.kitx_own (cl.get _) cl.hd ha hn htk hm) I.kIn J e (fun z=>nomatch z) h
end
end L2
namespace L2
open PySem PySem.Spec PyProof.Rows
structure Room(k:Nat)(A:Around):Prop where
 hd:A.handled=none
 dp:A.depth+3*k+5<recursionLimit
 un:A.units+16*k+200<cLine
def Room.mono{j k:Nat}{A:Around}(r:Room k A)(h:j<=k):Room j A:=⟨r.hd,by have:=r.dp;omega,by have:=r.un;omega⟩
theorem Room.deeper{k:Nat}{A:Around}(r:Room (k+1) A)(env:Env):Room k (A.deeper env) :=
 ⟨r.hd,by have:=r.dp;show A.depth+1+3*k+5<_;omega,by have:=r.un;show A.units+3+16*k+200<_;omega⟩
def zjA{A:Around}{C:Addr}{us:List Value}{kw:List (Str×Value)}:(A.under (.builtin "type.__call__" ⟨.ref C::us,kw⟩)).depth=A.depth+1:=by
 first | rfl | simp [Around.under,Code.weight,Code.isCreation,Code.isGuard,Code.isCaller,Code.frames,Code.isFrame,guardIds]
def zjz{A:Around}{C:Addr}{us:List Value}{kw:List (Str×Value)}:(A.under (.builtin "type.__call__" ⟨.ref C::us,kw⟩)).units=A.units+1:=by
 first | rfl | simp [Around.under,Code.cUnits,Code.frames,Code.isFrame]
def Room.make{k:Nat}{A:Around}(r:Room (k+1) A)(C:Addr)(us:List Value)(kw:List (Str×Value)):Room k (A.under (.builtin "type.__call__" ⟨.ref C::us,kw⟩)) :=
 ⟨r.hd,by have:=r.dp;rw [zjA];omega,by have:=r.un;rw [zjz];omega⟩
theorem Room.depth{k:Nat}{A:Around}(r:Room k A):A.depth<recursionLimit:=by have:=r.dp;omega
theorem Room.units{k:Nat}{A:Around}(r:Room k A):A.units+64<cLine:=by have:=r.un;omega
def zuO:TA:=fun _ H Q=>Q [] H
def zuU(ta:TE)(tr:TA):TA:=fun σ H Q=>ta σ H fun x H1=>tr σ H1 fun xs H2=>Q (x::xs) H2
section
variable{X:Cx}{e:Expr}{es:List Expr}{te:TE}{t:TA}{pos:Pos}
def zeX:PA X [] zuO:=fun _ _ _ _ H Q I h=>Calls.spliced_nil ⟨[],H,I,.nil,h⟩
def zcL(ha:PE X e te)(hr:PA X es t)(hs:starEach (e::es) X.env=(false,eval e X.env)::starEach es X.env:=by rfl):PA X (e::es) (zuU te t):=by
 intro pos pins s σ H Q I h;rw [hs];show wpAny _ _ (spliced ((false,eval e X.env)::backTo pos (starEach es X.env))) _ _ s;refine ycL (thn (ha pins s σ H _ I h) fun u s1 ⟨x,H1,I1,r1,q1⟩=>?_);exact thn (hr pos pins s1 σ H1 _ I1 q1) fun us s2 ⟨xs,H2,I2,r2,q2⟩=>⟨x::xs,H2,I2,.cons r1 r2,q2⟩
def zyQ(t:TA):TE:=fun σ H Q=>t σ H fun xs H1=>xs.length<=sizeLine/\∀p,H1 p=none->Q (.ref p) (upd H1 p (.tup xs))
def zyV(t:TA):TE:=fun σ H Q=>t σ H fun xs H1=>xs.length<=sizeLine/\∀p,H1 p=none->Q (.ref p) (upd H1 p (.lst xs))
def zsh{x1}(h:PA X es t):PE X (.Tuple es x1 pos) (zyQ t):=by
 intro pins s σ H Q I hq;refine wpAny_Tuple_spliced (thn (h pos pins s σ H _ I hq) fun us s1 ⟨xs,H1,I1,r,z,q⟩=>⟨by rw [<-r.length];exact z,?_⟩);have hf:H1 s1.heap.objs.size=none:=I1.hok.fresh (yam _);refine ⟨.ref s1.heap.objs.size,upd H1 s1.heap.objs.size (.tup xs),I1.laid (t':=s1.toks) (fun b u e=>yad _ e) (yam _) ?_,rfl,q _ hf⟩;exact ⟨z,us,r,⟨_,yar _ rfl,rfl,_,rfl⟩⟩
def zso(h:PA X es t):PE X (.List es pos) (zyV t):=by
 intro pins s σ H Q I hq;refine wpAny_List_spliced (thn (h pos pins s σ H _ I hq) fun us s1 ⟨xs,H1,I1,r,z,q⟩=>⟨by rw [<-r.length];exact z,?_⟩);have hf:H1 s1.heap.objs.size=none:=I1.hok.fresh (yam _);refine ⟨.ref s1.heap.objs.size,upd H1 s1.heap.objs.size (.lst xs),I1.laid (t':=s1.toks) (fun b u e=>yad _ e) (yam _) ?_,rfl,q _ hf⟩;exact ⟨z,us,0,r,yar _ rfl⟩
end
abbrev Sp:=List V->Hp->VK->XK->Prop
abbrev CXT:=List Env->Hp->Shared->XK->Value->Shared->Prop
structure Env0(P:Program)(w:World)(K:PySem.W.Frag)(mg:Z6)(base:Heap)(A:Around)(outer:List Env)(s:Shared)(H:Hp):Prop where
 frames:A.frames=some outer
 mod:Mod K mg base
 bs:∀b o,base.get? b=some o->s.heap.get? b=some o/\H b=none
 bsz:base.objs.size<=s.heap.objs.size
 funs:s.heap.FunFrames base outer
 frf:∀b∈frs outer,H b=none
 hok:HOk P w H s.heap
 bare:AllBare s.gens
def CE(outer:List Env)(P:Program)(w:World)(H:Hp)(s:Shared)(Q:VK)(u:Value)(s':Shared):Prop :=
 ∃v H',s'.os=s.os/\AllBare s'.gens/\Un (frs outer) [] H H' s.heap s'.heap/\HOk P w H' s'.heap/\za2 v u/\Q v H'
def CR(CX:CXT)(outer:List Env)(P:Program)(w:World)(H:Hp)(s:Shared)(Q:VK)(E:XK)(r:Result)(s':Shared):Prop :=
 match r with
 | .ok (.ret u)=>CE outer P w H s Q u s'
 | .ok _=>False
 | .error e=>CX outer H s E e s'
structure FnOk(P:Program)(w:World)(K:PySem.W.Frag)(mg:Z6)(base:Heap)(CX:CXT)(k:Nat)(f:Addr)(fd:FuncData)(ps:List Str)(sp:Sp):Prop where
 len:∀vs H Q E,sp vs H Q E->vs.length=ps.length
 run:∀(A:Around) (outer:List Env) (s:Shared) (H:Hp) (args:Args) (us:List Value) (vs:List V) (Q:VK) (E:XK),Room k A->Env0 P w K mg base A outer s H->BindsTo s fd args (ps.zip us)->Vals vs us->sp vs H Q E →
  codeAny (model P w) A (.call (.ref f) args) (CR CX outer P w H s Q E) s
theorem FnOk.mono{P:Program}{w:World}{K:PySem.W.Frag}{mg:Z6}{base:Heap}{CX:CXT}{j k:Nat}{f:Addr}{fd:FuncData}{ps:List Str}{sp:Sp}(F:FnOk P w K mg base CX j f fd ps sp)(h:j<=k) :
  FnOk P w K mg base CX k f fd ps sp:=⟨F.len,fun A outer s H args us vs Q E hr=>F.run A outer s H args us vs Q E (hr.mono h)⟩
def FnOk.imp{P:Program}{w:World}{K:PySem.W.Frag}{mg:Z6}{base:Heap}{CX:CXT}{k:Nat}{f:Addr}{fd:FuncData}{ps:List Str}{sp sp':Sp}(F:FnOk P w K mg base CX k f fd ps sp)
  (h:∀vs H Q E,sp' vs H Q E->sp vs H Q E):FnOk P w K mg base CX k f fd ps sp' :=
 ⟨fun vs H Q E q=>F.len vs H Q E (h _ _ _ _ q),fun A outer s H args us vs Q E hr he hb hv hs=>F.run A outer s H args us vs Q E hr he hb hv (h _ _ _ _ hs)⟩
def Env0.make{P:Program}{w:World}{K:PySem.W.Frag}{mg:Z6}{base:Heap}{A:Around}{outer:List Env}{s:Shared}{H:Hp}(e:Env0 P w K mg base A outer s H)(C:Addr)(us:List Value)(kw:List (Str×Value)) :
  Env0 P w K mg base (A.under (.builtin "type.__call__" ⟨.ref C::us,kw⟩)) outer s H:=⟨by first | exact e.frames | (simpa [Around.under,Code.envs,Code.isFrame,pushEnvs] using e.frames),e.mod,e.bs,e.bsz,e.funs,e.frf,e.hok,e.bare⟩
section
variable{X:Cx}{pins:Z3}{σ:St}{H:Hp}{s s':Shared}
def Inv.env0(I:Inv X pins σ H s):Env0 X.prog X.w X.K X.mg X.base X.A X.stack s H :=
 ⟨I.ok.frames,I.ok.mod,I.bs,yaj I.ok.bsz I.sz,I.stack,I.stkFree,I.hok,I.bare⟩
def Inv.after{Q:VK}{u:Value}(I:Inv X pins σ H s)(h:CE X.stack X.prog X.w H s Q u s'):EP X pins σ Q u s':=by
 obtain ⟨v,H',os,bare,un,hok,r,q⟩:=h;obtain ⟨hh,g,d,t,os'⟩:=s';obtain rfl:os'=s.os:=os;exact ⟨v,H',I.call (h':=hh) (g':=g) (d':=d) (t':=t) (ch:=[]) un hok bare (fun b z=>absurd z (by simp)),r,q⟩
end
def zcj(K:PySem.W.Frag)(fd:FuncData)(ps:List Str)(ds:List Value):Prop :=
 ∀(s:Shared) (us:List Value),K.In s.heap->(us++ds).length=ps.length->BindsTo s fd ⟨us,[]⟩ (ps.zip (us++ds))
def zcj.all{K:PySem.W.Frag}{fd:FuncData}{ps:List Str}(h:∀us:List Value,us.length=ps.length->bindArgs fd ⟨us,[]⟩=pure (ps.zip us)):zcj K fd ps []:=fun s us _ hl=>by
 rw [ya5] at hl ⊢;exact .of_eq (h us hl)
def ztX(CX:CXT)(X:Cx)(E:XK):Prop:=∀(pins:Z3) (σ:St) (H:Hp) (s:Shared) (e:Value) (s':Shared),Inv X pins σ H s->CX X.stack H s E e s'->X.xe e s'
section
variable{X:Cx}{CX:CXT}{k:Nat}{f C:Addr}{fd:FuncData}{ps:List Str}{sp:Sp}{dvs:List V}{ds:List Value}{E:XK}{x m:Str}{p pos apos:Pos}{e o:Expr}{es:List Expr}{ta:TE}{t:TA}
structure Mk(K:PySem.W.Frag)(C f:Addr):Prop where
 makes:PySem.W.makesIn K C=true
 init:PySem.W.findIn K (.ref C) "__init__" = some (some (.ref f))
 fn:PySem.W.isFn K (.ref f)=true
 kp:PySem.W.keepIn K (.ref C)=true
end
section
variable{X:Cx}{CX:CXT}{k:Nat}{f C:Addr}{fd:FuncData}{ps ks:List Str}{sp:Sp}{E:XK}{x m:Str}{p pos apos kpos:Pos}{e o:Expr}{es:List Expr}{kws:List Keyword}{te ta:TE}{t tk:TA}{nm:Option Str}
variable{g:List Value->List Value->List Value}{gV:List V->List V->List V}
end
structure FnScope(N P:List Str)(sc:Scope):Prop where
 kind:sc.kind=.function
 co:sc.isCoroutine=false
 gen:sc.isGenerator=false
 nd:N.Nodup
 pre:N.take P.length=P
 par:∀x∈P,sc.names.lookup x=some .local\/sc.names.lookup x=some .cell
 nofree:∀y∈sc.names,y.2≠.free
theorem zhv{kindOf:Str->Option NameKind}{x:Str}:∀{binds:List (Str×Value)} {m:Z6},(∀v,(x,v) ∉ binds)->bindL kindOf binds m x=m x
 | [],_,_=>rfl
 | (n,v)::r,m,h=>by
  unfold bindL;rw [zhv fun w hw=>h w (yap _ hw)];split
  ·have:x≠n:=by rintro rfl;exact h v yax
   simp [this]
  ·rfl
theorem zhx{kindOf:Str->Option NameKind}{x:Str}:∀{binds:List (Str×Value)} {m:Z6},(∀v,(x,v) ∉ binds)->bindC kindOf binds m x=m x
 | [],_,_=>rfl
 | (n,v)::r,m,h=>by
  unfold bindC;rw [zhx fun w hw=>h w (yap _ hw)];split
  ·rfl
  ·have:x≠n:=by rintro rfl;exact h v yax
   simp [this]
theorem zhw{kindOf:Str->Option NameKind}{x:Str}{v:Value}:∀{P:List Str} {vs:List Value} {i:Nat} {m:Z6},P.Nodup->P[i]?=some x->vs[i]?=some v->kindOf x=some .local →
  bindL kindOf (P.zip vs) m x=some v
 | [],_,_,_,_,h,_,_=>by simp at h
 | _::_,[],_,_,_,_,h,_=>by simp at h
 | p::P,w::vs,0,m,nd,h1,h2,hk=>by
  simp at h1 h2;subst h1;subst h2;show bindL kindOf ((p,w)::P.zip vs) m p=_;unfold bindL;rw [zhv fun v hv=>(ybg.mp nd).1 (List.of_mem_zip hv).1,if_pos hk];simp
 | p::P,w::vs,i+1,m,nd,h1,h2,hk=>by
  show bindL kindOf ((p,w)::P.zip vs) m x=_;unfold bindL;exact zhw (i:=i) (ybg.mp nd).2 (by simpa using h1) (by simpa using h2) hk
theorem zhy{kindOf:Str->Option NameKind}{x:Str}{v:Value}:∀{P:List Str} {vs:List Value} {i:Nat} {m:Z6},P.Nodup->P[i]?=some x->vs[i]?=some v->kindOf x≠some .local →
  bindC kindOf (P.zip vs) m x=some v
 | [],_,_,_,_,h,_,_=>by simp at h
 | _::_,[],_,_,_,_,h,_=>by simp at h
 | p::P,w::vs,0,m,nd,h1,h2,hk=>by
  simp at h1 h2;subst h1;subst h2;show bindC kindOf ((p,w)::P.zip vs) m p=_;unfold bindC;rw [zhx fun v hv=>(ybg.mp nd).1 (List.of_mem_zip hv).1,if_neg hk];simp
 | p::P,w::vs,i+1,m,nd,h1,h2,hk=>by
  show bindC kindOf ((p,w)::P.zip vs) m x=_;unfold bindC;exact zhy (i:=i) (ybg.mp nd).2 (by simpa using h1) (by simpa using h2) hk
def zeK(N:List Str)(vs:List V):St:=vs.map some++List.replicate (N.length-vs.length) none
def zlM(CX:CXT)(P:Program)(w:World)(K:PySem.W.Frag)(mg:Z6)(base:Heap)(N:List Str)(qual:Str)(scope:Scope)(f:Addr)(cd:Value)(A:Around)(outer:List Env)(s:Shared)(H:Hp)(E:XK):Cx where
 prog:=P
 w:=w
 K:=K
 mg:=mg
 base:=base
 A:=A.deeper (envOfC qual scope s.heap.objs.size f cd)
 N:=N
 s₀:=s
 H₀:=H
 env:=envOfC qual scope s.heap.objs.size f cd
 outer:=outer
 stack:=envOfC qual scope s.heap.objs.size f cd::outer
 ex:=[]
 calm:=true
 fn:=fun _=>true
 pn:=[]
 xe:=fun e s'=>wpAny (model P w) (A.deeper (envOfC qual scope s.heap.objs.size f cd)) (leaving (envOfC qual scope s.heap.objs.size f cd) e) (fun _ s''=>CX outer H s E e s'') (fun e' s''=>CX outer H s E e' s'') s'
def zi8{sc:Scope}{n:Nat}{x:Str}(h:sc.names.lookup x=some .cell):∃c,(cellsFrom n sc.names []).lookup x=some c:=by
 have q:=PySem.W.cellsFrom_some sc.names n [] (.inl h);exact Option.isSome_iff_exists.mp q
def zlu{CX:CXT}{P:Program}{w:World}{K:PySem.W.Frag}{mg:Z6}{base:Heap}{N ps:List Str}{qual:Str}{scope:Scope}{f:Addr}{cd:Value}{A:Around}{outer:List Env}{s s1:Shared}{H:Hp}{E:XK}{us:List Value}{vs:List V}
  (S:FnScope N ps scope) (hd:A.handled=none) (e0:Env0 P w K mg base A outer s H) (hl:vs.length=ps.length) (r:Vals vs us)
  (x:InCallC s s.heap.objs.size (bindL (envOfC qual scope s.heap.objs.size f cd).kindOf (ps.zip us) fun _=>none) (cellsFrom (s.heap.objs.size+1) scope.names []) (bindC (envOfC qual scope s.heap.objs.size f cd).kindOf (ps.zip us) fun _=>none) s1) :
  Inv (zlM CX P w K mg base N qual scope f cd A outer s H E) [] (zeK N vs) H s1:=by
 have hpl:ps.length<=N.length:=by have:=congrArg List.length S.pre;rw [ybi] at this;omega
 obtain ⟨h1,tk,rfl,hk⟩:=x.done;have noA:∀b:Addr,b ∉ (zlM CX P w K mg base N qual scope f cd A outer s H E).ex:=fun b z=>absurd (show b∈([]:List Addr) from z) (by simp)
 refine ⟨⟨e0.mod,S.kind,rfl,rfl,yam _,fun y z c h1 h2=>?_,fun y hy=>?_,fun y c _ h=>?_,fun _=>hd,Around.frames_deeper e0.frames,.inr ⟨rfl,rfl⟩,fun b z=>absurd z (noA b),e0.bs,e0.bsz,fun b _ _=>noA b,fun b z=>absurd z (noA b),e0.funs,e0.frf⟩,
  rfl,e0.bare,Un.kept hk,⟨_,x.toInCall.ns,fun i y v h1 h2 h3=>?_⟩,fun y c h=>⟨_,x.cell y c h⟩,e0.hok.fresh (yam _),fun y c h=>?_,fun p hp=>absurd (show p∈([]:Z3) from hp) (by simp),e0.hok.kept hk,?_⟩
 ·exact name_of_addr x.apart (yaI h1) (yaI h2)
 ·have hy:scope.names.lookup y=some .cell\/scope.names.lookup y=some .free:=hy
  rcases hy with hy | hy
  ·exact zi8 hy
  ·exact absurd rfl (S.nofree _ (yaI hy))
 ·exact Nat.le_of_lt (x.above y c (yaI h))
 ·have hi:i<vs.length:=by
   unfold zeK at h2
   by_cases hi:i<vs.length
   ·exact hi
   ·rw [yau (by simpa using hi)] at h2;rw [ya7] at h2
    split at h2<;>cases h2
  have ha:vs[i]?=some v:=by
   unfold zeK at h2;rw [yaz (by simpa using hi),yao] at h2
   cases e:vs[i]? with
   | none=>rw [e] at h2;cases h2
   | some a=>rw [e] at h2;cases h2;rfl
  obtain ⟨u,hu,rv⟩:=r.get ha
  have hp:ps[i]?=some y:=by
   rw [<-S.pre,ybN (by omega)];exact h1
  have ndP:ps.Nodup:=by rw [<-S.pre];exact S.nd.sublist (List.take_sublist _ _)
  refine ⟨u,rv,?_⟩
  rcases S.par y (ybL hp) with k | k
  ·exact .inl ⟨k,zhw ndP hp hu k⟩
  ·obtain ⟨c,e⟩:=zi8 (n:=s.heap.objs.size+1) k;refine .inr ⟨.inl k,c,e,?_⟩;have q:=x.cell y c e;rw [zhy ndP hp hu (by show scope.names.lookup y≠_;rw [k];decide)] at q;exact q
 ·exact e0.hok.fresh (Nat.le_of_lt (x.above y c (yaI h)))
 ·unfold zeK;show _=N.length;rw [yal,yaf,yaE];omega
def ztn{CX:CXT}{P:Program}{w:World}{K:PySem.W.Frag}{mg:Z6}{base:Heap}{k:Nat}{f:Addr}{name qual:Str}{params:Arguments}{body:List Stmt}{scope:Scope}{dV kV doc pm cdv ct oc:Value}{an od:Option Addr}
  {osl:Array (Option Value)} {N ps:List Str} {sp:Sp} (lk:K.lookup f=some ⟨oc,od,.func (PySem.W.fnOf name qual params body scope dV kV doc pm an cdv ct),osl⟩) (hcd:PySem.W.codeIn K cdv qual=true) (S:FnScope N ps scope)
  (len:∀vs H Q E,sp vs H Q E->vs.length=ps.length)
  (hbody:∀(A:Around) (outer:List Env) (s:Shared) (H:Hp) (vs:List V) (Q:VK) (E:XK),Room k (A.deeper (envOfC qual scope s.heap.objs.size f cdv))->sp vs H Q E →
   ∃t,PSs (zlM CX P w K mg base N qual scope f cdv A outer s H E) body t/\t { nx:=fun _ H'=>Q .non H',rt:=Q } (zeK N vs) H) :
  FnOk P w K mg base CX (k+1) f (PySem.W.fnOf name qual params body scope dV kV doc pm an cdv ct) ps sp:=by
 refine ⟨len,fun A outer s H args us vs Q E hr e0 hb r hsp=>?_⟩;have hl:=len _ _ _ _ hsp;have KX:K.In s.heap:=e0.mod.kin.keeps fun b o e=>(e0.bs b o e).1
 have lim:s.heap.NoLimit:=e0.mod.nolimit.keeps fun b o e=>(e0.bs b o e).1
 have hkind:∀y∈ps.zip us,scope.names.lookup y.1=some .local\/(scope.names.lookup y.1=some .cell/\((cellsFrom (s.heap.objs.size+1) scope.names []).lookup y.1).isSome=true):=fun ⟨n,v⟩ hy=>by
  rcases S.par n (List.of_mem_zip hy).1 with q | q
  ·exact .inl q
  ·exact .inr ⟨q,PySem.W.cellsFrom_some _ _ _ (.inl q)⟩
 refine codeAny_call_function hr.depth (KX _ _ lk) rfl S.co S.gen rfl (PySem.W.codeRec_of KX hcd) (hb _ _ _ _ ?_);refine wpAny_newFunctionEnv_cells S.kind hkind fun env he s1 x=>?_
 subst he;refine ⟨lim.keeps x.toInCall.keep,codeAny_func ?_⟩;obtain ⟨t,ht,hq⟩:=hbody A outer s H vs Q E (hr.deeper _) hsp;have I:Inv (zlM CX P w K mg base N qual scope f cdv A outer s H E) [] (zeK N vs) H s1:=zlu S hr.hd e0 hl r x;refine ybs (ht [] s1 (zeK N vs) H _ I hq) (fun fl s' hs=>?_) fun e s' hs=>hs
 have fin:∀{σ':St} {H':Hp} {v:V} {u:Value},Inv (zlM CX P w K mg base N qual scope f cdv A outer s H E) [] σ' H' s'->za2 v u->Q v H'->CE outer P w H s Q u s' :=
  fun {σ' H' v u} J rv q=>⟨v,H',J.os,J.bare,J.base,J.hok,rv,q⟩
 cases fl with
 | ret u =>
  obtain ⟨v,σ',H',J,rv,q⟩:=hs;exact fin J rv q
 | next =>
  obtain ⟨σ',H',J,q⟩:=hs;exact fin (v:=V.non) (u:=Value.none) J rfl q
 | brk =>
  obtain ⟨_,_,_,q⟩:=hs;exact False.elim q
 | cont =>
  obtain ⟨_,_,_,q⟩:=hs;exact False.elim q
end L2
namespace L2
open PySem PySem.Spec PyProof.Rows
section
variable{X:Cx}{x:Str}{p pos:Pos}{e:Expr}{es:List Expr}{t:TA}{id T:String}{r:List V->Hp->VK->Prop}
def tCB(r:List V->Hp->VK->Prop)(t:TA):TE:=fun σ H Q=>t σ H fun vs H1=>r vs H1 Q
def zgi(hc:zd4 X (.builtin id) r)(hg:Gl X x)(hm:X.mg x=none)(hv:bootBuiltins x=some (.builtin id))(ha:PA X (e::es) t)(hn:x ≠ "__name__":=by decide)(hdb:(x == ("__debug__":Str))=false:=by decide)
  (he:starEach (e::es) X.env=(false,eval e X.env)::starEach es X.env:=by rfl) (hpl:(backTo pos (starEach es X.env)).any (·.1)=false:=by rfl):PE X (.Call (.Name x p) (e::es) [] pos) (tCB r t):=by
 intro pins s σ H Q I h;refine ybT (zdt I hg hm hv ?_ hn hdb);exact PyProof.Rows.callWith_builtin1 (thn (ha pos pins s σ H _ I h) fun us s1 ⟨vs,H1,I1,r1,q1⟩=>hc pins s1 σ H1 vs us Q I1 r1 q1) he hpl
def zeW(hc:zd4 X (.type T) r)(hg:Gl X x)(hm:X.mg x=none)(hv:bootBuiltins x=some (.type T))(ha:PA X (e::es) t)(hn:x ≠ "__name__":=by decide)(hdb:(x == ("__debug__":Str))=false:=by decide)
  (he:starEach (e::es) X.env=(false,eval e X.env)::starEach es X.env:=by rfl) (hpl:(backTo pos (starEach es X.env)).any (·.1)=false:=by rfl):PE X (.Call (.Name x p) (e::es) [] pos) (tCB r t):=by
 intro pins s σ H Q I h;refine ybT (zdt I hg hm hv ?_ hn hdb);exact yaO (thn (ha pos pins s σ H _ I h) fun us s1 ⟨vs,H1,I1,r1,q1⟩=>hc pins s1 σ H1 vs us Q I1 r1 q1) he hpl
end
end L2
namespace HT
open PySem PyProof.Rows
section
open PySem.SeqAt
open PySem.AutoSeq1 (wpAny_loadPart')
open PySem.MeetsSeq PySem.MeetsSeq2 PySem.MeetsSeq3
end
section
variable{prog:Program}{w:World}{A:Around}{E:Z5}{s:Shared}
def zqC{t b:Addr}{vs ws:List Value}{Q:Z5}(ht:IsTup s.heap t vs.toArray)(hb:IsTup s.heap b ws.toArray)(hv:vs≠[])
  (h1:ws=[]->Q (.ref t) s) (h2:ws≠[]->Q (.ref s.heap.objs.size) { s with heap:=s.heap.push { cls:=.type "tuple",data:=.seq (vs++ws).toArray } })
  (hsz:vs.length+ws.length<=sizeLine):wpAny (model prog w) A (binaryOp .Add (.ref t) (.ref b)) Q E s:=by
 obtain ⟨⟨cls,dd,data,sl⟩,ho,hc,n,hd⟩:=id ht;obtain ⟨⟨cls2,dd2,data2,sl2⟩,ho2,hc2,n2,hd2⟩:=id hb;simp only at hc hd hc2 hd2;subst hc hd hc2 hd2
 have e:vs.toArray++ws.toArray=(vs++ws).toArray:=by simp
 by_cases hw:ws=[]
 ·exact concat_meets ⟨_,ho,rfl⟩ ⟨_,ho2,rfl⟩ noFill_tuple_add seq_tuple_add yck ycc (yb5 _ _)
   (tuple_addW1 t b vs.toArray ws.toArray n n2 dd dd2 sl sl2 (by simpa using hv) (by simp [hw])) ⟨ho,ho2,h1 hw⟩
 ·refine concat_meets ⟨_,ho,rfl⟩ ⟨_,ho2,rfl⟩ noFill_tuple_add seq_tuple_add yck ycc (yb5 _ _)
   (tuple_addW2 t b vs.toArray ws.toArray n n2 dd dd2 sl sl2 (by simpa using hv) (by simpa using hw) (by rw [yak,yak];exact hsz)) ⟨ho,ho2,?_⟩
  rw [e];exact h2 hw
def sIx(n d:Nat):Option Int->Nat
 | none=>d
 | some v=>if v<0 then (v+(n:Int)).toNat else min v.toNat n
def zeN(n d k:Nat):sIx n d (some (k:Int))=min k n:=by
 show (if (k:Int)<0 then ((k:Int)+(n:Int)).toNat else min (k:Int).toNat n)=min k n;rw [if_neg (by omega),yaZ]
def zr1(n d:Nat)(hd:d<=n)(o:Option Int):sIx n d o<=n:=by
 cases o with
 | none=>exact hd
 | some v =>
  show (if v<0 then (v+(n:Int)).toNat else min v.toNat n)<=n
  by_cases hv:v<0
  ·rw [if_pos hv];omega
  ·rw [if_neg hv];exact Nat.min_le_right _ _
def zlT(v:Int)(n d:Nat):(if v<0 then max (v+(n:Int)) 0 else min v (n:Int))=((sIx n d (some v):Nat):Int):=by
 show (if v<0 then max (v+(n:Int)) 0 else min v (n:Int))=(((if v<0 then (v+(n:Int)).toNat else min v.toNat n):Nat):Int)
 by_cases hv:v<0
 ·simp only [if_pos hv];omega
 ·simp only [if_neg hv];omega
def zjX(lo hi:Option Int)(n:Nat):Builtin.Slice.sliceAdjust lo hi 1 (n:Int)=(((sIx n 0 lo:Nat):Int),((sIx n n hi:Nat):Int)):=by
 have h1:¬ ((1:Int)<0):=by omega
 unfold Builtin.Slice.sliceAdjust;simp only [h1,ybX];refine Prod.ext ?_ ?_
 ·cases lo with
  | none=>rfl
  | some v=>exact zlT v n 0
 ·cases hi with
  | none=>rfl
  | some v=>exact zlT v n n
def zjs(i j:Nat):Builtin.Slice.slicePlaces (i:Int) (j:Int) 1=j-i:=by
 unfold Builtin.Slice.slicePlaces
 have h1:(1:Int) > 0:=by omega
 simp only [h1,yb4,Int.ediv_one]
 split<;>omega
def zfD{v:Value}{o:Option Int}{Q:Option Int->Shared->Prop}(p:IsPart v o)(h:Q o s):wpAny (model prog w) A (Builtin.Slice.slicePartIndex v) Q E s:=by
 cases p with
 | none=>exact slicePart_none h
 | int i t=>exact slicePart_int h
def zcR{sl:Addr}{vl vu:Value}{lo hi:Option Int}{n:Nat}{Q:Int×Int×Nat->Shared->Prop}(hs:s.heap.IsSliceOf sl vl vu .none)(pl:IsPart vl lo)(pu:IsPart vu hi)
  (h:Q (((sIx n 0 lo:Nat):Int),1,sIx n n hi-sIx n 0 lo) s):wpAny (model prog w) A (Builtin.Slice.sliceApplied (.ref sl) (pure (n:Int))) Q E s:=by
 obtain ⟨os,hos,hcs,hds⟩:=id hs;unfold Builtin.Slice.sliceApplied Builtin.Slice.sliceFields;refine yaa (yaa (ybd hos hds (x:=vl) rfl (yaa (ybd hos hds (x:=vu) rfl (yaa (ybd hos hds (x:=.none) rfl (yah ?_)))))));refine yaa (slicePart_none ?_);show wpAny _ _ (if ((1:Int) == 0)=true then _ else _) _ _ s;rw [if_neg (by decide)];refine yaa (zfD pl (yaa (zfD pu (yaa (yah ?_)))));show wpAny _ _ (match Builtin.Slice.sliceAdjust lo hi 1 (n:Int) with | (lo,hi)=>pure (lo,(1:Int),Builtin.Slice.slicePlaces lo hi 1)) _ _ s;rw [zjX lo hi n];show wpAny _ _ (pure (((sIx n 0 lo:Nat):Int),(1:Int),Builtin.Slice.slicePlaces ((sIx n 0 lo:Nat):Int) ((sIx n n hi:Nat):Int) 1)) _ _ s;rw [zjs];exact yah h
def zmK(xs:Array Value)(i k:Nat):((List.range k).filterMap fun (m:Nat)=>xs[((i:Int)+(m:Int)*1).toNat]?).toArray=((xs.toList.drop i).take k).toArray:=by
 have e:(fun (m:Nat)=>xs[((i:Int)+(m:Int)*1).toNat]?)=fun m=>xs[i+m]?:=by
  funext m
  have:((i:Int)+(m:Int)*1).toNat=i+m:=by omega
  rw [this]
 rw [e];have:=pick_run xs i k;rw [List.filterMap_map] at this;have e2:((fun x=>xs[x]?)∘fun x=>i+x)=fun m=>xs[i+m]?:=rfl
 rw [e2] at this;rw [this]
def zea{t sl:Addr}{items:Array Value}{vl vu:Value}{lo hi:Option Int}{Q:Z5}(ht:IsTup s.heap t items)(hs:s.heap.IsSliceOf sl vl vu .none)(pl:IsPart vl lo)(pu:IsPart vu hi)
  (hw:¬ (sIx items.size 0 lo=0/\sIx items.size items.size hi=items.size))
  (h:Q (.ref s.heap.objs.size) { s with heap:=s.heap.push { cls:=.type "tuple",data:=.seq ((items.toList.drop (sIx items.size 0 lo)).take (sIx items.size items.size hi-sIx items.size 0 lo)).toArray } })
  (hsz:items.size<=sizeLine):wpAny (model prog w) A (getItem (.ref t) (.ref sl)) Q E s:=by
 have htake:sizeOk (.seq ((items.toList.drop (sIx items.size 0 lo)).take (sIx items.size items.size hi-sIx items.size 0 lo)).toArray):=by
  show ((items.toList.drop (sIx items.size 0 lo)).take (sIx items.size items.size hi-sIx items.size 0 lo)).toArray.size<=sizeLine;rw [yak,ybi,ybF,ycE];omega
 have hj:sIx items.size items.size hi<=items.size:=zr1 _ _ (yam _) hi;obtain ⟨os,hos,hcs,hds⟩:=id hs;have hTs:s.TypeIs (.ref sl) "slice":=⟨os,hos,hcs⟩;unfold getItem
 try with_reducible refine yb8 ?_
 first | refine yaa (yah ?_) | skip
 refine yaa (wpAny_sequenceKey ht.typeIs (by decide) ?_)
 refine yaa (ya8 (name:=Str.ofString "__getitem__") ht.typeIs yaT
  (ybj yaT ht.typeIs entry_tuple_getitem ?_ (args_tuple_getitem _ _)))
 show wpAny _ _ (Builtin.Tuple.tupleItemsOf (.ref t) >>= _) _ _ s;refine yaa (tupleItemsOf_ ht ?_);refine yaa (wpAny_typeOf hTs ?_);rw [if_pos (by decide)];refine yaa (zcR hs pl pu ?_)
 have hno:¬ ((((sIx items.size 0 lo:Nat):Int) == 0&&(1:Int) == 1&&(sIx items.size items.size hi-sIx items.size 0 lo) == items.size)=true):=by
  intro q;rw [yab,yab] at q;have q1:((sIx items.size 0 lo:Nat):Int)=0:=eq_of_beq q.1.1;have q2:sIx items.size items.size hi-sIx items.size 0 lo=items.size:=eq_of_beq q.2;exact hw ⟨by omega,by omega⟩
 show wpAny _ _ (if (((sIx items.size 0 lo:Nat):Int) == 0&&(1:Int) == 1&&(sIx items.size items.size hi-sIx items.size 0 lo) == items.size)=true then _ else _) _ _ s;rw [if_neg hno,zmK]
 first
  | exact yaa (m:=Builtin.Tuple.tupleExact _) (ybn (yah ⟨_,rfl,yah h⟩) htake)
  | exact yaa (m:=Builtin.Tuple.tupleExact _) (ybn (yaa (yah (yah ⟨_,rfl,yah h⟩))) htake)
  | exact yaa (yaa (m:=Builtin.Tuple.tupleExact _) (ybn (yah (yah ⟨_,rfl,yah h⟩)) htake))
  | exact yaa (yaa (m:=Builtin.Tuple.tupleExact _) (ybn (yah ⟨_,rfl,yah h⟩) htake))
end
end HT
namespace L2
open PySem PySem.Spec PyProof.Rows
abbrev TO:=St->Hp->(Option Int->Hp->Prop)->Prop
def PO(X:Cx)(e:Option Expr)(t:TO):Prop :=
 ∀(pins:Z3) (s:Shared) (σ:St) (H:Hp) (Q:Option Int->Hp->Prop),Inv X pins σ H s->t σ H Q →
  wpAny (model X.prog X.w) X.A (evalPart e X.env) (fun u s'=>∃o H',Inv X pins σ H' s'/\IsPart u o/\Q o H') X.xe s
def zkj:TO:=fun _ H Q=>Q none H
def zrn(t:TE):TO:=fun σ H Q=>t σ H fun x H1=>∃i,x=.int i/\Q (some i) H1
section
variable{X:Cx}{e:Expr}{te:TE}{lo hi:Option Expr}{tl th:TO}{pos p2:Pos}
def zpB:PO X none zkj:=by
 intro pins s σ H Q I h;rw [evalPart_none];exact yah ⟨none,H,I,.none,h⟩
def zpA(h:PE X e te):PO X (some e) (zrn te):=by
 intro pins s σ H Q I hw;rw [evalPart_some];refine thn (h pins s σ H _ I hw) fun u s1 ⟨x,H1,I1,r1,q1⟩=>?_
 obtain ⟨i,rfl,q⟩:=q1;obtain ⟨t,rfl⟩:=r1;exact ⟨some i,H1,I1,.int i t,q⟩
def SlR(X:Cx)(r:V->Option Int->Option Int->Hp->VK->Prop):Prop :=
 ∀(pins:Z3) (s:Shared) (σ:St) (H:Hp) (x:V) (v vl vu:Value) (lo hi:Option Int) (sl:Addr) (Q:VK),Inv X pins σ H s->za2 x v->s.heap.IsSliceOf sl vl vu .none->IsPart vl lo->IsPart vu hi->r x lo hi H Q →
  ∃T id,typeLookup (.type T) "__getitem__" = pure (some (.builtin id))/\s.TypeIs v T/\wpAny (model X.prog X.w) X.A (getItem v (.ref sl)) (EP X pins σ Q) X.xe s
def tSl(r:V->Option Int->Option Int->Hp->VK->Prop)(te:TE)(tl th:TO):TE:=fun σ H Q=>te σ H fun x H1=>tl σ H1 fun l H2=>th σ H2 fun u H3=>r x l u H3 Q
def zmO{r:V->Option Int->Option Int->Hp->VK->Prop}(hr:SlR X r)(he:PE X e te)(hl:PO X lo tl)(hu:PO X hi th):PE X (.Subscript e (.Slice lo hi none p2) pos) (tSl r te tl th):=by
 intro pins s σ H Q I h;refine Subscript_ (thn (he pins s σ H _ I h) fun v s1 ⟨x,H1,I1,r1,q1⟩=>?_);refine wpAny_Slice (thn (hl pins s1 σ H1 _ I1 q1) fun vl s2 ⟨l,H2,I2,pl,q2⟩=>thn (hu pins s2 σ H2 _ I2 q2) fun vu s3 ⟨u,H3,I3,pu,q3⟩=>?_);rw [evalPart_none];refine yah ?_;have I4:Inv X pins σ H3 { s3 with heap:=s3.heap.push { cls:=.type "slice",data:=.fields #[vl,vu,.none] } }:=I3.kept (t':=s3.toks) fun b ob q=>yad _ q
 obtain ⟨T,id,hT,ht,hg⟩:=hr pins { s3 with heap:=s3.heap.push { cls:=.type "slice",data:=.fields #[vl,vu,.none] } } σ H3 x v vl vu l u s3.heap.objs.size Q I4 r1 (Heap.IsSliceOf.new ..) pl pu q3;show wpAny (model X.prog X.w) X.A (subscriptTail e (.Slice lo hi none p2) v (.ref s3.heap.objs.size)) (EP X pins σ Q) X.xe { s3 with heap:=s3.heap.push { cls:=.type "slice",data:=.fields #[vl,vu,.none] } };exact tail_any (ops:=[.ref s3.heap.objs.size,v]) ht hT hg (by with_unfolding_all rfl)
def zoB(xs:List V)(lo hi:Option Int):List V:=(xs.drop (HT.sIx xs.length 0 lo)).take (HT.sIx xs.length xs.length hi-HT.sIx xs.length 0 lo)
def zfo(xs:List V)(lo hi:Option Int):(zoB xs lo hi).length<=xs.length:=by
 unfold zoB;rw [ybi,ybF];omega
def zy0(K:PySem.W.Frag):V->Option Int->Option Int->Hp->VK->Prop:=fun x lo hi H Q=>∃a xs,x=.ref a/\SqT K H a xs ∧
 ¬ (HT.sIx xs.length 0 lo=0/\HT.sIx xs.length xs.length hi=xs.length)/\∀p,H p=none->Q (.ref p) (upd H p (.tup (zoB xs lo hi)))
def zrI:SlR X (zy0 X.K):=by
 intro pins s σ H x v vl vu lo hi sl Q I rx hs pl pu h;obtain ⟨a,xs,rfl,hx,hw,q⟩:=h;cases rx;obtain ⟨its,r,ht,hz⟩:=I.tuple hx
 have hlen:its.toArray.size=xs.length:=by rw [yak];exact r.length.symm
 refine ⟨"tuple",_,yaT.lookup,ht.typeIs,?_⟩;refine HT.zea ht hs pl pu (by rw [hlen];exact hw) ?_ (by rw [hlen];exact hz);rw [hlen];refine ⟨.ref s.heap.objs.size,_,I.laid (t':=s.toks) (o:=.tup (zoB xs lo hi)) (fun b ob q=>yad _ q) (yam _) ?_,rfl,q _ (I.hok.fresh (yam _))⟩;exact ⟨yaj (zfo xs lo hi) hz,_,(r.drop (HT.sIx xs.length 0 lo)).take (HT.sIx xs.length xs.length hi-HT.sIx xs.length 0 lo),IsTup.new _ _⟩
def zvm(K:PySem.W.Frag):R2:=fun x y H Q=>∃a b xs ys,x=.ref a/\y=.ref b/\SqT K H a xs/\SqT K H b ys/\xs≠[]/\xs.length+ys.length<=sizeLine ∧
 (ys=[]->Q (.ref a) H)/\(ys≠[]->∀p,H p=none->Q (.ref p) (upd H p (.tup (xs++ys))))
def Vals.nil_iff{xs:List V}{us:List Value}(r:Vals xs us):us=[]↔xs=[]:=by
 cases r with
 | nil=>simp
 | cons _ _=>simp
def zpM:OpR X (binaryOp .Add) (zvm X.K):=by
 intro pins s σ H x y v u Q I rx ry h;obtain ⟨a,b,xs,ys,rfl,rfl,ha,hb,hx,hz,q1,q2⟩:=h;cases rx;cases ry;obtain ⟨its,r1,p1,_⟩:=I.tuple ha;obtain ⟨its2,r2,p2,_⟩:=I.tuple hb;refine HT.zqC p1 p2 (fun z=>hx (r1.nil_iff.mp z)) (fun z=>⟨.ref a,H,I,rfl,q1 (r2.nil_iff.mp z)⟩) (fun z=>?_) (by rw [<-r1.length,<-r2.length];exact hz);refine ⟨.ref s.heap.objs.size,_,I.laid (t':=s.toks) (o:=.tup (xs++ys)) (fun b ob q=>yad _ q) (yam _) ?_,rfl,q2 (fun w=>z (r2.nil_iff.mpr w)) _ (I.hok.fresh (yam _))⟩;exact ⟨by rw [yal];exact hz,_,r1.append r2,IsTup.new _ _⟩
end
end L2
namespace L2
open PySem PySem.Spec PyProof.Rows
def ixN(n:Nat)(i:Int):Option Nat:=if 0<=i then (if i<n then some i.toNat else none) else if -(n:Int)<=i then some (i+n).toNat else none
def atI{α:Type}(xs:List α)(i:Int):Option α:=(ixN xs.length i).bind fun j=>xs[j]?
def zlo{n:Nat}{i:Int}{j:Nat}(h:ixN n i=some j):seqIndex? i n=some j/\j<n/\-(n:Int)<=i/\i<n:=by
 unfold ixN at h
 by_cases h0:0<=i
 ·rw [if_pos h0] at h
  by_cases h1:i<n
  ·rw [if_pos h1] at h;have e:i.toNat=j:=Option.some.inj h;exact ⟨by rw [seqIndex_of h0 h1,e],by omega,by omega,h1⟩
  ·rw [if_neg h1] at h;cases h
 ·rw [if_neg h0] at h
  by_cases h1:-(n:Int)<=i
  ·rw [if_pos h1] at h;have e:(i+n).toNat=j:=Option.some.inj h;exact ⟨by rw [seqIndex_neg (by omega) h1,e],by omega,h1,by omega⟩
  ·rw [if_neg h1] at h;cases h
def zl4{α:Type}{xs:List α}{i:Int}{v:α}(h:atI xs i=some v):∃j,seqIndex? i xs.length=some j/\xs[j]?=some v/\j<xs.length/\-(xs.length:Int)<=i/\i<xs.length:=by
 unfold atI at h
 cases e:ixN xs.length i with
 | none=>rw [e] at h;cases h
 | some j =>
  rw [e] at h;obtain ⟨h1,h2,h3,h4⟩:=zlo e;exact ⟨j,h1,h,h2,h3,h4⟩
def zjb{α:Type}(xs:List α)(v:α):atI (xs++[v]) (-1)=some v:=by
 have hl:(xs++[v]).length=xs.length+1:=by simp
 have e:ixN (xs++[v]).length (-1)=some xs.length:=by
  unfold ixN;rw [hl,if_neg (by decide),if_pos (by omega)];congr 1;omega
 unfold atI;rw [e];show (xs++[v])[xs.length]?=some v;simp
def zgE(b:Expr):Prop:=∀o i,subscripted b false o i=operate [o,i] (getItem o i)
def IxR(X:Cx)(r:R2):Prop :=
 ∀(value slice:Expr) (pins:Z3) (s:Shared) (σ:St) (H:Hp) (x y:V) (v u:Value) (Q:VK),Inv X pins σ H s->za2 x v->za2 y u->r x y H Q →
  subscripted slice false v u=operate [v,u] (getItem v u)->wpAny (model X.prog X.w) X.A (subscriptTail value slice v u) (EP X pins σ Q) X.xe s
def MtR(X:Cx)(id:String)(r:V->List V->Hp->VK->Prop):Prop :=
 ∀(pins:Z3) (s:Shared) (σ:St) (H:Hp) (x:V) (xs:List V) (v:Value) (us:List Value) (Q:VK),Inv X pins σ H s->za2 x v->Vals xs us->r x xs H Q →
  wpAny (model X.prog X.w) X.A (call (.builtin id) (v::us)) (EP X pins σ Q) X.xe s
section
variable{X:Cx}{a b:Expr}{ta tb:TE}{pos:Pos}
def zsp{r:R2}(hr:IxR X r)(ha:PE X a ta)(hb:PE X b tb)(hs:zgE b):PE X (.Subscript a b pos) (tOp r ta tb):=by
 intro pins s σ H Q I h;exact Subscript_ (zwc ha hb I h fun v u s2 x y H2 I2 rx ry q=>hr a b pins s2 σ H2 x y v u Q I2 rx ry q (hs _ _))
def zy4(K:PySem.W.Frag):R2:=fun x y H Q=>∃p xs i v,x=.ref p/\y=.int i/\SqL K H p xs/\atI xs i=some v/\Q v H
def zy3(K:PySem.W.Frag):R2:=fun x y H Q=>∃p xs i v,x=.ref p/\y=.int i/\SqT K H p xs/\atI xs i=some v/\Q v H
def zln:IxR X (zy4 X.K):=by
 intro value slice pins s σ H x y v u Q I rx ry h hs;obtain ⟨p,xs,i,z,rfl,rfl,hq,he,q⟩:=h;cases rx;obtain ⟨t,rfl⟩:=ry;obtain ⟨its,r,pl,hz⟩:=I.list hq;obtain ⟨j,h1,h2,h3,h4,h5⟩:=zl4 he;obtain ⟨w,ew,rw'⟩:=r.get h2;have hl:=r.length;have hn:=zhc;have fin:EP X pins σ Q w s:=⟨z,H,I,rw',q⟩
 by_cases h0:0<=i
 ·have hj:i.toNat=j:=by
   rw [seqIndex_of h0 h5] at h1;exact Option.some.inj h1
  exact item_listR pl.isList h0 (by omega) (by rw [hj];simpa using ew) fin hs
 ·have hj:(i+(its.toArray.size:Int)).toNat=j:=by
   rw [seqIndex_neg (by omega) h4] at h1;rw [yak,<-hl];exact Option.some.inj h1
  exact ycl (x:=w) pl.isList.typeIs slot_list_getitem.lookup
   (wpAny_getItem_list_neg (Q:=fun r s'=>r=w/\EP X pins σ Q r s') pl.isList (by omega) (by rw [yak]<;>omega) (by omega) (by rw [hj];simpa using ew) ⟨rfl,fin⟩) hs
def zs9:IxR X (zy3 X.K):=by
 intro value slice pins s σ H x y v u Q I rx ry h hs;obtain ⟨p,xs,i,z,rfl,rfl,hq,he,q⟩:=h;cases rx;obtain ⟨t,rfl⟩:=ry;obtain ⟨its,r,pl,hz⟩:=I.tuple hq;obtain ⟨j,h1,h2,h3,h4,h5⟩:=zl4 he;obtain ⟨w,ew,rw'⟩:=r.get h2;have hl:=r.length;have hn:=zhc;have fin:EP X pins σ Q w s:=⟨z,H,I,rw',q⟩
 exact ycl (x:=w) pl.typeIs slot_tuple_getitem.lookup
  (getItem_tuple (j:=j) (Q:=fun r s'=>r=w/\EP X pins σ Q r s') pl (by omega) (by omega) (by rw [yak,<-hl];exact h1) (by simpa using ew) ⟨rfl,fin⟩) hs
def zjy(its:List Value)(n j:Nat)(u:Value):Obj.mapSeq (·.setIfInBounds j u) { cls:=.type "list",data:=.seq its.toArray n }={ cls:=.type "list",data:=.seq (its.set j u).toArray n }:=by
 simp [Obj.mapSeq]
theorem Inv.lst{pins:Z3}{σ:St}{H:Hp}{s:Shared}{p:Addr}{xs:List V}(I:Inv X pins σ H s)(h:H p=some (.lst xs)) :
  ∃(its:List Value) (n:Nat),Vals xs its/\s.heap.get? p=some { cls:=.type "list",data:=.seq its.toArray n }/\xs.length<=sizeLine:=by
 obtain ⟨z,its,n,r,e⟩:=I.hok p _ h;exact ⟨its,n,r,e,z⟩
def Inv.lstUpd{pins:Z3}{σ:St}{H:Hp}{s:Shared}{p:Addr}{xs ys:List V}{its its':List Value}{n n':Nat}{f:Obj->Obj}(I:Inv X pins σ H s)(h:H p=some (.lst xs))
  (ho:s.heap.get? p=some { cls:=.type "list",data:=.seq its.toArray n }) (hf:f { cls:=.type "list",data:=.seq its.toArray n }={ cls:=.type "list",data:=.seq its'.toArray n' }) (r:Vals ys its') (hz:ys.length<=sizeLine) (t:Nat) :
  Inv X pins σ (upd H p (.lst ys)) { s with heap:=s.heap.update p f,toks:=t }:=by
 have e:(s.heap.update p f).get? p=some { cls:=.type "list",data:=.seq its'.toArray n' }:=by
  rw [Heap.get?_update_self f ho (by rw [hf]<;>rfl),hf]
 refine I.write (x:=p) (e:=p) (by rw [h];trivial) (.inl rfl) (fun b u hb q=>(Heap.get?_update_other _ _ (Ne.symm hb)).trans q) ⟨_,e⟩ ?_;exact ⟨hz,its',n',r,e⟩
def zvl:V->V->V->Hp->(Hp->Prop)->Prop:=fun o i v H Q=>∃p xs k j,o=.ref p/\i=.int k/\H p=some (.lst xs)/\ixN xs.length k=some j/\Q (upd H p (.lst (xs.set j v)))
def zms:zwp X zvl:=by
 intro pins s σ H o i v ov iv u Q I ro ri rv h;obtain ⟨p,xs,k,j,rfl,rfl,hp,hj,q⟩:=h;cases ro;obtain ⟨t,rfl⟩:=ri;obtain ⟨its,n,r,ho,hz⟩:=I.lst hp;obtain ⟨h1,h2,h3,h4⟩:=zlo hj;have hl:=r.length;have hn:=zhc
 have I':Inv X pins σ (upd H p (.lst (xs.set j v))) { s with heap:=s.heap.update p (Obj.mapSeq (·.setIfInBounds j u)) } :=
  I.lstUpd hp ho (zjy its n j u) (r.set rv j) (by rw [yaH];exact hz) s.toks
 by_cases h0:0<=k
 ·have hk:k.toNat=j:=by
   rw [seqIndex_of h0 h4] at h1;exact Option.some.inj h1
  exact PySem.W.ki_setAt ho h0 (by omega) (by rw [yak,<-hl];exact h4) (by rw [hk];exact ⟨_,I',q⟩)
 ·have hk:(k+(its.toArray.size:Int)).toNat=j:=by
   rw [seqIndex_neg (by omega) h3] at h1;rw [yak,<-hl];exact Option.some.inj h1
  exact PySem.W.ki_setBack ho (by omega) (by rw [yak,<-hl];exact h3) (by omega) (by rw [hk];exact ⟨_,I',q⟩)
def zgQ(lo hi:Option Int)(n:Nat):(sliceBounds lo hi none n).1=((HT.sIx n 0 lo:Nat):Int)/\(sliceBounds lo hi none n).2.1=((HT.sIx n n hi:Nat):Int)/\(sliceBounds lo hi none n).2.2=1:=by
 refine ⟨?_,?_,rfl⟩
 ·cases lo with
  | none=>simp [sliceBounds,HT.sIx]
  | some i =>
   simp only [sliceBounds,HT.sIx,Option.getD_none,show (1:Int) > 0 by decide,yb4]
   by_cases h:i<0
   ·simp only [h,yb4]<;>omega
   ·simp only [h,ybX]<;>omega
 ·cases hi with
  | none=>simp [sliceBounds,HT.sIx]
  | some i =>
   simp only [sliceBounds,HT.sIx,Option.getD_none,show (1:Int) > 0 by decide,yb4]
   by_cases h:i<0
   ·simp only [h,yb4]<;>omega
   ·simp only [h,ybX]<;>omega
def zf6(its:List Value)(lo hi:Option Int):slicePick its.toArray lo hi none=((its.drop (HT.sIx its.length 0 lo)).take (HT.sIx its.length its.length hi-HT.sIx its.length 0 lo)).toArray:=by
 obtain ⟨h1,h2,h3⟩:=zgQ lo hi its.toArray.size;unfold slicePick;rw [h1,h2,h3]
 simp only [sliceRange_one,pick_run,yak]<;>rfl
def zy1(K:PySem.W.Frag):V->Option Int->Option Int->Hp->VK->Prop:=fun x lo hi H Q=>∃a xs,x=.ref a/\SqL K H a xs/\∀p,H p=none->Q (.ref p) (upd H p (.lst (zoB xs lo hi)))
def zo9:SlR X (zy1 X.K):=by
 intro pins s σ H x v vl vu lo hi sl Q I rx hs pl pu h;obtain ⟨a,xs,rfl,hx,q⟩:=h;cases rx;obtain ⟨its,r,ht,hz⟩:=I.list hx;have hlen:=r.length;refine ⟨"list",_,slot_list_getitem.lookup,ht.isList.typeIs,?_⟩;refine wpAny_getItem_list_slice ht.isList hs pl pu .none (by simp) ?_ (by rw [yak]<;>omega);rw [zf6,<-hlen];refine ⟨.ref s.heap.objs.size,_,I.laid (t':=s.toks) (o:=.lst (zoB xs lo hi)) (fun b ob q=>yad _ q) (yam _) ?_,rfl,q _ (I.hok.fresh (yam _))⟩;exact ⟨yaj (zfo xs lo hi) hz,_,0,(r.drop (HT.sIx xs.length 0 lo)).take (HT.sIx xs.length xs.length hi-HT.sIx xs.length 0 lo),yar _ rfl⟩
def zc8:zd4 X (.builtin "len") (fun xs H Q=>∃p ys,xs=[.ref p]/\(SqL X.K H p ys\/SqT X.K H p ys)/\Q (.int ys.length) H):=by
 intro pins s σ H xs us Q I r h;obtain ⟨p,ys,rfl,hq,q⟩:=h;obtain ⟨u,rfl,rx⟩:=zhD r;cases rx;have hn:=zhc
 rcases hq with hq | hq
 ·obtain ⟨its,r',pl,hz⟩:=I.list hq;have hlen:=r'.length;exact Calls.call_len_list pl.isList (by simp only [yak]<;>omega) ⟨.int ys.length,H,I.tok _,⟨s.toks+1,by rw [yak,hlen]⟩,q⟩
 ·obtain ⟨its,r',pl,hz⟩:=I.tuple hq;have hlen:=r'.length;exact len_tuple pl (by simp only [yak]<;>omega) ⟨.int ys.length,H,I.tok _,⟨s.toks+1,by rw [yak,hlen]⟩,q⟩
def zhr:zd4 X (.builtin "len") (fun xs H Q=>∃z,xs=[.str z]/\z.length<=sizeLine/\Q (.int z.length) H):=by
 intro pins s σ H xs us Q I r h;obtain ⟨z,rfl,hz,q⟩:=h;obtain ⟨u,rfl,t,rfl⟩:=zhD r;have hn:=zhc;exact len_str (by omega) ⟨.int z.length,H,I.tok _,⟨_,rfl⟩,q⟩
def zep:zd4 X (.type "list") (fun xs H Q=>∃p ys,xs=[.ref p]/\(SqL X.K H p ys\/SqT X.K H p ys)/\∀l,H l=none->Q (.ref l) (upd H l (.lst ys))):=by
 intro pins s σ H xs us Q I r h;obtain ⟨p,ys,rfl,hq,q⟩:=h;obtain ⟨u,rfl,rx⟩:=zhD r;cases rx
 have fin:∀(its:List Value),Vals ys its->ys.length<=sizeLine->∀(h':Heap) (c':Nat),(∀b o',s.heap.get? b=some o'->h'.get? b=some o') →
   h'.get? s.heap.objs.size=some { cls:=.type "list",dict:=none,data:=.seq its.toArray c',slots:=#[] }->EP X pins σ Q (.ref s.heap.objs.size) { s with heap:=h' }:=fun its r' hz h' c' kp e =>
  ⟨.ref s.heap.objs.size,_,I.laid (t':=s.toks) kp (yam _) (show zbu X.prog X.w _ h' _ (.lst ys) from ⟨hz,its,c',r',e⟩),rfl,q _ (I.hok.fresh (yam _))⟩
 rcases hq with hq | hq
 ·obtain ⟨its,r',pl,hz⟩:=I.list hq;have hlen:=r'.length;obtain ⟨o,ho,hc,n,hd⟩:=pl.isList;exact call_list_seq p (.inl rfl) ho hc hd (fun h' c' kp e=>fin its r' hz h' c' kp e) (by simp only [yak]<;>omega)
 ·obtain ⟨its,r',pl,hz⟩:=I.tuple hq;have hlen:=r'.length;obtain ⟨o,ho,hc,n,hd⟩:=pl;exact call_list_seq p (.inr rfl) ho hc hd (fun h' c' kp e=>fin its r' hz h' c' kp e) (by simp only [yak]<;>omega)
def zd2:zd4 X (.type "tuple") (fun xs H Q=>∃p ys,xs=[.ref p]/\((SqL X.K H p ys/\∀l,H l=none->Q (.ref l) (upd H l (.tup ys)))\/(SqT X.K H p ys/\Q (.ref p) H))):=by
 intro pins s σ H xs us Q I r h;obtain ⟨p,ys,rfl,h⟩:=h;obtain ⟨u,rfl,rx⟩:=zhD r;cases rx
 rcases h with ⟨hq,q⟩ | ⟨hq,q⟩
 ·obtain ⟨its,r',pl,hz⟩:=I.list hq;have hlen:=r'.length;refine call_tuple_list pl.isList (fun h' kp=>?_) (by simp only [yak]<;>omega);have I1:Inv X pins σ H { s with heap:=h' }:=I.kept (t':=s.toks) kp
  have I2:Inv X pins σ (upd H h'.objs.size (.tup ys)) { s with heap:=h'.push { cls:=.type "tuple",data:=.seq its.toArray } } :=
   I1.laid (t':=s.toks) (fun b o e=>yad _ e) (yam _) (show zbu X.prog X.w _ _ _ (.tup ys) from ⟨hz,its,r',IsTup.new _ _⟩)
  exact ⟨.ref h'.objs.size,_,I2,rfl,q _ (I1.hok.fresh (yam _))⟩
 ·obtain ⟨its,r',pl,hz⟩:=I.tuple hq;exact call_tuple_same pl ⟨.ref p,H,I,rfl,q⟩
def tyV(K:PySem.W.Frag)(T:String)(x:V)(H:Hp):Prop:=match x with
 | .str _=>T = "str"
 | .int _=>T = "int"
 | .ref p=>(T = "list" /\ ∃xs,SqL K H p xs)\/(T = "tuple" /\ ∃o,K.lookup p=some o/\o.cls=.type "tuple" /\ o.dict=none) ∨
   (T = "dict" /\ ((∃kvs,H p=some (.dK kvs))\/∃kvs,H p=some (.dT kvs)))\/(T = "set" /\ ∃S n,H p=some (.set S n))
 | _=>False
def zri{pins:Z3}{σ:St}{H:Hp}{s:Shared}{T:String}{x:V}{v:Value}(I:Inv X pins σ H s)(r:za2 x v)(ty:tyV X.K T x H) :
  s.TypeIs v T/\∀a,v=.ref a->∃ob,s.heap.get? a=some ob/\ob.dict=none:=by
 cases x with
 | str z =>
  obtain ⟨t,rfl⟩:=r;cases (show T = "str" from ty);exact ⟨typeIs_str s z t,fun _ e=>nomatch e⟩
 | int i =>
  obtain ⟨t,rfl⟩:=r;cases (show T = "int" from ty);exact ⟨ycC s i t,fun _ e=>nomatch e⟩
 | ref p =>
  cases r
  rcases ty with ⟨rfl,xs,hq⟩ | ⟨rfl,o,hk,hc,hd⟩ | ⟨rfl,hk⟩ | ⟨rfl,S,n,hk⟩
  ·obtain ⟨its,_,pl,_⟩:=I.list hq;refine ⟨pl.isList.typeIs,fun a e=>?_⟩;cases e;obtain ⟨o,n,e,c,hd,_⟩:=pl;exact ⟨o,e,hd⟩
  ·refine ⟨⟨o,I.kIn p o hk,hc⟩,fun a e=>?_⟩;cases e;exact ⟨o,I.kIn _ o hk,hd⟩
  ·have z:∃o,s.heap.get? p=some o/\o.ExactDict:=by
    rcases hk with ⟨kvs,hk⟩ | ⟨kvs,hk⟩
    ·obtain ⟨_,_,_,_,o,_,_,e,ex,_⟩:=I.hok p _ hk;exact ⟨o,e,ex⟩
    ·obtain ⟨_,_,_,_,o,_,_,e,ex,_⟩:=I.hok p _ hk;exact ⟨o,e,ex⟩
   obtain ⟨o,e,ex⟩:=z;refine ⟨⟨o,e,ex.1⟩,fun a e2=>?_⟩;cases e2;exact ⟨o,e,ex.2.1⟩
  ·obtain ⟨o,_,_,_,e,ex,_⟩:=I.hok p _ hk;refine ⟨⟨o,e,ex.1⟩,fun a e2=>?_⟩;cases e2;exact ⟨o,e,ex.2.1⟩
 | _=>exact False.elim ty
def tBM(K:PySem.W.Frag)(T:String)(r:V->List V->Hp->VK->Prop)(to:TE)(t:TA):TE:=fun σ H Q=>to σ H fun x H1=>tyV K T x H1/\t σ H1 fun xs H2=>r x xs H2 Q
variable{o e:Expr}{es:List Expr}{to:TE}{t:TA}{name:Str}{apos cpos:Pos}{T id:String}{r:V->List V->Hp->VK->Prop}
def zpI(pa:PlainAttrs T)(slot:Slot T name id)(hty:typeOf (.builtin id)=pure (.type "method_descriptor"))(hm:MtR X id r)(ho:PE X o to)(ha:PA X (e::es) t)
  (hbase:attributeBase o name X.env (eval o X.env)=eval o X.env:=by rfl)
  (hfew:((backTo cpos (starEach (e::es) X.env)).all (fun x=>!x.1)&&(backToKw cpos (keywordEach [] X.env)).all (fun x=>x.1.isSome)
   && decide ((e::es).length+([]:List Keyword).length+(if ([]:List Keyword).isEmpty then 0 else 1)<30))=true:=by rfl)
  (hline:(apos.endLine == cpos.line)=true:=by rfl) (hs:starEach (e::es) X.env=(false,eval e X.env)::starEach es X.env:=by rfl) (hplain:(backTo cpos (starEach es X.env)).any (·.1)=false:=by rfl) :
  PE X (.Call (.Attribute o name apos) (e::es) [] cpos) (tBM X.K T r to t):=by
 intro pins s σ H Q I h;refine wpAny_Call_method_late hbase hfew hline rfl (thn (ho pins s σ H _ I h) fun v s1 ⟨x,H1,I1,r1,ty,q1⟩=>?_);obtain ⟨h1,h2⟩:=zri I1 r1 ty;refine ⟨T,id,pa,slot,hty,h1,h2,?_⟩;have hA:=ha cpos pins s1 σ H1 _ I1 q1;rw [hs] at hA ⊢;refine Calls.callWith_builtin (by show (false||(backTo cpos (starEach es X.env)).any (·.1))=false;rw [hplain]<;>rfl) (ycx ?_);exact thn hA fun us s2 ⟨vs,H2,I2,r2,q2⟩=>hm pins s2 σ H2 x vs v us Q I2 r1 r2 q2
end
end L2
namespace L2
open PySem PySem.Spec PyProof.Rows
def MtM(X:Cx)(id:String)(r:V->List V->Hp->VK->Prop):Prop :=
 ∀(pins:Z3) (s:Shared) (σ:St) (H:Hp) (x:V) (xs:List V) (v:Value) (us:List Value) (Q:VK),Inv X pins σ H s->za2 x v->Vals xs us->r x xs H Q →
  wpAny (model X.prog X.w) X.A (call (.builtin id) (v::us)) (EP X pins σ Q) X.xe s
theorem Vals.one:∀{x:V} {us:List Value},Vals [x] us->∃u,us=[u]/\za2 x u
 | _,_,.cons r .nil=>⟨_,rfl,r⟩
theorem Vals.rep{xs:List V}{us:List Value}(h:Vals xs us):∀k:Nat,Vals (List.replicate k xs).flatten (List.replicate k us).flatten
 | 0=>.nil
 | k+1=>by
  rw [ya6,ya6,yby,yby];exact Vals.append h (Vals.rep h k)
theorem zfe(its:List Value):∀(k:Nat) (acc:List Value),
  List.foldl (fun x1 x2=>x1++x2) acc.toArray (List.replicate k its.toArray)=(acc++(List.replicate k its).flatten).toArray
 | 0,acc=>by simp
 | k+1,acc=>by
  have e:acc.toArray++its.toArray=(acc++its).toArray:=by simp
  have e2:(acc++its)++(List.replicate k its).flatten=acc++(List.replicate (k+1) its).flatten:=by
   rw [ya6,yby,ycR]
  rw [<-e2,<-zfe its k (acc++its),<-e,ya6,List.foldl_cons]
section
variable{X:Cx}{pins:Z3}{σ:St}{H:Hp}{s:Shared}{l b:Addr}{xs ys zs:List V}
def Inv.lset{its its':List Value}{n:Nat}{f:Array Value->Array Value}{t':Nat}(I:Inv X pins σ H s)(hH:H l=some (.lst xs))
  (e:s.heap.get? l=some { cls:=.type "list",data:=.seq its.toArray n }) (hf:f its.toArray=its'.toArray) (hv:Vals ys its') (hz:ys.length<=sizeLine) :
  Inv X pins σ (upd H l (.lst ys)) { s with heap:=s.heap.update l (Obj.mapSeq f),toks:=t' }:=by
 have q:=PySem.IsL.update e f;rw [hf] at q;refine I.write (x:=l) (e:=l) (by rw [hH];exact trivial) (.inl rfl) (fun b' u hb hu=>(Heap.get?_update_other s.heap (Obj.mapSeq f) (Ne.symm hb)).trans hu) ⟨_,q⟩ ?_;exact ⟨hz,its',_,hv,q⟩
def Inv.lnew{its:List Value}{t':Nat}(I:Inv X pins σ H s)(hv:Vals ys its)(hz:ys.length<=sizeLine) :
  Inv X pins σ (upd H s.heap.objs.size (.lst ys)) { s with heap:=s.heap.push { cls:=.type "list",data:=.seq its.toArray },toks:=t' } :=
 I.laid (fun _ _ q=>yad _ q) (yam _) ⟨hz,its,0,hv,yar _ rfl⟩
theorem Inv.fresh(I:Inv X pins σ H s):H s.heap.objs.size=none:=I.hok.fresh (yam _)
def Inv.lstM(I:Inv X pins σ H s)(hH:H l=some (.lst xs)):xs.length<=sizeLine/\∃(its:List Value) (n:Nat),Vals xs its/\xs.length=its.length/\s.heap.get? l=some { cls:=.type "list",data:=.seq its.toArray n }:=by
 obtain ⟨z,its,n,r,e⟩:=I.hok l _ hH;exact ⟨z,its,n,r,r.length,e⟩
def ziJ{n:Nat}(h:n<=sizeLine):Builtin.List.listTooLong n=false:=by
 unfold Builtin.List.listTooLong;exact yaS (by omega)
end
section
variable{X:Cx}
def zps:V->List V->Hp->VK->Prop:=fun x vs H Q=>∃l xs y,x=.ref l/\vs=[y]/\H l=some (.lst xs)/\xs.length<sizeLine/\Q .non (upd H l (.lst (xs++[y])))
def zk9:MtM X "list.append" zps:=by
 intro pins s σ H x vs v us Q I rx rv h;obtain ⟨l,xs,y,rfl,rfl,hH,hz,q⟩:=h;cases rx;obtain ⟨u,rfl,ru⟩:=rv.one;obtain ⟨z,its,n,r,hl,e⟩:=I.lstM hH;refine ycn F.slot_list_append ⟨_,e,rfl⟩ F.entry_list_append (F.args_list_append_2 _ _) (PySem.list_append l its.toArray n u (by rw [yak];omega)) ⟨e,?_⟩;refine ⟨.non,_,I.lset (its':=its++[u]) hH e (by simp) (r.append (.cons ru .nil)) ?_,rfl,q⟩;rw [yal,ybf];omega
def zpr:V->List V->Hp->VK->Prop:=fun x vs H Q=>∃l b xs zs,x=.ref l/\vs=[.ref b]/\H l=some (.lst xs)/\H b=some (.lst zs)/\xs.length+zs.length<=sizeLine/\Q .non (upd H l (.lst (xs++zs)))
def zk8:MtM X "list.extend" zpr:=by
 intro pins s σ H x vs v us Q I rx rv h;obtain ⟨l,b,xs,zs,rfl,rfl,hH,hB,hz,q⟩:=h;cases rx;obtain ⟨u,rfl,ru⟩:=rv.one;cases ru;obtain ⟨z,its,n,r,hl,e⟩:=I.lstM hH;obtain ⟨z2,its2,n2,r2,hl2,e2⟩:=I.lstM hB
 have hsz:its.toArray.size+its2.toArray.size<=sizeLine:=by rw [yak,yak];omega
 have hlong:¬ (!its.toArray.isEmpty&&Builtin.List.listTooLong (its.toArray.size+its2.toArray.size))=true:=by
  rw [ziJ hsz,Bool.and_false];exact yba
 refine ycn F.slot_list_extend ⟨_,e,rfl⟩ F.entry_list_extend (F.args_list_extend_2 _ _)
  (AutoSeq1.list_extend_list_list_0 l its.toArray n b its2.toArray n2 hlong (by rw [yak];omega) (by omega)) ⟨e,e2,?_⟩
 refine ⟨.non,_,I.lset (its':=its++its2) hH e (by simp) (r.append r2) ?_,rfl,q⟩;rw [yal];omega
def zy5:R2:=fun x y H Q=>∃l b xs zs,x=.ref l/\y=.ref b/\H l=some (.lst xs)/\H b=some (.lst zs)/\xs.length+zs.length<=sizeLine/\∀p,H p=none->Q (.ref p) (upd H p (.lst (xs++zs)))
def zsx:OpR X (binaryOp .Add) zy5:=by
 intro pins s σ H x y v u Q I rx ry h;obtain ⟨l,b,xs,zs,rfl,rfl,hH,hB,hz,q⟩:=h;cases rx;cases ry;obtain ⟨z,its,n,r,hl,e⟩:=I.lstM hH;obtain ⟨z2,its2,n2,r2,hl2,e2⟩:=I.lstM hB;refine PySem.P.add_list e e2 ?_ (by rw [yak,yak];omega)
 have ea:its.toArray++its2.toArray=(its++its2).toArray:=by simp
 rw [ea];exact ⟨.ref _,_,I.lnew (t':=s.toks) (r.append r2) (by rw [yal];omega),rfl,q _ I.fresh⟩
def zy2:R2:=fun x y H Q=>∃l k xs,x=.ref l/\y=.int k/\H l=some (.lst xs)/\-(2 ^ 63)<=k/\k<2 ^ 63/\xs.length*k.toNat<=sizeLine ∧
 ∀p,H p=none->Q (.ref p) (upd H p (.lst (List.replicate k.toNat xs).flatten))
def zhW{α:Type}(xs:List α)(k:Nat):(List.replicate k xs).flatten.length=k*xs.length:=by
 induction k with
 | zero=>simp
 | succ k ih=>rw [ya6,yby,yal,ih,ybV,Nat.add_comm]
def zof:OpR X (binaryOp .Mult) zy2:=by
 intro pins s σ H x y v u Q I rx ry h;obtain ⟨l,k,xs,rfl,rfl,hH,h1,h2,hz,q⟩:=h;cases rx;obtain ⟨t,rfl⟩:=ry;obtain ⟨z,its,n,r,hl,e⟩:=I.lstM hH
 have hlen:its.toArray.size*k.toNat<=sizeLine:=by rw [yak,<-hl];exact hz
 have hcap:¬ its.toArray.size*k.toNat > (2 ^ 63-1) / 8:=by
  have:(sizeLine:Nat)<=(2 ^ 63-1) / 8:=by decide
  omega
 have hfit:¬ (!Builtin.List.listFitsIndex k)=true:=by
  rw [fitsIndex_both h1 h2];exact yba
 have hlong:¬ Builtin.List.listTooLong (its.toArray.size*k.toNat)=true:=by
  rw [ziJ hlen];exact yba
 have hnew:List.foldl (fun x1 x2=>x1++x2) #[] (List.replicate (if its.toArray.isEmpty=true then 0 else k.toNat) its.toArray)=(List.replicate k.toNat its).flatten.toArray:=by
  have f0:∀m:Nat,List.foldl (fun x1 x2=>x1++x2) #[] (List.replicate m its.toArray)=(List.replicate m its).flatten.toArray:=fun m=>by
   have:=zfe its m [];rwa [ycd] at this
  rw [f0]
  cases its with
  | nil=>simp
  | cons a r'=>rw [if_neg (by simp)]
 refine yb0 (T:="list") (U:="int") (by decide) ⟨_,e,rfl⟩ (fun s'=>ycC s' k t) noFill_list_mul F.fills_int_mul ybW repeat_list F.slot_int_index.lookup
  (ycn ybW (ycC s k t) F.entry_int_rmul (ycS _ _) (int___rmul___int_list k t l its.toArray n)
   ⟨e,rfl,⟨_,e,rfl⟩,ycn F.slot_list_mul ⟨_,e,rfl⟩ F.entry_list_mul (F.args_list_mul_2 _ _) (AutoListH.list___mul___list_int_3 l its.toArray n k t hfit hcap hlong) ⟨e,?_⟩⟩)
 rw [hnew];exact ⟨.ref _,_,I.lnew (t':=s.toks) (r.rep k.toNat) (by rw [zhW,ybr];exact hz),rfl,q _ I.fresh⟩
end
section
variable{prog:Program}{w:World}{A:Around}{E:Z5}{s:Shared}
end
section
variable{X:Cx}
end
end L2
namespace Att
open PySem PySem.W PySem.Calls PyProof.Rows
def zfb{P:Params}{h:Heap}:∀(ns:List Int) (vs:List Value),WellAll P h vs (ns.map WData.int)->IntsAre vs ns:=by
 intro ns
 induction ns with
 | nil =>
  intro vs w;rw [List.map_nil] at w;cases w;exact .nil
 | cons n ns ih =>
  intro vs w;rw [yaq] at w
  cases w with
  | cons a b =>
   cases a;exact .cons _ _ (ih _ b)
def zkt{l:OpenLaw}{n:Nat}(hn:l.most=some n){P:Params}{h:Heap}{args:List WData}{vals:List Value}
  (hpre:l.row.toRowW.claim.pre args=true) (hwl:WellAll P h vals args) :
  ∃a vs ns,vals=[Value.ref a]/\args=[WData.list (ns.map WData.int)]/\h.get? a=some { cls:=.type "list",data:=.seq vs.toArray }/\IntsAre vs ns/\ns.length<=n:=by
 have hsh:WShape.hasAll [] args [.list .int]=true:=(pre_splitW hpre).1;have hc:l.pre.holds [] { args:=args }=true:=(pre_splitW hpre).2;obtain ⟨d,r,rfl,h1,h2⟩:=hasAllW_cons hsh;obtain rfl:=hasAllW_nil h2;obtain ⟨xs,rfl,h3⟩:=hasW_list h1;obtain ⟨ns,rfl⟩:=items_int h3
 have hlen:ns.length<=n:=by
  unfold OpenLaw.pre at hc
  have h4:(WTm.not (.lt (.lit (.int (n:Int))) (.len (.arg 0)))).holds [] { args:=[.list (ns.map .int)] }=true:=by
   have h4:=(holds_andW hc).1;rwa [hn] at h4
  have h5:=condW_of h4 (w_not (w_lt w_lit (w_len_list (w_arg rfl))));rw [yaf] at h5;refine Nat.le_of_not_lt fun q=>?_
  have q':(n:Int)<((ns.length:Nat):Int):=by omega
  first
   | (rw [yaM q'] at h5;exact absurd h5 (by decide))
   | (simp at h5;omega)
 cases hwl with
 | cons w1 w2 =>
  cases w2
  cases w1 with
  | list ho hall=>exact ⟨_,_,ns,rfl,rfl,ho,zfb ns _ hall,hlen⟩
def zkP(l:OpenLaw)(args:List WData):l.row.toRowW.claim.post args (.bool true) args=true :=
 postW_of (r:=l.row.toRowW) (X:=(true == true))
  (show WShape.has [] (.bool true) .bool=true by first | rfl | decide | simp [WShape.has,WShape.arms,WShape.armsAll])
  (show (WTm.eq .res (.lit (.bool true))).value [] { args:=args,res:=some (.bool true),after:=args }=some (.bool (true == true)) from w_eq_bool (w_res rfl) w_lit) rfl
def zib{l:OpenLaw}{n:Nat}{q:Program}{loose:List Str}{XP:(Str->Option Value)->Heap->Prop}{YP:World->Heap->Prop}{d:DefRec}
  (hn:l.most=some n) (hdf:d.params.defaults=[])
  (call:∀(w:World) (s₀ s₁:Shared) (mg mb:Z6) (fa:Addr) (o:Obj) (pm cd doc:Value) (a:Addr) (vs:List Value) (ns:List Int),
   Ground q loose [] XP w s₀ mg mb s₁.heap->YP w s₁.heap →
   s₁.heap.get? fa=some o->o.data=.func (docDef d.name d.params d.body d.scope pm cd doc)->s₁.heap.CodeRec cd d.name->mg d.name=some (.ref fa) →
   s₁.heap.get? a=some { cls:=.type "list",data:=.seq vs.toArray }->IntsAre vs ns->ns.length<=n->s₁.gens=#[] →
   codeAny (model l.prog w) callerA (.call (.ref fa) ⟨[.ref a],[]⟩) (fun r s'=>r=.ok (.ret (.bool true))/\OldK s₁.heap s'.heap/\s'.os=s₁.os/\AllBare s'.gens) s₁) :
  WalkO q loose XP YP l.row.toRowW d [] (fun f vs=>PySem.call f vs):=by
 intro w s₀ s₁ mg mb G Y fa o pm cd doc dV kV ho hd hcd hD hmg hg args vals as hpre hlay hrd hwl hlo;obtain rfl:dV=.none:=Dflts.none hD hdf;obtain rfl:kV=.none:=Dflts.noKw hD;obtain ⟨a,vs,ns,rfl,rfl,hobj,hints,hlen⟩:=zkt hn hpre hwl;refine enter_call (codeAny_mono (call w s₀ s₁ mg mb fa o pm cd doc a vs ns G Y ho (fd_plain hd) hcd hmg hobj hints hlen hg) fun r s' hq=>?_);obtain ⟨rfl,h2,h3,h4⟩:=hq;exact ⟨.inl ⟨.bool true,.bool true,[],rfl,fun _=>rfl,.bool true,zkP l _,fun _=>⟨List.Pairwise.nil,fun _ hm=>(nomatch hm)⟩⟩,h2,h3,h4⟩
section
variable{prog:Program}{w:World}{A:Around}{E:Z5}{s:Shared}{K:Frag}
end
end Att
namespace L2
open PySem PySem.Spec PyProof.Rows
theorem zgI:∀{vs:List Value} {ns:List Int},IntsAre vs ns->Vals (ns.map V.int) vs
 | _,_,.nil=>.nil
 | _,_,.cons n t h=>.cons ⟨t,rfl⟩ (zgI h)
def zup(H:Hp):Prop:=∀b,H b=none\/∃o xs,H b=some (.frz o (.lst xs))
def znd{P:Program}{w:World}{K:PySem.W.Frag}{mg mb:Z6}{CX:CXT}{k:Nat}{fa a:Addr}{fd:FuncData}{x:Str}{sp:Sp}{s₁:Shared}{vs:List Value}{ns:List Int}
  (KX:K.In s₁.heap) (hns:s₁.heap.Ns mainGlobals mg) (hb:s₁.heap.Ns builtinsNs mb) (hbb:∀x:Str,x ≠ "__name__" -> mb x=bootBuiltins x) (hlim:s₁.heap.NoLimit) (hg:s₁.gens=#[])
  (ha:s₁.heap.get? a=some { cls:=.type "list",data:=.seq vs.toArray }) (hi:IntsAre vs ns) (hl:ns.length<=sizeLine) (hr:Room k callerA)
  (F:∀base:Heap,K.In base->base.Ns mainGlobals mg->FnOk P w K mg base CX k fa fd [x] sp) (hbind:∀(s:Shared) (u:Value),BindsTo s fd ⟨[u],[]⟩ [(x,u)])
  (hsp:∀H:Hp,zup H->SqL K H a (ns.map V.int)->sp [.ref a] H (fun v _=>v=.bl true) fun _ _ _=>False)
  (hCX:∀H e s',CX [] H s₁ (fun _ _ _=>False) e s'->False) :
  codeAny (model P w) callerA (.call (.ref fa) ⟨[.ref a],[]⟩) (fun r s'=>r=.ok (.ret (.bool true))/\OldK s₁.heap s'.heap/\s'.os=s₁.os/\AllBare s'.gens) s₁:=by
 have rv:=zgI hi;have lenV:=hi.length
 have core:∀H:Hp,zup H->SqL K H a (ns.map V.int)->HOk P w H s₁.heap->(∀b,H b≠none->b=a)->(H a≠none->K.lookup a=none) →
   codeAny (model P w) callerA (.call (.ref fa) ⟨[.ref a],[]⟩) (fun r s'=>r=.ok (.ret (.bool true))/\OldK s₁.heap s'.heap/\s'.os=s₁.os/\AllBare s'.gens) s₁:=by
  intro H hO hS hok hA hK;have zdH:∀{b:Addr} {o:Obj},s₁.heap.get? b=some o->H b=none->(znp s₁.heap H).get? b=some o:=fun e n=>zno e n
  have noA:∀{b:Addr} {o:Obj} {es:Array DictEntry} {ep:Nat},s₁.heap.get? b=some o->o.data=.dict es ep->H b=none:=fun {b o es ep} e d=>by
   cases q:H b with
   | none=>rfl
   | some u =>
    have e':b=a:=hA b (by rw [q];simp);subst e';rw [ha] at e;cases e;have d':Data.seq vs.toArray _=Data.dict es ep:=d;cases d'
  have nsK:∀{b:Addr} {m:Z6},s₁.heap.Ns b m->(znp s₁.heap H).Ns b m:=fun {b m} ⟨o,es,ep,e,d,r⟩=>⟨o,es,ep,zdH e (noA e d),d,r⟩
  have hKb:K.In (znp s₁.heap H):=fun b o e=>zdH (KX b o e) (by
   cases q:H b with
   | none=>rfl
   | some u =>
    have e':b=a:=hA b (by rw [q];simp);subst e'
    rw [hK (by rw [q];simp)] at e;cases e)
  have hM:Mod K mg (znp s₁.heap H):=⟨hKb,nsK hns,⟨mb,nsK hb,hbb⟩,let ⟨mc,h1,h2⟩:=hlim;⟨mc,nsK h1,h2⟩⟩;have e0:Env0 P w K mg (znp s₁.heap H) callerA [] s₁ H:=⟨rfl,hM,fun b o e=>zpO e,Nat.le_of_eq (zlz _ _),trivial,fun b hb=>absurd (show b∈([]:List Addr) from hb) (by simp),hok,.of_eq hg⟩;refine codeAny_mono ((F _ hKb (nsK hns)).run callerA [] s₁ H ⟨[.ref a],[]⟩ [.ref a] [.ref a] _ _ hr e0 (hbind s₁ (.ref a)) (.cons rfl .nil) (hsp H hO hS)) fun r s' h=>?_
  cases r with
  | error e=>exact (hCX H e s' h).elim
  | ok fl =>
   cases fl with
   | next=>exact False.elim h
   | brk=>exact False.elim h
   | cont=>exact False.elim h
   | ret u =>
    obtain ⟨v,H',os,bare,un,hok',r',q⟩:=h;have q':v=.bl true:=q;subst q';obtain rfl:u=Value.bool true:=r';refine ⟨rfl,OldK.of_keep fun b o e=>?_,os,bare⟩
    cases q:H b with
    | none=>exact un.keep b o e q (by intro z;exact absurd (show b∈([]:List Addr) from z) (by simp)) (by simp)
    | some u =>
     rcases hO b with z | ⟨ob,xs,z⟩
     ·rw [q] at z;cases z
     ·have z2:=un.frzs b ob _ z;obtain ⟨e1,_⟩:=hok b _ z;obtain ⟨e2,_⟩:=hok' b _ z2;rw [e] at e1;cases e1;exact e2
 cases hk:K.lookup a with
 | some o =>
  have e:=KX a o hk;rw [ha] at e;cases e;refine core (fun _=>none) (fun _=>.inl rfl) (.inr ⟨_,vs.toArray,_,hk,rfl,rfl,rfl,by rw [yak,lenV];exact hl,by simpa using rv⟩) (fun b u z=>by have z':(none:Option HO)=some u:=z;cases z') (fun b z=>absurd rfl z) fun z=>absurd rfl z
 | none =>
  refine core (fun b=>if b=a then some (.frz { cls:=.type "list",data:=.seq vs.toArray } (.lst (ns.map V.int))) else none) (fun b=>?_) (.inl (.inr ⟨{ cls:=.type "list",data:=.seq vs.toArray },if_pos rfl⟩)) (fun b u z=>?_) (fun b z=>?_) fun _=>hk
  ·by_cases hb:b=a
   ·exact .inr ⟨_,_,if_pos hb⟩
   ·exact .inl (if_neg hb)
  ·by_cases hb:b=a
   ·have z':=(if_pos hb).symm.trans z;cases z';subst hb;exact ⟨ha,by rw [yaf];exact hl,vs,_,rv,ha⟩
   ·have z':=(if_neg hb).symm.trans z;cases z'
  ·by_cases hb:b=a
   ·exact hb
   ·exact absurd (if_neg hb) z
end L2
namespace L2
open PySem PySem.Spec PyProof.Rows
def zoJ{l:PySem.W.OpenLaw}{n k:Nat}{q:Program}{loose:List Str}{XP:(Str->Option Value)->Heap->Prop}{YP:World->Heap->Prop}{d:DefRec}{K:Params->PySem.W.Frag}{CX:World->CXT}{sp:World->Sp}{x:Str}
  (hn:l.most=some n) (hn2:n<=sizeLine) (hdf:d.params.defaults=[]) (hr:Room k callerA)
  (hY:∀(w:World) (h:Heap),YP w h->(K w.params).In h)
  (F:∀(w:World) (mg:Z6) (fa:Addr) (h:Heap),(K w.params).In h->h.Ns mainGlobals mg->mg d.name=some (.ref fa) →
   ∃fd:FuncData,(∀(s:Shared) (u:Value),BindsTo s fd ⟨[u],[]⟩ [(x,u)]) ∧
    ∀base:Heap,(K w.params).In base->base.Ns mainGlobals mg->FnOk l.prog w (K w.params) mg base (CX w) k fa fd [x] (sp w))
  (hsp:∀(w:World) (H:Hp) (a:Addr) (ns:List Int),ns.length<=n->zup H->SqL (K w.params) H a (ns.map V.int)->sp w [.ref a] H (fun v _=>v=.bl true) fun _ _ _=>False)
  (hCX:∀(w:World) (H:Hp) (s:Shared) (e:Value) (s':Shared),CX w [] H s (fun _ _ _=>False) e s'->False) :
  PySem.W.WalkO q loose XP YP l.row.toRowW d [] (fun f vs=>PySem.call f vs):=by
 refine Att.zib hn hdf fun w s₀ s₁ mg mb fa o pm cd doc a vs ns G Y ho hd hcd hmg hobj hints hlen hg=>?_
 have KX:=hY w _ Y;obtain ⟨fd,hb,hF⟩:=F w mg fa _ KX G.T.g hmg;exact znd KX G.T.g G.T.b G.T.builtins G.T.nolimit hg hobj hints (yaj hlen hn2) hr hF hb (fun H hO hS=>hsp w H a ns hlen hO hS) fun H e s'=>hCX w H s₁ e s'
end L2
namespace L2
open PySem PySem.Spec PyProof.Rows
def zbB(s:Stmt):Arguments:=match s with
 | .FunctionDef _ a _ _ _ _ _ _ _ _=>a
 | _=>{ posonlyargs:=[],args:=[],vararg:=none,kwonlyargs:=[],kw_defaults:=[],kwarg:=none,defaults:=[] }
def zbs(s:Stmt):List Stmt:=match s with
 | .FunctionDef _ _ b _ _ _ _ _ _ _=>b
 | _=>[]
def zad(s:Stmt):Scope:=match s with
 | .FunctionDef _ _ _ _ _ _ sc _ _ _=>sc
 | _=>{ kind:=.function,names:=[],isGenerator:=false,isCoroutine:=false }
structure Fun(K:PySem.W.Frag)(x qual:Str)(st:Stmt)(f:Addr)(fd:FuncData):Prop where
 ex:∃(oc:Value) (od:Option Addr) (kV doc pm:Value) (an:Option Addr) (cdv ct:Value) (osl:Array (Option Value)),
  fd=PySem.W.fnOf x qual (zbB st) (zbs st) (zad st) .none kV doc pm an cdv ct/\K.lookup f=some ⟨oc,od,.func fd,osl⟩/\PySem.W.codeIn K cdv qual=true
 kp:PySem.W.keepIn K (.ref f)=true
section
variable{P:Program}{w:World}{K:PySem.W.Frag}{mg:Z6}{base:Heap}
def Fun.binds{x qual:Str}{st:Stmt}{f:Addr}{fd:FuncData}{ps:List Str}(F:Fun K x qual st f fd)
  (h:∀(kV doc pm:Value) (an:Option Addr) (cdv ct:Value) (us:List Value),us.length=ps.length->bindArgs (PySem.W.fnOf x qual (zbB st) (zbs st) (zad st) .none kV doc pm an cdv ct) ⟨us,[]⟩=pure (ps.zip us)):zcj K fd ps []:=by
 obtain ⟨oc,od,kV,doc,pm,an,cdv,ct,osl,rfl,lk,hcd⟩:=F.ex;exact .all (h kV doc pm an cdv ct)
def zou{x qual:Str}{st:Stmt}{f:Addr}{oc:Value}{od an:Option Addr}{osl:Array (Option Value)}{kV doc pm cdv ct:Value}(l:K.lookup f=some ⟨oc,od,.func (PySem.W.fnOf x qual (zbB st) (zbs st) (zad st) .none kV doc pm an cdv ct),osl⟩)
  (c:PySem.W.codeIn K cdv qual=true) (k:PySem.W.keepIn K (.ref f)=true):Fun K x qual st f (PySem.W.fnOf x qual (zbB st) (zbs st) (zad st) .none kV doc pm an cdv ct):=⟨⟨oc,od,kV,doc,pm,an,cdv,ct,osl,rfl,l,c⟩,k⟩
end
section
variable{X:Cx}
def pv(i:Nat){x:Str}{pos:Pos}(hN:X.N[i]?=some x:=by rfl)(hv:Vis X.env.scope x:=by first | exact Or.inl rfl | exact Or.inr (Or.inl rfl) | exact Or.inr (Or.inr rfl))(hd:(x == ("__debug__":Str))=false:=by decide)
  (hcd:(x == ("__classdict__":Str))=false:=by decide):PE X (.Name x pos) (zuL i):=zcn hN hv hd hcd
end
def zoq{A B:Prop}(h:B):if false=true then A else B:=by
 rw [if_neg yba];exact h
def zop{A B:Prop}(h:A):if true=true then A else B:=by
 rw [if_pos rfl];exact h
end L2
namespace L2
open PySem PySem.Spec PyProof.Rows
def zjQ{scope:Scope}{env:Env}(h:∀y∈scope.names,y.2=.free->∃c,env.cells.lookup y.1=some c) :
  ∃cl,closureFor scope env=pure cl/\(∀y c,cl.lookup y=some c->env.cells.lookup y=some c)/\∀y,(y,NameKind.free)∈scope.names->∃c,cl.lookup y=some c:=by
 unfold closureFor
 have key:∀(l:List (Str×NameKind)) (cs:List (Str×Addr)),(∀y∈l,y.2=.free->∃c,env.cells.lookup y.1=some c)->(∀y c,cs.lookup y=some c->env.cells.lookup y=some c) →
   ∃cl,(forIn l cs fun (x:Str×NameKind) (r:List (Str×Addr))=>(if (x.2 == NameKind.free)=true then (do let c ← cellOf env x.1;pure (ForInStep.yield ((x.1,c)::r))) else pure (ForInStep.yield r):Sem (ForInStep (List (Str×Addr)))))=pure cl ∧
    (∀y c,cl.lookup y=some c->env.cells.lookup y=some c)/\(∀y,(y,NameKind.free)∈l->∃c,cl.lookup y=some c)/\(∀y c,cs.lookup y=some c->∃c',cl.lookup y=some c'):=by
  intro l
  induction l with
  | nil=>intro cs _ hc;exact ⟨cs,rfl,hc,fun y hy=>by simp at hy,fun y c e=>⟨c,e⟩⟩
  | cons p l ih =>
   intro cs hl hc;obtain ⟨n,k⟩:=p
   by_cases hk:(k == NameKind.free)=true
   ·have ek:k=.free:=eq_of_beq hk;obtain ⟨c,ec⟩:=hl (n,k) yax ek
    obtain ⟨cl,e1,e2,e3,e4⟩:=ih ((n,c)::cs) (fun y hy=>hl y (yap _ hy)) (fun y c' e=>by
     rw [yay] at e
     cases hq:y == n with
     | true=>rw [hq] at e;cases e;rw [eq_of_beq hq];exact ec
     | false=>rw [hq] at e;exact hc y c' e)
    refine ⟨cl,?_,e2,fun y hy=>?_,fun y c' e=>?_⟩
    ·rw [ycH];show ((if (k == NameKind.free)=true then _ else _) >>= _)=_;rw [if_pos hk]
     have ecell:cellOf env n=pure c:=by unfold cellOf;rw [ec]
     show (cellOf env n >>= _) >>= _=_;rw [ecell];simpa using e1
    ·rcases yav.mp hy with z | hy
     ·cases z;exact e4 n c (by rw [yay];simp)
     ·exact e3 y hy
    ·cases hq:y == n with
     | true=>exact e4 y c (by rw [yay,hq])
     | false=>exact e4 y c' (by rw [yay,hq];exact e)
   ·obtain ⟨cl,e1,e2,e3,e4⟩:=ih cs (fun y hy=>hl y (yap _ hy)) hc;refine ⟨cl,?_,e2,fun y hy=>?_,e4⟩
    ·rw [ycH];show ((if (k == NameKind.free)=true then _ else _) >>= _)=_;rw [if_neg hk];simpa using e1
    ·rcases yav.mp hy with z | hy
     ·cases z;exact absurd rfl hk
     ·exact e3 y hy
 obtain ⟨cl,e1,e2,e3,_⟩:=key scope.names [] h (fun y c e=>by simp at e);refine ⟨cl,?_,e2,e3⟩;show ((forIn scope.names [] _:Sem (List (Str×Addr))) >>= _)=_;have e1':=congrArg (fun m=>m >>= (pure:List (Str×Addr)->Sem (List (Str×Addr)))) e1;simpa using e1
def PIf(X:Cx)(ifs:List Expr)(t:TT):Prop :=
 ∀(pins:Z3) (s:Shared) (σ:St) (H:Hp) (Q:Bool->Hp->Prop),Inv X pins σ H s->t σ H Q →
  wpAny (model X.prog X.w) X.A (forIn ifs true fun c r=>if r=true then do let ok ← isTrue c X.env (eval c X.env);pure (ForInStep.yield ok) else pure (ForInStep.yield r)) (TP X pins σ Q) X.xe s
def zyP:TT:=fun _ H Q=>Q true H
def zpE{X:Cx}:PIf X [] zyP:=fun _ _ _ H _ I h=>wpAny_tests_nil ⟨H,I,h⟩
def zpD{X:Cx}{c:Expr}{t:TT}(h:PT X c t):PIf X [c] t:=fun pins s σ H Q I hw=>wpAny_tests_one (h pins s σ H Q I hw)
theorem zek{scope:Scope}{env:Env}:∀{names:List (Str×NameKind)} {y:Str},(y,NameKind.free)∈names->(∀z∈names,z.1=y->z.2=.free) →
  (names.map fun (n,k)=>if (k == NameKind.free&&env.scope.kind == .function&&env.kindOf n == some .cell) then (n,NameKind.cell) else (n,k)).lookup y=some .cell ∨
  (names.map fun (n,k)=>if (k == NameKind.free&&env.scope.kind == .function&&env.kindOf n == some .cell) then (n,NameKind.cell) else (n,k)).lookup y=some .free
 | [],_,h,_=>by simp at h
 | (n,k)::r,y,h,u=>by
  rw [yaq];show List.lookup y ((if (k == NameKind.free&&env.scope.kind == .function&&env.kindOf n == some .cell)=true then (n,NameKind.cell) else (n,k))::_)=_\/List.lookup y ((if (k == NameKind.free&&env.scope.kind == .function&&env.kindOf n == some .cell)=true then (n,NameKind.cell) else (n,k))::_)=_
  cases hq:y == n with
  | true =>
   have e:n=y:=(eq_of_beq hq).symm;have ek:k=.free:=u (n,k) yax e
   by_cases hc:(k == NameKind.free&&env.scope.kind == .function&&env.kindOf n == some .cell)=true
   ·rw [if_pos hc];left;simp [yay,hq]
   ·rw [if_neg hc];right;simp [yay,hq,ek]
  | false =>
   have hy:(y,NameKind.free)∈r:=by
    rcases yav.mp h with z | z
    ·cases z;simp at hq
    ·exact z
   have ih:=zek (scope:=scope) (env:=env) hy fun z hz=>u z (yap _ hz)
   by_cases hc:(k == NameKind.free&&env.scope.kind == .function&&env.kindOf n == some .cell)=true
   ·rw [if_pos hc];simpa [yay,hq] using ih
   ·rw [if_neg hc];simpa [yay,hq] using ih
def Inv.track{X:Cx}{pins:Z3}{σ:St}{H:Hp}{s:Shared}{D:Addr}{o:HO}(I:Inv X pins σ H s)(hn:H D=none)(h1:X.s₀.heap.objs.size<=D)(h2:D≠X.env.locals)(h3:∀x c,X.env.cells.lookup x=some c->c≠D)(h4:∀p∈X.pn++pins,p.1≠D)
  (new:zbu X.prog X.w (upd H D o) s.heap D o):Inv X pins σ (upd H D o) s:=by
 have nD:∀b u,H b=some u->b≠D:=fun b u e=>zax e hn
 obtain ⟨h',g',d',t',o'⟩:=s;refine I.step (h':=h') (g':=g') (d':=d') (t':=t') (ch:=[D]) (fun b hb=>?_) (fun b o _ _ _ e _=>e) (fun b o _ _ _ e _=>⟨o.slots,e⟩) (fun b o hc e n=>?_) (fun b o _ e=>⟨o,e⟩) (fun b xs e=>?_) (fun b o u e=>?_) (fun b ps e=>?_) (fun m hm=>hm) (fun b u e=>?_) I.bare
 ·have e:b=D:=by simpa using hb
  subst e;exact ⟨.inr h1,h2,h3,h4⟩
 ·rw [zal (fun z=>hc (by simp [z]))];exact n
 ·rw [zal (nD _ _ e)];exact e
 ·rw [zal (nD _ _ e)];exact e
 ·exact ⟨#[],by rw [zal (nD _ _ e),e];simp⟩
 ·by_cases hb:b=D
  ·subst hb;rw [zaR] at e;cases e;exact new
  ·rw [zal hb] at e
   exact (I.hok b u e).stay (fun _ _ _ q=>q) (fun c q=>by rw [zal (nD _ _ q)];exact q) fun c xs q=>by rw [zal (nD _ _ q)];exact q
section
variable{X:Cx}{elt iter:Expr}{x:Str}{px pos:Pos}{ifs:List Expr}{scope:Scope}{caps:List (Str×Nat)}{wi:TI}{tt:TT}{te:TE}
abbrev lob(its:List Value)(k:Nat):Obj:={ cls:=.type "list",data:=.seq its.toArray k }
end
end L2
namespace L2
open PySem PySem.Spec PyProof.Rows
section
variable{X:Cx}{elt iter:Expr}{x:Str}{px pos:Pos}{ifs:List Expr}{scope:Scope}{caps:List (Str×Nat)}{wi:TI}{tt:TT}{te:TE}
end
end L2
namespace L2
open PySem PySem.Spec PyProof.Rows
section
variable{prog:Program}{w:World}{A:Around}{R:Result->Shared->Prop}{s:Shared}
theorem zna{elt target iter:Expr}{ifs:List Expr}{scope:Scope}{pos:Pos}{it acc:Value}{env:Env}(I:Nat->Shared->Prop)
  (turn:∀n s,I n s->wpAny (model prog w) A (pyNext it) (fun r s₁=>match r with
   | none=>R (.ok .next) s₁
   | some v=>wpAny (model prog w) A (letOwnedTupleGo target it v) (fun _ s₀=>wpAny (model prog w) A (assign target env v) (fun _ s₂ =>
     wpAny (model prog w) A (forIn ifs true fun c r=>if r=true then do let ok ← isTrue c env (eval c env);pure (ForInStep.yield ok) else pure (ForInStep.yield r)) (fun ok s₃ =>
      if ok=true then wpAny (model prog w) A (eval elt env) (fun x s₄ =>
       wpAny (model prog w) A (call (.builtin "list.append") [acc,x]) (fun _ s₅=>∃m,m<n/\I m s₅) (notedBy (model prog w) A env fun e s'=>R (.error e) s') s₄) (notedBy (model prog w) A env fun e s'=>R (.error e) s') s₃
      else ∃m,m<n/\I m s₃) (notedBy (model prog w) A env fun e s'=>R (.error e) s') s₂) (notedBy (model prog w) A env fun e s'=>R (.error e) s') s₀) (notedBy (model prog w) A env fun e s'=>R (.error e) s') s₁) (notedBy (model prog w) A env fun e s'=>R (.error e) s') s)
  (n:Nat) (h:I n s):codeAny (model prog w) A (.compLoop (.ListComp elt [⟨target,iter,ifs,0⟩] scope pos) 0 it acc env) R s:=by
 refine codeAny_loop rfl I (fun n s hI=>?_) n h;show wpAny _ A ((compTurn (.ListComp elt [⟨target,iter,ifs,0⟩] scope pos) 0 it acc env).onRaise (fun x=>do noteFrame x env;theTreesLotGoes x)) _ _ s;refine wpAny_noted ?_;rw [compTurn_list];refine yaa (wpAny_standAt (yaa (ybs (turn n s hI) (fun r s₁ h₁=>?_) fun _ _ h'=>h')))
 cases r with
 | none=>exact yah h₁
 | some v =>
  refine yaa (ybs h₁ (fun _ s₀ h₀=>?_) fun _ _ h'=>h');refine yaa (ybs h₀ (fun _ s₂ h₂=>yaa (ybs h₂ (fun ok s₃ h₃=>?_) fun _ _ h'=>h')) fun _ _ h'=>h')
  cases ok with
  | false=>exact yah ⟨rfl,h₃⟩
  | true =>
   exact yaa (yaa (ybs h₃ (fun x s₄ h₄=>yaa (ybs h₄ (fun _ s₅ h₅=>yah (yah ⟨rfl,h₅⟩)) fun _ _ h'=>h')) fun _ _ h'=>h'))
end
theorem zbd:∀(names:List (Str×NameKind)) (n:Nat) (acc:List (Str×Addr)),cellsFrom n names acc=cellsFrom n names []++acc
 | [],_,_=>rfl
 | (x,k)::r,n,acc=>by
  unfold cellsFrom;split
  ·rw [zbd r (n+1) ((x,n)::acc),zbd r (n+1) [(x,n)]];simp
  ·exact zbd r n acc
theorem zcP:∀(names:List (Str×NameKind)) (n:Nat) {x:Str} {c:Addr},(x,c)∈cellsFrom n names []->(x,NameKind.cell)∈names
 | [],_,_,_,h=>by cases h
 | (y,k)::r,n,x,c,h=>by
  unfold cellsFrom at h;split at h
  ·rename_i hk;rw [zbd] at h
   rcases ybM.mp h with h | h
   ·exact yap _ (zcP r _ h)
   ·rw [yaQ] at h;cases h;rw [ybS.mp hk];exact yax
  ·exact yap _ (zcP r _ h)
theorem zb2{α:Type}{x:Str}:∀{l m:List (Str×α)},(l++m).lookup x=(l.lookup x).or (m.lookup x)
 | [],m=>rfl
 | (y,a)::l,m=>by
  rw [List.cons_append,yay,yay]
  cases x == y with
  | true=>rfl
  | false=>exact zb2
theorem zbY:∀(names:List (Str×NameKind)) (n:Nat) {x:Str},(x,NameKind.cell)∈names->∃c,(cellsFrom n names []).lookup x=some c
 | [],_,_,h=>by cases h
 | (y,k)::r,n,x,h=>by
  unfold cellsFrom;split
  ·rename_i hk;rw [zbd,zb2]
   rcases yav.mp h with e | h
   ·cases e
    cases hq:(cellsFrom (n+1) r []).lookup y with
    | some c=>exact ⟨c,rfl⟩
    | none=>exact ⟨n,by simp [yay]⟩
   ·obtain ⟨c,e⟩:=zbY r (n+1) h;rw [e];exact ⟨c,rfl⟩
  ·rename_i hk
   rcases yav.mp h with e | h
   ·cases e;exact absurd rfl hk
   ·exact zbY r n h
def zct{M:Model}{A:Around}{E:Z5}{s:Shared}{scope:Scope}{globals:Addr}{closure:List (Str×Addr)}{qual:Str}{func:Option Addr}{code:Value}{outer:Env}{builtins:Addr}{Q:Env->Shared->Prop}
  (hQ:∀h',h'.Ns s.heap.objs.size (fun _=>none)->(∀b o,s.heap.get? b=some o->h'.get? b=some o)->CellsOk h' (s.heap.objs.size+1) (cellsFrom (s.heap.objs.size+1) scope.names []) →
   Q (newEnv scope s.heap.objs.size globals (cellsFrom (s.heap.objs.size+1) scope.names []++closure) qual func code (some outer) builtins) { s with heap:=h' }) :
  wpAny M A (newFunctionEnv scope globals closure [] qual func code (some outer) builtins) Q E s:=by
 simp only [newFunctionEnv,Option.isSome_some,yb4];refine yaa (wpAny_alloc ?_);refine yaa (wpAny_layCells _ (fun name kind cells=>by cases hkc:kind == NameKind.cell<;>simp [hkc]) _ _ _ _ ?_);have ok:=cellsFrom_ok scope.names (s.heap.push { cls:=.type "dict",data:=.dict #[] }) (s.heap.objs.size+1) [] ⟨fun _ _ hm=>(nomatch hm),List.Pairwise.nil⟩ (by rw [yaV];exact yam _);rw [yaV] at ok;rw [show ({ s with heap:=s.heap.push { cls:=.type "dict",data:=.dict #[] } }:Shared).heap.objs.size=s.heap.objs.size+1 from yaV ..];rw [zbd];simp only [List.forIn_nil];refine yaa (yah (yah ?_));exact hQ _ ((Heap.Ns.new s.heap (.type "dict")).keeps (pushCells_keeps _ _)) (fun b o e=>pushCells_keeps _ _ b o (yad _ e)) ok
structure CompScopeG(sc scope:Scope)(N:List Str)(xs:List Str)(caps:List (Str×Nat)):Prop where
 nd:(scope.names.map (·.1)).Nodup
 kind:scope.kind=.function
 names:∀y∈scope.names,y.2=.local->scope.names.lookup y.1=some .local
 free:∀y∈scope.names,y.2=.free->sc.names.lookup y.1=some .cell\/sc.names.lookup y.1=some .free
 cap:∀p∈caps,N[p.2]?=some p.1/\(p.1,NameKind.free)∈scope.names/\sc.names.lookup p.1≠some .local
 uniq:∀p∈caps,∀z∈scope.names,z.1=p.1->z.2=.free
def zbh(X:Cx)(xs:List Str)(caps:List (Str×Nat))(scope:Scope)(cl:List (Str×Addr))(C:Addr)(s:Shared)(H:Hp)(ex:List Addr):Cx :=
 { X with N:=xs++caps.map (·.1),s₀:=s,H₀:=H,env:=compEnvC scope cl C X.env,outer:=X.stack,ex:=ex,fn:=fun x=>decide (scope.names.lookup x=some .cell),pn:=[],xe:=fun _ _=>False }
abbrev capσ(σ:St)(n:Nat)(caps:List (Str×Nat)):St:=List.replicate n none++caps.map fun p=>(σ[p.2]?).join
def ziu(wi:TI)(g:TG)(tt:TT)(te:TE)(n:Nat)(caps:List (Str×Nat)):TE:=fun σ H Q=>wi σ H fun J H1=>∃W:Nat->Nat->List V->St->Hp->Prop,(∃m,W 0 m [] (capσ σ n caps) H1)/\∀i m ys σ' H,W i m ys σ' H →
 ys.length<=sizeLine/\((J.stop i H/\∀p,H p=none->Q (.ref p) (upd H p (.lst ys))) ∨
 (J.go i H/\∀x H',J.yld i H x H'->g x σ' H' fun σ2 H2=>tt σ2 H2 fun ok H3=>if ok=true then te σ2 H3 fun y H4=>∃m',m'<m/\W (i+1) m' (ys++[y]) σ2 H4 else ∃m',m'<m/\W (i+1) m' ys σ2 H3))
section
variable{X:Cx}{elt iter tg:Expr}{xs:List Str}{pos:Pos}{ifs:List Expr}{scope:Scope}{caps:List (Str×Nat)}{wi:TI}{g:TG}{tt:TT}{te:TE}
structure OwnC(X:Cx)(scope:Scope)(lo:Nat)(h:Heap)(cl:List (Str×Addr)):Prop where
 sort:∀y c,cl.lookup y=some c->X.env.cells.lookup y=some c\/(h.IsCell c none/\lo<=c)
 inj:∀y z c,cl.lookup y=some c->cl.lookup z=some c->y=z
 has:∀y,((y,NameKind.free)∈scope.names\/(y,NameKind.cell)∈scope.names)->∃c,cl.lookup y=some c
 own:∀y c,scope.names.lookup y=some .cell->cl.lookup y=some c->lo<=c
 free:∀y,(y,NameKind.free)∈scope.names->∃c,cl.lookup y=some c/\X.env.cells.lookup y=some c
def zgX{scope:Scope}{env:Env}{y:Str}(h:(relabel scope env).names.lookup y=some .cell\/(relabel scope env).names.lookup y=some .free):(y,NameKind.free)∈scope.names\/(y,NameKind.cell)∈scope.names:=by
 have go:∀k,(relabel scope env).names.lookup y=some k->(k=.cell\/k=.free)->(y,NameKind.free)∈scope.names\/(y,NameKind.cell)∈scope.names:=fun k e hk=>by
  have hm:=yaI e;obtain ⟨⟨n,k0⟩,hp,e2⟩:=yaw.mp hm
  by_cases hq:(k0 == .free&&env.scope.kind == .function&&env.kindOf n == some .cell)=true
  ·have e3:(n,NameKind.cell)=(y,k):=by rw [<-e2];show _=if _ then _ else _;rw [if_pos hq]
   cases e3
   have:k0=.free:=by simp only [yab] at hq;exact eq_of_beq hq.1.1
   subst this;exact .inl hp
  ·have e3:(n,k0)=(y,k):=by rw [<-e2];show _=if _ then _ else _;rw [if_neg hq]
   cases e3
   rcases hk with rfl | rfl
   ·exact .inr hp
   ·exact .inl hp
 rcases h with h | h
 ·exact go _ h (.inl rfl)
 ·exact go _ h (.inr rfl)
theorem zg8:∀{l:List (Str×NameKind)},(l.map (·.1)).Nodup->∀{x:Str} {a b:NameKind},(x,a)∈l->(x,b)∈l->a=b
 | [],_,_,_,_,h,_=>by cases h
 | p::l,nd,x,a,b,h,h'=>by
  rw [yaq,ybg] at nd
  rcases yav.mp h with h | h<;>rcases yav.mp h' with h' | h'
  ·rw [<-h'] at h;exact (Prod.mk.inj h).2
  ·exact absurd (yaw.mpr ⟨_,h',by rw [<-h]⟩) nd.1
  ·exact absurd (yaw.mpr ⟨_,h,by rw [<-h']⟩) nd.1
  ·exact zg8 nd.2 h h'
def zk1{X:Cx}{scope:Scope}{lo n:Nat}{h:Heap}{cl:List (Str×Addr)}(nd:(scope.names.map (·.1)).Nodup)(hn:lo<=n)(hinj:∀x y c,X.env.cells.lookup x=some c->X.env.cells.lookup y=some c->x=y)
  (hcl:∀y c,cl.lookup y=some c->X.env.cells.lookup y=some c) (hlo:∀y c,X.env.cells.lookup y=some c->c<lo) (hhas:∀y,(y,NameKind.free)∈scope.names->∃c,cl.lookup y=some c) (ok:CellsOk h n (cellsFrom n scope.names [])) :
  OwnC X scope lo h (cellsFrom n scope.names []++cl):=by
 have sort:∀y c,(cellsFrom n scope.names []++cl).lookup y=some c->((cellsFrom n scope.names []).lookup y=some c)\/((cellsFrom n scope.names []).lookup y=none/\cl.lookup y=some c):=fun y c e=>by
  rw [zb2] at e
  cases hq:(cellsFrom n scope.names []).lookup y with
  | some c'=>rw [hq] at e;exact .inl e
  | none=>rw [hq] at e;exact .inr ⟨rfl,e⟩
 refine ⟨fun y c e=>?_,fun y z c e e'=>?_,fun y hy=>?_,fun y c hy e=>?_,fun y hy=>?_⟩
 ·rcases sort y c e with z | ⟨_,z⟩
  ·have:=ok.empty y c (yaI z);exact .inr ⟨this.1,yaj hn this.2⟩
  ·exact .inl (hcl y c z)
 ·rcases sort y c e with a | ⟨_,a⟩<;>rcases sort z c e' with b | ⟨_,b⟩
  ·exact name_of_addr ok.apart (yaI a) (yaI b)
  ·have h1:=(ok.empty y c (yaI a)).2;have h2:=hlo z c (hcl z c b);exact absurd (yan h2 (yaj hn h1)) (yaR _)
  ·have h1:=(ok.empty z c (yaI b)).2;have h2:=hlo y c (hcl y c a);exact absurd (yan h2 (yaj hn h1)) (yaR _)
  ·exact hinj y z c (hcl y c a) (hcl z c b)
 ·rw [zb2]
  cases hq:(cellsFrom n scope.names []).lookup y with
  | some c=>exact ⟨c,rfl⟩
  | none =>
   rcases hy with hy | hy
   ·exact hhas y hy
   ·obtain ⟨c,e⟩:=zbY scope.names n hy;rw [hq] at e;cases e
 ·obtain ⟨c',e'⟩:=zbY scope.names n (yaI hy);rw [zb2,e'] at e;have:c'=c:=Option.some.inj e;subst this;exact yaj hn (ok.empty y c' (yaI e')).2
 ·obtain ⟨c,e⟩:=hhas y hy;refine ⟨c,?_,hcl y c e⟩;rw [zb2]
  cases hq:(cellsFrom n scope.names []).lookup y with
  | some c' =>
   have:=zcP scope.names n (yaI hq);cases zg8 nd hy this
  | none=>exact e
def zlQ{pins:Z3}{σ:St}{H:Hp}{s s':Shared}{cl:List (Str×Addr)}{C:Addr}{fp:List Addr}(S:CompScopeG X.env.scope scope X.N xs caps)(hu:∀p∈caps,∀z∈scope.names,z.1=p.1->z.2=.free)
  (I:Inv X pins σ H s) (hcl:OwnC X scope s.heap.objs.size s'.heap cl)
  (hf:∀b∈fp,zmb X pins H b) (hlt:∀b∈fp,b<s.heap.objs.size) (hC:s.heap.objs.size<=C) (ho:s'.os=s.os) (hg:s'.gens=s.gens) (hk:∀b o,s.heap.get? b=some o->s'.heap.get? b=some o) (hn:s'.heap.Ns C (fun _=>none)) :
  Inv (zbh X xs caps scope cl C s H fp) [] (capσ σ xs.length caps) H s':=by
 have cellK:∀y c,cl.lookup y=some c->∃v,s'.heap.IsCell c v:=fun y c e=>by
  rcases hcl.sort y c e with z | z
  ·obtain ⟨v,o,q,d⟩:=I.cell y c z;exact ⟨v,o,hk _ _ q,d⟩
  ·exact ⟨none,z.1⟩
 refine ⟨⟨I.ok.mod,S.kind,I.ok.glob,I.ok.blt,hC,hcl.inj,fun y hy=>hcl.has y (zgX hy),fun y c z e=>hcl.own y c (yat z) e,I.ok.hd,I.ok.frames,.inl rfl,fun b hb=>⟨yaB (yan (hlt b hb) hC),fun y c e=>(hcl.sort y c e).elim (fun z=>(hf b hb).2.2.2.2.1 y c z) fun z=>ya3 (yan (hlt b hb) z.2)⟩,
  I.bs,yaj I.ok.bsz I.sz,fun b o e hb=>?_,fun b hb hm=>?_,I.stack,I.stkFree⟩,ho,by rw [hg];exact I.bare,Un.kept hk,⟨_,hn,fun i y v h1 h2 h3=>?_⟩,fun y c e=>cellK y c e,I.hok.fresh hC,fun y c e=>(hcl.sort y c e).elim (I.freeC y c) fun z=>I.hok.fresh z.2,fun p hp=>absurd (show p∈([]:Z3) from hp) (by simp),I.hok.kept hk,?_⟩
 ·rcases (hf b hb).2.2.2.1 with z | z
  ·exact I.ok.noex b o e z
  ·exact absurd (yan (yas e) (yaj I.ok.bsz z)) (yaR _)
 ·rcases yav.mp (I.stkSub b hm) with z | z
  ·exact (hf b hb).2.1 z
  ·exact (hf b hb).2.2.1 z
 ·have hi:¬ i<xs.length:=fun hi=>by
   have h2':(capσ σ xs.length caps)[i]?=some (some v):=h2;rw [yaz (by rw [yaE];exact hi),ya7] at h2'
   split at h2'<;>cases h2'
  ·have h1':(caps.map (·.1))[i-xs.length]?=some y:=by
    have h1':(xs++caps.map (·.1))[i]?=some y:=h1;rwa [yau (by omega)] at h1'
   rw [yao] at h1'
   have h2':(caps.map fun p=>(σ[p.2]?).join)[i-xs.length]?=some (some v):=by
    have h2':(capσ σ xs.length caps)[i]?=some (some v):=h2;rw [yau (by rw [yaE];omega),yaE] at h2';exact h2'
   rw [yao] at h2'
   cases hp:caps[i-xs.length]? with
   | none=>rw [hp] at h1';cases h1'
   | some p =>
    rw [hp] at h1' h2';have ey:p.1=y:=Option.some.inj h1';have ev:(σ[p.2]?).join=some v:=Option.some.inj h2';subst ey;have hmem:p∈caps:=ybL hp;obtain ⟨c1,c2,c3⟩:=S.cap p hmem
    have eσ:σ[p.2]?=some (some v):=by
     cases q:σ[p.2]? with
     | none=>rw [q] at ev;cases ev
     | some w=>rw [q] at ev;have:w=some v:=ev;rw [this]
    have hfr:=S.free _ c2 rfl;have hv:Vis X.env.scope p.1:=hfr.elim (fun z=>.inr (.inl z)) (fun z=>.inr (.inr z));obtain ⟨m,_,hl⟩:=I.loc;obtain ⟨u,r,l⟩:=hl p.2 p.1 v c1 eσ hv;refine ⟨u,r,.inr ⟨zek (scope:=scope) (env:=X.env) c2 (hu p hmem),?_⟩⟩;obtain ⟨c,ec,ec2⟩:=hcl.free p.1 c2;refine ⟨c,ec,?_⟩
    rcases l with ⟨z,_⟩ | ⟨_,c',ec',hcell⟩
    ·exact absurd z c3
    ·have:c'=c:=by rw [ec2] at ec';exact (Option.some.inj ec').symm
     subst this;obtain ⟨o,q,d⟩:=hcell;exact ⟨o,hk _ _ q,d⟩
 ·simp [zbh,capσ]
def zhp{use:Option (Value->Sem Unit)}{Qf:Z5}{R:VK}{pins:Z3}{s:Shared}{σ:St}{H:Hp}(hc:X.calm=true)(S:CompScopeG X.env.scope scope X.N xs caps)(hi:PI X tg iter wi)(hg:∀cl C s H fp,PG (zbh X xs caps scope cl C s H fp) tg g)
  (ht:∀cl C s H fp,PIf (zbh X xs caps scope cl C s H fp) ifs tt) (he:∀cl C s H fp,PE (zbh X xs caps scope cl C s H fp) elt te)
  (hs:∀v,foldedSetIterable iter X.env v=pure v) (I:Inv X pins σ H s) (h:ziu wi g tt te xs.length caps σ H R)
  (fin:∀(D C:Addr) (s4:Shared) (m4:Z6) (H6:Hp) (r:Flow),s4.heap.Ns C m4->(∀{σ':St} {H7:Hp} {s5:Shared} {h':Heap},Inv X pins σ' H7 s5->Heap.SameBut C s5.heap h'->H7 C=none->Inv X pins σ' H7 { s5 with heap:=h' })->H6 C=none->C≠X.env.locals->(∀y c,X.env.cells.lookup y=some c->C≠c)->Inv X pins σ H6 s4->R (.ref D) H6->compPost (model X.prog X.w) X.A X.xe use Qf (.ref D) C (.ok r) s4) :
  wpAny (model X.prog X.w) X.A (comprehension (.ListComp elt [⟨tg,iter,ifs,0⟩] scope pos) scope X.env (firstIterPos [⟨tg,iter,ifs,0⟩] pos) (newList []) false (eval iter X.env) use) Qf X.xe s:=by
 obtain ⟨cl,hclos,hcl,hhas⟩:=zjQ (scope:=scope) (env:=X.env) fun y hy hf=>I.ok.has y.1 (S.free y hy hf)
 refine wpAny_comprehension_free (use:=use) rfl hs hclos S.kind S.names (thn (hi pins s σ H _ I h) fun v s1 h1=>thn h1 fun itv s2 h2=>?_);obtain ⟨it,fp,tn,J,H2,rfl,I2,T,st2,f2,W,⟨m0,w0⟩,turn⟩:=h2;refine ybn (zct (fun h₁ hns₁ hsb₁ hok₁=>?_));dsimp only at hns₁ hsb₁ hok₁ ⊢;generalize hHp:s2.heap.push { cls:=.type "list",dict:=none,data:=.seq ([]:List Value).toArray }=Hq at hns₁ hsb₁ hok₁ ⊢
 have hCe:Hq.objs.size=s2.heap.objs.size+1:=by rw [<-hHp,yaV]
 have hDC:s2.heap.objs.size≠Hq.objs.size:=by rw [hCe];exact yaB (yb3 _)
 have hC:s2.heap.objs.size<=Hq.objs.size:=by rw [hCe];exact yco _
 have old:∀b o,s2.heap.get? b=some o->h₁.get? b=some o:=fun b o e=>hsb₁ b o (hHp ▸ yad _ e)
 have hacc:h₁.get? s2.heap.objs.size=some (lob [] 0):=hsb₁ _ _ (hHp ▸ yar _ rfl)
 have cellX:∀y c,X.env.cells.lookup y=some c->c<s2.heap.objs.size:=fun y c e=>by obtain ⟨v,q⟩:=I2.cell y c e;exact q.lt
 have oc:=zk1 (X:=X) (lo:=s2.heap.objs.size+1) S.nd (by rw [hCe];exact yco _) I.ok.inj hcl (fun y c e=>Nat.lt_succ_of_lt (cellX y c e)) hhas hok₁;generalize hcl2:cellsFrom (Hq.objs.size+1) scope.names []++cl=cl2 at oc ⊢;have oc':OwnC X scope s2.heap.objs.size h₁ cl2:=⟨fun y c e=>(oc.sort y c e).imp id fun z=>⟨z.1,ycT z.2⟩,oc.inj,oc.has,fun y c a e=>ycT (oc.own y c a e),oc.free⟩
 have hlt:∀b∈fp,b<s2.heap.objs.size:=fun b hb=>by obtain ⟨o,e,_⟩:=T.obj 0 _ st2 b hb;exact yas e
 generalize hY:zbh X xs caps scope cl2 Hq.objs.size s2 H2 fp=Y;have PEY:PE Y elt te:=hY ▸ he cl2 _ s2 H2 fp;have PIY:PIf Y ifs tt:=hY ▸ ht cl2 _ s2 H2 fp;have PGY:PG Y tg g:=hY ▸ hg cl2 _ s2 H2 fp
 have I3:Inv Y [] (capσ σ xs.length caps) H2 { s2 with heap:=h₁ }:=by
  rw [<-hY];exact zlQ S S.uniq I2 oc' f2 hlt hC rfl rfl old hns₁
 have eYenv:Y.env=compEnvC scope cl2 Hq.objs.size X.env:=by rw [<-hY];rfl
 have eYloc:Y.env.locals=Hq.objs.size:=by rw [eYenv];rfl
 have eYfs:Y.fs=frs X.stack:=by rw [<-hY];rfl
 have eYprog:Y.prog=X.prog:=by rw [<-hY];rfl
 have eYw:Y.w=X.w:=by rw [<-hY];rfl
 have eYK:Y.K=X.K:=by rw [<-hY];rfl
 have eYA:Y.A=X.A:=by rw [<-hY];rfl
 have eYc:Y.calm=true:=by rw [<-hY];exact hc
 have eYex:Y.ex=fp:=by rw [<-hY];rfl
 have eYs:Y.s₀=s2:=by rw [<-hY];rfl
 have eYH:Y.H₀=H2:=by rw [<-hY];rfl
 have eYpn:Y.pn=[]:=by rw [<-hY];rfl
 have eYcell:∀y c,Y.env.cells.lookup y=some c->X.env.cells.lookup y=some c\/s2.heap.objs.size+1<=c:=fun y c e=>(oc.sort y c (by rwa [eYenv] at e)).imp id (·.2)
 have eYxe:∀e s',¬ Y.xe e s':=fun e s' z=>by rwa [<-hY] at z
 have stkX:∀b∈frs X.stack,b<s2.heap.objs.size:=fun b hb=>by
  rcases yav.mp (I2.stkSub b hb) with z | z
  ·rw [z];exact I2.lt
  ·refine Nat.not_le.mp fun hle=>I2.nofs hle z
 have pinX:∀p∈X.pn++pins,p.1<s2.heap.objs.size:=fun p hp=>yas (I2.pin p hp).1
 have fpY:∀{H':Hp} {its:List Value} {k:Nat},(∀b∈fp,H' b=none)->∀b∈fp,zmb Y [(s2.heap.objs.size,lob its k)] H' b:=fun {H' its k} hn b hb=>by
  refine ⟨hn b hb,by rw [eYloc];exact yaB (yan (hlt b hb) hC),?_,.inl (by rw [eYex];exact hb),fun y c e=>(eYcell y c e).elim (fun z=>(f2 b hb).2.2.2.2.1 y c z) fun z=>ya3 (yan (hlt b hb) (ycT z)),fun p hp=>?_⟩
  ·rw [eYfs];intro hm
   rcases yav.mp (I2.stkSub b hm) with z | z
   ·exact (f2 b hb).2.1 z
   ·exact (f2 b hb).2.2.1 z
  ·rw [eYpn] at hp
   have e:p=(s2.heap.objs.size,lob its k):=by simpa using hp
   rw [e];exact ya3 (hlt b hb)
 have pinD:∀{H':Hp} {σ':St} {s':Shared} {its:List Value} {k:Nat},Inv Y [] σ' H' s'->s'.heap.get? s2.heap.objs.size=some (lob its k)->H' s2.heap.objs.size=none->Inv Y [(s2.heap.objs.size,lob its k)] σ' H' s':=fun {H' σ' s' its k} I' e n =>
  I'.pins_of fun p hp=>by
   have ep:p=(s2.heap.objs.size,lob its k):=by simpa using hp
   subst ep;refine ⟨e,n,by rw [eYloc];exact hDC,?_,fun v z=>?_⟩
   ·rw [eYfs];exact fun hm=>yaR _ (stkX _ hm)
   ·have z':Data.seq its.toArray k=Data.cell v:=z;cases z'
 have loop:codeAny (model X.prog X.w) X.A (.compLoop (.ListComp elt [⟨tg,iter,ifs,0⟩] scope pos) 0 (.ref it) (.ref s2.heap.objs.size) (compEnvC scope cl2 Hq.objs.size X.env))
   (compPost (model X.prog X.w) X.A X.xe use Qf (.ref s2.heap.objs.size) Hq.objs.size) { s2 with heap:=h₁ }:=by
  refine zna (fun n s'=>∃i σx H' ys its k,Inv Y [(s2.heap.objs.size,lob its k)] σx H' s'/\tn i s'.heap/\(∀b∈fp,H' b=none)/\Vals ys its/\W i n ys σx H') ?_ m0
   ⟨0,capσ σ xs.length caps,H2,[],[],0,pinD I3 hacc (I2.hok.fresh (yam _)),T.keep _ _ _ st2 fun b hb o e=>old b o e,fun b hb=>(f2 b hb).1,.nil,w0⟩
  rintro n s3 ⟨i,σx,H3,ys,its,k,J3,st3,fr3,rv,w3⟩;obtain ⟨hz,hcase⟩:=turn i n ys σx H3 w3
  rcases hcase with ⟨stop,q⟩ | ⟨go,step⟩
  ·have hd:=T.done Y eYprog eYw eYK eYc i _ s3 _ H3 (notedBy (model X.prog X.w) X.A (compEnvC scope cl2 Hq.objs.size X.env) fun e s'=>compPost (model X.prog X.w) X.A X.xe use Qf (.ref s2.heap.objs.size) Hq.objs.size (.error e) s') J3 (fpY fr3) st3 stop;rw [eYA] at hd;refine thn hd fun r s4 ⟨hr,J4⟩=>?_
   subst hr;obtain ⟨m4,hn4,_⟩:=J4.loc
   have hn4':s4.heap.Ns Hq.objs.size m4:=by rw [<-eYloc];exact hn4
   have hnC:H3 Hq.objs.size=none:=by rw [<-eYloc];exact J4.free
   have hk5:HOk X.prog X.w H3 s4.heap:=by rw [<-eYprog,<-eYw];exact J4.hok
   have u5:Un (frs X.stack) fp H2 H3 s2.heap s4.heap:=by
    have ub:=J4.base;rwa [eYfs,eYex,eYH,eYs] at ub
   have J5:Inv X pins σ H3 s4:=I2.call' (s':=s4) (ch:=fp) (by have:=J4.os;rwa [eYs] at this) u5 hk5 J4.bare fun b hb=>⟨(f2 b hb).2.2.2.1,(f2 b hb).2.1,(f2 b hb).2.2.2.2.1,(f2 b hb).2.2.2.2.2⟩
   have hp4:=J4.pin (s2.heap.objs.size,lob its k) (yaK _ yax);have hD5:s4.heap.get? s2.heap.objs.size=some (lob its k):=hp4.1;have J6:Inv X pins σ (upd H3 s2.heap.objs.size (.lst ys)) s4:=J5.track hp4.2.1 I2.sz (ya3 I2.lt) (fun y c e=>yaB (cellX y c e)) (fun p hp=>yaB (pinX p hp)) (show zbu X.prog X.w _ s4.heap _ (.lst ys) from ⟨hz,its,k,rv,hD5⟩);have hCloc:Hq.objs.size≠X.env.locals:=ya3 (yan I2.lt hC);exact fin _ Hq.objs.size s4 m4 _ _ hn4' (fun {σ'} {H7} {s5} {h'} J sb' hn=>J.turned (t':=s5.toks) (it:=Hq.objs.size) (fun b o hb e=>(sb'.2 b hb).trans e) hn hCloc (.inr (yaj I2.sz hC)) (fun y c e=>yaB (yan (cellX y c e) hC)) (fun p hp=>yaB (yan (pinX p hp) hC))) (by rw [zal (Ne.symm hDC)];exact hnC) hCloc (fun y c e=>ya3 (yan (cellX y c e) hC)) J6 (q _ hp4.2.1)
  ·have hd:=T.item Y eYprog eYw eYK eYc i _ s3 _ H3 (notedBy (model X.prog X.w) X.A (compEnvC scope cl2 Hq.objs.size X.env) fun e s'=>compPost (model X.prog X.w) X.A X.xe use Qf (.ref s2.heap.objs.size) Hq.objs.size (.error e) s') J3 (fpY fr3) st3 go;rw [eYA] at hd;refine thn hd fun r s4 ⟨u,hr,h4⟩=>?_
   subst hr;refine thn h4 fun _ s5 ⟨v4,H4,J4,r4,y4,st5,fr4⟩=>?_
   have J4':=J4.pinned (fp:=fp) (fpY fr4) (T.obj _ _ st5);have ha:=PGY _ s5 σx H4 v4 u _ J4' r4 (step v4 H4 y4);rw [eYprog,eYw,eYA,eYenv] at ha;refine ybs ha (fun _ s5' ⟨σ5,H5,J5',q5⟩=>?_) fun e s' z=>(eYxe _ _ z).elim
   have ht5:=PIY _ s5' σ5 H5 _ J5' q5;rw [eYprog,eYw,eYA,eYenv] at ht5;refine ybs ht5 (fun ok s6 ⟨H6,J6,q6⟩=>?_) fun e s' z=>(eYxe _ _ z).elim
   have back:∀{H7:Hp} {s7:Shared},Inv Y ([(s2.heap.objs.size,lob its k)]++zg3 fp s5.heap) σ5 H7 s7->tn (i+1) s7.heap/\∀b∈fp,H7 b=none:=fun {H7 s7} J7 =>
    ⟨T.keep _ _ _ st5 fun b hb o e=>(J7.pin (b,o) (yaK _ (yaK _ (zdc hb e)))).1,fun b hb=>by
     obtain ⟨o,e,d⟩:=T.obj _ _ st5 b hb
     exact (J7.pin (b,o) (yaK _ (yaK _ (zdc hb e)))).2.1⟩
   cases ok with
   | false =>
    rw [if_neg yba] at q6;rw [if_neg yba];obtain ⟨m',hm',w6⟩:=q6;exact ⟨m',hm',i+1,σ5,H6,ys,its,k,J6.unpinned,(back J6).1,(back J6).2,rv,w6⟩
   | true =>
    rw [if_pos rfl] at q6;rw [if_pos rfl];have he6:=PEY _ s6 _ H6 _ J6 q6;rw [eYprog,eYw,eYA,eYenv] at he6;refine ybs he6 (fun u7 s7 ⟨v7,H7,J7,r7,m',hm',w7⟩=>?_) fun e s' z=>(eYxe _ _ z).elim
    obtain ⟨st7,fr7⟩:=back J7;have hp7:=(J7.unpinned).pin (s2.heap.objs.size,lob its k) (yaK _ yax);have hl:=rv.length;refine append_at (hsz:=by show its.toArray.size<=sizeLine;rw [yak];omega) hp7.1 fun h8 sb8 hD8=>?_
    have J7':Inv Y [] σ5 H7 s7:=J7.unpinned.pins_of fun p hp=>absurd hp (by simp)
    have J8:Inv Y [] σ5 H7 { s7 with heap:=h8 }:=J7'.turned (t':=s7.toks) (it:=s2.heap.objs.size) (fun b o hb e=>(sb8.2 b hb).trans e) hp7.2.1 (by rw [eYloc];exact hDC) (.inr (by rw [eYs];exact yam _)) (fun y c e=>(eYcell y c e).elim (fun z=>yaB (cellX y c z)) fun z=>ya3 z) (fun p hp=>by rw [eYpn] at hp;simp at hp)
    have hD8':h8.get? s2.heap.objs.size=some (lob (its++[u7]) (k+1)):=by rw [hD8];simp [lob]
    exact ⟨m',hm',i+1,σ5,H7,ys++[v7],its++[u7],k+1,pinD J8 hD8' hp7.2.1,T.keep _ _ _ st7 fun b hb o e=>(sb8.2 b (yaB (hlt b hb))).trans e,fr7,rv.append (.cons r7 .nil),w7⟩
 exact codeAny_compStart_list loop (T.self X.A 0 _ _ _ (T.keep _ _ _ st2 fun b hb o e=>old b o e) loop)
def zmT(hc:X.calm=true)(S:CompScopeG X.env.scope scope X.N xs caps)(hi:PI X tg iter wi)(hg:∀cl C s H fp,PG (zbh X xs caps scope cl C s H fp) tg g)
  (ht:∀cl C s H fp,PIf (zbh X xs caps scope cl C s H fp) ifs tt) (he:∀cl C s H fp,PE (zbh X xs caps scope cl C s H fp) elt te)
  (hs:∀v,foldedSetIterable iter X.env v=pure v:=by intro _;rfl):PE X (.ListComp elt [⟨tg,iter,ifs,0⟩] scope pos) (ziu wi g tt te xs.length caps):=by
 intro pins s σ H Q I h;rw [eval_ListComp];exact zhp (use:=none) hc S hi hg ht he hs I h fun D C s4 m4 H6 r hn tr hC _ _ J6 q=>⟨m4,hn,fun h5 sb=>⟨.ref D,H6,tr J6 sb hC,rfl,q⟩⟩
def zmH{k0:Nat}{y0:Str}{py spos:Pos}(hc:X.calm=true)(S:CompScopeG X.env.scope scope X.N xs caps)(hN0:X.N.Nodup)(hi0:X.N[k0]?=some y0)(hx0:Loc X.env.scope y0)(hi:PI X tg iter wi)(hg:∀cl C s H fp,PG (zbh X xs caps scope cl C s H fp) tg g)
  (ht:∀cl C s H fp,PIf (zbh X xs caps scope cl C s H fp) ifs tt) (he:∀cl C s H fp,PE (zbh X xs caps scope cl C s H fp) elt te)
  (hsw:swapsWith (.ListComp elt [⟨tg,iter,ifs,0⟩] scope pos) (some (.Name y0 py)) spos.line X.env=pure true)
  (hf0:X.fn y0=true\/X.env.scope.names.lookup y0=some .local)
  (hs:∀v,foldedSetIterable iter X.env v=pure v):PS X (.Assign [.Name y0 py] (.ListComp elt [⟨tg,iter,ifs,0⟩] scope pos) spos) (zoV (ziu wi g tt te xs.length caps) (zjH k0)):=by
 intro pins s σ H DD I h;rw [exec_Assign_Name_used _ _ _ _ hsw];refine yaa (wpAny_standAt (yaa ?_));show wpAny _ X.A (do let _ ← comprehension (.ListComp elt [⟨tg,iter,ifs,0⟩] scope pos) scope X.env _ (newList []) false (eval iter X.env) (some (assign (.Name y0 py) X.env))) _ _ s;refine yaa (ybs (zhp (use:=some (assign (.Name y0 py) X.env)) (Qf:=fun _ s'=>SP X pins DD .next s') hc S hi hg ht he hs I h fun D C s4 m4 H6 r hn tr hC hl hce J6 q=>?_) (fun _ s' hq=>yah (yah hq)) fun _ _ e=>e);show wpAny _ X.A (assign (.Name y0 py) X.env (.ref D)) _ X.xe s4;refine wpAny_assign_Name (zgN (i:=k0) J6 hN0 hi0 hx0 (v:=.ref D) rfl (fun s5 J7 ⟨a,sb,ha⟩=>?_) hf0);have haC:C≠a:=ha.elim (fun z=>by rw [z];exact hl) fun z=>hce _ _ z
 exact ⟨m4,hn.sameBut sb haC,fun h' sb'=>⟨_,_,tr J7 sb' hC,q⟩⟩
end
end L2
namespace ST
open PySem PySem.SetTable
end ST
namespace ST
open PySem PySem.SetTable
end ST
namespace ST
open PySem PySem.SetTable
end ST
namespace ST
open PySem PySem.Spec PyProof.Rows
section
variable{prog:Program}{w:World}{A:Around}{E:Z5}{s:Shared}
end
end ST
namespace ST
open PySem PySem.Spec PyProof.Rows
section
variable{prog:Program}{w:World}{A:Around}{E:Z5}{s:Shared}
end
end ST
namespace ST
open PySem PySem.Spec PyProof.Rows
section
variable{prog:Program}{w:World}{A:Around}{R:Result->Shared->Prop}{s:Shared}
end
end ST
namespace PySem
section
variable{prog:Program}{w:World}{A:Around}{E:Z5}{s:Shared}
end
end PySem
namespace L2
open PySem PySem.Spec PyProof.Rows
section
variable{X:Cx}{a b c:Expr}{ta tb tc:TE}{pos:Pos}
def zh9:zd4 X (.builtin "isinstance") (fun xs H Q=>∃x t c k,xs=[x,.ty c]/\TyOf X.K H x t/\PySem.W.kitOne X.K t (.type c)=some k/\Q (.bl k) H):=by
 intro pins s σ H xs us Q I r h;obtain ⟨x,t,c,k,rfl,ty,e,q⟩:=h
 cases r with
 | cons r1 rr =>
  cases rr with
  | cons r2 r3 =>
   cases r3;cases (show _=Value.type c from r2);exact zlr I r1 ty e fun tk=>⟨.bl k,H,I.tok tk,rfl,q⟩
def zgf(bs:List Bool):((List.range bs.length).all fun i=>(bs[i]?).getD true)=bs.all id:=by
 rw [ybc,ybk,ybk];constructor
 ·intro h b hb;obtain ⟨i,hi,e⟩:=List.mem_iff_getElem.mp hb;have:=h i (yaC.mpr hi);rwa [yac hi,e] at this
 ·intro h i hi;have hi':=yaC.mp hi;rw [yac hi'];exact h _ (ybt hi')
def zia(hc:X.calm=true):zd4 X (.builtin "all") (fun xs H Q=>∃(p:Addr) (bs:List Bool),xs=[.ref p]/\SqL X.K H p (bs.map V.bl)/\Q (.bl (bs.all id)) H):=by
 intro pins s σ H xs us Q I r h;obtain ⟨p,bs,rfl,hq,q⟩:=h;obtain ⟨u,rfl,rx⟩:=zhD r;cases rx;obtain ⟨its,rv,pl,hz⟩:=I.list hq;have hl:=pl.isList
 have hlt:p<s.heap.objs.size:=by obtain ⟨_,e,_⟩:=hl;exact yas e
 have hn:its.length=bs.length:=by have:=rv.length;rw [yaf] at this;exact this.symm
 refine call_all_walk (ycm hl ?_);refine ⟨s.heap.objs.size,[s.heap.objs.size,p],[s.heap.objs.size],its.toArray.size,_,_,fun i=>(bs[i]?).getD true,rfl,Walks.list (A:=X.A.in1) (I.ok.hd hc) _ p (yaB hlt) its.toArray,⟨⟨_,yar _ rfl,rfl,rfl⟩,hl.push _⟩,fun i v s' Q' E' hP hQ=>?_,fun h' tk hk=>?_⟩
 ·have hv:its[i]?=some v:=by simpa using hP
  have hi:i<bs.length:=by rw [<-hn];exact (yag.mp hv).1
  obtain ⟨u,hu,ru⟩:=rv.get (i:=i) (x:=.bl bs[i]) (by rw [yao,yac hi];rfl);rw [hv] at hu;cases hu;cases (show v=Value.bool bs[i] from ru);refine ybe ?_;have hQ':Q' ((bs[i]?).getD true) s':=hQ;rwa [yac hi] at hQ'
 ·rw [yak,hn,zgf];refine ⟨.bl _,H,I.kept (t':=tk) fun b o e=>?_,rfl,q⟩;exact hk b o (fun hm=>by rw [yaQ.mp hm] at e;exact yaR _ (yas e)) (yad _ e)
def zhQ:OpR X (compareOp .IsNot) (fun x y H Q=>∃i j,x=.bl i/\y=.bl j/\Q (.bl (!decide (i=j))) H):=by
 intro pins s σ H x y v u Q I rx ry h;obtain ⟨i,j,rfl,rfl,q⟩:=h;cases rx;cases ry;show wpAny _ _ (isSame (Value.bool i) (Value.bool j) >>= fun r=>pure (Value.bool (!r))) _ _ s;refine yaa (wpAny_isSame_plain (by rfl) (yah ?_));refine ⟨.bl (!decide (i=j)),H,I,?_,q⟩;show _=Value.bool _;congr 1
 cases i<;>cases j<;>rfl
def zmY:OpR X (binaryOp .Add) (fun x y H Q=>∃(a b:Addr) (ys:List V),x=.ref a/\y=.ref b/\SqT X.K H a []/\SqT X.K H b ys/\Q (.ref b) H):=by
 intro pins s σ H x y v u Q I rx ry h;obtain ⟨a,b,ys,rfl,rfl,ha,hb,q⟩:=h;cases rx;cases ry;obtain ⟨its,r1,p1,_⟩:=I.tuple ha;obtain ⟨its2,r2,p2,_⟩:=I.tuple hb;cases r1;obtain ⟨⟨cls,dd,data,sl⟩,ho,hc,n,hd⟩:=id p1;obtain ⟨⟨cls2,dd2,data2,sl2⟩,ho2,hc2,n2,hd2⟩:=id p2;simp only at hc hd hc2 hd2;subst hc hd hc2 hd2
 exact concat_meets ⟨_,ho,rfl⟩ ⟨_,ho2,rfl⟩ noFill_tuple_add seq_tuple_add yck ycc (yb5 _ _)
  (tuple_addW0 a b ([]:List Value).toArray its2.toArray n n2 dd dd2 sl sl2 (by rfl)) ⟨ho,ho2,⟨.ref b,H,I,rfl,q⟩⟩
end
end L2
namespace PySem
open PySem.Spec PyProof.Rows
def zds:fillsNumberSlot (.type "tuple") "mul" = pure false :=
 fillsNumberSlot_seq (id:="tuple.__mul__") (r:=some (.builtin "tuple.__rmul__")) ycs.lookup (by decide +kernel) F.slot_tuple_rmul.lookup (by decide +kernel)
def zfF:seqRepeat? (.type "tuple")=pure (some (.builtin "tuple.__mul__")):=by
 have e1:=seqSlot_of (T:="tuple") (name:="__mul__") (id:="tuple.__mul__") ycs.lookup (by decide +kernel);have e2:=seqSlot_of (T:="tuple") (name:="__rmul__") (id:="tuple.__rmul__") F.slot_tuple_rmul.lookup (by decide +kernel);unfold seqRepeat?;rw [e1,e2];rfl
def zem(a:Int)(t:Tok)(l:Addr)(o:Obj){its:Array Value}{n:Nat}(hc:o.cls=.type "tuple")(hdd:o.data=.seq its n) :
  Meets (Builtin.«int.__rmul__» ⟨[.int a t,.ref l],[]⟩) (fun _ R s=>s.heap.get? l=some o/\R (.ok (.ret Value.notImplemented)) s) :=
 .of_wp fun prog w A R s h=>by
  obtain ⟨c,d,dt,sl⟩:=o;simp only at hc hdd;subst hc hdd;obtain ⟨hp,g,dr,tk,os⟩:=s;obtain ⟨hl,h⟩:=h
  wp_walk
  exact ⟨_,rfl,h⟩
section
variable{prog:Program}{w:World}{A:Around}{E:Z5}{s:Shared}
def zgK{a:Addr}{o:Obj}{its:Array Value}{n:Nat}{k:Int}{t:Tok}{P:Fin->Shared->Prop}(ho:s.heap.get? a=some o)(hc:o.cls=.type "tuple")(hd:o.data=.seq its n)(hne:its.isEmpty=false)(h2:2<=k)(hz:(its.size:Int)*k<=1000000)(hk:k<=1000)
  (h:P (.done (.ret (.ref s.heap.objs.size))) { s with heap:=s.heap.push { cls:=.type "tuple",data:=.seq ((List.replicate k.toNat its).foldl (·++·) #[]) } }) (hsz:((List.replicate k.toNat its).foldl (·++·) #[]).size<=sizeLine) :
  wpAny (model prog w) A (Builtin.«tuple.__mul__» ⟨[.ref a,.int k t],[]⟩) P E s:=by
 show wpAny _ _ (asIndex (.int k t) >>= _) _ _ s;refine yaa ?_;unfold asIndex;refine yaa (yah ?_);dsimp only;refine yah ?_
 have e0:(decide (k < -(2 ^ 63))||decide (k ≥ 2 ^ 63))=false:=by
  rw [Bool.or_eq_false_iff];refine ⟨yaS ?_,yaS ?_⟩
  ·omega
  ·omega
 rw [e0];simp only [yaW,ybX];refine yaa (ycM ho hd ?_)
 have e1:(its.isEmpty||k == 1)=false:=by rw [hne,ycX];simp;omega
 rw [e1];simp only [yaW,ybX]
 have e2:(decide (k<=0)||its.isEmpty)=false:=by rw [hne,Bool.or_false];exact yaS (by omega)
 rw [e2];simp only [yaW,ybX];rw [if_neg (by omega)]
 have e3:Builtin.Tuple.tupleTooMany (its.size*k)=false:=by
  unfold Builtin.Tuple.tupleTooMany;refine yaS ?_
  have:(1000000:Int)<=(sizeLine:Int):=by decide
  omega
 rw [e3];simp only [yaW,ybX];unfold Builtin.Tuple.tupleExact;exact yaa (ybn (yah h) hsz)
def zgJ{a:Addr}{o:Obj}{its:Array Value}{n:Nat}{t:Tok}{P:Fin->Shared->Prop}(ho:s.heap.get? a=some o)(hc:o.cls=.type "tuple")(hd:o.data=.seq its n)(h:P (.done (.ret (.ref a))) s) :
  wpAny (model prog w) A (Builtin.«tuple.__mul__» ⟨[.ref a,.int 1 t],[]⟩) P E s:=by
 show wpAny _ _ (asIndex (.int 1 t) >>= _) _ _ s;refine yaa ?_;unfold asIndex;refine yaa (yah ?_);dsimp only;refine yah ?_
 have e0:(decide ((1:Int) < -(2 ^ 63))||decide ((1:Int) ≥ 2 ^ 63))=false:=by decide
 rw [e0];simp only [yaW,ybX];refine yaa (ycM ho hd ?_)
 have e1:(its.isEmpty||(1:Int) == 1)=true:=by simp
 rw [e1];simp only [yb4];unfold Builtin.Tuple.tupleIsExact;refine yaa (yaa (wpAny_typeOf (T:="tuple") ⟨o,ho,hc⟩ (yah ?_)));simp only [ybG,yb4];exact yaa (ycU (yah h))
def zpT{a:Addr}{o:Obj}{its:Array Value}{n:Nat}{k:Int}{t:Tok}{Q:Z5}(ho:s.heap.get? a=some o)(hc:o.cls=.type "tuple")(hd:o.data=.seq its n)(hne:its.isEmpty=false)(h2:2<=k)(hz:(its.size:Int)*k<=1000000)(hk:k<=1000)
  (h:Q (.ref s.heap.objs.size) { s with heap:=s.heap.push { cls:=.type "tuple",data:=.seq ((List.replicate k.toNat its).foldl (·++·) #[]) } }) (hsz:((List.replicate k.toNat its).foldl (·++·) #[]).size<=sizeLine) :
  wpAny (model prog w) A (binaryOp .Mult (.ref a) (.int k t)) Q E s:=by
 have hT:s.TypeIs (.ref a) "tuple":=⟨o,ho,hc⟩
 refine yb0 (T:="tuple") (U:="int") (by decide) hT (fun s'=>ycC s' k t) zds F.fills_int_mul ybW zfF F.slot_int_index.lookup
  (ycn ybW (ycC s k t) F.entry_int_rmul (ycS _ _) (zem k t a o hc hd) ⟨ho,rfl,hT,?_⟩)
 exact ybj ycs hT F.entry_tuple_mul (zgK ho hc hd hne h2 hz hk ⟨_,rfl,h⟩ hsz) (F.args_tuple_mul_2 _ _)
def zm4{a:Addr}{o:Obj}{its:Array Value}{n:Nat}{t:Tok}{Q:Z5}(ho:s.heap.get? a=some o)(hc:o.cls=.type "tuple")(hd:o.data=.seq its n)(h:Q (.ref a) s):wpAny (model prog w) A (binaryOp .Mult (.ref a) (.int 1 t)) Q E s:=by
 have hT:s.TypeIs (.ref a) "tuple":=⟨o,ho,hc⟩
 refine yb0 (T:="tuple") (U:="int") (by decide) hT (fun s'=>ycC s' 1 t) zds F.fills_int_mul ybW zfF F.slot_int_index.lookup
  (ycn ybW (ycC s 1 t) F.entry_int_rmul (ycS _ _) (zem 1 t a o hc hd) ⟨ho,rfl,hT,?_⟩)
 exact ybj ycs hT F.entry_tuple_mul (zgJ ho hc hd ⟨_,rfl,h⟩) (F.args_tuple_mul_2 _ _)
end
end PySem
namespace L2
open PySem PySem.Spec PyProof.Rows
inductive D where
 | non | bl (b:Bool) | int (i:Int) | str (x:Str) | tup (l:List D) | lst (l:List D)
section
variable{X:Cx}
def zpJ:OpR X (binaryOp .Mult) (fun x y H Q=>∃(p:Addr) (k:Int) (xs:List V),x=.ref p/\y=.int k/\SqT X.K H p xs/\xs≠[]/\2<=k/\k<=1000/\xs.length<=1000/\∀l,H l=none->Q (.ref l) (upd H l (.tup (List.replicate k.toNat xs).flatten))):=by
 intro pins s σ H x y v u Q I rx ry h;obtain ⟨p,k,xs,rfl,rfl,hq,hne,h2,hk,hx,q⟩:=h;cases rx;obtain ⟨t,rfl⟩:=ry;obtain ⟨its,rv,⟨o,ho,hc,n,hd⟩,_⟩:=I.tuple hq;have hl:=rv.length
 have hnew:(List.replicate k.toNat its.toArray).foldl (·++·) #[]=(List.replicate k.toNat its).flatten.toArray:=by
  have:=zfe its k.toNat [];rwa [ycd] at this
 have hsz:(List.replicate k.toNat its).flatten.length<=1000000:=by
  rw [zhW];exact yaj (ya0 (show k.toNat<=1000 by omega) (show its.length<=1000 by omega)) (by decide)
 have hline:(1000000:Nat)<=sizeLine:=by decide
 refine zpT ho hc hd ?_ h2 ?_ hk ?_ ?_
 ·have:its≠[]:=fun z=>hne (by cases xs with | nil=>rfl | cons a r=>rw [z] at hl;cases hl)
  simpa using this
 ·rw [yak];have:=Int.mul_le_mul (show (its.length:Int)<=1000 by omega) hk (by omega) (by omega);omega
 ·rw [hnew];refine ⟨.ref s.heap.objs.size,_,I.laid (t':=s.toks) (o:=.tup (List.replicate k.toNat xs).flatten) (fun b ob q=>yad _ q) (yam _) ?_,rfl,q _ (I.hok.fresh (yam _))⟩;refine ⟨?_,_,rv.rep k.toNat,IsTup.new _ _⟩;rw [zhW] at hsz ⊢;rw [<-hl] at hsz;omega
 ·rw [hnew,yak];omega
end
end L2
namespace HT
open PySem PySem.Spec PyProof.Rows L2
section
variable{prog:Program}{w:World}{A:Around}{E:Z5}{s:Shared}
def zeb{t sl:Addr}{items:Array Value}{vl vu:Value}{lo hi:Option Int}{Q:Z5}(ht:IsTup s.heap t items)(hs:s.heap.IsSliceOf sl vl vu .none)(pl:IsPart vl lo)(pu:IsPart vu hi)
  (h1:sIx items.size 0 lo=0) (h2:sIx items.size items.size hi=items.size) (h:Q (.ref t) s):wpAny (model prog w) A (getItem (.ref t) (.ref sl)) Q E s:=by
 obtain ⟨os,hos,hcs,hds⟩:=id hs;have hTs:s.TypeIs (.ref sl) "slice":=⟨os,hos,hcs⟩;unfold getItem
 try with_reducible refine yb8 ?_
 first | refine yaa (yah ?_) | skip
 refine yaa (wpAny_sequenceKey ht.typeIs (by decide) ?_)
 refine yaa (ya8 (name:=Str.ofString "__getitem__") ht.typeIs yaT
  (ybj yaT ht.typeIs entry_tuple_getitem ?_ (args_tuple_getitem _ _)))
 show wpAny _ _ (Builtin.Tuple.tupleItemsOf (.ref t) >>= _) _ _ s;refine yaa (tupleItemsOf_ ht ?_);refine yaa (wpAny_typeOf hTs ?_);rw [if_pos (by decide)];refine yaa (zcR hs pl pu ?_);rw [h1,h2];show wpAny _ _ (if ((((0:Nat):Int) == 0&&(1:Int) == 1&&(items.size-0) == items.size)=true) then _ else _) _ _ s;rw [if_pos (by simp)];unfold Builtin.Tuple.tupleIsExact;refine yaa (yaa (wpAny_typeOf ht.typeIs (yah ?_)));simp only [ybG,yb4];refine yaa (ycU ?_)
 first
  | exact yah ⟨_,rfl,yah h⟩
  | exact yaa (yah (yah ⟨_,rfl,yah h⟩))
end
end HT
namespace L2
open PySem PySem.Spec PyProof.Rows
def zjm{X:Cx}:SlR X (fun x lo hi H Q=>∃(a:Addr) (xs:List V),x=.ref a/\SqT X.K H a xs/\HT.sIx xs.length 0 lo=0/\HT.sIx xs.length xs.length hi=xs.length/\Q (.ref a) H):=by
 intro pins s σ H x v vl vu lo hi sl Q I rx hs pl pu h;obtain ⟨a,xs,rfl,hx,h1,h2,q⟩:=h;cases rx;obtain ⟨its,r,ht,hz⟩:=I.tuple hx
 have hlen:its.toArray.size=xs.length:=by rw [yak];exact r.length.symm
 refine ⟨"tuple",_,yaT.lookup,ht.typeIs,?_⟩;exact HT.zeb ht hs pl pu (by rw [hlen];exact h1) (by rw [hlen];exact h2) ⟨.ref a,H,I,rfl,q⟩
end L2
namespace L2
open PySem PySem.Spec PyProof.Rows
mutual
def D.py:D->PyData
 | .non=>.none
 | .bl b=>.bool b
 | .int i=>.int i
 | .str x=>.str x
 | .tup l=>.tuple (D.pys l)
 | .lst l=>.list (D.pys l)
def D.pys:List D->List PyData
 | []=>[]
 | d::l=>d.py::D.pys l
end
mutual
def D.fit:Nat->D->Bool
 | _,.non=>true
 | _,.bl _=>false
 | _,.int _=>true
 | _,.str x=>PyData.strOk x
 | 0,.tup _=>false
 | n+1,.tup l=>D.fits n l
 | 0,.lst _=>false
 | n+1,.lst l=>D.fits n l
def D.fits:Nat->List D->Bool
 | _,[]=>true
 | n,d::l=>d.fit n&&D.fits n l
end
theorem D.fits_iff{n:Nat}:∀{l:List D},D.fits n l=true↔∀d∈l,d.fit n=true
 | []=>by simp [D.fits]
 | d::l=>by simp [D.fits,D.fits_iff (l:=l)]
mutual
theorem D.lay:∀{n:Nat} {d:D},d.fit n=true->d.py.canLay0=true/\d.py.depth<=n
 | _,.non,_=>⟨rfl,ybm _⟩
 | _,.bl _,h=>by simp [D.fit] at h
 | _,.int _,_=>⟨rfl,ybm _⟩
 | _,.str x,h=>⟨by simpa [D.fit,D.py,PyData.canLay0] using h,ybm _⟩
 | 0,.tup _,h=>by simp [D.fit] at h
 | 0,.lst _,h=>by simp [D.fit] at h
 | n+1,.tup l,h=>by
  have h':D.fits n l=true:=by simpa [D.fit] using h
  obtain ⟨a,b⟩:=D.lays h';exact ⟨by simpa [D.py,PyData.canLay0] using a,by simp only [D.py,PyData.depth];omega⟩
 | n+1,.lst l,h=>by
  have h':D.fits n l=true:=by simpa [D.fit] using h
  obtain ⟨a,b⟩:=D.lays h';exact ⟨by simpa [D.py,PyData.canLay0] using a,by simp only [D.py,PyData.depth];omega⟩
theorem D.lays:∀{n:Nat} {l:List D},D.fits n l=true->PyData.canLayAll0 (D.pys l)=true/\PyData.depthAll (D.pys l)<=n
 | _,[],_=>⟨rfl,ybm _⟩
 | n,d::l,h=>by
  simp only [D.fits,yab] at h;obtain ⟨a,b⟩:=D.lay h.1;obtain ⟨c,e⟩:=D.lays h.2;exact ⟨by simp [D.pys,PyData.canLayAll0,a,c],by simp only [D.pys,PyData.depthAll];omega⟩
end
section
variable{X:Cx}
def zhO{h:Heap}{v:Value}{d:PyData}{as:List Addr}(hl:d.canLay0=true)(r:Reads h v d as):SeqAt.readOf h v=d:=by
 have hx:∃d as,Reads h v d as:=⟨d,as,r⟩;unfold SeqAt.readOf;rw [dif_pos hx];obtain ⟨bs,rb⟩:=hx.choose_spec;exact (SeqAt.Reads.unique _ _ _ _ _ hl r rb).symm
end
end L2
namespace L2
open PySem PySem.Spec PyProof.Rows
def zk4:Option Int->Value->Bool
 | none,.none=>true
 | some i,v=>Value.isInt i v
 | _,_=>false
theorem za7:∀{k:Option Int} {v:Value},zk4 k v=true->(k=none/\v=.none)\/∃i t,k=some i/\v=.int i t
 | none,v,h=>by
  cases v<;>simp [zk4] at h
  exact .inl ⟨rfl,rfl⟩
 | some i,v,h=>by
  obtain ⟨t,e⟩:=Value.isInt_shape (k:=i) (v:=v) (by simpa [zk4] using h);exact .inr ⟨i,t,rfl,e⟩
def ziL:Int:=reduceHash 0xFCA86420
def zlA{prog:Program}{w:World}{A:Around}{E:Z5}{s:Shared}{Q:Int->Shared->Prop}(h:Q ziL { s with toks:=s.toks+1 }):wpAny (model prog w) A (pyHash .none) Q E s :=
 PySem.W.pyHash_slot (T:="NoneType") rfl F.slot_NoneType_hash F.entry_NoneType_hash (F.args_NoneType_hash_1 _) (beq_builtin_none _) (.inl rfl) (yaa (yah (yaa (wpAny_mkInt (yah ⟨_,_,rfl,h⟩)))))
def zd7(prog:Program)(w:World):KeyKind prog w (Option Int) where
 is:=zk4
 hash:=fun k=>match k with | none=>ziL | some i=>hashInt i
 inj:=fun v a b ha hb=>by
  rcases za7 ha with ⟨rfl,rfl⟩ | ⟨i,t,rfl,rfl⟩<;>rcases za7 hb with ⟨rfl,e⟩ | ⟨j,u,rfl,e⟩<;>cases e<;>rfl
 byValue:=fun k v h=>by
  rcases za7 h with ⟨rfl,rfl⟩ | ⟨i,t,rfl,rfl⟩<;>rfl
 pyHash:=fun {A E s k v Q} h hq=>by
  rcases za7 h with ⟨rfl,rfl⟩ | ⟨i,t,rfl,rfl⟩
  ·exact zlA hq
  ·exact wpAny_pyHash_int hq
 eqBool:=fun {A E s a b u v Q} ha hb hq=>by
  rcases za7 ha with ⟨rfl,rfl⟩ | ⟨i,t,rfl,rfl⟩<;>rcases za7 hb with ⟨rfl,rfl⟩ | ⟨j,u,rfl,rfl⟩
  ·unfold PySem.eqBool;refine yb8 ?_;refine wpAny_ite_split (fun _=>yaa (ycU (yah (by simpa using hq)))) (fun z=>absurd rfl z)
  ·exact SeqAt.EqAt.none_int j u prog w E Q (by simpa using hq)
  ·exact SeqAt.EqAt.int_none i t prog w E Q (by simpa using hq)
  ·refine SeqAt.EqAt.int_int i t j u prog w E Q ?_
   have e:decide (some i=some j)=(i == j):=by
    rw [ybc];simp
   rw [<-e];exact hq
 «strs»:=fun k x t v h=>by
  rcases za7 h with ⟨_,e⟩ | ⟨i,u,_,e⟩<;>cases e
abbrev NK:=Int×List (Option Int)
def zd6:Option Int->PyData | none=>.none | some i=>.int i
def zd3(prog:Program)(w:World)(h:Heap)(k:NK)(a:Addr):Prop:=∃o items n t b,h.get? a=some o/\o.cls=.type "tuple" /\ o.data=.seq items n/\items.toList=[.int k.1 t,.ref b]/\IsTupleKey (zd7 prog w) h k.2 b
section
variable{prog:Program}{w:World}{A:Around}{E:Z5}{s:Shared}
def zm3(prog:Program)(w:World)(k:NK):Int:=reduceHash (Builtin.Tuple.tupleHashOf [hashInt k.1,tupleKeyHash (zd7 prog w) k.2])
def zd3.typeIs{k:NK}{a:Addr}(x:zd3 prog w s.heap k a):s.TypeIs (.ref a) "tuple":=let ⟨o,_,_,_,_,ho,hc,_⟩:=x;⟨o,ho,hc⟩
theorem zdz{h:Heap}:∀{l:Z4} {vs:List Value},ItemsAre (zd7 prog w) l vs->ReadsAll h vs (l.map zd6) []
 | _,_,.nil=>.nil
 | _,_,.cons h1 r=>by
  rcases za7 h1 with ⟨rfl,rfl⟩ | ⟨i,t,rfl,rfl⟩
  ·exact .cons (as:=[]) (bs:=[]) .none (zdz r)
  ·exact .cons (as:=[]) (bs:=[]) (.int i t) (zdz r)
def zd3.reads{h:Heap}{k:NK}{a:Addr}(x:zd3 prog w h k a):Reads h (.ref a) (.tuple [.int k.1,.tuple (k.2.map zd6)]) []:=by
 obtain ⟨o,items,n,t,b,ho,hc,hd,hi,ob,its,m,hob,hcb,hdb,hib⟩:=x;refine .tuple ho hc hd ?_;rw [hi];exact .cons (as:=[]) (bs:=[]) (.int _ _) (.cons (as:=[]) (bs:=[]) (.tuple hob hcb hdb (zdz hib)) .nil)
theorem zg6:∀{l m:Z4},PyData.eqvAll (l.map zd6) (m.map zd6)=decide (l=m)
 | [],[]=>by simp [PyData.eqvAll]
 | [],_::_=>by simp [PyData.eqvAll]
 | _::_,[]=>by simp [PyData.eqvAll]
 | x::l,y::m=>by
  have ih:=zg6 (l:=l) (m:=m);simp only [yaq,PyData.eqvAll,ih]
  cases x<;>cases y<;>simp [zd6,PyData.eqv]
  rw [ybc];simp
theorem zey:∀{l:Z4},PyData.canLayAll0 (l.map zd6)=true/\PyData.depthAll (l.map zd6)=0
 | []=>⟨rfl,rfl⟩
 | x::l=>by
  obtain ⟨a,b⟩:=zey (l:=l)
  cases x<;>simp [zd6,PyData.canLayAll0,PyData.depthAll,PyData.canLay0,PyData.depth,a,b]
def zdS(prog:Program)(w:World):HeapKind prog w NK where
 is:=zd3 prog w
 hash:=zm3 prog w
 draws:=fun k=>1+(k.2.length+1)+1
 room:=fun A=>A.units+8<cLine
 inj:=fun {h a x y} hx hy=>by
  obtain ⟨o,items,n,t,b,ho,hc,hd,hi,kx⟩:=hx;obtain ⟨o',items',n',t',b',ho',hc',hd',hi',ky⟩:=hy;rw [ho] at ho';cases ho';rw [hd] at hd';cases hd';rw [hi] at hi';simp only [List.cons.injEq,Value.int.injEq,Value.ref.injEq,and_true] at hi';obtain ⟨⟨e1,_⟩,e2⟩:=hi';subst e2;exact Prod.ext e1 (kx.inj ky)
 keeps:=fun {h h' k a d o es ep} x ho hd hs=>by
  obtain ⟨o1,items,n,t,b,ho1,hc,hd1,hi,kx⟩:=x;refine ⟨o1,items,n,t,b,(hs.2 a ?_).trans ho1,hc,hd1,hi,kx.keeps ho hd hs⟩;rintro rfl;rw [ho] at ho1;cases ho1;rw [hd] at hd1;cases hd1
 pyHash:=fun {A E s k a Q} hu x hq=>by
  have hT:=zd3.typeIs (prog:=prog) (w:=w) x;obtain ⟨o,items,n,t,b,ho,hc,hd,hi,kx⟩:=x;refine PySem.W.pyHash_slot (T:="tuple") hT F.slot_tuple_hash F.entry_tuple_hash (F.args_tuple_hash_1 _) (beq_builtin_none _) (.inr (by omega)) ?_;show wpAny _ _ (Builtin.Tuple.tupleItemsOf (.ref a) >>= _) _ _ s;refine yaa (ycM ho hd ?_);refine yaa ?_;rw [<-ycN,hi];refine wpAny_forIn_list _ (fun zci (r:Array Int) s'=>(zci=[.int k.1 t,.ref b]/\r.toList=[]/\s'=s)\/(zci=[.ref b]/\r.toList=[hashInt k.1]/\s'={ s with toks:=s.toks+1 })\/(zci=[]/\r.toList=[hashInt k.1,tupleKeyHash (zd7 prog w) k.2]/\s'={ s with toks:=s.toks+1+(k.2.length+1) })) _ ?_ ?_ _ _ (.inl ⟨rfl,rfl,rfl⟩)
  ·rintro x zci r s' (⟨e,hr,rfl⟩ | ⟨e,hr,rfl⟩ | ⟨e,hr,rfl⟩)
   ·injection e with e1 e2
    subst e1 e2;refine yaa (wpAny_pyHash_int ?_)
    first
     | exact yah (.inr (.inl ⟨rfl,by simp [hr],rfl⟩))
     | exact yaa (yah (yah (.inr (.inl ⟨rfl,by simp [hr],rfl⟩))))
   ·injection e with e1 e2
    subst e1 e2;refine yaa (wpAny_pyHash_tuple (A:=A.in1) (by show A.units+1<cLine;omega) kx ?_)
    first
     | exact yah (.inr (.inr ⟨rfl,by simp [hr],rfl⟩))
     | exact yaa (yah (yah (.inr (.inr ⟨rfl,by simp [hr],rfl⟩))))
   ·cases e
  ·rintro r s' (⟨e,_⟩ | ⟨e,_⟩ | ⟨_,hr,rfl⟩)
   ·cases e
   ·cases e
   ·show wpAny _ _ (retInt (Builtin.Tuple.tupleHashOf r.toList)) _ _ _;rw [hr];refine yaa (wpAny_mkInt (yah ⟨_,_,rfl,?_⟩))
    have e:s.toks+1+(k.2.length+1)+1=s.toks+(1+(k.2.length+1)+1):=by omega
    show Q _ { s with toks:=s.toks+1+(k.2.length+1)+1 };rw [e];exact hq
 eqBool:=fun {A E s x y a b Q} hu hx hy hq=>by
  refine SeqAt.eqAt_reads _ _ A s (.ref a) (.ref b) [] [] hx.reads hy.reads ?_ ?_ ?_ prog w E Q ?_
  ·simp [PyData.canLay0,PyData.canLayAll0,zey.1]
  ·simp [PyData.canLay0,PyData.canLayAll0,zey.1]
  ·have h1:(PyData.tuple [.int x.1,.tuple (x.2.map zd6)]).depth<=3:=by
    simp [PyData.depth,PyData.depthAll,zey.2]
   have:min (PyData.tuple [.int x.1,.tuple (x.2.map zd6)]).depth (PyData.tuple [.int y.1,.tuple (y.2.map zd6)]).depth<=3:=yaj (Nat.min_le_left _ _) h1;omega
  ·have e:(PyData.tuple [.int x.1,.tuple (x.2.map zd6)]).eqv (.tuple [.int y.1,.tuple (y.2.map zd6)])=decide (x=y):=by
    simp only [PyData.eqv,PyData.eqvAll,zg6];rw [ybc];simp [Prod.ext_iff]
   rw [e];exact hq
 quiet:=fun {A E s k a Q} x hq=>by
  have hT:=zd3.typeIs (prog:=prog) (w:=w) x;obtain ⟨o,items,n,t,b,ho,hc,hd,hi,kx⟩:=x;have hTb:=kx.typeIs;obtain ⟨ob,its,m,hob,hcb,hdb,hib⟩:=kx
  have low:wpAny (model prog w) A (eqIsQuiet 7 (.ref b)) (fun r s'=>r=true/\s'=s) E s:=by
   unfold eqIsQuiet;refine yaa (wpAny_specialOf hTb F.slot_tuple_eq.lookup ?_);show wpAny _ _ (isInstance (.ref b) (.type "tuple") >>= _) _ _ s;refine yaa (yct hTb isSubtype_tuple_tuple ?_);simp only [ycA,yaW,ybX];refine yaa (ybp hob hdb (yaa ?_));show wpAny _ _ (forIn its _ _) _ _ s;rw [<-ycN];refine wpAny_forIn_list _ (fun zci r s'=>r.1=none/\s'=s/\∀v∈zci,carriedByValue v=true) _ ?_ ?_ _ _ ⟨rfl,rfl,hib.byValue⟩
   ·rintro v zci r s' ⟨hr,rfl,hall⟩;rw [eqIsQuiet_byValue _ (hall v yax)];refine yaa (yah ?_);simp only [ycA,yaW,ybX];exact yah ⟨rfl,rfl,fun z hz=>hall z (yap _ hz)⟩
   ·rintro ⟨r1,r2⟩ s' ⟨hr,rfl,_⟩;simp only at hr;subst hr;exact yah ⟨rfl,rfl⟩
  unfold eqIsQuiet;refine yaa (wpAny_specialOf hT F.slot_tuple_eq.lookup ?_);show wpAny _ _ (isInstance (.ref a) (.type "tuple") >>= _) _ _ s;refine yaa (yct hT isSubtype_tuple_tuple ?_);simp only [ycA,yaW,ybX];refine yaa (ybp ho hd (yaa ?_));show wpAny _ _ (forIn items _ _) _ _ s;rw [<-ycN,hi];refine wpAny_forIn_list _ (fun zci r s'=>r.1=none/\s'=s/\(zci=[.int k.1 t,.ref b]\/zci=[.ref b]\/zci=[])) _ ?_ ?_ _ _ ⟨rfl,rfl,.inl rfl⟩
  ·rintro v zci r s' ⟨hr,rfl,(e | e | e)⟩
   ·injection e with e1 e2
    subst e1 e2;rw [eqIsQuiet_byValue _ rfl];refine yaa (yah ?_);simp only [ycA,yaW,ybX];exact yah ⟨rfl,rfl,by simp⟩
   ·injection e with e1 e2
    subst e1 e2;refine yaa (ybs low (fun r' s'' hz=>?_) fun _ _ z=>z);obtain ⟨rfl,rfl⟩:=hz;simp only [ycA,yaW,ybX];exact yah ⟨rfl,rfl,by simp⟩
   ·cases e
  ·rintro ⟨r1,r2⟩ s' ⟨hr,rfl,_⟩;simp only at hr;subst hr;exact yah hq
end
end L2
namespace L2
open PySem PySem.Spec PyProof.Rows
section
variable{σ:St}{H:Hp}{K:PySem.W.Frag}{te:TE}{tt:TT}{caps:List (Str×Nat)}{Q:VK}
end
end L2
namespace L2
open PySem PySem.Spec PyProof.Rows
def oV:Option Int->V | none=>.non | some i=>.int i
def DN(P:Program)(w:World)(a:Addr)(xs:List (NK×Addr×Value))(h:Heap):Prop :=
 ∃o es ep,h.get? a=some o/\o.ExactDict/\o.data=.dict es ep/\es.toList=xs.map (entryOfKey (zdS P w))/\(xs.map (·.1)).Nodup/\(a == sysModules)=false
def zif(H:Hp)(kb:Addr)(k:NK):Prop:=∃b,H kb=some (.tup [.int k.1,.ref b])/\H b=some (.tup (k.2.map oV))
def znY(H:Hp)(xs:List (NK×Addr×Value))(m:List (NK×V)):Prop:=Paired (fun (x:NK×Addr×Value) (p:NK×V)=>x.1=p.1/\zif H x.2.1 x.1/\za2 p.2 x.2.2) xs m
def zi6{P:Program}{w:World}{a:Addr}{xs:List (NK×Addr×Value)}:∀h1 h2:Heap,DN P w a xs h1->(∀o,h1.get? a=some o->h2.get? a=some o)->DN P w a xs h2:=fun h1 h2 ⟨o,es,ep,e,r⟩ k=>⟨o,es,ep,k _ e,r⟩
section
variable{X:Cx}{pins:Z3}{σ:St}{H:Hp}{s:Shared}
theorem zeI:∀{l:Z4} {its:List Value},Vals (l.map oV) its->ItemsAre (zd7 X.prog X.w) l its
 | [],_,.nil=>.nil
 | none::l,_,.cons r t=>by
  cases r;exact .cons rfl (zeI t)
 | some i::l,_,.cons r t=>by
  obtain ⟨u,rfl⟩:=r;exact .cons (by simp [zd7,zk4,Value.isInt]) (zeI t)
def Inv.nest(I:Inv X pins σ H s){kb:Addr}{k:NK}(h:zif H kb k):zd3 X.prog X.w s.heap k kb:=by
 obtain ⟨b,h1,h2⟩:=h;obtain ⟨its,rv,⟨o,ho,hc,n,hd⟩,_⟩:=I.tuple (SqT.of (K:=X.K) h1);obtain ⟨its2,rv2,⟨o2,ho2,hc2,n2,hd2⟩,_⟩:=I.tuple (SqT.of (K:=X.K) h2)
 cases rv with
 | cons r1 rr =>
  cases rr with
  | cons r2 rr =>
   cases rr;obtain ⟨t,rfl⟩:=r1;cases r2;exact ⟨o,_,n,t,b,ho,hc,hd,rfl,o2,_,n2,ho2,hc2,hd2,by simpa using zeI rv2⟩
def znY.keys{xs:List (NK×Addr×Value)}{m:List (NK×V)}(I:Inv X pins σ H s):znY H xs m->∀x∈xs,zd3 X.prog X.w s.heap x.1 x.2.1:=by
 intro h
 induction h with
 | nil=>intro x hx;simp at hx
 | cons h t ih =>
  intro x hx
  rcases yav.mp hx with rfl | hx
  ·exact I.nest h.2.1
  ·exact ih x hx
def Inv.ndict(I:Inv X pins σ H s){a:Addr}{xs:List (NK×Addr×Value)}{m:List (NK×V)}(h:H a=some (.ext (DN X.prog X.w a xs)))(e:znY H xs m):s.heap.DictOfH (zdS X.prog X.w) a xs/\(a == sysModules)=false:=by
 obtain ⟨⟨o,es,ep,h1,h2,h3,h4,h5,h6⟩,_⟩:=I.hok a _ h;exact ⟨⟨o,es,ep,h1,h2,h3,h4,e.keys I,h5⟩,h6⟩
def zei{xs:List (NK×Addr×Value)}{m:List (NK×V)}(e:znY H xs m)(k:NK):(m.lookup k=none/\atKey xs k=none)\/∃c p,m.lookup k=some c/\atKey xs k=some p/\za2 c p.2:=by
 induction e with
 | nil=>exact .inl ⟨rfl,rfl⟩
 | @cons x p l1 l2 h t ih =>
  obtain ⟨h1,h2,h3⟩:=h
  by_cases hk:x.1=k
  ·refine .inr ⟨p.2,x.2,?_,?_,h3⟩
   ·obtain ⟨pk,pc⟩:=p;simp only at h1;subst h1;rw [yay,hk];simp
   ·simp [atKey,hk]
  ·have hk':¬ p.1=k:=by rw [<-h1];exact hk
   have e1:List.lookup k (p::l2)=List.lookup k l2:=by
    obtain ⟨pk,pc⟩:=p;rw [yay]
    have:(k == pk)=false:=by
     rw [ya1];exact fun z=>hk' z.symm
    rw [this]
   have e2:atKey (x::l1) k=atKey l1 k:=by simp [atKey,yce,hk]
   rw [e1,e2];exact ih
def zog(hu:X.A.units+16<cLine):OpR X (compareOp .NotIn) (fun x y H Q=>∃kb a k xs m,x=.ref kb/\y=.ref a/\zif H kb k/\H a=some (.ext (DN X.prog X.w a xs))/\znY H xs m/\Q (.bl (m.lookup k).isNone) H):=by
 intro pins s σ H x y v u Q I rx ry h;obtain ⟨kb,a,k,xs,m,rfl,rfl,hk,hx,he,q⟩:=h;cases rx;cases ry;obtain ⟨hm,hd⟩:=I.ndict hx he;refine wpAny_notIn_heap (knd:=zdS X.prog X.w) (k:=k) (by show X.A.units+1+8<cLine;omega) (I.nest hk) hd hm ⟨.bl _,H,I.tok _,?_,q⟩
 rcases zei he k with ⟨e1,e2⟩ | ⟨c,p,e1,e2,_⟩<;>rw [e1,e2]<;>rfl
def zta(hu:X.A.units+16<cLine):IxR X (fun x y H Q=>∃a kb k xs m c,x=.ref a/\y=.ref kb/\zif H kb k/\H a=some (.ext (DN X.prog X.w a xs))/\znY H xs m/\m.lookup k=some c/\Q c H):=by
 intro value slice pins s σ H x y v u Q I rx ry h hs;obtain ⟨a,kb,k,xs,m,c,rfl,rfl,hk,hx,he,hl,q⟩:=h;cases rx;cases ry;obtain ⟨hm,hd⟩:=I.ndict hx he
 rcases zei he k with ⟨e1,_⟩ | ⟨c',p,e1,e2,r⟩
 ·rw [e1] at hl;cases hl
 ·rw [e1] at hl;cases hl;exact ycl (x:=p.2) hm.typeIs slot_dict_getitem.lookup (wpAny_getItem_heap (knd:=zdS X.prog X.w) (k:=k) (by show X.A.units+1+8<cLine;omega) (I.nest hk) hm e2 ⟨rfl,c,H,I.tok _,r,q⟩) hs
def zpg(hu:X.A.units+16<cLine):zwp X (fun o i v H Q=>∃a kb k xs m,o=.ref a/\i=.ref kb/\zif H kb k/\H a=some (.ext (DN X.prog X.w a xs))/\znY H xs m/\m.lookup k=none/\m.length<=1000000/\∀u,za2 v u->Q (upd H a (.ext (DN X.prog X.w a (xs++[(k,kb,u)]))))):=by
 intro pins s σ H o i v ov iv u Q I ro ri rv h;obtain ⟨a,kb,k,xs,m,rfl,rfl,hk,hx,he,hl,hz,q⟩:=h;cases ro;cases ri;obtain ⟨hm,hd⟩:=I.ndict hx he;have hlen:xs.length=m.length:=Paired.length he
 have e2:atKey xs k=none:=by
  rcases zei he k with ⟨_,e2⟩ | ⟨c',p,e1,_,_⟩
  ·exact e2
  ·rw [e1] at hl;cases hl
 refine wpAny_setItem_heap (knd:=zdS X.prog X.w) (k:=k) (by show X.A.units+1+8<cLine;omega) (I.nest hk) hm (fun h' hm' sb=>?_) (by rw [hlen];exact yaj hz (by decide));rw [storedH_new e2] at hm';obtain ⟨o,es,ep,g1,g2,g3,g4,g5,g6⟩:=hm';have dn:DN X.prog X.w a (xs++[(k,kb,u)]) h':=⟨o,es,ep,g1,g2,g3,g4,g6,hd⟩;refine ⟨upd H a (.ext (DN X.prog X.w a (xs++[(k,kb,u)]))),?_,q u rv⟩;exact I.write (x:=a) (e:=a) (by rw [hx];trivial) (.inl rfl) (fun b o hb z=>(sb.2 b hb).trans z) ⟨_,g1⟩ ⟨dn,⟨_,g1⟩,zi6⟩
def zuT(P:Program)(w:World):TE:=fun _ H Q=>∀p,H p=none->Q (.ref p) (upd H p (.ext (DN P w p [])))
def zpH{pos:Pos}:PE X (.Dict [] [] pos) (zuT X.prog X.w):=fun pins s σ H Q I h=>by
 have big:sysModules<s.heap.objs.size:=Nat.lt_trans (show sysModules<mainGlobals by decide) (I.mod.glob.keeps I.bk).lt;have hne:(s.heap.objs.size == sysModules)=false:=ya1.mpr (Ne.symm (yaB big));have dn:DN X.prog X.w s.heap.objs.size [] (s.heap.push { cls:=.type "dict",data:=.dict #[] }):=⟨_,#[],0,yar _ rfl,⟨rfl,rfl,rfl⟩,rfl,rfl,List.nodup_nil,hne⟩;refine wpAny_Dict_empty ⟨.ref s.heap.objs.size,upd H s.heap.objs.size (.ext (DN X.prog X.w s.heap.objs.size [])),?_,rfl,h _ (I.hok.fresh (yam _))⟩;exact I.laid (a:=s.heap.objs.size) (t':=s.toks) (fun _ _ q=>yad _ q) (yam _) ⟨dn,⟨_,yar _ rfl⟩,zi6⟩
end
end L2
namespace L2
open PySem PySem.Spec PyProof.Rows
section
variable{κ:Type}[DecidableEq κ]
def zj4(kvs:List (κ×V))(k:κ):Option V:=(kvs.find? fun kv=>decide (kv.1=k)).map (·.2)
def zmf(kvs:List (κ×V))(k:κ)(v:V):List (κ×V) :=
 if (kvs.any fun kv=>decide (kv.1=k))=true then kvs.map (fun kv=>if kv.1=k then (kv.1,v) else kv) else kvs++[(k,v)]
def zf2{p:κ×V}{r:List (κ×V)}{k:κ}(e:p.1=k):zj4 (p::r) k=some p.2:=by simp [zj4,yce,e]
def zf3{p:κ×V}{r:List (κ×V)}{k:κ}(e:¬ p.1=k):zj4 (p::r) k=zj4 r k:=by simp [zj4,yce,e]
theorem zf4(k:κ):∀kvs:List (κ×V),(kvs.any fun kv=>decide (kv.1=k))=(zj4 kvs k).isSome
 | []=>rfl
 | p::r=>by
  rw [List.any_cons]
  by_cases e:p.1=k
  ·simp only [zf2 e,yaM e,Bool.true_or,Option.isSome_some]
  ·rw [zf3 e,yaS e,ycX];exact zf4 k r
def zhV(kvs:List (κ×V))(k:κ)(v:V):(zmf kvs k v).length<=kvs.length+1:=by
 unfold zmf;split
 ·rw [yaf];omega
 ·rw [yal,yai,ybO];omega
def zie.isSome_eq{o:Option V}{u:Option Value}(r:zie o u):o.isSome=u.isSome:=by
 cases o with
 | none=>cases u with
  | none=>rfl
  | some _=>exact (show False from r).elim
 | some _=>cases u with
  | none=>exact (show False from r).elim
  | some _=>rfl
theorem zie.getD{o:Option V}{u:Option Value}{d:V}{d':Value}(r:zie o u)(rd:za2 d d'):za2 (o.getD d) (u.getD d'):=by
 cases o with
 | none=>cases u with
  | none=>exact rd
  | some _=>exact (show False from r).elim
 | some _=>cases u with
  | none=>exact (show False from r).elim
  | some _=>exact r
end
def zvN{P:Program}{w:World}{k:Key}{u:Value}(r:za2 (kV k) u):(zb9 P w).is k u=true:=by
 cases k with
 | inl i=>obtain ⟨t,e⟩:=(show ∃t,u=Value.int i t from r);subst e;exact zhT P w i t
 | inr x=>obtain ⟨t,e⟩:=(show ∃t,u=Value.str x t from r);subst e;exact zhS P w x t
theorem zhe{P:Program}{w:World}:∀{ks:List Key} {us:List Value},Vals (ks.map kV) us->ItemsAre (zb9 P w) ks us
 | [],_,r=>by rw [List.map_nil] at r;cases r;exact .nil
 | k::ks,_,r=>by
  rw [yaq] at r
  cases r with
  | cons h t=>exact .cons (zvN h) (zhe t)
abbrev KT(H:Hp):List (List Key×V)->List (List Key×Addr×Value)->Prop:=Paired fun p q=>p.1=q.1/\H q.2.1=some (.tup (p.1.map kV))/\za2 p.2 q.2.2
def KT.val{H:Hp}{kvs:List (List Key×V)}{xs:List (List Key×Addr×Value)}(r:KT H kvs xs)(k:List Key):zie (zj4 kvs k) ((atKey xs k).map (·.2)):=by
 induction r with
 | nil=>exact True.intro
 | @cons p q ps qs h t ih =>
  obtain ⟨h1,_,h2⟩:=h
  by_cases e:p.1=k
  ·have e':q.1=k:=h1.symm.trans e
   have b:atKey (q::qs) k=some q.2:=by simp [atKey,yce,e']
   rw [zf2 e,b];exact h2
  ·have e':¬ q.1=k:=fun z=>e (h1.trans z)
   have b:atKey (q::qs) k=atKey qs k:=by simp [atKey,yce,e']
   rw [zf3 e,b];exact ih
def KT.repl{H:Hp}{kvs:List (List Key×V)}{xs:List (List Key×Addr×Value)}(r:KT H kvs xs)(k:List Key){y:V}{u:Value}(ry:za2 y u) :
  KT H (kvs.map fun kv=>if kv.1=k then (kv.1,y) else kv) (xs.map (putAt k u)):=by
 induction r with
 | nil=>exact .nil
 | @cons p q ps qs h t ih =>
  rw [yaq,yaq];refine .cons ?_ ih;obtain ⟨h1,h2,h3⟩:=h;unfold putAt
  by_cases e:p.1=k
  ·rw [if_pos e,if_pos (h1.symm.trans e)];exact ⟨h1,h2,ry⟩
  ·rw [if_neg e,if_neg (fun z=>e (h1.trans z))];exact ⟨h1,h2,h3⟩
def KT.put{H:Hp}{kvs:List (List Key×V)}{xs:List (List Key×Addr×Value)}(r:KT H kvs xs)(k:List Key){b:Addr}{y:V}{u:Value}(hb:H b=some (.tup (k.map kV)))(ry:za2 y u) :
  KT H (zmf kvs k y) (storedH xs k b u):=by
 have e:(kvs.any fun kv=>decide (kv.1=k))=(atKey xs k).isSome:=by
  rw [zf4,(r.val k).isSome_eq,Option.isSome_map]
 unfold zmf storedH;rw [e]
 by_cases q:(atKey xs k).isSome=true
 ·rw [if_pos q,if_pos q];exact r.repl k ry
 ·rw [if_neg q,if_neg q];exact Paired.snoc r ⟨rfl,hb,ry⟩
def KT.keeps{H H':Hp}{kvs:List (List Key×V)}{xs:List (List Key×Addr×Value)}(r:KT H kvs xs)(ht:∀b ys,H b=some (.tup ys)->H' b=some (.tup ys)):KT H' kvs xs :=
 Paired.mapP r fun _ _ z=>⟨z.1,ht _ _ z.2.1,z.2.2⟩
section
variable{P:Program}{w:World}{H:Hp}{h:Heap}{a:Addr}
def zvk{u:HO}(ok:HOk P w H h)(e:Rd H a u):zbu P w H h a u:=e.ok ok
def zlg{ks:List Key}(ok:HOk P w H h)(e:H a=some (.tup (ks.map kV))):(tupleKind (zb9 P w)).is h ks a:=by
 obtain ⟨_,its,r,o,h1,h2,n,h3⟩:=(show zbu P w H h a (.tup (ks.map kV)) from ok a _ e);exact ⟨o,its.toArray,n,h1,h2,h3,by simpa using zhe r⟩
def zqs{kvs:List (List Key×V)}(ok:HOk P w H h)(e:Rd H a (.dT kvs)):kvs.length<=sizeLine/\(a == sysModules)=false ∧
  ∃xs,KT H kvs xs/\h.DictOfH (tupleKind (zb9 P w)) a xs:=by
 obtain ⟨z,y,xs,r,o,es,ep,h1,h2,h3,h4,h5⟩:=(show zbu P w H h a (.dT kvs) from zvk ok e);refine ⟨z,y,xs,r,o,es,ep,h1,h2,h3,h4,fun x hx=>?_,h5⟩
 have all:∀{l:List (List Key×V)} {m:List (List Key×Addr×Value)},KT H l m->∀x∈m,(tupleKind (zb9 P w)).is h x.1 x.2.1:=by
  intro l m q
  induction q with
  | nil=>intro x hx;exact nomatch hx
  | @cons p q ps qs hq t ih =>
   intro x hx
   rcases yav.mp hx with e | hx
   ·subst e;exact zlg ok (by rw [<-hq.1];exact hq.2.1)
   ·exact ih x hx
 exact all r x hx
def zv9{kvs:List (List Key×V)}(ok:HOk P w H h)(e:H a=some (.dT kvs)):kvs.length<=sizeLine/\(a == sysModules)=false ∧
  ∃xs,KT H kvs xs/\h.DictOfH (tupleKind (zb9 P w)) a xs:=zqs ok (.inl e)
end
def zt1(H:Hp)(a:Addr)(y:V)(r:Option V):Prop:=∃kvs k b,Rd H a (.dT kvs)/\y=.ref b/\H b=some (.tup (k.map kV))/\r=zj4 kvs k
def zt0(H:Hp)(a:Addr)(y v:V)(H':Hp):Prop:=∃kvs k b,H a=some (.dT kvs)/\y=.ref b/\H b=some (.tup (k.map kV))/\kvs.length<sizeLine/\H'=upd H a (.dT (zmf kvs k v))
def zt1.t{H:Hp}{a b:Addr}{kvs:List (List Key×V)}{k:List Key}(e:H a=some (.dT kvs))(eb:H b=some (.tup (k.map kV))):zt1 H a (.ref b) (zj4 kvs k):=⟨kvs,k,b,.inl e,rfl,eb,rfl⟩
def zt0.t{H:Hp}{a b:Addr}{kvs:List (List Key×V)}{k:List Key}{v:V}(e:H a=some (.dT kvs))(eb:H b=some (.tup (k.map kV)))(hl:kvs.length<sizeLine) :
  zt0 H a (.ref b) v (upd H a (.dT (zmf kvs k v))):=⟨kvs,k,b,e,rfl,eb,hl,rfl⟩
section
variable{X:Cx}{pins:Z3}{σ:St}{H:Hp}{s:Shared}{a:Addr}{y v:V}{u r:Value}{o:Option V}{A:Around}{E:Z5}
def Inv.big(I:Inv X pins σ H s):sysModules<s.heap.objs.size:=by
 have h:mainGlobals<s.heap.objs.size:=(I.mod.glob.keeps I.bk).lt;exact Nat.lt_trans (by decide) h
def zqu{h':Heap}{t':Nat}{ob:HO}(I:Inv X pins σ H s)(mu:Mut (H a))(hs:Heap.SameBut a s.heap h')(he:∃q,h'.get? a=some q)(new:zbu X.prog X.w (upd H a ob) h' a ob) :
  Inv X pins σ (upd H a ob) { s with heap:=h',toks:=t' } :=
 I.write (x:=a) (e:=a) mu (.inl rfl) (fun b q hb z=>(hs.2 b hb).trans z) he new
def zlL{H':Hp}{Q:Unit->Shared->Prop}(hu:A.units+1<cLine)(I:Inv X pins σ H s)(g:zt0 H a y v H')(ry:za2 y u)(rv:za2 v r)(h:∀s',Inv X pins σ H' s'->Q () s') :
  wpAny (model X.prog X.w) A (setItem (.ref a) u r) Q E s:=by
 obtain ⟨kvs,k,b,e,ey,eb,l,eH⟩:=g;subst ey eH;cases (show u=Value.ref b from ry);obtain ⟨z,hd,xs,rel,dd⟩:=zv9 I.hok e
 have hz:xs.length<=sizeLine:=by rw [<-Paired.length rel];exact z
 have hl:(zmf kvs k v).length<=sizeLine:=by have:=zhV kvs k v;omega
 refine wpAny_setItem_heap (hsz:=hz) (tupleKind_room_in1 hu) (zlg I.hok eb) dd fun h' dd' hs=>h _ ?_
 obtain ⟨q,es,ep,hq,h2,h3,h4,_,h5⟩:=dd';refine zqu I (by rw [e];exact True.intro) hs ⟨q,hq⟩ ⟨hl,hd,_,(rel.put k eb rv).keeps fun c ys ec=>?_,q,es,ep,hq,h2,h3,h4,h5⟩;rw [zal (zvC ec e (fun z=>nomatch z))];exact ec
end
section
variable{X:Cx}{pins:Z3}{σ:St}{H:Hp}{s:Shared}{a:Addr}{kvs:List (Key×V)}{k:Key}{u:Value}{A:Around}{E:Z5}
end
def zvh(td ty tv:TE):TS:=fun D σ H=>tv σ H fun v H1=>td σ H1 fun x H2=>ty σ H2 fun y H3=>∃a H4,x=.ref a/\zt0 H3 a y v H4/\D.nx σ H4
section
variable{X:Cx}{o i e value:Expr}{pos pos' tpos:Pos}{td ty tv:TE}
def zpz(hu:X.A.units+1<cLine)(ho:PE X o td)(hi:PE X i ty)(hv:PE X value tv)(hs:swapsWith value (some (.Subscript o i pos')) pos.line X.env=pure false) :
  PS X (.Assign [.Subscript o i pos'] value pos) (zvh td ty tv):=by
 intro pins s σ H D I h;refine wpAny_Assign_Subscript (thn (hv pins s σ H _ I h) fun r s1 ⟨v,H1,I1,rv,q1⟩=>thn (ho pins s1 σ H1 _ I1 q1) fun u s2 ⟨x,H2,I2,rx,q2⟩=>thn (hi pins s2 σ H2 _ I2 q2) fun iv s3 ⟨y,H3,I3,ry,a,H4,ex,g,q3⟩=>?_) hs;subst ex;obtain rfl:u=Value.ref a:=rx;exact zlL hu I3 g ry rv fun s4 I4=>⟨σ,H4,I4,q3⟩
end
def znD{P:Program}{w:World}{H:Hp}(h:Heap)(hb:sysModules<h.objs.size):zbu P w H (h.push { cls:=.type "dict",data:=.dict #[] }) h.objs.size (.dT []) :=
 ⟨ybm _,ya1.mpr (Ne.symm (yaB hb)),[],.nil,_,#[],0,yar _ rfl,⟨rfl,rfl,rfl⟩,rfl,rfl,List.nodup_nil⟩
def zrp:TE:=fun _ H Q=>∀p,H p=none->Q (.ref p) (upd H p (.dT []))
section
variable{X:Cx}{pos:Pos}
def zmR:PE X (.Dict [] [] pos) zrp:=fun pins s σ H Q I h =>
 wpAny_Dict_empty ⟨.ref s.heap.objs.size,_,I.laid (a:=s.heap.objs.size) (o:=.dT []) (t':=s.toks) (fun _ _ q=>yad _ q) (yam _) (znD s.heap I.big),rfl,h _ (I.hok.fresh (yam _))⟩
end
structure M1(X:Cx)(o:Expr)(m:Str)(apos:Pos)(e:Expr)(cpos:Pos):Prop where
 base:attributeBase o m X.env (eval o X.env)=eval o X.env
 few:((backTo cpos (starEach [e] X.env)).all (fun x=>!x.1)&&(backToKw cpos (keywordEach [] X.env)).all (fun x=>x.1.isSome)
  && decide (([e]:List Expr).length+([]:List Keyword).length+(if ([]:List Keyword).isEmpty then 0 else 1)<30))=true
 line:(apos.endLine == cpos.line)=true
 trees:backTo cpos (starEach [e] X.env)=[(false,eval e X.env)]
structure M2(X:Cx)(o:Expr)(m:Str)(apos:Pos)(e f:Expr)(cpos:Pos):Prop where
 base:attributeBase o m X.env (eval o X.env)=eval o X.env
 few:((backTo cpos (starEach [e,f] X.env)).all (fun x=>!x.1)&&(backToKw cpos (keywordEach [] X.env)).all (fun x=>x.1.isSome)
  && decide (([e,f]:List Expr).length+([]:List Keyword).length+(if ([]:List Keyword).isEmpty then 0 else 1)<30))=true
 line:(apos.endLine == cpos.line)=true
 trees:backTo cpos (starEach [e,f] X.env)=[(false,eval e X.env),(false,eval f X.env)]
def IsD(H:Hp)(a:Addr):Prop:=∃kvs,Rd H a (.dT kvs)
def ztf{X:Cx}{pins:Z3}{σ:St}{H:Hp}{s:Shared}{a:Addr}(I:Inv X pins σ H s)(d:IsD H a) :
  s.TypeIs (.ref a) "dict" /\ (∀b,Value.ref a=.ref b->∃ob,s.heap.get? b=some ob/\ob.dict=none)/\(a == sysModules)=false:=by
 obtain ⟨kvs,e⟩:=d;obtain ⟨_,hd,xs,_,dd⟩:=zqs I.hok e;refine ⟨dd.typeIs,fun b q=>?_,hd⟩;cases q;obtain ⟨ob,_,_,h1,h2,_⟩:=dd;exact ⟨ob,h1,h2.2.1⟩
section
variable{X:Cx}{pins:Z3}{σ:St}{H:Hp}{s:Shared}{a:Addr}{y d:V}{u r:Value}{o:Option V}{A:Around}{E:Z5}
def zty{Q:Z5}(hu:A.units+1<cLine)(I:Inv X pins σ H s)(g:zt1 H a y o)(ry:za2 y u)(rd:za2 d r)(h:∀w' s',Inv X pins σ H s'->za2 (o.getD d) w'->Q w' s') :
  wpAny (model X.prog X.w) A (call (.builtin "dict.get") [.ref a,u,r]) Q E s:=by
 obtain ⟨kvs,k,b,e,ey,eb,l⟩:=g;subst ey;cases (show u=Value.ref b from ry);obtain ⟨z,hd,xs,rel,dd⟩:=zqs I.hok e;refine call_meetsIn PySem.F.slot_dict_get dd.typeIs PySem.F.entry_dict_get (PySem.F.args_dict_get_3 _ _ _) (meetsH_dict_get_default (tupleKind (zb9 X.prog X.w)) a b hd r) ⟨tupleKind_room_in1 hu,k,xs,zlg I.hok eb,dd,h _ _ (I.tok _) ?_⟩;rw [l];exact (rel.val k).getD rd
end
def zrq(td ty tx:TE):TE:=fun σ H Q=>td σ H fun x H1=>∃a,x=.ref a/\IsD H1 a/\ty σ H1 fun y H2=>tx σ H2 fun z H3=>∃o,zt1 H3 a y o/\Q (o.getD z) H3
section
variable{X:Cx}{o e f:Expr}{apos cpos:Pos}{td ty tx:TE}
def zmS(hu:X.A.units+1<cLine)(ho:PE X o td)(he:PE X e ty)(hf:PE X f tx)(m:M2 X o "get" apos e f cpos):PE X (.Call (.Attribute o "get" apos) [e,f] [] cpos) (zrq td ty tx):=by
 intro pins s σ H Q I h;refine wpAny_Call_method m.base m.few m.line PySem.F.plainAttrs_dict PySem.F.slot_dict_get PySem.F.type_dict_get (thn (ho pins s σ H _ I h) fun u s1 ⟨x,H1,I1,rx,a,ex,d,q1⟩=>?_);subst ex;obtain rfl:u=Value.ref a:=rx;obtain ⟨t1,t2,_⟩:=ztf I1 d;refine ⟨t1,t2,?_⟩;rw [m.trees]
 refine Calls.callWith_builtin rfl (ycx (ycL (thn (he pins s1 σ H1 _ I1 q1) fun iv s2 ⟨y,H2,I2,ry,q2⟩ =>
  ycL (thn (hf pins s2 σ H2 _ I2 q2) fun fv s3 ⟨z,H3,I3,rz,ov,g,q3⟩=>Calls.spliced_nil ?_))))
 exact zty hu I3 g ry rz fun w' s4 I4 rw'=>⟨_,H3,I4,rw',q3⟩
end
section
variable{X:Cx}{pins:Z3}{σ:St}{H:Hp}{s:Shared}{a:Addr}{kvs:List (Key×V)}{A:Around}{E:Z5}
end
section
variable{X:Cx}{pins:Z3}{σ:St}{H:Hp}{s:Shared}{a:Addr}{y:V}{u:Value}{A:Around}{E:Z5}
end
end L2
namespace S2
open PySem PySem.Spec PyProof.Rows L2
abbrev St:=L2.St
inductive D where
 | non | bl (b:Bool) | int (i:Int) | str (x:Str) | tup (l:List D) | lst (l:List D) | dic (l:List (D×D)) | ref (n:Nat) | exc (c:Str) | scr (l:List Int)
inductive Root where
 | slot (i:Nat) | fld (n:Nat) (f:Str) | obj (n:Nat) | far
 deriving DecidableEq
abbrev Ow:=Addr->Option Root
structure Cf where
 ad:Str->Addr
 K:PySem.W.Frag
 P:Program
 wo:PySem.World
instance:CoeFun Cf (fun _=>Str->Addr):=⟨Cf.ad⟩
structure Wd where
 H:Hp
 ow:Ow
 mu:List Addr
def zsW:Key->D | .inl i=>.int i | .inr x=>.str x
def zmh(k:List Key):D:=.tup (k.map zsW)
def zd1(ds:List (D×D)):D:=.dic ((.exc "",.non)::ds)
mutual
inductive Shd(cl:Cf)(w:Wd):V->D->Prop
 | non:Shd cl w .non .non
 | bl (b:Bool):Shd cl w (.bl b) (.bl b)
 | int (i:Int):Shd cl w (.int i) (.int i)
 | str (x:Str):Shd cl w (.str x) (.str x)
 | tup {a:Addr} {xs:List V} {ds:List D}:w.H a=some (.tup xs)->w.ow a=none->Shds cl w xs ds->Shd cl w (.ref a) (.tup ds)
 | lst {a:Addr} {xs:List V} {ds:List D}:w.H a=some (.lst xs)->w.ow a=none->Shds cl w xs ds->Shd cl w (.ref a) (.lst ds)
 | dicK {a:Addr} {kvs:List (Key×V)} {ds:List (D×D)}:w.H a=some (.dK kvs)->w.ow a=none->ShdK cl w kvs ds->Shd cl w (.ref a) (.dic ds)
 | dicT {a:Addr} {kvs:List (List Key×V)} {ds:List (D×D)}:w.H a=some (.dT kvs)->w.ow a=none->ShdT cl w kvs ds->Shd cl w (.ref a) (.dic ((.exc "",.non)::ds))
 | ref {n:Nat} {a:Addr}:w.mu[n]?=some a->Shd cl w (.ref a) (.ref n)
 | scr {a:Addr} {o:Obj} {l:List Int}:w.H a=some (.frz o (.lst (l.map V.int)))->w.ow a=none->Shd cl w (.ref a) (.scr l)
 | scrK {a:Addr} {l:List Int}:(∀H:Hp,SqL cl.K H a (l.map V.int))->Shd cl w (.ref a) (.scr l)
 | exc {a:Addr} {c:Str} {ob:Obj}:w.H a=some (.frz ob (.own a))->w.ow a=none->ob.cls=.ref (cl c)->Shd cl w (.ref a) (.exc c)
inductive Shds(cl:Cf)(w:Wd):List V->List D->Prop
 | nil:Shds cl w [] []
 | cons {v:V} {d:D} {vs:List V} {ds:List D}:Shd cl w v d->Shds cl w vs ds->Shds cl w (v::vs) (d::ds)
inductive ShdK(cl:Cf)(w:Wd):List (Key×V)->List (D×D)->Prop
 | nil:ShdK cl w [] []
 | consI {i:Int} {v:V} {d:D} {vs:List (Key×V)} {ds:List (D×D)}:Shd cl w v d->ShdK cl w vs ds->ShdK cl w ((.inl i,v)::vs) ((.int i,d)::ds)
 | consS {x:Str} {v:V} {d:D} {vs:List (Key×V)} {ds:List (D×D)}:Shd cl w v d->ShdK cl w vs ds->ShdK cl w ((.inr x,v)::vs) ((.str x,d)::ds)
inductive ShdT(cl:Cf)(w:Wd):List (List Key×V)->List (D×D)->Prop
 | nil:ShdT cl w [] []
 | cons {k:List Key} {v:V} {d:D} {vs:List (List Key×V)} {ds:List (D×D)}:Shd cl w v d->ShdT cl w vs ds->ShdT cl w ((k,v)::vs) ((zmh k,d)::ds)
end
structure Fut(w w':Wd):Prop where
 keep:∀a o,w.H a=some o->w.ow a=none->w'.H a=some o/\w'.ow a=none
 mu:∀(n:Nat) (a:Addr),w.mu[n]?=some a->w'.mu[n]?=some a
def Fut.refl(w:Wd):Fut w w:=⟨fun _ _ h k=>⟨h,k⟩,fun _ _ h=>h⟩
def Fut.trans{w w1 w2:Wd}(a:Fut w w1)(b:Fut w1 w2):Fut w w2:=⟨fun c o h k=>b.keep c o (a.keep c o h k).1 (a.keep c o h k).2,fun n c h=>b.mu n c (a.mu n c h)⟩
mutual
theorem Shd.up{cl:Cf}{w w':Wd}(f:Fut w w'):∀{v:V} {d:D},Shd cl w v d->Shd cl w' v d
 | _,_,.non=>.non
 | _,_,.bl b=>.bl b
 | _,_,.int i=>.int i
 | _,_,.str x=>.str x
 | _,_,.tup e k r=>.tup (f.keep _ _ e k).1 (f.keep _ _ e k).2 (Shds.up f r)
 | _,_,.lst e k r=>.lst (f.keep _ _ e k).1 (f.keep _ _ e k).2 (Shds.up f r)
 | _,_,.dicK e k r=>.dicK (f.keep _ _ e k).1 (f.keep _ _ e k).2 (ShdK.up f r)
 | _,_,.dicT e k r=>.dicT (f.keep _ _ e k).1 (f.keep _ _ e k).2 (ShdT.up f r)
 | _,_,.ref e=>.ref (f.mu _ _ e)
 | _,_,.scr e k=>.scr (f.keep _ _ e k).1 (f.keep _ _ e k).2
 | _,_,.scrK h=>.scrK h
 | _,_,.exc e k h=>.exc (f.keep _ _ e k).1 (f.keep _ _ e k).2 h
theorem Shds.up{cl:Cf}{w w':Wd}(f:Fut w w'):∀{vs:List V} {ds:List D},Shds cl w vs ds->Shds cl w' vs ds
 | _,_,.nil=>.nil
 | _,_,.cons r t=>.cons (Shd.up f r) (Shds.up f t)
theorem ShdK.up{cl:Cf}{w w':Wd}(f:Fut w w'):∀{vs:List (Key×V)} {ds:List (D×D)},ShdK cl w vs ds->ShdK cl w' vs ds
 | _,_,.nil=>.nil
 | _,_,.consI r t=>.consI (Shd.up f r) (ShdK.up f t)
 | _,_,.consS r t=>.consS (Shd.up f r) (ShdK.up f t)
theorem ShdT.up{cl:Cf}{w w':Wd}(f:Fut w w'):∀{vs:List (List Key×V)} {ds:List (D×D)},ShdT cl w vs ds->ShdT cl w' vs ds
 | _,_,.nil=>.nil
 | _,_,.cons r t=>.cons (Shd.up f r) (ShdT.up f t)
end
section
variable{cl:Cf}{w:Wd}
theorem Shds.length:∀{vs:List V} {ds:List D},Shds cl w vs ds->vs.length=ds.length
 | _,_,.nil=>rfl
 | _,_,.cons _ t=>by rw [yai,yai,Shds.length t]
theorem Shds.get:∀{vs:List V} {ds:List D},Shds cl w vs ds->∀{i:Nat} {v:V},vs[i]?=some v->∃d,ds[i]?=some d/\Shd cl w v d
 | _,_,.nil,i,v,e=>by simp at e
 | _,_,.cons r _,0,v,e=>by simp at e;subst e;exact ⟨_,rfl,r⟩
 | _,_,.cons _ t,i+1,v,e=>by
  obtain ⟨d,h1,h2⟩:=Shds.get t (i:=i) (v:=v) (by simpa using e);exact ⟨d,by simpa using h1,h2⟩
theorem Shds.at:∀{vs:List V} {ds:List D},Shds cl w vs ds->∀{i:Nat} {d:D},ds[i]?=some d->∃v,vs[i]?=some v/\Shd cl w v d
 | _,_,.nil,i,v,e=>by simp at e
 | _,_,.cons r _,0,v,e=>by simp at e;subst e;exact ⟨_,rfl,r⟩
 | _,_,.cons _ t,i+1,v,e=>by
  obtain ⟨d,h1,h2⟩:=Shds.at t (i:=i) (d:=v) (by simpa using e);exact ⟨d,by simpa using h1,h2⟩
theorem Shds.append:∀{vs ws:List V} {ds es:List D},Shds cl w vs ds->Shds cl w ws es->Shds cl w (vs++ws) (ds++es)
 | _,_,_,_,.nil,s=>s
 | _,_,_,_,.cons r t,s=>.cons r (Shds.append t s)
theorem Shds.take:∀{vs:List V} {ds:List D} (n:Nat),Shds cl w vs ds->Shds cl w (vs.take n) (ds.take n)
 | _,_,0,_=>.nil
 | _,_,_+1,.nil=>.nil
 | _,_,n+1,.cons r t=>.cons r (Shds.take n t)
theorem Shds.drop:∀{vs:List V} {ds:List D} (n:Nat),Shds cl w vs ds->Shds cl w (vs.drop n) (ds.drop n)
 | _,_,0,s=>s
 | _,_,_+1,.nil=>.nil
 | _,_,n+1,.cons _ t=>Shds.drop n t
theorem Shds.set{v:V}{d:D}(r:Shd cl w v d):∀{vs:List V} {ds:List D} (i:Nat),Shds cl w vs ds->Shds cl w (vs.set i v) (ds.set i d)
 | _,_,_,.nil=>.nil
 | _,_,0,.cons _ t=>.cons r t
 | _,_,i+1,.cons q t=>.cons q (Shds.set r i t)
theorem Shds.flat{vs:List V}{ds:List D}(h:Shds cl w vs ds):∀n:Nat,Shds cl w (List.replicate n vs).flatten (List.replicate n ds).flatten
 | 0=>.nil
 | n+1=>by
  rw [ya6,ya6,yby,yby];exact Shds.append h (Shds.flat h n)
end
inductive Top(cl:Cf)(w:Wd):HO->D->Prop
 | lst {xs:List V} {ds:List D}:Shds cl w xs ds->Top cl w (.lst xs) (.lst ds)
 | dicK {kvs:List (Key×V)} {ds:List (D×D)}:ShdK cl w kvs ds->Top cl w (.dK kvs) (.dic ds)
 | dicT {kvs:List (List Key×V)} {ds:List (D×D)}:ShdT cl w kvs ds->Top cl w (.dT kvs) (.dic ((.exc "",.non)::ds))
theorem Top.up{cl:Cf}{w w':Wd}(f:Fut w w'){o:HO}{d:D}:Top cl w o d->Top cl w' o d
 | .lst h=>.lst (h.up f)
 | .dicK h=>.dicK (h.up f)
 | .dicT h=>.dicT (h.up f)
def zjc(cl:Cf)(w:Wd)(r:Root):Bool->V->D->Prop
 | false,v,d=>Shd cl w v d
 | true,v,d=>∃a o,v=.ref a/\w.ow a=some r/\w.H a=some o/\Top cl w o d
theorem zjc.keep{cl:Cf}{w w':Wd}(f:Fut w w'){r:Root}(k:∀a o,w.H a=some o->w.ow a=some r->w'.H a=some o/\w'.ow a=some r):∀{b:Bool} {v:V} {d:D},zjc cl w r b v d->zjc cl w' r b v d
 | false,_,_,h=>Shd.up f h
 | true,_,_,⟨a,o,e,h1,h2,t⟩=>⟨a,o,e,(k a o h2 h1).2,(k a o h2 h1).1,t.up f⟩
def oDn:Option Int->D | none=>.non | some i=>.int i
def nkD(k:NK):D:=.tup [.int k.1,.tup (k.2.map oDn)]
inductive ShdN(cl:Cf)(w:Wd):List (NK×V)->List (D×D)->Prop
 | nil:ShdN cl w [] []
 | cons {k:NK} {v:V} {d:D} {m:List (NK×V)} {ds:List (D×D)}:Shd cl w v d->ShdN cl w m ds->ShdN cl w ((k,v)::m) ((nkD k,d)::ds)
theorem ShdN.up{cl:Cf}{w w':Wd}(f:Fut w w'):∀{m:List (NK×V)} {ds:List (D×D)},ShdN cl w m ds->ShdN cl w' m ds
 | _,_,.nil=>.nil
 | _,_,.cons r t=>.cons (r.up f) (ShdN.up f t)
def zmi(w:Wd)(kb:Addr)(k:NK):Prop:=∃b,(w.H kb=some (.tup [.int k.1,.ref b])/\w.ow kb=none)/\w.H b=some (.tup (k.2.map oV))/\w.ow b=none
def zmi.up{w w':Wd}(f:Fut w w'){kb:Addr}{k:NK}(h:zmi w kb k):zmi w' kb k:=by
 obtain ⟨b,h1,h2⟩:=h;exact ⟨b,f.keep _ _ h1.1 h1.2,f.keep _ _ h2.1 h2.2⟩
def zmi.at{w:Wd}{kb:Addr}{k:NK}(h:zmi w kb k):zif w.H kb k:=by
 obtain ⟨b,h1,h2⟩:=h;exact ⟨b,h1.1,h2.1⟩
def zje(w:Wd):List (NK×Addr×Value)->List (NK×V)->Prop:=Paired fun (x:NK×Addr×Value) (p:NK×V)=>x.1=p.1/\zmi w x.2.1 x.1/\za2 p.2 x.2.2
theorem zje.up{w w':Wd}(f:Fut w w'):∀{xs:List (NK×Addr×Value)} {m:List (NK×V)},zje w xs m->zje w' xs m
 | _,_,.nil=>.nil
 | _,_,.cons h t=>.cons ⟨h.1,h.2.1.up f,h.2.2⟩ (zje.up f t)
theorem zje.ents{w:Wd}:∀{xs:List (NK×Addr×Value)} {m:List (NK×V)},zje w xs m->znY w.H xs m
 | _,_,.nil=>.nil
 | _,_,.cons h t=>.cons ⟨h.1,h.2.1.at,h.2.2⟩ (zje.ents t)
theorem zje.snoc{w:Wd}{x:NK×Addr×Value}{p:NK×V}(h:x.1=p.1/\zmi w x.2.1 x.1/\za2 p.2 x.2.2):∀{xs:List (NK×Addr×Value)} {m:List (NK×V)},zje w xs m->zje w (xs++[x]) (m++[p])
 | _,_,.nil=>.cons h .nil
 | _,_,.cons h' t=>.cons h' (zje.snoc h t)
theorem ShdN.snoc{cl:Cf}{w:Wd}{k:NK}{v:V}{d:D}(h:Shd cl w v d):∀{m:List (NK×V)} {ds:List (D×D)},ShdN cl w m ds->ShdN cl w (m++[(k,v)]) (ds++[(nkD k,d)])
 | _,_,.nil=>.cons h .nil
 | _,_,.cons r t=>.cons r (ShdN.snoc h t)
def zzU(cl:Cf)(w:Wd)(r:Root)(v:V)(d:D):Prop:=∃a xs m ds,v=.ref a/\w.ow a=some r/\w.H a=some (.ext (DN cl.P cl.wo a xs))/\zje w xs m/\ShdN cl w m ds/\d=.dic ds
def zig(cl:Cf)(w:Wd)(r:Root)(own:Bool)(v:V)(d:D):Prop:=(own=false/\Shd cl w v d)\/(own=true/\zzU cl w r v d)
def zig.keep{cl:Cf}{w w':Wd}(f:Fut w w'){r:Root}(k:∀a o,w.H a=some o->w.ow a=some r->w'.H a=some o/\w'.ow a=some r){b:Bool}{v:V}{d:D}(h:zig cl w r b v d):zig cl w' r b v d:=by
 rcases h with ⟨e,h⟩ | ⟨e,a,xs,m,ds,e1,e2,e3,e4,e5,e6⟩
 ·exact .inl ⟨e,h.up f⟩
 ·exact .inr ⟨e,a,xs,m,ds,e1,(k a _ e3 e2).2,(k a _ e3 e2).1,e4.up f,e5.up f,e6⟩
structure Ob where
 cls:Str
 fs:List (Str×Bool×D)
abbrev Sto:=List Ob
def zdn(cl:Cf)(w:Wd)(n:Nat):List (Str×V)->List (Str×Bool×D)->Prop:=Paired fun p q=>p.1=q.1/\zig cl w (.fld n q.1) q.2.1 p.2 q.2.2
def ztY(cl:Cf)(w:Wd)(n:Nat)(a:Addr)(ob:Ob):Prop:=w.ow a=some (.obj n)/\∃dx fs,w.H a=some (.ins (cl ob.cls) dx fs)/\zdn cl w n fs ob.fs
def zsA(n:Nat):Option Root->Prop | some (.obj m)=>m=n | some (.fld m _)=>m=n | _=>False
theorem zdn.keep{cl:Cf}{w w':Wd}(f:Fut w w'){n:Nat}(k:∀a o,w.H a=some o->zsA n (w.ow a)->w'.H a=some o/\w'.ow a=w.ow a):∀{fs:List (Str×V)} {gs:List (Str×Bool×D)},zdn cl w n fs gs->zdn cl w' n fs gs
 | _,_,.nil=>.nil
 | _,_,.cons ⟨e,h⟩ t=>.cons ⟨e,h.keep f fun a o ha hr=>by
   have:=k a o ha (by rw [hr];rfl)
   exact ⟨this.1,this.2.trans hr⟩⟩ (zdn.keep f k t)
theorem ztY.keep{cl:Cf}{w w':Wd}(f:Fut w w'){n:Nat}{a:Addr}{ob:Ob}(k:∀a o,w.H a=some o->zsA n (w.ow a)->w'.H a=some o/\w'.ow a=w.ow a)(h:ztY cl w n a ob):ztY cl w' n a ob:=by
 obtain ⟨h1,dx,fs,h2,h3⟩:=h;have:=k a _ h2 (by rw [h1];rfl);exact ⟨this.2.trans h1,dx,fs,this.1,h3.keep f k⟩
structure Base where
 Fr:Hp
 fw:Ow
structure World'(cl:Cf)(B:Base)(w:Wd)(S:Sto):Prop where
 fr:∀a o,B.Fr a=some o->w.H a=some o/\w.ow a=B.fw a
 own:∀a r,w.ow a=some r->r=.far\/B.Fr a=none
 len:w.mu.length=S.length
 obj:∀(n:Nat) (ob:Ob),S[n]?=some ob->∃a,w.mu[n]?=some a/\ztY cl w n a ob
abbrev Env:=List (Option (Bool×D))
structure Rel(cl:Cf)(B:Base)(σ:St)(w:Wd)(ρ:Env)(S:Sto):Prop where
 wd:World' cl B w S
 len:σ.length=ρ.length
 slots:∀(i:Nat) (o:Bool) (d:D),ρ[i]?=some (some (o,d))->∃v,σ[i]?=some (some v)/\zjc cl w (.slot i) o v d
structure Grow(w w':Wd):Prop where
 keep:∀a o,w.H a=some o->w'.H a=some o/\w'.ow a=w.ow a
 new:∀a r,w'.ow a=some r->w.H a=none->w.ow a=some r\/r=.far
 mu:w'.mu=w.mu
def Grow.refl(w:Wd):Grow w w:=⟨fun _ _ h=>⟨h,rfl⟩,fun _ _ h _=>.inl h,rfl⟩
def Grow.fut{w w':Wd}(g:Grow w w'):Fut w w':=⟨fun a o h k=>⟨(g.keep a o h).1,(g.keep a o h).2.trans k⟩,fun n a h=>by rw [g.mu];exact h⟩
def World'.grow{cl:Cf}{B:Base}{w w':Wd}{S:Sto}(W:World' cl B w S)(g:Grow w w'):World' cl B w' S where
 fr:=fun a o h=>by
  obtain ⟨h1,h2⟩:=W.fr a o h;exact ⟨(g.keep a o h1).1,(g.keep a o h1).2.trans h2⟩
 own:=fun a r h=>by
  cases e:w.H a with
  | none=>exact (g.new a r h e).elim (W.own a r) .inl
  | some o=>exact W.own a r (by rw [<-(g.keep a o e).2];exact h)
 len:=by rw [g.mu];exact W.len
 obj:=fun n ob h=>by
  obtain ⟨a,e,x⟩:=W.obj n ob h;exact ⟨a,by rw [g.mu];exact e,x.keep g.fut fun a o ha _=>g.keep a o ha⟩
theorem Rel.grow{cl:Cf}{B:Base}{σ:St}{w w':Wd}{ρ:Env}{S:Sto}(R:Rel cl B σ w ρ S)(g:Grow w w'):Rel cl B σ w' ρ S where
 wd:=R.wd.grow g
 len:=R.len
 slots:=fun i o d h=>by
  obtain ⟨v,e,x⟩:=R.slots i o d h;exact ⟨v,e,x.keep g.fut fun a o ha hr=>⟨(g.keep a o ha).1,(g.keep a o ha).2.trans hr⟩⟩
def Wd.add(w:Wd)(p:Addr)(o:HO):Wd:=⟨upd w.H p o,fun a=>if a=p then none else w.ow a,w.mu⟩
def zaA{w:Wd}{p:Addr}(h:w.H p=none)(o:HO):Grow w (w.add p o) where
 keep:=fun a u ha=>by
  have n:a≠p:=zax ha h;refine ⟨?_,?_⟩
  ·show upd w.H p o a=_;rw [zal n];exact ha
  ·show (if a=p then none else w.ow a)=_;rw [if_neg n]
 new:=fun a r h1 h2=>by
  have h1':(if a=p then none else w.ow a)=some r:=h1;split at h1'
  ·cases h1'
  ·exact .inl h1'
 mu:=rfl
def zfZ{w:Wd}{p:Addr}{o:HO}:(w.add p o).ow p=none:=if_pos rfl
def zjY{w:Wd}{p:Addr}{o:HO}:(w.add p o).H p=some o:=zaR
def Shd.newT{cl:Cf}{w:Wd}{p:Addr}{xs:List V}{ds:List D}(h:w.H p=none)(r:Shds cl w xs ds):Shd cl (w.add p (.tup xs)) (.ref p) (.tup ds):=.tup zjY zfZ (r.up (zaA h _).fut)
def Shd.newL{cl:Cf}{w:Wd}{p:Addr}{xs:List V}{ds:List D}(h:w.H p=none)(r:Shds cl w xs ds):Shd cl (w.add p (.lst xs)) (.ref p) (.lst ds):=.lst zjY zfZ (r.up (zaA h _).fut)
def Shd.newO{cl:Cf}{w:Wd}{p:Addr}{o:HO}{d:D}(h:w.H p=none)(r:Top cl w o d):Shd cl (w.add p o) (.ref p) d:=by
 have g:=(zaA h o).fut
 cases r with
 | lst r=>exact .lst zjY zfZ (r.up g)
 | dicK r=>exact .dicK zjY zfZ (r.up g)
 | dicT r=>exact .dicT zjY zfZ (r.up g)
inductive Out(α:Type) where
 | ok (a:α) (S:Sto) | exc (c:Str) (S:Sto) | bad
abbrev Fe:=Env->Sto->Out D
inductive Fo where
 | nx (ρ:Env) (S:Sto) | rt (d:D) (S:Sto) | bk (ρ:Env) (S:Sto) | ct (ρ:Env) (S:Sto) | ex (c:Str) (ρ:Env) (S:Sto) | bad
abbrev Fs:=Env->Sto->Fo
def tE(cl:Cf)(E:St->XK)(f:Fe):TE:=fun σ H Q=>∃B w ρ S,w.H=H/\Rel cl B σ w ρ S/\match f ρ S with
 | .ok d S'=>∀v w',Rel cl B σ w' ρ S'->Fut w w'->Shd cl w' v d->Q v w'.H
 | .exc c S'=>∀w',Rel cl B σ w' ρ S'->Fut w w'->E σ (.ref (cl c)) none w'.H
 | .bad=>False
def tN(cl:Cf)(E:St->XK)(f:Fe):TE:=fun σ H Q=>∃B w ρ S,w.H=H/\Rel cl B σ w ρ S/\match f ρ S with
 | .ok d S'=>∀p o w',Rel cl B σ w' ρ S'->Fut w w'->w'.H p=none->Top cl w' o d->Q (.ref p) (upd w'.H p o)
 | .exc c S'=>∀w',Rel cl B σ w' ρ S'->Fut w w'->E σ (.ref (cl c)) none w'.H
 | .bad=>False
def Hd(cl:Cf)(σ:St)(ρ:Env)(w:Wd)(v:V)(d:D):Prop:=Shd cl w v d\/∃i:Nat,ρ[i]?=some (some (true,d))/\σ[i]?=some (some v)
def tH(cl:Cf)(E:St->XK)(f:Fe):TE:=fun σ H Q=>∃B w ρ S,w.H=H/\Rel cl B σ w ρ S/\match f ρ S with
 | .ok d S'=>∀v w',Rel cl B σ w' ρ S'->Fut w w'->Hd cl σ ρ w' v d->Q v w'.H
 | .exc c S'=>∀w',Rel cl B σ w' ρ S'->Fut w w'->E σ (.ref (cl c)) none w'.H
 | .bad=>False
inductive TopV(cl:Cf)(w:Wd):V->D->Prop
 | sh {v:V} {d:D}:Shd cl w v d->TopV cl w v d
 | ow {a:Addr} {o:HO} {d:D}:w.H a=some o->Top cl w o d->TopV cl w (.ref a) d
def Hd.top{cl:Cf}{B:Base}{σ:St}{ρ:Env}{w:Wd}{S:Sto}{v:V}{d:D}(h:Hd cl σ ρ w v d)(R:Rel cl B σ w ρ S):TopV cl w v d:=by
 rcases h with h | ⟨i,h1,h2⟩
 ·exact .sh h
 ·obtain ⟨v',e,a,o,rfl,_,h3,t⟩:=R.slots i true d h1;rw [h2] at e;cases e;exact .ow h3 t
theorem Hd.up{cl:Cf}{σ:St}{ρ:Env}{w w':Wd}{v:V}{d:D}(f:Fut w w')(h:Hd cl σ ρ w v d):Hd cl σ ρ w' v d:=by
 rcases h with h | h
 ·exact .inl (h.up f)
 ·exact .inr h
def PE.imp{X:Cx}{e:Expr}{t t':TE}(h:PE X e t)(i:∀σ H Q,t' σ H Q->t σ H Q):PE X e t':=fun pins s σ H Q I q=>h pins s σ H Q I (i _ _ _ q)
def zuQ{cl:Cf}{E:St->XK}{f:Fe}{σ:St}{H:Hp}{Q:VK}(h:tE cl E f σ H Q):tN cl E f σ H Q:=by
 obtain ⟨B,w,ρ,S,e,R,h⟩:=h;refine ⟨B,w,ρ,S,e,R,?_⟩
 cases hf:f ρ S with
 | ok d S' =>
  rw [hf] at h;intro p o w' R' F' hp t;exact h (.ref p) (w'.add p o) (R'.grow (zaA hp o)) (F'.trans (zaA hp o).fut) (Shd.newO hp t)
 | exc c S'=>rwa [hf] at h
 | bad=>rwa [hf] at h
def zuP{cl:Cf}{E:St->XK}{f:Fe}{σ:St}{H:Hp}{Q:VK}(h:tH cl E f σ H Q):tE cl E f σ H Q:=by
 obtain ⟨B,w,ρ,S,e,R,h⟩:=h;refine ⟨B,w,ρ,S,e,R,?_⟩
 cases hf:f ρ S with
 | ok d S' =>
  rw [hf] at h;intro v w' R' F' t;exact h v w' R' F' (.inl t)
 | exc c S'=>rwa [hf] at h
 | bad=>rwa [hf] at h
end S2
namespace S2
open PySem PySem.Spec PyProof.Rows L2
def Out.bind{α β:Type}(o:Out α)(k:α->Sto->Out β):Out β:=match o with | .ok a S=>k a S | .exc c S=>.exc c S | .bad=>.bad
def Out.of{α:Type}(o:Option α)(S:Sto):Out α:=match o with | some a=>.ok a S | none=>.bad
@[simp] def Out.bind_ok{α β:Type}(a:α)(S:Sto)(k:α->Sto->Out β):(Out.ok a S).bind k=k a S:=rfl
@[simp] def Out.bind_exc{α β:Type}(c:Str)(S:Sto)(k:α->Sto->Out β):(Out.exc c S:Out α).bind k=.exc c S:=rfl
@[simp] def Out.bind_bad{α β:Type}(k:α->Sto->Out β):(Out.bad:Out α).bind k=.bad:=rfl
@[simp] def Out.of_some{α:Type}(a:α)(S:Sto):Out.of (some a) S=.ok a S:=rfl
def zac(i:Nat):Fe:=fun ρ S=>match ρ[i]? with | some (some (false,d))=>.ok d S | _=>.bad
def zag(i:Nat):Fe:=fun ρ S=>match ρ[i]? with | some (some (_,d))=>.ok d S | _=>.bad
def zae(d:D):Fe:=fun _ S=>.ok d S
def eUn(g:D->Option D)(f:Fe):Fe:=fun ρ S=>(f ρ S).bind fun a S1=>Out.of (g a) S1
def zaf(g:D->D->Option D)(f h:Fe):Fe:=fun ρ S=>(f ρ S).bind fun a S1=>(h ρ S1).bind fun b S2=>Out.of (g a b) S2
def isB:D->Option Bool | .bl b=>some b | _=>none
def eIf(c f h:Fe):Fe:=fun ρ S=>(c ρ S).bind fun d S1=>match isB d with | some true=>f ρ S1 | some false=>h ρ S1 | none=>.bad
def zeF(f h:Fe):Fe:=fun ρ S=>(f ρ S).bind fun d S1=>match isB d with | some true=>h ρ S1 | some false=>.ok (.bl false) S1 | none=>.bad
def eOr(f h:Fe):Fe:=fun ρ S=>(f ρ S).bind fun d S1=>match isB d with | some true=>.ok (.bl true) S1 | some false=>h ρ S1 | none=>.bad
def zez:D->Option D | .bl b=>some (.bl (!b)) | _=>none
def zak:List Fe->Env->Sto->Out (List D)
 | [],_,S=>.ok [] S
 | f::fs,ρ,S=>(f ρ S).bind fun d S1=>(zak fs ρ S1).bind fun ds S2=>.ok (d::ds) S2
def small(n:Nat):Bool:=decide (n<=100000)
def zbC(fs:List Fe):Fe:=fun ρ S=>(zak fs ρ S).bind fun ds S1=>if small ds.length then .ok (.tup ds) S1 else .bad
def zfn(fs:List Fe):Fe:=fun ρ S=>(zak fs ρ S).bind fun ds S1=>if small ds.length then .ok (.lst ds) S1 else .bad
def zau(g:List D->Option D)(fs:List Fe):Fe:=fun ρ S=>(zak fs ρ S).bind fun ds S1=>Out.of (g ds) S1
def za9{n:Nat}(h:small n=true):n<=sizeLine:=yaj (yat h) (by decide)
def zcm:Expr->Bool | .Starred _ _=>false | _=>true
def za8{e:Expr}{es:List Expr}{env:PySem.Env}(h:zcm e=true):starEach (e::es) env=(false,eval e env)::starEach es env:=by
 cases e<;>first | rfl | cases h
theorem zbj{pos:Pos}{env:PySem.Env}:∀{es:List Expr},es.all zcm=true->(backTo pos (starEach es env)).any (·.1)=false
 | [],_=>rfl
 | e::es,h=>by
  rw [ybH,yab] at h;rw [za8 h.1];show (false||(backTo pos (starEach es env)).any (·.1))=false;rw [zbj h.2];rfl
theorem zg2{pos:Pos}{env:PySem.Env}:∀{es:List Expr},es.all zcm=true->(backTo pos (starEach es env)).all (fun x=>!x.1)=true
 | [],_=>rfl
 | e::es,h=>by
  rw [ybH,yab] at h;rw [za8 h.1];show (true&&(backTo pos (starEach es env)).all (fun x=>!x.1))=true;rw [zg2 h.2];rfl
def zi0{pos:Pos}{env:PySem.Env}{es:List Expr}(h:es.all zcm=true)(hl:es.length<30):((backTo pos (starEach es env)).all (fun x=>!x.1)&&(backToKw pos (keywordEach [] env)).all (fun x=>x.1.isSome)
   && decide (es.length+([]:List Keyword).length+(if ([]:List Keyword).isEmpty then 0 else 1)<30))=true:=by
 rw [zg2 h];show (true&&true&&decide (es.length+0+0<30))=true;simpa using hl
def Hds(cl:Cf)(σ:St)(ρ:Env)(w:Wd):List V->List D->Prop:=Paired (Hd cl σ ρ w)
def zl8(cl:Cf)(w:Wd):List V->List D->Prop:=Paired (TopV cl w)
theorem Hds.top{cl:Cf}{B:Base}{σ:St}{ρ:Env}{w:Wd}{S:Sto}(R:Rel cl B σ w ρ S):∀{vs:List V} {ds:List D},Hds cl σ ρ w vs ds->zl8 cl w vs ds
 | _,_,.nil=>.nil
 | _,_,.cons h t=>.cons (h.top R) (Hds.top R t)
def tAs(cl:Cf)(E:St->XK)(fs:List Fe):TA:=fun σ H Q=>∃B w ρ S,w.H=H/\Rel cl B σ w ρ S/\match zak fs ρ S with
 | .ok ds S'=>∀vs w',Rel cl B σ w' ρ S'->Fut w w'->Shds cl w' vs ds->Q vs w'.H
 | .exc c S'=>∀w',Rel cl B σ w' ρ S'->Fut w w'->E σ (.ref (cl c)) none w'.H
 | .bad=>False
def tHs(cl:Cf)(E:St->XK)(fs:List Fe):TA:=fun σ H Q=>∃B w ρ S,w.H=H/\Rel cl B σ w ρ S/\match zak fs ρ S with
 | .ok ds S'=>∀vs w',Rel cl B σ w' ρ S'->Fut w w'->Hds cl σ ρ w' vs ds->Q vs w'.H
 | .exc c S'=>∀w',Rel cl B σ w' ρ S'->Fut w w'->E σ (.ref (cl c)) none w'.H
 | .bad=>False
def PA.imp{X:Cx}{es:List Expr}{t t':TA}(h:PA X es t)(i:∀σ H Q,t' σ H Q->t σ H Q):PA X es t':=fun pos pins s σ H Q I q=>h pos pins s σ H Q I (i _ _ _ q)
def PT.imp{X:Cx}{e:Expr}{t t':TT}(h:PT X e t)(i:∀σ H Q,t' σ H Q->t σ H Q):PT X e t':=fun pins s σ H Q I q=>h pins s σ H Q I (i _ _ _ q)
section
variable{X:Cx}{cl:Cf}{E:St->XK}{a b c e:Expr}{f h g:Fe}{pos:Pos}
def zrP{i:Nat}{x:Str}(hN:X.N[i]?=some x)(hv:Vis X.env.scope x)(hd:(x == ("__debug__":Str))=false)(hcd:(x == ("__classdict__":Str))=false):PE X (.Name x pos) (tE cl E (zac i)):=by
 refine PE.imp (zcn hN hv hd hcd) ?_;rintro σ H Q ⟨B,w,ρ,S,rfl,R,q⟩;unfold zac at q;split at q
 ·rename_i o d S' hm;split at hm
  ·rename_i d' he;cases hm;obtain ⟨v,e,r⟩:=R.slots i false d he;exact ⟨v,e,q v w R (Fut.refl _) r⟩
  ·cases hm
 ·rename_i hm;split at hm<;>cases hm
 ·exact q.elim
def zrY{i:Nat}{x:Str}(hN:X.N[i]?=some x)(hv:Vis X.env.scope x)(hd:(x == ("__debug__":Str))=false)(hcd:(x == ("__classdict__":Str))=false):PE X (.Name x pos) (tH cl E (zag i)):=by
 refine PE.imp (zcn hN hv hd hcd) ?_;rintro σ H Q ⟨B,w,ρ,S,rfl,R,q⟩;unfold zag at q;split at q
 ·rename_i o d S' hm;split at hm
  ·rename_i b d' he;cases hm;obtain ⟨v,e,r⟩:=R.slots i b d he;refine ⟨v,e,q v w R (Fut.refl _) ?_⟩
   cases b with
   | false=>exact .inl r
   | true=>exact .inr ⟨i,he,e⟩
  ·cases hm
 ·rename_i hm;split at hm<;>cases hm
 ·exact q.elim
def zkr{v:V}{d:D}(h:PE X e (tC v))(hd:∀w,Shd cl w v d):PE X e (tE cl E (zae d)):=by
 refine PE.imp h ?_;rintro σ H Q ⟨B,w,ρ,S,rfl,R,q⟩;exact q v w R (Fut.refl _) (hd w)
def zks(h:PE X e (tE cl E f)):PE X e (tH cl E f):=PE.imp h fun _ _ _=>zuP
def zcS(h:PE X e (tN cl E f)):PE X e (tE cl E f):=PE.imp h fun _ _ _=>zuQ
def OpD(X:Cx)(cl:Cf)(op:Value->Value->Sem Value)(g:D->D->Option D):Prop:=OpR X op fun x y H Q=>∃w d e r,w.H=H/\TopV cl w x d/\TopV cl w y e/\g d e=some r/\∀v w',Grow w w'->Shd cl w' v r->Q v w'.H
def UnD(X:Cx)(cl:Cf)(op:Value->Sem Value)(g:D->Option D):Prop:=UnR X op fun x H Q=>∃w d r,w.H=H/\TopV cl w x d/\g d=some r/\∀v w',Grow w w'->Shd cl w' v r->Q v w'.H
def zih(X:Cx)(cl:Cf)(fv:Value)(g:List D->Option D):Prop:=zd4 X fv fun xs H Q=>∃w ds r,w.H=H/\zl8 cl w xs ds/\g ds=some r/\∀v w',Grow w w'->Shd cl w' v r->Q v w'.H
def zt2(X:Cx)(cl:Cf)(fv:Value)(g:List D->Option D):Prop:=zd4 X fv fun xs H Q=>∃w ds r,w.H=H/\zl8 cl w xs ds/\g ds=some r/\∀p o w',Grow w w'->w'.H p=none->Top cl w' o r->Q (.ref p) (upd w'.H p o)
def IxD(X:Cx)(cl:Cf)(g:D->D->Option D):Prop:=IxR X fun x y H Q=>∃w d e r,w.H=H/\TopV cl w x d/\TopV cl w y e/\g d e=some r/\∀v w',Grow w w'->Shd cl w' v r->Q v w'.H
def two{gg:D->D->Option D}{r2:R2}(hr:∀x y H Q,(∃w d e r,w.H=H/\TopV cl w x d/\TopV cl w y e/\gg d e=some r/\∀v w',Grow w w'->Shd cl w' v r->Q v w'.H)->r2 x y H Q)(σ:St)(H:Hp)(Q:VK)(q:tE cl E (zaf gg f h) σ H Q):tOp r2 (tH cl E f) (tH cl E h) σ H Q:=by
 obtain ⟨B,w,ρ,S,rfl,R,q⟩:=q;refine ⟨B,w,ρ,S,rfl,R,?_⟩;unfold zaf at q
 cases hf:f ρ S with
 | bad=>rwa [hf] at q
 | exc c S1=>rwa [hf] at q
 | ok d S1 =>
  rw [hf] at q;intro v w1 R1 F1 h1;refine ⟨B,w1,ρ,S1,rfl,R1,?_⟩;dsimp only [Out.bind] at q
  cases hh:h ρ S1 with
  | bad=>rwa [hh] at q
  | exc c S2=>rw [hh] at q;exact fun w2 R2 F2=>q w2 R2 (F1.trans F2)
  | ok e S2 =>
   rw [hh] at q;intro y w2 R2 F2 h2;dsimp only at q
   cases hg:gg d e with
   | none=>rw [hg] at q;exact q.elim
   | some r =>
    rw [hg] at q;exact hr _ _ _ _ ⟨w2,d,e,r,rfl,(h1.up F2).top R2,h2.top R2,hg,fun v' w' gr sh=>q v' w' (R2.grow gr) (F1.trans (F2.trans gr.fut)) sh⟩
def zoa{op:Operator}{gg:D->D->Option D}(ho:OpD X cl (binaryOp op) gg)(ha:PE X a (tH cl E f))(hb:PE X b (tH cl E h)):PE X (.BinOp a op b pos) (tE cl E (zaf gg f h)) :=
 PE.imp (zsk ho ha hb) (two fun _ _ _ _ z=>z)
def zve{gg:D->D->Option D}(ho:IxD X cl gg)(ha:PE X a (tH cl E f))(hb:PE X b (tH cl E h))(hs:zgE b):PE X (.Subscript a b pos) (tE cl E (zaf gg f h)) :=
 PE.imp (zsp ho ha hb hs) (two fun _ _ _ _ z=>z)
def zrX{op:CmpOp}{gg:D->D->Option D}(ho:OpD X cl (compareOp op) gg)(ha:PE X a (tH cl E f))(hb:PE X b (tH cl E h))(hm:behindInMarks op b=false):PE X (.Compare a [op] [b] pos) (tE cl E (zaf gg f h)) :=
 PE.imp (zkW ho ha hb hm) (two fun _ _ _ _ z=>z)
def zvb{op:UnaryOp}{gg:D->Option D}(ho:UnD X cl (unaryOp op) gg)(ha:PE X a (tH cl E f)):PE X (.UnaryOp op a pos) (tE cl E (eUn gg f)):=by
 refine PE.imp (zvr ho ha) ?_;rintro σ H Q ⟨B,w,ρ,S,rfl,R,q⟩;refine ⟨B,w,ρ,S,rfl,R,?_⟩;unfold eUn at q
 cases hf:f ρ S with
 | bad=>rwa [hf] at q
 | exc c S1=>rwa [hf] at q
 | ok d S1 =>
  rw [hf] at q;intro v w1 R1 F1 h1;dsimp only [Out.bind] at q
  cases hg:gg d with
  | none=>rw [hg] at q;exact q.elim
  | some r =>
   rw [hg] at q;exact ⟨w1,d,r,rfl,h1.top R1,hg,fun v' w' gr sh=>q v' w' (R1.grow gr) (F1.trans gr.fut) sh⟩
def tTr(cl:Cf)(E:St->XK)(f:Fe):TT:=fun σ H Q=>∃B w ρ S,w.H=H/\Rel cl B σ w ρ S/\match f ρ S with
 | .ok d S'=>match isB d with
  | some b=>∀w',Rel cl B σ w' ρ S'->Fut w w'->Q b w'.H
  | none=>False
 | .exc c S'=>∀w',Rel cl B σ w' ρ S'->Fut w w'->E σ (.ref (cl c)) none w'.H
 | .bad=>False
def zde{d:D}{b:Bool}(h:isB d=some b):d=.bl b:=by
 cases d<;>simp [isB] at h
 subst h;rfl
def zgS{w:Wd}{v:V}{b:Bool}(h:Shd cl w v (.bl b)):v=.bl b:=by cases h;rfl
def zis{σ:St}{H:Hp}{Q:Bool->Hp->Prop}(q:tTr cl E f σ H Q):tB (tE cl E f) σ H Q:=by
 obtain ⟨B,w,ρ,S,rfl,R,q⟩:=q;refine ⟨B,w,ρ,S,rfl,R,?_⟩
 cases hf:f ρ S with
 | bad=>rwa [hf] at q
 | exc c S1=>rwa [hf] at q
 | ok d S1 =>
  rw [hf] at q;intro v w1 R1 F1 h1;dsimp only at q
  cases hb:isB d with
  | none=>rw [hb] at q;exact q.elim
  | some b =>
   rw [hb] at q;rw [zde hb] at h1;exact ⟨b,zgS h1,q w1 R1 F1⟩
def zbw(h:PE X e (tE cl E f))(he:∀whole,isTrue e X.env whole=(do let v ← whole;standAt e.pos;holding [v] (truthy v))):PT X e (tTr cl E f) :=
 PT.imp (zsb h he) fun _ _ _ q=>zis q
def zki{gg:D->D->Option D}{r2:R2}(hr:∀x y H Q,(∃w d e r,w.H=H/\TopV cl w x d/\TopV cl w y e/\gg d e=some r/\∀v w',Grow w w'->Shd cl w' v r->Q v w'.H)->r2 x y H Q){σ:St}{H:Hp}{Q:Bool->Hp->Prop}(q:tTr cl E (zaf gg f h) σ H Q):zoT (tOp r2 (tH cl E f) (tH cl E h)) σ H Q :=
 two hr σ H _ (zis q)
def zry{op:CmpOp}{gg:D->D->Option D}(ho:OpD X cl (compareOp op) gg)(ha:PE X a (tH cl E f))(hb:PE X b (tH cl E h))(hm:behindInMarks op b=false):PT X (.Compare a [op] [b] pos) (tTr cl E (zaf gg f h)) :=
 PT.imp (zkK ho ha hb hm) fun _ _ _ q=>zki (fun _ _ _ _ z=>z) q
def PW.imp{X:Cx}{e:Expr}{t t':TT}(h:PW X e t)(i:∀σ H Q,t' σ H Q->t σ H Q):PW X e t':=fun whole pins s σ H Q I q=>h whole pins s σ H Q I (i _ _ _ q)
def zoS{σ:St}{H:Hp}{Q:Bool->Hp->Prop}(q:tTr cl E (zeF f h) σ H Q):zw4 (tTr cl E f) (tTr cl E h) σ H Q:=by
 obtain ⟨B,w,ρ,S,rfl,R,q⟩:=q;refine ⟨B,w,ρ,S,rfl,R,?_⟩;unfold zeF at q
 cases hf:f ρ S with
 | bad=>rwa [hf] at q
 | exc c S1=>rwa [hf] at q
 | ok d S1 =>
  rw [hf] at q;dsimp only [Out.bind] at q ⊢
  cases hb:isB d with
  | none=>rw [hb] at q;exact q.elim
  | some b =>
   rw [hb] at q;intro w1 R1 F1
   cases b with
   | false=>exact zoq (q w1 R1 F1)
   | true =>
    refine zop ⟨B,w1,ρ,S1,rfl,R1,?_⟩;dsimp only at q
    cases hh:h ρ S1 with
    | bad=>rwa [hh] at q
    | exc c S2=>rw [hh] at q;exact fun w2 R2 F2=>q w2 R2 (F1.trans F2)
    | ok e S2 =>
     rw [hh] at q;dsimp only at q ⊢
     cases hb2:isB e with
     | none=>rw [hb2] at q;exact q.elim
     | some b2=>rw [hb2] at q;exact fun w2 R2 F2=>q w2 R2 (F1.trans F2)
def zrm{σ:St}{H:Hp}{Q:Bool->Hp->Prop}(q:tTr cl E (eOr f h) σ H Q):tOr (tTr cl E f) (tTr cl E h) σ H Q:=by
 obtain ⟨B,w,ρ,S,rfl,R,q⟩:=q;refine ⟨B,w,ρ,S,rfl,R,?_⟩;unfold eOr at q
 cases hf:f ρ S with
 | bad=>rwa [hf] at q
 | exc c S1=>rwa [hf] at q
 | ok d S1 =>
  rw [hf] at q;dsimp only [Out.bind] at q ⊢
  cases hb:isB d with
  | none=>rw [hb] at q;exact q.elim
  | some b =>
   rw [hb] at q;intro w1 R1 F1
   cases b with
   | true=>exact zop (q w1 R1 F1)
   | false =>
    refine zoq ⟨B,w1,ρ,S1,rfl,R1,?_⟩;dsimp only at q
    cases hh:h ρ S1 with
    | bad=>rwa [hh] at q
    | exc c S2=>rw [hh] at q;exact fun w2 R2 F2=>q w2 R2 (F1.trans F2)
    | ok e S2 =>
     rw [hh] at q;dsimp only at q ⊢
     cases hb2:isB e with
     | none=>rw [hb2] at q;exact q.elim
     | some b2=>rw [hb2] at q;exact fun w2 R2 F2=>q w2 R2 (F1.trans F2)
def zoR{σ:St}{H:Hp}{Q:Bool->Hp->Prop}(q:tTr cl E (eUn zez f) σ H Q):zw2 (tTr cl E f) σ H Q:=by
 obtain ⟨B,w,ρ,S,rfl,R,q⟩:=q;refine ⟨B,w,ρ,S,rfl,R,?_⟩;unfold eUn at q
 cases hf:f ρ S with
 | bad=>rwa [hf] at q
 | exc c S1=>rwa [hf] at q
 | ok d S1 =>
  rw [hf] at q;dsimp only [Out.bind] at q ⊢
  cases hb:isB d with
  | none =>
   have:zez d=none:=by cases d<;>simp [isB] at hb<;>rfl
   rw [this] at q;exact q.elim
  | some b =>
   rwa [zde hb] at q
def zrw(ha:PT X a (tTr cl E f)):PT X (.UnaryOp .Not a pos) (tTr cl E (eUn zez f)):=PT.imp (zsc ha) fun _ _ _ q=>zoR q
def zru{zci:List Expr}(ha:PT X a (tTr cl E f))(hb:PW X (.BoolOp .And (b::zci) pos) (tTr cl E h)):PW X (.BoolOp .And (a::b::zci) pos) (tTr cl E (zeF f h)):=PW.imp (zr9 ha hb) fun _ _ _ q=>zoS q
def zuX{zci:List Expr}(ha:PT X a (tTr cl E f))(hb:PW X (.BoolOp .Or (b::zci) pos) (tTr cl E h)):PW X (.BoolOp .Or (a::b::zci) pos) (tTr cl E (eOr f h)):=PW.imp (zvn ha hb) fun _ _ _ q=>zrm q
def zrZ{zci:List Expr}(ha:PE X a (tE cl E f))(hb:PE X (.BoolOp .And (b::zci) pos) (tE cl E h)):PE X (.BoolOp .And (a::b::zci) pos) (tE cl E (zeF f h)):=by
 refine PE.imp (zsr ha hb) ?_;rintro σ H Q ⟨B,w,ρ,S,rfl,R,q⟩;refine ⟨B,w,ρ,S,rfl,R,?_⟩;unfold zeF at q
 cases hf:f ρ S with
 | bad=>rwa [hf] at q
 | exc c S1=>rwa [hf] at q
 | ok d S1 =>
  rw [hf] at q;intro v w1 R1 F1 h1;dsimp only [Out.bind] at q
  cases hb:isB d with
  | none=>rw [hb] at q;exact q.elim
  | some b =>
   rw [hb] at q;rw [zde hb] at h1;refine ⟨b,zgS h1,?_⟩
   cases b with
   | false=>exact zoq (q _ w1 R1 F1 (.bl false))
   | true =>
    refine zop ⟨B,w1,ρ,S1,rfl,R1,?_⟩;dsimp only at q
    cases hh:h ρ S1 with
    | bad=>rwa [hh] at q
    | exc c S2=>rw [hh] at q;exact fun w2 R2 F2=>q w2 R2 (F1.trans F2)
    | ok e S2=>rw [hh] at q;exact fun v w2 R2 F2=>q v w2 R2 (F1.trans F2)
def zvc{zci:List Expr}(ha:PE X a (tE cl E f))(hb:PE X (.BoolOp .Or (b::zci) pos) (tE cl E h)):PE X (.BoolOp .Or (a::b::zci) pos) (tE cl E (eOr f h)):=by
 refine PE.imp (zvs ha hb) ?_;rintro σ H Q ⟨B,w,ρ,S,rfl,R,q⟩;refine ⟨B,w,ρ,S,rfl,R,?_⟩;unfold eOr at q
 cases hf:f ρ S with
 | bad=>rwa [hf] at q
 | exc c S1=>rwa [hf] at q
 | ok d S1 =>
  rw [hf] at q;intro v w1 R1 F1 h1;dsimp only [Out.bind] at q
  cases hb:isB d with
  | none=>rw [hb] at q;exact q.elim
  | some b =>
   rw [hb] at q;rw [zde hb] at h1;refine ⟨b,zgS h1,?_⟩
   cases b with
   | true=>exact zop (q _ w1 R1 F1 (.bl true))
   | false =>
    refine zoq ⟨B,w1,ρ,S1,rfl,R1,?_⟩;dsimp only at q
    cases hh:h ρ S1 with
    | bad=>rwa [hh] at q
    | exc c S2=>rw [hh] at q;exact fun w2 R2 F2=>q w2 R2 (F1.trans F2)
    | ok e S2=>rw [hh] at q;exact fun v w2 R2 F2=>q v w2 R2 (F1.trans F2)
def zrS(ha:PE X a (tE cl E f)):PE X (.UnaryOp .Not a pos) (tE cl E (eUn zez f)):=by
 refine PE.imp (zsm ha) ?_;rintro σ H Q ⟨B,w,ρ,S,rfl,R,q⟩;refine ⟨B,w,ρ,S,rfl,R,?_⟩;unfold eUn at q
 cases hf:f ρ S with
 | bad=>rwa [hf] at q
 | exc c S1=>rwa [hf] at q
 | ok d S1 =>
  rw [hf] at q;intro v w1 R1 F1 h1;dsimp only [Out.bind] at q
  cases hb:isB d with
  | none =>
   have:zez d=none:=by cases d<;>simp [isB] at hb<;>rfl
   rw [this] at q;exact q.elim
  | some b =>
   rw [zde hb] at q h1;exact ⟨b,zgS h1,q _ w1 R1 F1 (.bl _)⟩
def zuR{σ:St}{H:Hp}{Q:VK}(q:tE cl E (eIf g f h) σ H Q):tIf (tTr cl E g) (tE cl E f) (tE cl E h) σ H Q:=by
 obtain ⟨B,w,ρ,S,rfl,R,q⟩:=q;refine ⟨B,w,ρ,S,rfl,R,?_⟩;unfold eIf at q
 cases hg:g ρ S with
 | bad=>rwa [hg] at q
 | exc c S1=>rwa [hg] at q
 | ok d S1 =>
  rw [hg] at q;dsimp only [Out.bind] at q ⊢
  cases hb:isB d with
  | none=>rw [hb] at q;exact q.elim
  | some b =>
   rw [hb] at q;intro w1 R1 F1
   cases b with
   | true =>
    refine zop ⟨B,w1,ρ,S1,rfl,R1,?_⟩;dsimp only at q
    cases hh:f ρ S1 with
    | bad=>rwa [hh] at q
    | exc c S2=>rw [hh] at q;exact fun w2 R2 F2=>q w2 R2 (F1.trans F2)
    | ok e S2=>rw [hh] at q;exact fun v w2 R2 F2=>q v w2 R2 (F1.trans F2)
   | false =>
    refine zoq ⟨B,w1,ρ,S1,rfl,R1,?_⟩;dsimp only at q
    cases hh:h ρ S1 with
    | bad=>rwa [hh] at q
    | exc c S2=>rw [hh] at q;exact fun w2 R2 F2=>q w2 R2 (F1.trans F2)
    | ok e S2=>rw [hh] at q;exact fun v w2 R2 F2=>q v w2 R2 (F1.trans F2)
def zvf(hc:PT X c (tTr cl E g))(ha:PE X a (tE cl E f))(hb:PE X b (tE cl E h)):PE X (.IfExp c a b pos) (tE cl E (eIf g f h)):=PE.imp (zmQ hc ha hb) fun _ _ _ q=>zuR q
def zeM:PA X [] (tAs cl E []):=by
 refine PA.imp zeX ?_;rintro σ H Q ⟨B,w,ρ,S,rfl,R,q⟩;exact q [] w R (Fut.refl _) .nil
def zb4{es:List Expr}{fs:List Fe}(ha:PE X e (tE cl E f))(hr:PA X es (tAs cl E fs))(hs:starEach (e::es) X.env=(false,eval e X.env)::starEach es X.env):PA X (e::es) (tAs cl E (f::fs)):=by
 refine PA.imp (zcL ha hr hs) ?_;rintro σ H Q ⟨B,w,ρ,S,rfl,R,q⟩;refine ⟨B,w,ρ,S,rfl,R,?_⟩;unfold zak at q
 cases hf:f ρ S with
 | bad=>rwa [hf] at q
 | exc c S1=>rwa [hf] at q
 | ok d S1 =>
  rw [hf] at q;intro v w1 R1 F1 h1;refine ⟨B,w1,ρ,S1,rfl,R1,?_⟩;dsimp only [Out.bind] at q
  cases hh:zak fs ρ S1 with
  | bad=>rwa [hh] at q
  | exc c S2=>rw [hh] at q;exact fun w2 R2 F2=>q w2 R2 (F1.trans F2)
  | ok ds S2 =>
   rw [hh] at q;exact fun vs w2 R2 F2 h2=>q _ w2 R2 (F1.trans F2) (.cons (h1.up F2) h2)
def zn8:PA X [] (tHs cl E []):=by
 refine PA.imp zeX ?_;rintro σ H Q ⟨B,w,ρ,S,rfl,R,q⟩;exact q [] w R (Fut.refl _) .nil
def zkp{es:List Expr}{fs:List Fe}(ha:PE X e (tH cl E f))(hr:PA X es (tHs cl E fs))(hs:starEach (e::es) X.env=(false,eval e X.env)::starEach es X.env):PA X (e::es) (tHs cl E (f::fs)):=by
 refine PA.imp (zcL ha hr hs) ?_;rintro σ H Q ⟨B,w,ρ,S,rfl,R,q⟩;refine ⟨B,w,ρ,S,rfl,R,?_⟩;unfold zak at q
 cases hf:f ρ S with
 | bad=>rwa [hf] at q
 | exc c S1=>rwa [hf] at q
 | ok d S1 =>
  rw [hf] at q;intro v w1 R1 F1 h1;refine ⟨B,w1,ρ,S1,rfl,R1,?_⟩;dsimp only [Out.bind] at q
  cases hh:zak fs ρ S1 with
  | bad=>rwa [hh] at q
  | exc c S2=>rw [hh] at q;exact fun w2 R2 F2=>q w2 R2 (F1.trans F2)
  | ok ds S2 =>
   rw [hh] at q;exact fun vs w2 R2 F2 h2=>q _ w2 R2 (F1.trans F2) (.cons (h1.up F2) h2)
def zrQ{es:List Expr}{fs:List Fe}{k:Nat}(h:PA X es (tAs cl E fs)):PE X (.Tuple es k pos) (tE cl E (zbC fs)):=by
 refine PE.imp (zsh h) ?_;rintro σ H Q ⟨B,w,ρ,S,rfl,R,q⟩;refine ⟨B,w,ρ,S,rfl,R,?_⟩;unfold zbC at q
 cases hf:zak fs ρ S with
 | bad=>rwa [hf] at q
 | exc c S1=>rwa [hf] at q
 | ok ds S1 =>
  rw [hf] at q;intro vs w1 R1 F1 h1;dsimp only [Out.bind] at q
  cases hz:small ds.length with
  | false=>rw [hz,if_neg (by decide)] at q;exact q.elim
  | true =>
   rw [hz,if_pos rfl] at q;refine ⟨by rw [h1.length];exact za9 hz,fun p hp=>?_⟩;exact q _ (w1.add p (.tup vs)) (R1.grow (zaA hp _)) (F1.trans (zaA hp _).fut) (Shd.newT hp h1)
def zrV{es:List Expr}{fs:List Fe}(h:PA X es (tAs cl E fs)):PE X (.List es pos) (tN cl E (zfn fs)):=by
 refine PE.imp (zso h) ?_;rintro σ H Q ⟨B,w,ρ,S,rfl,R,q⟩;refine ⟨B,w,ρ,S,rfl,R,?_⟩;unfold zfn at q
 cases hf:zak fs ρ S with
 | bad=>rwa [hf] at q
 | exc c S1=>rwa [hf] at q
 | ok ds S1 =>
  rw [hf] at q;intro vs w1 R1 F1 h1;dsimp only [Out.bind] at q
  cases hz:small ds.length with
  | false=>rw [hz,if_neg (by decide)] at q;exact q.elim
  | true =>
   rw [hz,if_pos rfl] at q;refine ⟨by rw [h1.length];exact za9 hz,fun p hp=>?_⟩;exact q _ (.lst vs) w1 R1 F1 hp (.lst h1)
def zrr{fs:List Fe}{gg:List D->Option D}{r:List V->Hp->VK->Prop}(hr:∀xs H Q,(∃w ds r,w.H=H/\zl8 cl w xs ds/\gg ds=some r/\∀v w',Grow w w'->Shd cl w' v r->Q v w'.H)->r xs H Q){σ:St}{H:Hp}{Q:VK}(q:tE cl E (zau gg fs) σ H Q):tCB r (tHs cl E fs) σ H Q:=by
 obtain ⟨B,w,ρ,S,rfl,R,q⟩:=q;refine ⟨B,w,ρ,S,rfl,R,?_⟩;unfold zau at q
 cases hf:zak fs ρ S with
 | bad=>rwa [hf] at q
 | exc c S1=>rwa [hf] at q
 | ok ds S1 =>
  rw [hf] at q;intro vs w1 R1 F1 h1;dsimp only [Out.bind] at q
  cases hg:gg ds with
  | none=>rw [hg] at q;exact q.elim
  | some d =>
   rw [hg] at q;exact hr _ _ _ ⟨w1,ds,d,rfl,h1.top R1,hg,fun v w' gr sh=>q v w' (R1.grow gr) (F1.trans gr.fut) sh⟩
def zuV{fs:List Fe}{gg:List D->Option D}{r:List V->Hp->VK->Prop}(hr:∀xs H Q,(∃w ds r,w.H=H/\zl8 cl w xs ds/\gg ds=some r/\∀p o w',Grow w w'->w'.H p=none->Top cl w' o r->Q (.ref p) (upd w'.H p o))->r xs H Q){σ:St}{H:Hp}{Q:VK}(q:tN cl E (zau gg fs) σ H Q):tCB r (tHs cl E fs) σ H Q:=by
 obtain ⟨B,w,ρ,S,rfl,R,q⟩:=q;refine ⟨B,w,ρ,S,rfl,R,?_⟩;unfold zau at q
 cases hf:zak fs ρ S with
 | bad=>rwa [hf] at q
 | exc c S1=>rwa [hf] at q
 | ok ds S1 =>
  rw [hf] at q;intro vs w1 R1 F1 h1;dsimp only [Out.bind] at q
  cases hg:gg ds with
  | none=>rw [hg] at q;exact q.elim
  | some d =>
   rw [hg] at q;exact hr _ _ _ ⟨w1,ds,d,rfl,h1.top R1,hg,fun p o w' gr hp t=>q p o w' (R1.grow gr) (F1.trans gr.fut) hp t⟩
end
end S2
namespace S2
open PySem PySem.Spec PyProof.Rows L2
def Root.out:Option Root->Option Root | some (.slot _)=>some .far | o=>o
def Root.out_none{o:Option Root}:Root.out o=none↔o=none:=by
 cases o with
 | none=>exact ⟨fun h=>h,fun h=>h⟩
 | some r=>cases r<;>simp [Root.out]
def ze9:Option Root->Bool | some (.fld _ _)=>true | some (.obj _)=>true | _=>false
def Wd.inn(w:Wd):Wd:=⟨w.H,fun a=>Root.out (w.ow a),w.mu⟩
def Wd.base(w:Wd):Base:=⟨fun a=>if ze9 (w.ow a)=true then none else w.H a,fun a=>Root.out (w.ow a)⟩
def Wd.back(w w':Wd):Wd:=⟨w'.H,fun a=>if (w.base.Fr a).isSome=true then w.ow a else Root.out (w'.ow a),w'.mu⟩
def zcv(w:Wd):Fut w w.inn:=⟨fun a o h k=>⟨h,by show Root.out (w.ow a)=none;rw [k];rfl⟩,fun _ _ h=>h⟩
def zhz{w:Wd}{a:Addr}{o:HO}(h:w.H a=some o)(k:ze9 (w.ow a)=false):w.base.Fr a=some o:=by
 show (if ze9 (w.ow a)=true then none else w.H a)=_;rw [k,if_neg (by decide)];exact h
def zpP{w:Wd}{a:Addr}{o:HO}(h:w.base.Fr a=some o):w.H a=some o/\ze9 (w.ow a)=false:=by
 have h':(if ze9 (w.ow a)=true then none else w.H a)=some o:=h;split at h'
 ·cases h'
 ·rename_i z;exact ⟨h',by simpa using z⟩
section
variable{cl:Cf}{B:Base}{σ:St}{w w':Wd}{ρ:Env}{S S':Sto}
def World'.enter(W:World' cl B w S):World' cl w.base w.inn S where
 fr:=fun a o h=>⟨(zpP h).1,rfl⟩
 own:=fun a r h=>by
  have h':Root.out (w.ow a)=some r:=h
  cases e:w.ow a with
  | none=>rw [e] at h';cases h'
  | some q =>
   cases q with
   | slot i=>rw [e] at h';cases h';exact .inl rfl
   | far=>rw [e] at h';cases h';exact .inl rfl
   | fld n f=>exact .inr (by show (if ze9 (w.ow a)=true then none else w.H a)=none;rw [e];rfl)
   | obj n=>exact .inr (by show (if ze9 (w.ow a)=true then none else w.H a)=none;rw [e];rfl)
 len:=W.len
 obj:=fun n ob h=>by
  obtain ⟨a,e,x⟩:=W.obj n ob h;refine ⟨a,e,x.keep (zcv w) fun a o ha hn=>⟨ha,?_⟩⟩;show Root.out (w.ow a)=w.ow a
  cases e:w.ow a with
  | none=>rfl
  | some q=>cases q with
   | slot i=>rw [e] at hn;exact hn.elim
   | _=>rfl
def zdH(W:World' cl B w S){a:Addr}{o:HO}(h:B.Fr a=some o):w.base.Fr a=some o:=by
 refine zhz (W.fr a o h).1 ?_
 cases e:w.ow a with
 | none=>rfl
 | some q =>
  rcases W.own a q e with rfl | z
  ·rfl
  ·rw [h] at z;cases z
def zdf(W':World' cl w.base w' S'):Fut w' (w.back w') where
 keep:=fun a o h k=>by
  refine ⟨h,?_⟩;show (if (w.base.Fr a).isSome=true then w.ow a else Root.out (w'.ow a))=none;split
  ·rename_i z;obtain ⟨u,hu⟩:=Option.isSome_iff_exists.mp z;have:=(W'.fr a u hu).2;rw [k] at this;exact Root.out_none.mp this.symm
  ·rw [k];rfl
 mu:=fun _ _ h=>h
def Rel.leave(R:Rel cl B σ w ρ S)(W':World' cl w.base w' S')(F:Fut w.inn w'):Rel cl B σ (w.back w') ρ S'/\Fut w (w.back w'):=by
 have fb:=zdf W';have ff:Fut w (w.back w'):=(zcv w).trans (F.trans fb)
 have in_:∀a o,w.base.Fr a=some o->(w.back w').H a=some o/\(w.back w').ow a=w.ow a:=fun a o h=>by
  refine ⟨(W'.fr a o h).1,?_⟩;show (if (w.base.Fr a).isSome=true then w.ow a else _)=_;rw [h];rfl
 refine ⟨⟨⟨fun a o h=>?_,fun a r h=>?_,W'.len,fun n ob h=>?_⟩,R.len,fun i o d h=>?_⟩,ff⟩
 ·have:=in_ a o (zdH R.wd h);exact ⟨this.1,this.2.trans (R.wd.fr a o h).2⟩
 ·cases hb:B.Fr a with
  | none=>exact .inr rfl
  | some o =>
   have:=(in_ a o (zdH R.wd hb)).2;rw [h] at this
   rcases R.wd.own a r this.symm with z | z
   ·exact .inl z
   ·rw [hb] at z;cases z
 ·obtain ⟨a,e,x⟩:=W'.obj n ob h;refine ⟨a,e,x.keep fb fun a o ha hn=>⟨ha,?_⟩⟩;show (if (w.base.Fr a).isSome=true then w.ow a else Root.out (w'.ow a))=_
  cases e:w'.ow a with
  | none=>rw [e] at hn;exact hn.elim
  | some q =>
   rcases W'.own a q e with rfl | z
   ·rw [e] at hn;exact hn.elim
   ·rw [z]
    cases q with
    | slot i=>rw [e] at hn;exact hn.elim
    | _=>rfl
 ·obtain ⟨v,e,x⟩:=R.slots i o d h;refine ⟨v,e,x.keep ff fun a u ha hr=>?_⟩;have:=in_ a u (zhz ha (by rw [hr];rfl));exact ⟨this.1,this.2.trans hr⟩
def Wd.del(w:Wd)(a:Addr):Wd:=⟨fun b=>if b=a then none else w.H b,w.ow,w.mu⟩
def zhZ{a:Addr}(k:w.ow a≠none):Fut w (w.del a) where
 keep:=fun b o h e=>⟨by
  show (if b=a then none else w.H b)=_
  rw [if_neg (fun z=>k (by rw [<-z];exact e))];exact h,e⟩
 mu:=fun _ _ h=>h
def zj6{a:Addr}{o:HO}(h:w.H a=some o):upd (w.del a).H a o=w.H:=by
 funext b
 by_cases e:b=a
 ·rw [e,zaR,h]
 ·rw [zal e];show (if b=a then none else w.H b)=_;rw [if_neg e]
theorem Rel.del{a:Addr}(R:Rel cl B σ w ρ S)(k:w.ow a=some .far)(hb:B.Fr a=none):Rel cl B σ (w.del a) ρ S:=by
 have fd:Fut w (w.del a):=zhZ (by rw [k];exact yaL _)
 have kp:∀b o,w.H b=some o->b≠a->(w.del a).H b=some o:=fun b o h n=>by
  show (if b=a then none else w.H b)=_;rw [if_neg n];exact h
 refine ⟨⟨fun b o h=>⟨kp b o (R.wd.fr b o h).1 (fun z=>by rw [z,hb] at h;cases h),(R.wd.fr b o h).2⟩,R.wd.own,R.wd.len,fun n ob h=>?_⟩,R.len,fun i o d h=>?_⟩
 ·obtain ⟨c,e,x⟩:=R.wd.obj n ob h;exact ⟨c,e,x.keep fd fun b o hb' hn=>⟨kp b o hb' (fun z=>by rw [z,k] at hn;exact hn.elim),rfl⟩⟩
 ·obtain ⟨v,e,x⟩:=R.slots i o d h;exact ⟨v,e,x.keep fd fun b o hb' hr=>⟨kp b o hb' (fun z=>by rw [z,k] at hr;cases hr),hr⟩⟩
end
def zyh(cl:Cf)(w:Wd):Bool->V->D->Prop
 | false,v,d=>Shd cl w v d
 | true,v,d=>∃a o i,v=.ref a/\w.ow a=some (.slot i)/\w.H a=some o/\Top cl w o d
def zgO(cl:Cf)(n:Nat)(own:Bool)(G:List D->Sto->Out D):Sp:=fun vs H Q E=>vs.length=n/\∃B w ds S,w.H=H/\World' cl B w S/\Shds cl w vs ds/\match G ds S with
 | .ok d S'=>∀v w',World' cl B w' S'->Fut w w'->zyh cl w' own v d->Q v w'.H
 | .exc c S'=>∀w',World' cl B w' S'->Fut w w'->E (.ref (cl c)) none w'.H
 | .bad=>False
def zc9(CX:CXT)(X:Cx)(E:St->XK):Prop:=∀(pins:Z3) (σ:St) (H:Hp) (s:Shared) (e:Value) (s':Shared),Inv X pins σ H s->CX X.stack H s (E σ) e s'->X.xe e s'
def zgM(sp:Sp)(dvs:List V)(E:St->XK)(t:TA):TE:=fun σ H Q=>t σ H fun vs H1=>sp (vs++dvs) H1 Q (E σ)
section
variable{X:Cx}{CX:CXT}{k:Nat}{f C:Addr}{fd:FuncData}{ps:List Str}{sp:Sp}{dvs:List V}{ds:List Value}{E:St->XK}{x m:Str}{p pos apos:Pos}{e o:Expr}{es:List Expr}{ta:TE}{t:TA}
def zgb{pins:Z3}{σ:St}{H:Hp}{s:Shared}{Q:VK}{us:List Value}{vs:List V}(F:FnOk X.prog X.w X.K X.mg X.base CX k f fd ps sp)(hr:Room k X.A)(hb:zcj X.K fd ps ds)(hd:Vals dvs ds)(hx:zc9 CX X E)
  (I:Inv X pins σ H s) (r:Vals vs us) (h:sp (vs++dvs) H Q (E σ)):wpAny (model X.prog X.w) X.A (call (.ref f) us) (EP X pins σ Q) X.xe s:=by
 have r2:Vals (vs++dvs) (us++ds):=r.append hd
 have hl:(us++ds).length=ps.length:=by rw [<-r2.length];exact F.len _ _ _ _ h
 refine wpAny_call (codeAny_mono (F.run X.A X.stack s H ⟨us,[]⟩ (us++ds) (vs++dvs) Q (E σ) hr I.env0 (hb s us I.kIn hl) r2 h) fun r s' hq=>?_)
 cases r with
 | error e=>exact hx pins σ H s e s' I hq
 | ok fl =>
  cases fl with
  | ret u=>exact I.after hq
  | next=>exact False.elim hq
  | brk=>exact False.elim hq
  | cont=>exact False.elim hq
def zmV(F:FnOk X.prog X.w X.K X.mg X.base CX k f fd ps sp)(hr:Room k X.A)(hg:Gl X x)(hm:X.mg x=some (.ref f))(hk:PySem.W.keepIn X.K (.ref f)=true)(hb:zcj X.K fd ps ds)(hd:Vals dvs ds)(hx:zc9 CX X E)
  (ha:PA X (e::es) t) (hdb:(x == ("__debug__":Str))=false) (he:starEach (e::es) X.env=(false,eval e X.env)::starEach es X.env) (hpl:(backTo pos (starEach es X.env)).any (·.1)=false) :
  PE X (.Call (.Name x p) (e::es) [] pos) (zgM sp dvs E t):=by
 intro pins s σ H Q I h;refine ybT (zd8 I hg hm ?_ hdb);refine ycO (h₀:=X.base) I.ok.mod.kin hk (thn (ha pos pins s σ H _ I h) fun us s1 ⟨vs,H1,I1,r,q⟩=>⟨I1.kIn,?_⟩) he hpl;exact zgb F hr hb hd hx I1 r q
def zkX(F:FnOk X.prog X.w X.K X.mg X.base CX k f fd ps sp)(hr:Room k X.A)(hg:Gl X x)(hm:X.mg x=some (.ref f))(hk:PySem.W.keepIn X.K (.ref f)=true)(hb:zcj X.K fd ps ds)(hd:Vals dvs ds)(hx:zc9 CX X E)
  (hdb:(x == ("__debug__":Str))=false):PE X (.Call (.Name x p) [] [] pos) (zgM sp dvs E zuO):=by
 intro pins s σ H Q I h;refine ybT (zd8 I hg hm ?_ hdb);exact PySem.W.callWith_K0 I.kIn hk (zgb (us:=[]) F hr hb hd hx I .nil h)
end
def eFn(G:List D->Sto->Out D)(fs:List Fe):Fe:=fun ρ S=>(zak fs ρ S).bind fun ds S1=>G ds S1
section
variable{cl:Cf}{E:St->XK}{fs:List Fe}{G:List D->Sto->Out D}{σ:St}{H:Hp}{Q:VK}{n:Nat}
def ztK(q:tE cl E (eFn G fs) σ H Q)(hn:fs.length=n):zgM (zgO cl n false G) [] E (tAs cl E fs) σ H Q:=by
 obtain ⟨B,w,ρ,S,rfl,R,q⟩:=q;refine ⟨B,w,ρ,S,rfl,R,?_⟩;unfold eFn at q
 cases hf:zak fs ρ S with
 | bad=>rwa [hf] at q
 | exc c S1=>rwa [hf] at q
 | ok ds S1 =>
  rw [hf] at q;intro vs w1 R1 F1 h1;dsimp only [Out.bind] at q
  have hl:∀(fs:List Fe) (S S1:Sto) (ds:List D),zak fs ρ S=.ok ds S1->ds.length=fs.length:=by
   intro fs
   induction fs with
   | nil=>intro S S1 ds h;cases h;rfl
   | cons f fs ih =>
    intro S S1 ds h;unfold zak at h
    cases h1:f ρ S with
    | bad=>rw [h1] at h;cases h
    | exc c S2=>rw [h1] at h;cases h
    | ok d S2 =>
     rw [h1] at h;dsimp only [Out.bind] at h
     cases h2:zak fs ρ S2 with
     | bad=>rw [h2] at h;cases h
     | exc c S3=>rw [h2] at h;cases h
     | ok es S3=>rw [h2] at h;cases h;rw [yai,yai,ih S2 _ es h2]
  refine ⟨by rw [ya5,h1.length,hl fs S S1 ds hf];exact hn,w1.base,w1.inn,ds,S1,rfl,R1.wd.enter,by rw [ya5];exact h1.up (zcv w1),?_⟩
  cases hg:G ds S1 with
  | bad=>rwa [hg] at q
  | exc c S2 =>
   rw [hg] at q;intro w2 W2 F2;obtain ⟨R3,F3⟩:=R1.leave W2 F2;exact q (w1.back w2) R3 (F1.trans F3)
  | ok d S2 =>
   rw [hg] at q;intro v w2 W2 F2 r2;obtain ⟨R3,F3⟩:=R1.leave W2 F2;exact q v (w1.back w2) R3 (F1.trans F3) (Shd.up (zdf W2) r2)
def ztJ(q:tN cl E (eFn G fs) σ H Q)(hn:fs.length=n):zgM (zgO cl n true G) [] E (tAs cl E fs) σ H Q:=by
 obtain ⟨B,w,ρ,S,rfl,R,q⟩:=q;refine ⟨B,w,ρ,S,rfl,R,?_⟩;unfold eFn at q
 cases hf:zak fs ρ S with
 | bad=>rwa [hf] at q
 | exc c S1=>rwa [hf] at q
 | ok ds S1 =>
  rw [hf] at q;intro vs w1 R1 F1 h1;dsimp only [Out.bind] at q
  have hl:∀(fs:List Fe) (S S1:Sto) (ds:List D),zak fs ρ S=.ok ds S1->ds.length=fs.length:=by
   intro fs
   induction fs with
   | nil=>intro S S1 ds h;cases h;rfl
   | cons f fs ih =>
    intro S S1 ds h;unfold zak at h
    cases h1:f ρ S with
    | bad=>rw [h1] at h;cases h
    | exc c S2=>rw [h1] at h;cases h
    | ok d S2 =>
     rw [h1] at h;dsimp only [Out.bind] at h
     cases h2:zak fs ρ S2 with
     | bad=>rw [h2] at h;cases h
     | exc c S3=>rw [h2] at h;cases h
     | ok es S3=>rw [h2] at h;cases h;rw [yai,yai,ih S2 _ es h2]
  refine ⟨by rw [ya5,h1.length,hl fs S S1 ds hf];exact hn,w1.base,w1.inn,ds,S1,rfl,R1.wd.enter,by rw [ya5];exact h1.up (zcv w1),?_⟩
  cases hg:G ds S1 with
  | bad=>rwa [hg] at q
  | exc c S2 =>
   rw [hg] at q;intro w2 W2 F2;obtain ⟨R3,F3⟩:=R1.leave W2 F2;exact q (w1.back w2) R3 (F1.trans F3)
  | ok d S2 =>
   rw [hg] at q;intro v w2 W2 F2 r2;obtain ⟨R3,F3⟩:=R1.leave W2 F2;obtain ⟨a,o,i,rfl,k1,k2,t⟩:=r2;have hfr:w1.base.Fr a=none:=(W2.own a _ k1).elim (fun z=>by cases z) fun z=>z
   have k3:(w1.back w2).ow a=some .far:=by
    show (if (w1.base.Fr a).isSome=true then w1.ow a else Root.out (w2.ow a))=_;rw [hfr,k1];rfl
   have hb:B.Fr a=none:=by
    cases z:B.Fr a with
    | none=>rfl
    | some u=>rw [zdH R1.wd z] at hfr;cases hfr
   have hd:=zhZ (w:=w1.back w2) (a:=a) (by rw [k3];exact yaL _);have:=q a o ((w1.back w2).del a) (R3.del k3 hb) (F1.trans (F3.trans hd)) (if_pos rfl) ((t.up (zdf W2)).up hd);rwa [zj6 (w:=w1.back w2) k2] at this
end
end S2
namespace S2
open PySem PySem.Spec PyProof.Rows L2
def frz1(ρ:Env)(i:Nat):Env:=match ρ[i]? with | some (some (true,d))=>ρ.set i (some (false,d)) | _=>ρ
def frz(is:List Nat)(ρ:Env):Env:=is.foldl frz1 ρ
def sFz(is:List Nat)(f:Fs):Fs:=fun ρ S=>f (frz is ρ) S
def sNx:Fs:=fun ρ S=>.nx ρ S
def sBk:Fs:=fun ρ S=>.bk ρ S
def zah(f g:Fs):Fs:=fun ρ S=>match f ρ S with | .nx ρ' S'=>g ρ' S' | o=>o
def zaG(i:Nat)(own:Bool)(f:Fe):Fs:=fun ρ S=>match f ρ S with | .ok d S'=>.nx (ρ.set i (some (own,d))) S' | .exc c S'=>.ex c ρ S' | .bad=>.bad
def zr2(f:Fe):Fs:=fun ρ S=>match f ρ S with | .ok _ S'=>.nx ρ S' | .exc c S'=>.ex c ρ S' | .bad=>.bad
def za3(f:Fe):Fs:=fun ρ S=>match f ρ S with | .ok d S'=>.rt d S' | .exc c S'=>.ex c ρ S' | .bad=>.bad
def zmv:Fs:=fun _ S=>.rt .non S
def zhH(i:Nat):Fs:=fun ρ S=>match ρ[i]? with | some (some (true,d))=>.rt d S | _=>.bad
def sIf(c:Fe)(f g:Fs):Fs:=fun ρ S=>match c ρ S with | .ok d S'=>(match isB d with | some true=>f ρ S' | some false=>g ρ S' | none=>.bad) | .exc x S'=>.ex x ρ S' | .bad=>.bad
def zjd(cl:Cf)(E:St->XK)(own:Bool)(B:Base)(w:Wd)(De:Ends):Fo->Prop
 | .nx ρ' S'=>∀σ' w',Rel cl B σ' w' ρ' S'->Fut w w'->De.nx σ' w'.H
 | .bk ρ' S'=>∀σ' w',Rel cl B σ' w' ρ' S'->Fut w w'->De.bk σ' w'.H
 | .ct ρ' S'=>∀σ' w',Rel cl B σ' w' ρ' S'->Fut w w'->De.ct σ' w'.H
 | .rt d S'=>∀v w',World' cl B w' S'->Fut w w'->zyh cl w' own v d->De.rt v w'.H
 | .ex c ρ' S'=>∀σ' w',Rel cl B σ' w' ρ' S'->Fut w w'->E σ' (.ref (cl c)) none w'.H
 | .bad=>False
theorem zjd.up{cl:Cf}{E:St->XK}{own:Bool}{B:Base}{w w1:Wd}{De:Ends}(f:Fut w w1):∀{o:Fo},zjd cl E own B w De o->zjd cl E own B w1 De o
 | .nx _ _,h=>fun σ' w' R F=>h σ' w' R (f.trans F)
 | .bk _ _,h=>fun σ' w' R F=>h σ' w' R (f.trans F)
 | .ct _ _,h=>fun σ' w' R F=>h σ' w' R (f.trans F)
 | .rt _ _,h=>fun v w' R F=>h v w' R (f.trans F)
 | .ex _ _ _,h=>fun σ' w' R F=>h σ' w' R (f.trans F)
 | .bad,h=>h
def tS(cl:Cf)(E:St->XK)(own:Bool)(f:Fs):TS:=fun De σ H=>∃B w ρ S,w.H=H/\Rel cl B σ w ρ S/\zjd cl E own B w De (f ρ S)
def PS.imp{X:Cx}{st:Stmt}{t t':TS}(h:PS X st t)(i:∀De σ H,t' De σ H->t De σ H):PS X st t':=fun pins s σ H De I q=>h pins s σ H De I (i _ _ _ q)
def PSs.imp{X:Cx}{st:List Stmt}{t t':TS}(h:PSs X st t)(i:∀De σ H,t' De σ H->t De σ H):PSs X st t':=fun pins s σ H De I q=>h pins s σ H De I (i _ _ _ q)
section
variable{cl:Cf}{B:Base}{σ:St}{w:Wd}{ρ:Env}{S:Sto}
def Rel.put{i:Nat}{v:V}{d:D}(R:Rel cl B σ w ρ S)(h:Shd cl w v d):Rel cl B (σ.set i (some v)) w (ρ.set i (some (false,d))) S where
 wd:=R.wd
 len:=by rw [yaH,yaH];exact R.len
 slots:=fun j o e hj=>by
  by_cases hij:i=j
  ·subst hij
   have hlt:i<ρ.length:=by
    have:=(yag.mp hj).1;rwa [yaH] at this
   rw [yaA hlt] at hj;cases hj;exact ⟨v,by rw [yaA (by rw [R.len];exact hlt)],h⟩
  ·rw [yaP hij] at hj ⊢;exact R.slots j o e hj
def Wd.addAs(w:Wd)(p:Addr)(o:HO)(r:Root):Wd:=⟨upd w.H p o,fun a=>if a=p then some r else if w.ow a=some r then some .far else w.ow a,w.mu⟩
def zfd{p:Addr}{o:HO}{r:Root}(h:w.H p=none):Fut w (w.addAs p o r) where
 keep:=fun a u ha hk=>by
  have n:a≠p:=zax ha h;refine ⟨?_,?_⟩
  ·show upd w.H p o a=_;rw [zal n];exact ha
  ·show (if a=p then some r else if w.ow a=some r then some Root.far else w.ow a)=none;rw [if_neg n,if_neg (by rw [hk];exact fun z=>by cases z)];exact hk
 mu:=fun _ _ h=>h
theorem Rel.own{i:Nat}{p:Addr}{o:HO}{d:D}(R:Rel cl B σ w ρ S)(hp:w.H p=none)(t:Top cl w o d):Rel cl B (σ.set i (some (.ref p))) (w.addAs p o (.slot i)) (ρ.set i (some (true,d))) S:=by
 have ff:=zfd (w:=w) (p:=p) (o:=o) (r:=.slot i) hp
 have kp:∀a u,w.H a=some u->w.ow a≠some (.slot i)->(w.addAs p o (.slot i)).H a=some u/\(w.addAs p o (.slot i)).ow a=w.ow a:=fun a u ha hk=>by
  have n:a≠p:=zax ha hp;refine ⟨?_,?_⟩
  ·show upd w.H p o a=_;rw [zal n];exact ha
  ·show (if a=p then _ else if w.ow a=some (Root.slot i) then some Root.far else w.ow a)=_;rw [if_neg n,if_neg hk]
 have hBp:B.Fr p=none:=by
  cases z:B.Fr p with
  | none=>rfl
  | some u=>have:=(R.wd.fr p u z).1;rw [hp] at this;cases this
 refine ⟨⟨fun a u h=>?_,fun a r h=>?_,R.wd.len,fun n ob h=>?_⟩,by rw [yaH,yaH];exact R.len,fun j b e hj=>?_⟩
 ·have hne:w.ow a≠some (.slot i):=fun z=>by
   rcases R.wd.own a _ z with y | y
   ·cases y
   ·rw [h] at y;cases y
  have:=kp a u (R.wd.fr a u h).1 hne;exact ⟨this.1,this.2.trans (R.wd.fr a u h).2⟩
 ·have h':(if a=p then some (Root.slot i) else if w.ow a=some (Root.slot i) then some Root.far else w.ow a)=some r:=h;split at h'
  ·rename_i e;rw [e];exact .inr hBp
  ·split at h'
   ·cases h';exact .inl rfl
   ·exact R.wd.own a r h'
 ·obtain ⟨a,e,x⟩:=R.wd.obj n ob h;exact ⟨a,e,x.keep ff fun b u hb hn=>kp b u hb fun z=>by rwa [z] at hn⟩
 ·by_cases hij:i=j
  ·subst hij
   have hlt:i<ρ.length:=by
    have:=(yag.mp hj).1;rwa [yaH] at this
   rw [yaA hlt] at hj;cases hj;exact ⟨.ref p,by rw [yaA (by rw [R.len];exact hlt)],p,o,rfl,if_pos rfl,zaR,t.up ff⟩
  ·rw [yaP hij] at hj ⊢;obtain ⟨v,e1,x⟩:=R.slots j b e hj;refine ⟨v,e1,x.keep ff fun a u ha hr=>?_⟩;have:=kp a u ha (by rw [hr];exact fun z=>hij (by cases z;rfl));exact ⟨this.1,this.2.trans hr⟩
def Wd.mut(w:Wd)(p:Addr)(o:HO):Wd:=⟨upd w.H p o,w.ow,w.mu⟩
def zdA{p:Addr}{o:HO}(h:w.ow p≠none):Fut w (w.mut p o) where
 keep:=fun a u ha hk=>⟨by
  show upd w.H p o a=_
  rw [zal (fun z=>h (by rw [<-z];exact hk))];exact ha,hk⟩
 mu:=fun _ _ h=>h
theorem Rel.mut{i:Nat}{p:Addr}{o:HO}{d d0:D}(R:Rel cl B σ w ρ S)(hs:σ[i]?=some (some (.ref p)))(hk:w.ow p=some (.slot i))(t:Top cl w o d):Rel cl B σ (w.mut p o) (ρ.set i (some (true,d))) S:=by
 have ff:=zdA (w:=w) (p:=p) (o:=o) (by rw [hk];exact yaL _)
 have kp:∀a u,w.H a=some u->w.ow a≠some (.slot i)->(w.mut p o).H a=some u/\(w.mut p o).ow a=w.ow a:=fun a u ha hn=>⟨by
  show upd w.H p o a=_
  rw [zal (fun z=>hn (by rw [z];exact hk))];exact ha,rfl⟩
 have hBp:B.Fr p=none:=(R.wd.own p _ hk).elim (fun z=>by cases z) fun z=>z
 refine ⟨⟨fun a u h=>?_,R.wd.own,R.wd.len,fun n ob h=>?_⟩,by rw [yaH];exact R.len,fun j b e hj=>?_⟩
 ·have hne:w.ow a≠some (.slot i):=fun z=>by
   rcases R.wd.own a _ z with y | y
   ·cases y
   ·rw [h] at y;cases y
  have:=kp a u (R.wd.fr a u h).1 hne;exact ⟨this.1,(R.wd.fr a u h).2⟩
 ·obtain ⟨a,e,x⟩:=R.wd.obj n ob h;exact ⟨a,e,x.keep ff fun b u hb hn=>kp b u hb fun z=>by rwa [z] at hn⟩
 ·by_cases hij:i=j
  ·subst hij
   have hlt:i<ρ.length:=by
    have:=(yag.mp hj).1;rwa [yaH] at this
   rw [yaA hlt] at hj;cases hj;exact ⟨.ref p,hs,p,o,rfl,hk,zaR,t.up ff⟩
  ·rw [yaP hij] at hj;obtain ⟨v,e1,x⟩:=R.slots j b e hj;refine ⟨v,e1,x.keep ff fun a u ha hr=>?_⟩;have:=kp a u ha (by rw [hr];exact fun z=>hij (by cases z;rfl));exact ⟨this.1,this.2.trans hr⟩
def Wd.free(w:Wd)(r:Root):Wd:=⟨w.H,fun a=>if w.ow a=some r then none else w.ow a,w.mu⟩
def zns{r:Root}:Fut w (w.free r) where
 keep:=fun a u ha hk=>⟨ha,by
  show (if w.ow a=some r then none else w.ow a)=none
  rw [hk];rfl⟩
 mu:=fun _ _ h=>h
theorem Top.shd{o:HO}{d:D}{a:Addr}(h:w.H a=some o)(k:w.ow a=none):Top cl w o d->Shd cl w (.ref a) d
 | .lst t=>.lst h k t
 | .dicK t=>.dicK h k t
 | .dicT t=>.dicT h k t
theorem Rel.frz1(R:Rel cl B σ w ρ S)(i:Nat):∃w',w'.H=w.H/\Fut w w'/\Rel cl B σ w' (frz1 ρ i) S:=by
 unfold S2.frz1;split
 ·rename_i d hd;have ff:=zns (w:=w) (r:=.slot i);have kp:∀a u,w.H a=some u->w.ow a≠some (.slot i)->(w.free (.slot i)).H a=some u/\(w.free (.slot i)).ow a=w.ow a:=fun a u ha hn=>⟨ha,if_neg hn⟩
  refine ⟨w.free (.slot i),rfl,ff,⟨fun a u h=>?_,fun a r h=>?_,R.wd.len,fun n ob h=>?_⟩,by rw [yaH];exact R.len,fun j b e hj=>?_⟩
  ·have hne:w.ow a≠some (.slot i):=fun z=>by
    rcases R.wd.own a _ z with y | y
    ·cases y
    ·rw [h] at y;cases y
   have:=kp a u (R.wd.fr a u h).1 hne;exact ⟨this.1,this.2.trans (R.wd.fr a u h).2⟩
  ·have h':(if w.ow a=some (Root.slot i) then none else w.ow a)=some r:=h;split at h'
   ·cases h'
   ·exact R.wd.own a r h'
  ·obtain ⟨a,e,x⟩:=R.wd.obj n ob h;exact ⟨a,e,x.keep ff fun b u hb hn=>kp b u hb fun z=>by rwa [z] at hn⟩
  ·by_cases hij:i=j
   ·subst hij;have hlt:i<ρ.length:=(yag.mp hd).1;rw [yaA hlt] at hj;cases hj;obtain ⟨v,e1,a,o,rfl,h1,h2,t⟩:=R.slots i true d hd;refine ⟨.ref a,e1,(t.up ff).shd h2 ?_⟩;show (if w.ow a=some (Root.slot i) then none else w.ow a)=none;rw [if_pos h1]
   ·rw [yaP hij] at hj;obtain ⟨v,e1,x⟩:=R.slots j b e hj;refine ⟨v,e1,x.keep ff fun a u ha hr=>?_⟩;have:=kp a u ha (by rw [hr];exact fun z=>hij (by cases z;rfl));exact ⟨this.1,this.2.trans hr⟩
 ·exact ⟨w,rfl,Fut.refl _,R⟩
theorem Rel.frz:∀(is:List Nat) {w:Wd} {ρ:Env},Rel cl B σ w ρ S->∃w',w'.H=w.H/\Fut w w'/\Rel cl B σ w' (frz is ρ) S
 | [],w,ρ,R=>⟨w,rfl,Fut.refl _,R⟩
 | i::is,w,ρ,R=>by
  obtain ⟨w1,e1,f1,R1⟩:=R.frz1 i;obtain ⟨w2,e2,f2,R2⟩:=Rel.frz is R1;exact ⟨w2,e2.trans e1,f1.trans f2,R2⟩
end
section
variable{X:Cx}{cl:Cf}{E:St->XK}{own:Bool}{st:Stmt}{zci:List Stmt}{f g:Fs}{e:Expr}{fe:Fe}{pos pos':Pos}
def zu4(is:List Nat)(h:PS X st (tS cl E own f)):PS X st (tS cl E own (sFz is f)):=by
 refine PS.imp h ?_;rintro De σ H ⟨B,w,ρ,S,rfl,R,q⟩;obtain ⟨w',e',f',R'⟩:=R.frz is;exact ⟨B,w',frz is ρ,S,e',R',zjd.up f' q⟩
def zrA:PSs X [] (tS cl E own sNx):=by
 refine PSs.imp zpv ?_;rintro De σ H ⟨B,w,ρ,S,rfl,R,q⟩;exact q σ w R (Fut.refl _)
def zo7(h1:PS X st (tS cl E own f))(h2:PSs X zci (tS cl E own g)):PSs X (st::zci) (tS cl E own (zah f g)):=by
 refine PSs.imp (zmG h1 h2) ?_;rintro De σ H ⟨B,w,ρ,S,rfl,R,q⟩;refine ⟨B,w,ρ,S,rfl,R,?_⟩;unfold zah at q
 cases hf:f ρ S with
 | nx ρ' S' =>
  rw [hf] at q;intro σ' w' R' F';exact ⟨B,w',ρ',S',rfl,R',zjd.up F' q⟩
 | bk ρ' S'=>rwa [hf] at q
 | ct ρ' S'=>rwa [hf] at q
 | rt d S'=>rwa [hf] at q
 | ex c ρ' S'=>rwa [hf] at q
 | bad=>rwa [hf] at q
def zo4:PS X (.Pass pos) (tS cl E own sNx):=by
 refine PS.imp zpy ?_;rintro De σ H ⟨B,w,ρ,S,rfl,R,q⟩;exact q σ w R (Fut.refl _)
def zrD:PS X (.Break pos) (tS cl E own sBk):=by
 refine PS.imp zmI ?_;rintro De σ H ⟨B,w,ρ,S,rfl,R,q⟩;exact q σ w R (Fut.refl _)
def zwi{i:Nat}{De:Ends}{σ:St}{H:Hp}(q:tS cl E own (zaG i false fe) De σ H):zoV (tE cl E fe) (zjH i) De σ H:=by
 obtain ⟨B,w,ρ,S,rfl,R,q⟩:=q;refine ⟨B,w,ρ,S,rfl,R,?_⟩;unfold zaG at q
 cases hf:fe ρ S with
 | bad=>rwa [hf] at q
 | exc c S1=>rw [hf] at q;exact fun w' R' F'=>q σ w' R' F'
 | ok d S1 =>
  rw [hf] at q;intro v w' R' F' h';exact q _ w' (R'.put h') F'
def ztS{i:Nat}{De:Ends}{σ:St}{H:Hp}(q:tS cl E own (zaG i true fe) De σ H):zoV (tN cl E fe) (zjH i) De σ H:=by
 obtain ⟨B,w,ρ,S,rfl,R,q⟩:=q;refine ⟨B,w,ρ,S,rfl,R,?_⟩;unfold zaG at q
 cases hf:fe ρ S with
 | bad=>rwa [hf] at q
 | exc c S1=>rw [hf] at q;exact fun w' R' F'=>q σ w' R' F'
 | ok d S1 =>
  rw [hf] at q;intro p o w' R' F' hp t;exact q _ (w'.addAs p o (.slot i)) (R'.own hp t) (F'.trans (zfd hp))
def zrF{i:Nat}{x:Str}(hN:X.N.Nodup)(hi:X.N[i]?=some x)(hx:Loc X.env.scope x)(he:PE X e (tE cl E fe))(hs:swapsWith e (some (.Name x pos')) pos.line X.env=pure false)(hf:X.fn x=true\/X.env.scope.names.lookup x=some .local):PS X (.Assign [.Name x pos'] e pos) (tS cl E own (zaG i false fe)) :=
 PS.imp (zkL hN hi hx he hs hf) fun _ _ _ q=>zwi q
def zkl{i:Nat}{x:Str}(hN:X.N.Nodup)(hi:X.N[i]?=some x)(hx:Loc X.env.scope x)(he:PE X e (tN cl E fe))(hs:swapsWith e (some (.Name x pos')) pos.line X.env=pure false)(hf:X.fn x=true\/X.env.scope.names.lookup x=some .local):PS X (.Assign [.Name x pos'] e pos) (tS cl E own (zaG i true fe)) :=
 PS.imp (zkL hN hi hx he hs hf) fun _ _ _ q=>ztS q
def zn6(he:PE X e (tE cl E fe))(hs:swapsWith e none pos.line X.env=pure false):PS X (.Expr e pos) (tS cl E own (zr2 fe)):=by
 refine PS.imp (zhP he hs) ?_;rintro De σ H ⟨B,w,ρ,S,rfl,R,q⟩;refine ⟨B,w,ρ,S,rfl,R,?_⟩;unfold zr2 at q
 cases hf:fe ρ S with
 | bad=>rwa [hf] at q
 | exc c S1=>rw [hf] at q;exact fun w' R' F'=>q σ w' R' F'
 | ok d S1=>rw [hf] at q;exact fun v w' R' F' _=>q σ w' R' F'
def zrz(he:PE X e (tE cl E fe)):PS X (.Return (some e) pos) (tS cl E false (za3 fe)):=by
 refine PS.imp (zkM he) ?_;rintro De σ H ⟨B,w,ρ,S,rfl,R,q⟩;refine ⟨B,w,ρ,S,rfl,R,?_⟩;unfold za3 at q
 cases hf:fe ρ S with
 | bad=>rwa [hf] at q
 | exc c S1=>rw [hf] at q;exact fun w' R' F'=>q σ w' R' F'
 | ok d S1=>rw [hf] at q;exact fun v w' R' F' h'=>q v w' R'.wd F' h'
def zo0(he:PE X e (tN cl E fe)):PS X (.Return (some e) pos) (tS cl E true (za3 fe)):=by
 refine PS.imp (zkM he) ?_;rintro De σ H ⟨B,w,ρ,S,rfl,R,q⟩;refine ⟨B,w,ρ,S,rfl,R,?_⟩;unfold za3 at q
 cases hf:fe ρ S with
 | bad=>rwa [hf] at q
 | exc c S1=>rw [hf] at q;exact fun w' R' F'=>q σ w' R' F'
 | ok d S1 =>
  rw [hf] at q;intro p o w' R' F' hp t;have ff:=zfd (w:=w') (p:=p) (o:=o) (r:=.slot 0) hp;exact q (.ref p) (w'.addAs p o (.slot 0)) (Rel.own (i:=0) R' hp t).wd (F'.trans ff) ⟨p,o,0,rfl,if_pos rfl,zaR,t.up ff⟩
def zoZ{i:Nat}{x:Str}(hN:X.N[i]?=some x)(hv:Vis X.env.scope x)(hd:(x == ("__debug__":Str))=false)(hcd:(x == ("__classdict__":Str))=false):PS X (.Return (some (.Name x pos')) pos) (tS cl E true (zhH i)):=by
 refine PS.imp (zkM (zcn hN hv hd hcd)) ?_;rintro De σ H ⟨B,w,ρ,S,rfl,R,q⟩;unfold zhH at q;split at q
 ·rename_i d hd;obtain ⟨v,e1,a,o,rfl,h1,h2,t⟩:=R.slots i true d hd;exact ⟨_,e1,q _ w R.wd (Fut.refl _) ⟨a,o,i,rfl,h1,h2,t⟩⟩
 ·exact q.elim
def zo1:PS X (.Return none pos) (tS cl E false zmv):=by
 refine PS.imp zpx ?_;rintro De σ H ⟨B,w,ρ,S,rfl,R,q⟩;exact q .non w R.wd (Fut.refl _) .non
def zu3{c:Expr}{a b:List Stmt}{fc:Fe}(hc:PT X c (tTr cl E fc))(ha:PSs X a (tS cl E own f))(hb:PSs X b (tS cl E own g)):PS X (.If c a b pos) (tS cl E own (sIf fc f g)):=by
 refine PS.imp (zvq hc ha hb) ?_;rintro De σ H ⟨B,w,ρ,S,rfl,R,q⟩;refine ⟨B,w,ρ,S,rfl,R,?_⟩;unfold sIf at q
 cases hg:fc ρ S with
 | bad=>rwa [hg] at q
 | exc c S1=>rw [hg] at q;exact fun w' R' F'=>q σ w' R' F'
 | ok d S1 =>
  rw [hg] at q;dsimp only at q ⊢
  cases hb:isB d with
  | none=>rw [hb] at q;exact q.elim
  | some b =>
   rw [hb] at q;intro w1 R1 F1
   cases b with
   | true=>exact zop ⟨B,w1,ρ,S1,rfl,R1,zjd.up F1 q⟩
   | false=>exact zoq ⟨B,w1,ρ,S1,rfl,R1,zjd.up F1 q⟩
end
def zhK(i:Nat)(fe:Fe):Fs:=fun ρ S=>match ρ[i]? with
 | some (some (true,.lst l))=>(match fe ρ S with
  | .ok d S'=>if small l.length then .nx (ρ.set i (some (true,.lst (l++[d])))) S' else .bad
  | .exc c S'=>.ex c ρ S' | .bad=>.bad)
 | _=>.bad
section
variable{X:Cx}{cl:Cf}{E:St->XK}{own:Bool}{e:Expr}{fe:Fe}{pos pos':Pos}
def zix{n:Nat}(h:small n=true):n<sizeLine:=Nat.lt_of_le_of_lt (yat h) (by decide)
def Rel.list{B:Base}{σ:St}{w:Wd}{ρ:Env}{S:Sto}{i:Nat}{l:List D}(R:Rel cl B σ w ρ S)(h:ρ[i]?=some (some (true,.lst l))):∃a xs,σ[i]?=some (some (.ref a))/\w.ow a=some (.slot i)/\w.H a=some (.lst xs)/\Shds cl w xs l:=by
 obtain ⟨v,e1,a,o,rfl,h1,h2,t⟩:=R.slots i true _ h
 cases t with
 | lst t=>exact ⟨a,_,e1,h1,h2,t⟩
def zrG{i:Nat}{x:Str}{ap cp:Pos}(hN:X.N[i]?=some x)(hv:Vis X.env.scope x)(hd:(x == ("__debug__":Str))=false)(hcd:(x == ("__classdict__":Str))=false)(he:PE X e (tE cl E fe))
  (hpl:zcm e=true) (hln:(ap.endLine == cp.line)=true):PS X (.Expr (.Call (.Attribute (.Name x pos') "append" ap) [e] [] cp) pos) (tS cl E own (zhK i fe)):=by
 refine PS.imp (zhP (zpI (es:=[]) ycf PySem.F.slot_list_append PySem.F.type_list_append zk9 (zcn hN hv hd hcd) (zcL he zeX (za8 hpl)) (hfew:=zi0 (by simp [hpl]) (by simp)) (hline:=hln) (hs:=za8 hpl) (hplain:=rfl))) ?_;rintro De σ H ⟨B,w,ρ,S,rfl,R,q⟩;unfold zhK at q;split at q
 ·rename_i l hl;obtain ⟨a,xs,e1,h1,h2,t⟩:=R.list hl;refine ⟨_,e1,.inl ⟨rfl,_,SqL.of h2⟩,B,w,ρ,S,rfl,R,?_⟩
  cases hf:fe ρ S with
  | bad=>rwa [hf] at q
  | exc c S1=>rw [hf] at q;exact fun w' R' F'=>q σ w' R' F'
  | ok d S1 =>
   rw [hf] at q;intro v w' R' F' h';dsimp only at q
   cases hz:small l.length with
   | false=>rw [hz,if_neg (by decide)] at q;exact q.elim
   | true =>
    rw [hz,if_pos rfl] at q;obtain ⟨a',xs',e1',h1',h2',t'⟩:=R'.list hl;rw [e1] at e1';cases e1';refine ⟨a,xs',v,rfl,rfl,h2',by rw [t'.length];exact zix hz,?_⟩;exact q σ (w'.mut a (.lst (xs'++[v]))) (R'.mut (d0:=.non) e1 h1' (.lst (t'.append (.cons h' .nil)))) (F'.trans (zdA (by rw [h1'];exact yaL _)))
 ·exact q.elim
end
end S2
namespace L2
open PySem PySem.Spec PyProof.Rows
section
variable{prog:Program}{w:World}{A:Around}{E:Z5}{s:Shared}
def zmm{it t:Addr}{j:Nat}{vs:Array Value}{v:Value}{Q:Z5}(st:s.heap.IsTupleIter it t j)(tp:s.heap.IsTuple t vs)(e:vs[j]?=some v)
  (q:∀h',h'.IsTupleIter it t (j+1)->Heap.SameBut it s.heap h'->Q v { s with heap:=h' }):wpAny (model prog w) A (Builtin.SmallTypes.nextOf (.ref it)) Q E s:=by
 obtain ⟨o1,g1,c1,d1⟩:=id st;obtain ⟨o2,g2,_,n2,d2⟩:=tp;unfold Builtin.SmallTypes.nextOf;refine yaa (ya8 (name:=Str.ofString "__next__") st.typeIs ybE (ybj ybE st.typeIs F.entry_tuple_iterator_next ?_ (F.args_tuple_iterator_next_1 _)));show wpAny _ _ (field (.ref it) 0 >>= _) _ _ s;refine yaa (ybd g1 d1 (x:=.ref t) rfl ?_);show wpAny _ _ (if (Value.ref t == Value.none)=true then _ else _) _ _ s;rw [if_neg (show ¬ ((Value.ref t == Value.none)=true) from fun z=>yba z)];show wpAny _ _ (field (.ref it) 1 >>= _) _ _ s;refine yaa (ybd g1 d1 (x:=.int j 0) rfl ?_);show wpAny _ _ (seqItems? (.ref t) >>= _) _ _ s;refine yaa (ybp g2 d2 ?_);simp only [yaZ,e];refine yaa (wpAny_setField g1 d1 (by simp) (yah ⟨v,rfl,yah (q _ ?_ (Heap.SameBut.update ..))⟩));refine ⟨_,Heap.get?_update_self _ g1 (Obj.isFreed_of_fields (Obj.data_mapFields d1 _)),(Obj.cls_mapFields ..).trans c1,?_⟩;rw [Obj.data_mapFields d1];simp [rawInt]
def zj8{it t:Addr}{j:Nat}{vs:Array Value}{Q:Z5}(hh:A.handled=none)(st:s.heap.IsTupleIter it t j)(tp:s.heap.IsTuple t vs)(e:vs[j]?=none)
  (q:∀h' x,Heap.ExtBut it s.heap h'->(∃o,h'.get? x=some o/\o.cls=.type "StopIteration")->E (.ref x) { s with heap:=h' }):wpAny (model prog w) A (Builtin.SmallTypes.nextOf (.ref it)) Q E s:=by
 obtain ⟨o1,g1,c1,d1⟩:=id st;obtain ⟨o2,g2,_,n2,d2⟩:=tp;unfold Builtin.SmallTypes.nextOf;refine yaa (ya8 (name:=Str.ofString "__next__") st.typeIs ybE (ybj ybE st.typeIs F.entry_tuple_iterator_next ?_ (F.args_tuple_iterator_next_1 _)));show wpAny _ _ (field (.ref it) 0 >>= _) _ _ s;refine yaa (ybd g1 d1 (x:=.ref t) rfl ?_);show wpAny _ _ (if (Value.ref t == Value.none)=true then _ else _) _ _ s;rw [if_neg (show ¬ ((Value.ref t == Value.none)=true) from fun z=>yba z)];show wpAny _ _ (field (.ref it) 1 >>= _) _ _ s;refine yaa (ybd g1 d1 (x:=.int j 0) rfl ?_);show wpAny _ _ (seqItems? (.ref t) >>= _) _ _ s;refine yaa (ybp g2 d2 ?_);simp only [yaZ,e];refine yaa (ycU (yaa (wpAny_setField g1 d1 (by simp) ?_)));show wpAny _ _ (newExc (.type "StopIteration") [] >>= _) _ _ _;refine yaa ?_;simp only [newExc,newTuple];refine yaa (ybn ?_ (by size_fits));refine yaa (m:=firstArgMember _ _) (wpAny_of_eq (a:=Value.none) ?_ ?_)
 ·first | rfl | (simp only [firstArgMember];rfl)
 refine ybn ?_ (by size_fits);simp only [raiseNew];refine yaa (wpAny_handled ?_)
 first | rw [show A.in1.handled=none from hh] | rw [hh]
 refine yaa (yah (wpAny_throw (q _ _ (((Heap.SameBut.update ..).extBut.push _).push _) ⟨_,yar _ rfl,rfl⟩)))
def zhm(hh:A.handled=none)(it t:Addr)(ne:t≠it)(vs:Array Value):Draws prog w A it [it,t] vs.size (fun j v=>vs[j]?=some v) (fun j h=>h.IsTupleIter it t j/\h.IsTuple t vs) where
 live:=fun _ _ st=>by obtain ⟨⟨o,ho,_⟩,_⟩:=st;exact ⟨o,ho⟩
 frame:=fun _ _ _ st hk=>⟨st.1.at fun o e=>hk it (by simp) o e,by obtain ⟨o,ho,r⟩:=st.2;exact ⟨o,hk t (by simp) o ho,r⟩⟩
 item:=fun j s Q E hj st hQ=>zmm st.1 st.2 (v:=vs[j]) (by simp [hj]) fun h' st' sb=>hQ _ h' s.toks (by simp [hj]) ⟨st',by obtain ⟨o,ho,r⟩:=st.2;exact ⟨o,(sb.2 t ne).trans ho,r⟩⟩ sb
 done:=fun s Q E st hE=>zj8 hh st.1 st.2 (by simp) hE
def zhl(l:Addr)(items:Array Value)(n:Nat)(dct:Option Addr)(sl:Array (Option Value)) :
  Meets (Builtin.«enumerate.__new__» ⟨[.type "enumerate",.ref l],[]⟩) (fun _ R s=>s.heap.get? l=some { cls:=.type "tuple",dict:=dct,data:=.seq items n,slots:=sl } ∧
   R (.ok (.ret (.ref (s.heap.push { cls:=.type "tuple_iterator",data:=.fields #[.ref l,.int 0 0] }).objs.size)))
    { s with heap:=(s.heap.push { cls:=.type "tuple_iterator",data:=.fields #[.ref l,.int 0 0] }).push { cls:=.type "enumerate",data:=.fields #[.none,.bool false,.ref s.heap.objs.size,rawInt 0,.none,.none] } }) :=
 .of_wp fun prog w A R s h=>by
  obtain ⟨hp,g,d,tk,os⟩:=s;obtain ⟨hl,h⟩:=h;have hsub:=sub_enumerate;have hT:Heap.IsTuple (Shared.heap ⟨hp,g,d,tk,os⟩) l items:=⟨_,hl,rfl,n,rfl⟩
  wp_walk using yb6 hl
  refine wpAny_stack_any fun st=>yah ?_
  split
  ·rename_i c _ _ _ _ _
   cases (c == Value.type "enumerate")<;>(wp_walk using yb6 hl,yb9 hT;exact ⟨_,rfl,h⟩)
  ·wp_walk using yb6 hl,yb9 hT;exact ⟨_,rfl,h⟩
def zgB{l:Addr}{items:Array Value}{Q:Z5}(hL:s.heap.IsTuple l items)
  (h:∀h',IsEnum h' (s.heap.objs.size+1) s.heap.objs.size 0 .none->h'.IsTupleIter s.heap.objs.size l 0->h'.objs.size=s.heap.objs.size+2->(∀b o,s.heap.get? b=some o->h'.get? b=some o)->Q (.ref (s.heap.objs.size+1)) { s with heap:=h' }) :
  wpAny (model prog w) A (call (.type "enumerate") [.ref l]) Q E s:=by
 obtain ⟨⟨c,dct,dt,sl⟩,hl,hc,n,hd⟩:=hL;simp only at hc hd;subst hc hd;refine callType_new F.called_enumerate (by decide) (F.typeCall_enumerate_1 _) (F.newCall_enumerate_1 _) (fun obj=>F.args_object_init_2 obj _) F.entry_enumerate_new (zhl l items n dct sl) ⟨hl,?_⟩;generalize hp1:s.heap.push { cls:=.type "tuple_iterator",data:=.fields #[.ref l,.int 0 0] }=h1
 have hz:h1.objs.size=s.heap.objs.size+1:=by rw [<-hp1];exact yaV ..
 have k1:∀b o,s.heap.get? b=some o->h1.get? b=some o:=fun b o x=>by rw [<-hp1];exact yad _ x
 have i1:h1.get? s.heap.objs.size=some { cls:=.type "tuple_iterator",data:=.fields #[.ref l,.int 0 0] }:=by rw [<-hp1];exact yar _ rfl
 show _/\_;rw [hz]
 have he:IsEnum (h1.push { cls:=.type "enumerate",data:=.fields #[.none,.bool false,.ref s.heap.objs.size,rawInt 0,.none,.none] }) (s.heap.objs.size+1) s.heap.objs.size 0 .none:=by
  rw [<-hz];exact yar _ rfl
 exact ⟨⟨_,he,rfl⟩,h _ he ⟨_,yad _ i1,rfl,rfl⟩ (by rw [yaV,hz]) fun b o x=>yad _ (k1 b o x)⟩
end
section
variable{X:Cx}{pins:Z3}{σ:St}{H:Hp}{s:Shared}
def Inv.turnedL{t':Nat}{h':Heap}{ch:List Addr}(I:Inv X pins σ H s)(k:∀b o,b ∉ ch->s.heap.get? b=some o->h'.get? b=some o)(hf:∀b∈ch,zmb X pins H b):Inv X pins σ H { s with heap:=h',toks:=t' }:=by
 have nit:∀b u,H b=some u->b ∉ ch:=fun b u e z=>by rw [(hf b z).1] at e;cases e
 refine I.step (g':=s.gens) (d':=s.drawn) (ch:=ch) (fun b hb=>?_) (fun b o _ _ hc e _=>k b o hc e) (fun b o _ _ hc e _=>⟨o.slots,k b o hc e⟩) (fun _ _ _ _ n=>n) (fun b o hc e=>⟨o,k b o hc e⟩) (fun _ _ e=>e) (fun _ _ _ e=>e) (fun b ps e=>⟨#[],by rw [e];simp⟩) (fun m hm=>?_) (fun b u e=>?_) I.bare
 ·obtain ⟨f0,f1,f2,f3,f4,f5⟩:=hf b hb;exact ⟨f3,f1,f4,f5⟩
 ·obtain ⟨o,es,ep,ho,r⟩:=hm;exact ⟨o,es,ep,k _ o (fun z=>(hf _ z).2.1 rfl) ho,r⟩
 ·refine (I.hok b u e).stay (fun c v hc q=>k c v ?_ q) (fun _ q=>q) fun _ _ q=>q
  rcases hc with z | z
  ·rw [z];exact nit b u e
  ·exact nit c _ z
def ItE(S:Hp->Addr->List V->Prop)(a:Addr):It :=
 ⟨fun i H=>∃xs x,S H a xs/\xs[i]?=some x,fun i H x H'=>∃t y,x=.ref t/\H t=none/\H'=upd H t (.tup [.int (i:Int),y])/\∀xs,S H a xs->xs[i]?=some y,fun i H=>∃xs,S H a xs/\xs.length<=i⟩
def zi2{i:Nat}{e it T:Addr}{h1 h2:Heap}{tk:Nat}{x:Value}{y:V}(I:Inv X pins σ H s)(hf:∀b∈[e,it],zmb X pins H b)(hT:T=s.heap.objs.size)(te:h1.get? T=some { cls:=.type "tuple",data:=.seq #[.int i tk,x] })
  (k:∀b o,b≠e->b≠it->s.heap.get? b=some o->h1.get? b=some o) (sb:Heap.SameBut e h1 h2) (ne:T≠e) (ry:za2 y x):Inv X pins σ (upd H T (.tup [.int (i:Int),y])) { s with heap:=h2,toks:=tk+1 }/\H T=none:=by
 have fr:H T=none:=by rw [hT];exact I.hok.fresh (yam _)
 refine ⟨?_,fr⟩
 have I1:Inv X pins σ H { s with heap:=h2,toks:=tk+1 }:=I.turnedL (ch:=[e,it]) (fun b o hb q=>by
  simp only [yav,yaJ,ybU,not_or] at hb
  exact (sb.2 b hb.1).trans (k b o hb.1 hb.2 q)) hf
 refine I1.track fr (by rw [hT];exact I.sz) (by rw [hT];exact ya3 I.lt) (fun z c q=>?_) (fun p hp=>?_) ?_
 ·obtain ⟨v,cq⟩:=I.cell z c q;rw [hT];exact yaB cq.lt
 ·rw [hT];exact yaB (yas (I.pin p hp).1)
 ·refine ⟨by show 2<=sizeLine;decide,[.int i tk,x],.cons ⟨tk,rfl⟩ (.cons ry .nil),?_⟩;exact ⟨_,(sb.2 T ne).trans te,rfl,_,rfl⟩
def zjk{P:Program}{w:World}{K:PySem.W.Frag}{elts:List Expr}{x1:Nat}{pos:Pos}(a it e:Addr)(hei:e≠it):Turn P w K (.Tuple elts x1 pos) (ItE (SqL K) a) [e,it] e (fun i h=>(∃old,IsEnum h e it (i:Int) old)/\h.IsListIter it a i) where
 mem:=by simp
 obj:=fun i h st b hb=>by
  obtain ⟨⟨old,he⟩,o,ho,c,d⟩:=st;simp only [yav,yaJ,ybU] at hb
  rcases hb with rfl | rfl
  ·exact ⟨_,he,fun v z=>by cases z⟩
  ·exact ⟨o,ho,fun v z=>by rw [d] at z;cases z⟩
 keep:=fun i h h' st k=>by
  obtain ⟨⟨old,he⟩,hi⟩:=st;exact ⟨⟨old,k e (by simp) _ he⟩,hi.at fun o q=>k it (by simp) o q⟩
 item:=by
  intro X hP hw hK hc i pins s σ H E I hf st hg;subst hP hw hK;obtain ⟨xs,x,hq,hx⟩:=hg;obtain ⟨⟨old,he⟩,hi⟩:=st;obtain ⟨its,rv,p,hz⟩:=I.list hq;obtain ⟨u,hu,ru⟩:=rv.get hx;refine wpAny_pyNext_enum_item he hi p.isList (x:=u) (by simpa using hu) hei fun h1 ho hi1 ht1 hz1 k1=>?_
  have neT:s.heap.objs.size≠e:=ya3 (yas he);refine ⟨_,rfl,wpAny_letOwnedTupleGo_enum ho fun h2 he2 sb=>?_⟩;obtain ⟨I2,fr⟩:=zi2 (h2:=h2) (y:=x) I hf rfl ht1 k1 sb neT ru;refine ⟨.ref s.heap.objs.size,_,I2,rfl,⟨_,x,rfl,fr,rfl,fun ys hy=>by rw [I.list_inj hy hq];exact hx⟩,⟨⟨u,by simpa using he2⟩,hi1.at fun o q=>(sb.2 it (Ne.symm hei)).trans q⟩,fun b hb=>?_⟩;rw [zal]
  ·exact (hf b hb).1
  ·rintro rfl;simp only [yav,yaJ,ybU] at hb
   rcases hb with z | z
   ·exact neT z
   ·obtain ⟨o,q,_⟩:=hi;exact absurd (yas q) (by rw [<-z];exact yaR _)
 done:=by
  intro X hP hw hK hc i pins s σ H E I hf st hg;subst hP hw hK;obtain ⟨xs,hq,hx⟩:=hg;obtain ⟨⟨old,he⟩,hi⟩:=st;obtain ⟨its,rv,p,hz⟩:=I.list hq;have hl:=rv.length;obtain ⟨f0,f1,f2,f3,f4,f5⟩:=hf it (by simp);exact wpAny_pyNext_enum_end (I.ok.hd hc) he hi p.isList (by simp;omega) fun h' eb=>⟨rfl,I.turned (t':=s.toks) (fun b o hb q=>eb b o hb q) f0 f1 f3 f4 f5⟩
 self:=fun _ _ _ _ _ st h=>by
  obtain ⟨⟨old,he⟩,_⟩:=st;exact ycp he h
def zjj{P:Program}{w:World}{K:PySem.W.Frag}{elts:List Expr}{x1:Nat}{pos:Pos}(a it e:Addr)(hei:e≠it):Turn P w K (.Tuple elts x1 pos) (ItE (SqT K) a) [e,it] e (fun i h=>(∃old,IsEnum h e it (i:Int) old)/\h.IsTupleIter it a i) where
 mem:=by simp
 obj:=fun i h st b hb=>by
  obtain ⟨⟨old,he⟩,o,ho,c,d⟩:=st;simp only [yav,yaJ,ybU] at hb
  rcases hb with rfl | rfl
  ·exact ⟨_,he,fun v z=>by cases z⟩
  ·exact ⟨o,ho,fun v z=>by rw [d] at z;cases z⟩
 keep:=fun i h h' st k=>by
  obtain ⟨⟨old,he⟩,hi⟩:=st;exact ⟨⟨old,k e (by simp) _ he⟩,hi.at fun o q=>k it (by simp) o q⟩
 item:=by
  intro X hP hw hK hc i pins s σ H E I hf st hg;subst hP hw hK;obtain ⟨xs,x,hq,hx⟩:=hg;obtain ⟨⟨old,he⟩,hi⟩:=st;obtain ⟨its,rv,p,hz⟩:=I.tuple hq;obtain ⟨u,hu,ru⟩:=rv.get hx
  have hlt:i<its.toArray.size:=by
   have:=(yag.mp hu).1;simpa using this
  have nat':a≠it:=by
   rintro rfl;obtain ⟨o,q,c,_⟩:=hi;obtain ⟨o2,q2,c2,_⟩:=id p;rw [q] at q2;cases q2;rw [c] at c2;simp at c2
  have nae:e ∉ [it,a]:=by
   simp only [yav,yaJ,ybU,not_or];refine ⟨hei,?_⟩;rintro rfl;obtain ⟨o2,q2,c2,_⟩:=id p;rw [he] at q2;cases q2;simp at c2
  refine wpAny_pyNext_enum_itemD (D:=zhm (A:=X.A.in1) (I.ok.hd hc) it a nat' its.toArray) he ⟨hi,show s.heap.IsTuple a its.toArray from p⟩ hlt hei nae fun u' h1 tk hu' ho hi1 ht1 hz1 k1=>?_
  have eu:u'=u:=by
   have:its[i]?=some u':=by simpa using hu'
   rw [hu] at this;exact (Option.some.inj this).symm
  subst eu;have neT:s.heap.objs.size≠e:=ya3 (yas he);refine ⟨_,rfl,wpAny_letOwnedTupleGo_enum ho fun h2 he2 sb=>?_⟩;obtain ⟨I2,fr⟩:=zi2 (h2:=h2) (y:=x) I hf rfl ht1 k1 sb neT ru;refine ⟨.ref s.heap.objs.size,_,I2,rfl,⟨_,x,rfl,fr,rfl,fun ys hy=>by rw [I.tuple_inj hy hq];exact hx⟩,⟨⟨u',by simpa using he2⟩,hi1.1.at fun o q=>(sb.2 it (Ne.symm hei)).trans q⟩,fun b hb=>?_⟩;rw [zal]
  ·exact (hf b hb).1
  ·rintro rfl;simp only [yav,yaJ,ybU] at hb
   rcases hb with z | z
   ·exact neT z
   ·obtain ⟨o,q,_⟩:=hi;exact absurd (yas q) (by rw [<-z];exact yaR _)
 done:=by
  intro X hP hw hK hc i pins s σ H E I hf st hg;subst hP hw hK;obtain ⟨xs,hq,hx⟩:=hg;obtain ⟨⟨old,he⟩,hi⟩:=st;obtain ⟨its,rv,p,hz⟩:=I.tuple hq;have hl:=rv.length;obtain ⟨f0,f1,f2,f3,f4,f5⟩:=hf it (by simp);have ty:s.TypeIs (.ref e) "enumerate":=⟨_,he,rfl⟩;unfold pyNext;refine yaa (wpAny_attempt (ya8 (name:=Str.ofString "__next__") ty F.slot_enumerate_next (ybj F.slot_enumerate_next ty F.entry_enumerate_next ?_ (F.args_enumerate_next_1 _))));show wpAny _ _ (field (.ref e) 2 >>= _) _ _ _;refine yaa (ybd he rfl (x:=.ref it) rfl ?_);refine yaa (zj8 (I.ok.hd hc) hi (show s.heap.IsTuple a its.toArray from p) (by simp;omega) fun h' x eb hx'=>?_);obtain ⟨o,ho,hcl⟩:=hx';refine yaa (yct (T:="StopIteration") (b:=true) ⟨o,ho,hcl⟩ isSubtype_stop ?_);exact yah ⟨rfl,I.turned (t':=s.toks) (fun b o hb q=>eb b o hb q) f0 f1 f3 f4 f5⟩
 self:=fun _ _ _ _ _ st h=>by
  obtain ⟨⟨old,he⟩,_⟩:=st;exact ycp he h
def zhu:bootBuiltins "enumerate" = some (.type "enumerate"):=by decide +kernel
def zyb(S:Hp->Addr->List V->Prop)(ta:TA):TI:=fun σ H R=>ta σ H fun vs H1=>∃a,vs=[.ref a]/\(∃xs,S H1 a xs)/\R (ItE S a) H1
def zmM{K:PySem.W.Frag}{elts:List Expr}{x1:Nat}{tp:Pos}{a:Expr}{ta:TA}{p pos:Pos}(hg:Gl X "enumerate")(hm:X.mg "enumerate" = none)(ha:PA X [a] ta)(hK:X.K=K:=by rfl)(hs:starEach [a] X.env=[(false,eval a X.env)]:=by rfl) :
  PI X (.Tuple elts x1 tp) (.Call (.Name "enumerate" p) [a] [] pos) (zyb (SqL K) ta):=by
 subst hK;intro pins s σ H R I h;refine Call_ (zdt I hg hm zhu (yaO (thn (ha pos pins s σ H _ I h) fun us s1 ⟨vs,H1,I1,r1,q1⟩=>?_) hs rfl));obtain ⟨b,e,⟨xs,hq⟩,q⟩:=q1;subst e
 cases r1 with
 | cons r rr =>
  cases rr;cases r;obtain ⟨its,rv,pl,hz⟩:=I1.list hq;refine call_enumerate_list pl.isList fun h' he hi hz' k=>ycp he ?_
  refine ⟨s1.heap.objs.size+1,[s1.heap.objs.size+1,s1.heap.objs.size],_,_,H1,rfl,I1.kept (t':=s1.toks) k,zjk b _ _ (Nat.succ_ne_self _),⟨⟨_,he⟩,hi⟩,fun c hb=>?_,q⟩;simp only [yav,yaJ,ybU] at hb
  have hc:s1.heap.objs.size<=c:=by rcases hb with rfl | rfl<;>omega
  exact I1.fpOk hc (I1.hok.fresh hc)
def zmL{K:PySem.W.Frag}{elts:List Expr}{x1:Nat}{tp:Pos}{a:Expr}{ta:TA}{p pos:Pos}(hg:Gl X "enumerate")(hm:X.mg "enumerate" = none)(ha:PA X [a] ta)(hK:X.K=K:=by rfl)(hs:starEach [a] X.env=[(false,eval a X.env)]:=by rfl) :
  PI X (.Tuple elts x1 tp) (.Call (.Name "enumerate" p) [a] [] pos) (zyb (SqT K) ta):=by
 subst hK;intro pins s σ H R I h;refine Call_ (zdt I hg hm zhu (yaO (thn (ha pos pins s σ H _ I h) fun us s1 ⟨vs,H1,I1,r1,q1⟩=>?_) hs rfl));obtain ⟨b,e,⟨xs,hq⟩,q⟩:=q1;subst e
 cases r1 with
 | cons r rr =>
  cases rr;cases r;obtain ⟨its,rv,pl,hz⟩:=I1.tuple hq;refine zgB (show s1.heap.IsTuple b its.toArray from pl) fun h' he hi hz' k=>ycp he ?_
  refine ⟨s1.heap.objs.size+1,[s1.heap.objs.size+1,s1.heap.objs.size],_,_,H1,rfl,I1.kept (t':=s1.toks) k,zjj b _ _ (Nat.succ_ne_self _),⟨⟨_,he⟩,hi⟩,fun c hb=>?_,q⟩;simp only [yav,yaJ,ybU] at hb
  have hc:s1.heap.objs.size<=c:=by rcases hb with rfl | rfl<;>omega
  exact I1.fpOk hc (I1.hok.fresh hc)
def Itq(lo c:Int)(n:Nat):It:=⟨fun i _=>i<n,fun i H x H'=>H'=H/\x=.int (lo+i*c),fun i _=>n<=i⟩
def zhF{P:Program}{w:World}{K:PySem.W.Frag}{tg:Expr}(it:Addr)(lo c:Int)(n:Nat):Turn P w K tg (Itq lo c n) [it] it (fun i h=>IsRangeIter h it (lo+(i:Nat)*c) ((n:Int)-(i:Nat)) c) where
 mem:=by simp
 obj:=fun i h st b hb=>by
  have e:b=it:=by simpa using hb
  subst e;exact ⟨_,st,fun v z=>by cases z⟩
 keep:=fun i h h' st k=>k it (by simp) _ st
 item:=by
  intro X hP hw hK hc i pins s σ H E I hf st hg;subst hP hw hK;obtain ⟨f0,f1,f2,f3,f4,f5⟩:=hf it (by simp);have W:=Walks.range (prog:=X.prog) (w:=X.w) (I.ok.hd hc) it lo c n;refine W.item i s _ _ hg st fun v h' tk hv st' kk=>?_
  obtain ⟨t,rfl⟩:=hv;have I1:Inv X pins σ H { s with heap:=h',toks:=tk }:=I.turned (fun b o hb e=>kk b o (by simpa using hb) e) f0 f1 f3 f4 f5;exact ⟨_,rfl,znq (s:={ s with heap:=h',toks:=tk }) (n:="range_iterator") st' rfl rfl (by decide) ⟨.int (lo+i*c),H,I1,⟨t,rfl⟩,⟨rfl,rfl⟩,st',fun b hb=>(hf b hb).1⟩⟩
 done:=by
  intro X hP hw hK hc i pins s σ H E I hf st hg;subst hP hw hK;obtain ⟨f0,f1,f2,f3,f4,f5⟩:=hf it (by simp);exact wpAny_pyNext_range_end (I.ok.hd hc) st (by have:n<=i:=hg;omega) fun h' eb=>⟨rfl,I.turned (t':=s.toks) (fun b o hb e=>eb b o hb e) f0 f1 f3 f4 f5⟩
 self:=fun _ _ _ _ _ st h=>wpAny_pyIter_rangeiter st h
def zvY(ta:TA):TI:=fun σ H R=>ta σ H fun vs H1=>∃j c:Int,vs=[.int 0,.int j,.int c]/\0<=j/\j<=1000/\1<=c/\c<=1000/\R (Itq 0 c ((j+c-1) / c).toNat) H1
def zkQ{tg a b c:Expr}{ta:TA}{p pos:Pos}(hg:Gl X "range")(hm:X.mg "range" = none)(ha:PA X [a,b,c] ta)(hs:starEach [a,b,c] X.env=(false,eval a X.env)::starEach [b,c] X.env:=by rfl)(hs2:(backTo pos (starEach [b,c] X.env)).any (·.1)=false:=by rfl) :
  PI X tg (.Call (.Name "range" p) [a,b,c] [] pos) (zvY ta):=by
 intro pins s σ H R I h;refine Call_ (zdt I hg hm boot_range (yaO (thn (ha pos pins s σ H _ I h) fun us s1 ⟨vs,H1,I1,r1,q1⟩=>?_) hs hs2));obtain ⟨j,k,e,j0,j1,k0,k1,q⟩:=q1;subst e
 cases r1 with
 | cons r rr =>
  cases rr with
  | cons r' rr =>
   cases rr with
   | cons r'' rr =>
    cases rr;obtain ⟨t,rfl⟩:=r;obtain ⟨t',rfl⟩:=r';obtain ⟨t'',rfl⟩:=r'';have hsz:=rangeSize_pos (len:=j) k0 j0
    have hsm:Builtin.Range.small 0 j k=true:=by
     have h1:(j+k-1) / k<=j+k-1:=Int.ediv_le_self _ (by omega);have h2:0<=(j+k-1) / k:=Int.ediv_nonneg (by omega) (by omega);unfold Builtin.Range.small;rw [hsz];simp only [Builtin.Range.rangeFitsLong,yab,ycI,ybz,ybS];refine ⟨by omega,.inr ?_⟩;rw [if_pos (by omega)];simp only [yab,ybz];omega
    refine call_range_3 (by omega) ?_ (Or.inl (PyProof.noPylong_small (by omega)));generalize hp1:s1.heap.push { cls:=.type "range",data:=.fields #[.int 0 t,.int j t',.int k t''] }=h1
    have hr:IsRange h1 s1.heap.objs.size 0 j k t t' t'':=by rw [<-hp1];exact IsRange.new ..
    have k1':∀b o,s1.heap.get? b=some o->h1.get? b=some o:=fun b o x=>by rw [<-hp1];exact yad _ x
    have I2:Inv X pins σ H1 { s1 with heap:=h1,toks:=s1.toks }:=I1.kept k1';refine wpAny_pyIter_range hr hsm ?_;refine ⟨h1.objs.size,[h1.objs.size],_,_,H1,rfl,I2.kept (t':=s1.toks) fun b o e=>yad _ e,zhF _ 0 k ((j+k-1) / k).toNat,?_,fun b hb=>?_,q⟩
    ·rw [hsz];have h2:0<=(j+k-1) / k:=Int.ediv_nonneg (by omega) (by omega)
     have e2:((((j+k-1) / k).toNat:Nat):Int)-((0:Nat):Int)=(j+k-1) / k:=by omega
     have e1:(0:Int)+((0:Nat):Int)*k=0:=by simp
     show IsRangeIter _ _ (0+((0:Nat):Int)*k) ((((j+k-1) / k).toNat:Int)-((0:Nat):Int)) k;rw [e1,e2];exact yar _ rfl
    ·have e:b=h1.objs.size:=by simpa using hb
     subst e;exact I2.fpOk (yam _) (I2.hok.fresh (yam _))
end
end L2
namespace S2
open PySem PySem.Spec PyProof.Rows L2
structure ItOk(cl:Cf)(w:Wd)(J:It)(ds:List D):Prop where
 go:∀w',Fut w w'->∀i,i<ds.length->J.go i w'.H
 stop:∀w',Fut w w'->J.stop ds.length w'.H
 yld:∀w',Fut w w'->∀i d x H',ds[i]?=some d->J.yld i w'.H x H'->∃w'',w''.H=H'/\Grow w' w''/\Shd cl w'' x d
abbrev Fi:=Env->Sto->Out (List D)
def tI(cl:Cf)(E:St->XK)(f:Fi):TI:=fun σ H R'=>∃B w ρ S,w.H=H/\Rel cl B σ w ρ S/\match f ρ S with
 | .ok ds S'=>∀J w',Rel cl B σ w' ρ S'->Fut w w'->ItOk cl w' J ds->R' J w'.H
 | .exc c S'=>∀w',Rel cl B σ w' ρ S'->Fut w w'->E σ (.ref (cl c)) none w'.H
 | .bad=>False
def PI.imp{X:Cx}{tg it:Expr}{t t':TI}(h:PI X tg it t)(i:∀σ H Q,t' σ H Q->t σ H Q):PI X tg it t':=fun pins s σ H Q I q=>h pins s σ H Q I (i _ _ _ q)
inductive Tg where | one (i:Nat) | tup (is:List Nat)
def zel:List Nat->List D->Env->Option Env
 | [],[],ρ=>some ρ
 | i::is,d::ds,ρ=>zel is ds (ρ.set i (some (false,d)))
 | _,_,_=>none
def Tg.put:Tg->Env->D->Option Env
 | .one i,ρ,d=>some (ρ.set i (some (false,d)))
 | .tup is,ρ,.tup ds=>zel is ds ρ
 | .tup _,_,_=>none
def tG(cl:Cf)(n:Nat)(tg:Tg):TG:=fun v σ H Q=>∃B w ρ S d ρ',w.H=H/\Rel cl B σ w ρ S/\Shd cl w v d/\tg.put ρ d=some ρ'/\∀σ',σ'.length=σ.length->σ'.drop n=σ.drop n->Rel cl B σ' w ρ' S->Q σ' w.H
def PG.imp{X:Cx}{tg:Expr}{t t':TG}(h:PG X tg t)(i:∀v σ H Q,t' v σ H Q->t v σ H Q):PG X tg t':=fun pins s σ H v u Q I r q=>h pins s σ H v u Q I r (i _ _ _ _ q)
def zgs(tg:Tg)(body:Fs):List D->Env->Sto->Fo
 | [],ρ,S=>.nx ρ S
 | d::ds,ρ,S=>match tg.put ρ d with
  | none=>.bad
  | some ρ1=>match body ρ1 S with
   | .nx ρ' S'=>zgs tg body ds ρ' S'
   | .ct ρ' S'=>zgs tg body ds ρ' S'
   | .bk ρ' S'=>.nx ρ' S'
   | o=>o
def zfq(tg:Tg)(it:Fi)(body:Fs):Fs:=fun ρ S=>match it ρ S with
 | .ok ds S'=>zgs tg body ds ρ S'
 | .exc c S'=>.ex c ρ S'
 | .bad=>.bad
section
variable{X:Cx}{cl:Cf}{E:St->XK}{own:Bool}{e iter tg:Expr}{body:List Stmt}{fb:Fs}{fi:Fi}{fc:Fe}{t:Tg}{pos:Pos}
def zi4{α:Type}{n i:Nat}{l:List α}{a:α}(h:i<n):(l.set i a).drop n=l.drop n:=by
 refine ybA fun k=>?_
 rw [ybh,ybh,yaP (by omega)]
def zrN{n i:Nat}{x:Str}(hin:i<n)(hN:X.N.Nodup)(hi:X.N[i]?=some x)(hx:Loc X.env.scope x)(hf:X.fn x=true\/X.env.scope.names.lookup x=some .local):PG X (.Name x pos) (tG cl n (.one i)):=by
 refine PG.imp (zkT hN hi hx hf) ?_;rintro v σ H Q ⟨B,w,ρ,S,d,ρ',rfl,R,h,hp,q⟩;cases hp;exact q _ (yaH ..) (zi4 hin) (R.put h)
def tGs(cl:Cf)(n:Nat)(is:List Nat):TGs:=fun vs σ H Q=>∃B w ρ S ds ρ',w.H=H/\Rel cl B σ w ρ S/\Shds cl w vs ds/\zel is ds ρ=some ρ'/\∀σ',σ'.length=σ.length->σ'.drop n=σ.drop n->Rel cl B σ' w ρ' S->Q σ' w.H
def zpf{n:Nat}:PGs X [] (tGs cl n []):=by
 intro pins s σ H vs us Q I r h;obtain ⟨B,w,ρ,S,ds,ρ',rfl,R,hs,hp,q⟩:=h
 cases hs with
 | nil =>
  cases hp;exact zpG pins s σ w.H [] us Q I r ⟨rfl,q σ rfl rfl R⟩
 | cons _ _=>cases hp
def zmr{n i:Nat}{is:List Nat}{x:Str}{es:List Expr}(hin:i<n)(hN:X.N.Nodup)(hi:X.N[i]?=some x)(hx:Loc X.env.scope x)(hf:X.fn x=true\/X.env.scope.names.lookup x=some .local)(h2:PGs X es (tGs cl n is)):PGs X (.Name x pos::es) (tGs cl n (i::is)):=by
 intro pins s σ H vs us Q I r h;obtain ⟨B,w,ρ,S,ds,ρ',rfl,R,hs,hp,q⟩:=h;refine zmN (zkT hN hi hx hf) h2 rfl pins s σ w.H vs us Q I r ?_
 cases hs with
 | nil=>cases hp
 | cons h t =>
  rename_i v d vs ds;exact ⟨v,vs,rfl,B,w,_,S,ds,ρ',rfl,R.put h,t,hp,fun σ' e1 e2=>q σ' (e1.trans (yaH ..)) (e2.trans (zi4 hin))⟩
def zrM{es:List Expr}{n k:Nat}{is:List Nat}(hc:X.calm=true)(h:PGs X es (tGs cl n is))(hn:(assignEach es X.env).length=is.length)(hst:(assignEach es X.env).findIdx? (·.1)=none):PG X (.Tuple es k pos) (tG cl n (.tup is)):=by
 refine PG.imp (zsg hc h hn hst) ?_;rintro v σ H Q ⟨B,w,ρ,S,d,ρ',rfl,R,h,hp,q⟩
 cases h with
 | tup e k r =>
  have hl:∀(is:List Nat) (ds:List D) (ρ ρ':Env),zel is ds ρ=some ρ'->ds.length=is.length:=by
   intro is
   induction is with
   | nil=>intro ds ρ ρ' h;cases ds with
    | nil=>rfl
    | cons _ _=>cases h
   | cons i is ih=>intro ds ρ ρ' h;cases ds with
    | nil=>cases h
    | cons d ds=>rw [yai,yai,ih ds _ _ h]
  rename_i a xs ds;refine ⟨a,xs,rfl,SqT.of e,by rw [r.length];exact hl is ds ρ ρ' hp,B,w,ρ,S,ds,ρ',rfl,R,r,hp,q⟩
 | _=>cases hp
def zrB{n:Nat}(hp:PassesOwn (model X.prog X.w) X.A X.env X.xe)(hc:X.calm=true)(hi:PI X tg iter (tI cl E fi))(hg:PG X tg (tG cl n t))(hb:PSs X body (tS cl E own fb))(hs:∀x,foldedSetIterable iter X.env x=pure x):PS X (.For tg iter body [] pos) (tS cl E own (zfq t fi fb)):=by
 refine PS.imp (zsd hp hc hi hg hb hs) ?_;rintro De σ H ⟨B,w,ρ,S,rfl,R,q⟩;refine ⟨B,w,ρ,S,rfl,R,?_⟩;unfold zfq at q
 cases hf:fi ρ S with
 | bad=>rwa [hf] at q
 | exc c S1=>rw [hf] at q;exact fun w' R' F'=>q σ w' R' F'
 | ok ds S1 =>
  rw [hf] at q;intro J w0 R0 F0 hJ;dsimp only at q;refine ⟨fun i m σ' H'=>m=ds.length-i/\i<=ds.length/\∃w1 ρ1 S2,w1.H=H'/\Fut w0 w1/\Rel cl B σ' w1 ρ1 S2/\zjd cl E own B w1 De (zgs t fb (ds.drop i) ρ1 S2),⟨ds.length,by simp,ybm _,w0,ρ,S1,rfl,Fut.refl _,R0,by rw [ycQ];exact zjd.up F0 q⟩,?_⟩;rintro i m σ1 H1 ⟨rfl,hi,w1,ρ1,S2,rfl,F1,R1,q1⟩
  by_cases hlt:i<ds.length
  ·obtain ⟨d,hd⟩:∃d,ds[i]?=some d:=⟨ds[i],yac hlt⟩
   have hdr:ds.drop i=d::ds.drop (i+1):=by
    rw [yb1 hlt];rw [yac hlt] at hd;cases hd;rfl
   rw [hdr] at q1;unfold zgs at q1
   cases hp1:t.put ρ1 d with
   | none=>rw [hp1] at q1;exact q1.elim
   | some ρ2 =>
    rw [hp1] at q1;dsimp only at q1;refine .inr ⟨hJ.go w1 F1 i hlt,fun σ' H'=>i+1<=ds.length/\∃w1 ρ1 S2,w1.H=H'/\Fut w0 w1/\Rel cl B σ' w1 ρ1 S2/\zjd cl E own B w1 De (zgs t fb (ds.drop (i+1)) ρ1 S2),fun σ' H' h'=>⟨ds.length-(i+1),by omega,rfl,h'.1,h'.2⟩,fun x H' y=>?_⟩;obtain ⟨w2,rfl,g2,s2⟩:=hJ.yld w1 F1 i d x H' hd y;refine ⟨B,w2,ρ1,S2,d,ρ2,rfl,R1.grow g2,s2,hp1,fun σ2 _ _ R2=>⟨B,w2,ρ2,S2,rfl,R2,?_⟩⟩;have q2:=zjd.up g2.fut q1
    cases hb:fb ρ2 S2 with
    | bad=>rwa [hb] at q2
    | rt d S3=>rwa [hb] at q2
    | ex c ρ3 S3=>rwa [hb] at q2
    | bk ρ3 S3=>rw [hb] at q2;exact fun σ3 w3 R3 F3=>q2 σ3 w3 R3 F3
    | nx ρ3 S3=>rw [hb] at q2;exact fun σ3 w3 R3 F3=>⟨hlt,w3,ρ3,S3,rfl,F1.trans (g2.fut.trans F3),R3,zjd.up F3 q2⟩
    | ct ρ3 S3=>rw [hb] at q2;exact fun σ3 w3 R3 F3=>⟨hlt,w3,ρ3,S3,rfl,F1.trans (g2.fut.trans F3),R3,zjd.up F3 q2⟩
  ·have e:i=ds.length:=by omega
   subst e;rw [List.drop_length] at q1;exact .inl ⟨hJ.stop w1 F1,q1 σ1 w1 R1 (Fut.refl _)⟩
def zi3(f:Fe):Fi:=fun ρ S=>(f ρ S).bind fun d S1=>match d with | .lst l=>.ok l S1 | _=>.bad
def zh6(f:Fe):Fi:=fun ρ S=>(f ρ S).bind fun d S1=>match d with | .tup l=>.ok l S1 | _=>.bad
def zko(he:PE X e (tE cl E fc)):PI X tg e (tI cl E (zi3 fc)):=by
 refine PI.imp (zpF he) ?_;rintro σ H Q ⟨B,w,ρ,S,rfl,R,q⟩;refine ⟨B,w,ρ,S,rfl,R,?_⟩;unfold zi3 at q
 cases hf:fc ρ S with
 | bad=>rwa [hf] at q
 | exc c S1=>rwa [hf] at q
 | ok d S1 =>
  rw [hf] at q;intro v w' R' F' h';dsimp only [Out.bind] at q
  cases h' with
  | lst e k r =>
   rename_i a xs ds;refine ⟨a,rfl,⟨xs,SqL.of e⟩,q _ w' R' F' ?_⟩;have hl:=r.length;refine ⟨fun w1 F1 i hi=>⟨xs,xs[i]'(by omega),SqL.of (F1.keep _ _ e k).1,yac (by omega)⟩,fun w1 F1=>⟨xs,SqL.of (F1.keep _ _ e k).1,by omega⟩,fun w1 F1 i d x H1 hd y=>?_⟩;obtain ⟨rfl,hy⟩:=y;have hx:=hy xs (SqL.of (F1.keep _ _ e k).1);obtain ⟨d',e1,e2⟩:=r.get hx;rw [hd] at e1;cases e1;exact ⟨w1,rfl,Grow.refl _,e2.up F1⟩
  | _=>exact q.elim
def zrK(he:PE X e (tE cl E fc)):PI X tg e (tI cl E (zh6 fc)):=by
 refine PI.imp (zsf he) ?_;rintro σ H Q ⟨B,w,ρ,S,rfl,R,q⟩;refine ⟨B,w,ρ,S,rfl,R,?_⟩;unfold zh6 at q
 cases hf:fc ρ S with
 | bad=>rwa [hf] at q
 | exc c S1=>rwa [hf] at q
 | ok d S1 =>
  rw [hf] at q;intro v w' R' F' h';dsimp only [Out.bind] at q
  cases h' with
  | tup e k r =>
   rename_i a xs ds;refine ⟨a,rfl,⟨xs,SqT.of e⟩,q _ w' R' F' ?_⟩;have hl:=r.length;refine ⟨fun w1 F1 i hi=>⟨xs,xs[i]'(by omega),SqT.of (F1.keep _ _ e k).1,yac (by omega)⟩,fun w1 F1=>⟨xs,SqT.of (F1.keep _ _ e k).1,by omega⟩,fun w1 F1 i d x H1 hd y=>?_⟩;obtain ⟨rfl,hy⟩:=y;have hx:=hy xs (SqT.of (F1.keep _ _ e k).1);obtain ⟨d',e1,e2⟩:=r.get hx;rw [hd] at e1;cases e1;exact ⟨w1,rfl,Grow.refl _,e2.up F1⟩
  | _=>exact q.elim
def zaH(lo hi:Int):List D:=(List.range (hi-lo).toNat).map fun (i:Nat)=>.int (lo+i)
def zdG(f:Fe):Fi:=fun ρ S=>(zak [f] ρ S).bind fun ds S1=>match ds with | [.int j]=>if -1000000<=j/\j<=1000000 then .ok (zaH 0 j) S1 else .bad | _=>.bad
def zlJ(f g:Fe):Fi:=fun ρ S=>(zak [f,g] ρ S).bind fun ds S1=>match ds with | [.int i,.int j]=>if (-1000000<=i/\i<=1000000)/\-1000000<=j/\j<=1000000 then .ok (zaH i j) S1 else .bad | _=>.bad
def zon{w:Wd}{lo hi:Int}{n:Nat}(hn:n=(hi-lo).toNat):ItOk cl w (Itr lo n) (zaH lo hi):=by
 subst hn
 have hl:(zaH lo hi).length=(hi-lo).toNat:=by unfold zaH;rw [yaf,ybY]
 refine ⟨fun w1 F1 i h=>by rw [hl] at h;exact h,fun w1 F1=>by rw [hl];exact yam _,fun w1 F1 i d x H1 hd y=>?_⟩;obtain ⟨rfl,rfl⟩:=y;unfold zaH at hd;rw [yao] at hd
 cases hr:(List.range (hi-lo).toNat)[i]? with
 | none=>rw [hr] at hd;cases hd
 | some j =>
  rw [hr] at hd;have:=(yag.mp hr).2;rw [List.getElem_range] at this;subst this;cases hd;exact ⟨w1,rfl,Grow.refl _,.int _⟩
def zpc{p:Pos}(hg:Gl X "range")(hm:X.mg "range" = none)(ha:PA X [e] (tAs cl E [fc]))(hs:starEach [e] X.env=[(false,eval e X.env)]):PI X tg (.Call (.Name "range" p) [e] [] pos) (tI cl E (zdG fc)):=by
 refine PI.imp (zkS hg hm ha hs) ?_;rintro σ H Q ⟨B,w,ρ,S,rfl,R,q⟩;refine ⟨B,w,ρ,S,rfl,R,?_⟩;unfold zdG at q
 cases hf:zak [fc] ρ S with
 | bad=>rwa [hf] at q
 | exc c S1=>rwa [hf] at q
 | ok ds S1 =>
  rw [hf] at q;intro vs w' R' F' h';dsimp only [Out.bind] at q;split at q
  ·rename_i ds' S' hm';split at hm'
   ·rename_i j;split at hm'
    ·rename_i hb;cases hm'
     cases h' with
     | cons h1 h2 =>
      cases h1;cases h2;exact ⟨j,rfl,by omega,by omega,q _ w' R' F' (zon (by omega))⟩
    ·cases hm'
   ·cases hm'
  ·rename_i hm';split at hm'<;>first | (split at hm'<;>cases hm') | cases hm'
  ·exact q.elim
def zpb{a:Expr}{fa:Fe}{p:Pos}(hg:Gl X "range")(hm:X.mg "range" = none)(ha:PA X [a,e] (tAs cl E [fa,fc]))(hs:starEach [a,e] X.env=[(false,eval a X.env),(false,eval e X.env)])(hs2:starEach [e] X.env=[(false,eval e X.env)]):PI X tg (.Call (.Name "range" p) [a,e] [] pos) (tI cl E (zlJ fa fc)):=by
 refine PI.imp (zkR hg hm ha hs hs2) ?_;rintro σ H Q ⟨B,w,ρ,S,rfl,R,q⟩;refine ⟨B,w,ρ,S,rfl,R,?_⟩;unfold zlJ at q
 cases hf:zak [fa,fc] ρ S with
 | bad=>rwa [hf] at q
 | exc c S1=>rwa [hf] at q
 | ok ds S1 =>
  rw [hf] at q;intro vs w' R' F' h';dsimp only [Out.bind] at q;split at q
  ·rename_i ds' S' hm';split at hm'
   ·rename_i i j;split at hm'
    ·rename_i hb;cases hm'
     cases h' with
     | cons h1 h2 =>
      cases h1
      cases h2 with
      | cons h2 h3 =>
       cases h2;cases h3;exact ⟨i,j,rfl,by omega,q _ w' R' F' (zon rfl)⟩
    ·cases hm'
   ·cases hm'
  ·rename_i hm';split at hm'<;>first | (split at hm'<;>cases hm') | cases hm'
  ·exact q.elim
end
end S2
namespace S2
open PySem PySem.Spec PyProof.Rows L2
def ztI(ρ:Env)(i:Nat):Option (Bool×D):=match ρ[i]? with | some (some (false,d))=>some (false,d) | _=>none
def zbT(n:Nat)(caps:List Nat)(ρ:Env):Env:=List.replicate n none++caps.map (ztI ρ)
def zdl:Fe:=zae (.bl true)
def zbL(tg:Tg)(c elt:Fe)(ρ0:Env):List D->Sto->Out (List D)
 | [],S=>.ok [] S
 | d::ds,S=>match tg.put ρ0 d with
  | none=>.bad
  | some ρ1=>(c ρ1 S).bind fun b S1=>match isB b with
   | some true=>(elt ρ1 S1).bind fun y S2=>(zbL tg c elt ρ0 ds S2).bind fun ys S3=>.ok (y::ys) S3
   | some false=>zbL tg c elt ρ0 ds S1
   | none=>.bad
def zbX(n:Nat)(tg:Tg)(it:Fi)(c elt:Fe)(caps:List Nat):Fe:=fun ρ S=>(it ρ S).bind fun ds S1=>match zbL tg c elt (zbT n caps ρ) ds S1 with
 | .ok ys S2=>if small ys.length then .ok (.lst ys) S2 else .bad
 | _=>.bad
abbrev noE:St->XK:=fun _ _ _ _=>False
section
variable{cl:Cf}
def zlw{B:Base}{σ:St}{w w1:Wd}{ρ:Env}{S S1:Sto}{n:Nat}{caps:List (Str×Nat)}(R:Rel cl B σ w ρ S){B1:Base}(W1:World' cl B1 w1 S1)(F1:Fut w w1){σ':St}(hσ:σ'.length=n+caps.length)(hc:σ'.drop n=caps.map fun p=>(σ[p.2]?).join) :
  Rel cl B1 σ' w1 (zbT n (caps.map (·.2)) ρ) S1 where
 wd:=W1
 len:=by unfold zbT;rw [hσ,yal,yaE,yaf,yaf]
 slots:=fun i o d h=>by
  unfold zbT at h
  by_cases hi:i<n
  ·rw [yaz (by rw [yaE];exact hi),ya7] at h
   split at h<;>cases h
  ·rw [yau (by rw [yaE];omega),yaE,yaX,yao] at h
   cases hp:caps[i-n]? with
   | none=>rw [hp] at h;cases h
   | some p =>
    rw [hp] at h;have h':ztI ρ p.2=some (o,d):=Option.some.inj h;unfold ztI at h';split at h'
    ·rename_i d' hd;cases h';obtain ⟨v,e,x⟩:=R.slots p.2 false d hd;refine ⟨v,?_,Shd.up F1 x⟩;have:=congrArg (fun l=>l[i-n]?) hc;rw [ybh,yao,hp] at this;rw [show n+(i-n)=i by omega] at this;rw [this];show some ((σ[p.2]?).join)=_;rw [e];rfl
    ·cases h'
end
section
variable{X:Cx}{cl:Cf}{E:St->XK}
def zoC{fi:Fi}{t:Tg}{fc fe:Fe}{n:Nat}{caps:List (Str×Nat)}{σ:St}{H:Hp}{Q:VK}(q:tN cl E (zbX n t fi fc fe (caps.map (·.2))) σ H Q) :
  ziu (tI cl E fi) (tG cl n t) (tTr cl noE fc) (tE cl noE fe) n caps σ H Q:=by
 obtain ⟨B,w,ρ,S,rfl,R,q⟩:=q;refine ⟨B,w,ρ,S,rfl,R,?_⟩;unfold zbX at q
 cases hf:fi ρ S with
 | bad=>rwa [hf] at q
 | exc c S1=>rwa [hf] at q
 | ok ds S1 =>
  rw [hf] at q;dsimp only [Out.bind] at q;intro J w0 R0 F0 hJ
  cases hcd:zbL t fc fe (zbT n (caps.map (·.2)) ρ) ds S1 with
  | bad=>rw [hcd] at q;exact q.elim
  | exc _ _=>rw [hcd] at q;exact q.elim
  | ok all Sf =>
   rw [hcd] at q;dsimp only at q
   cases hz:small all.length with
   | false=>rw [hz,if_neg (by decide)] at q;exact q.elim
   | true =>
    rw [hz,if_pos rfl] at q;dsimp only at q;refine ⟨fun i m ys σ' H'=>m=ds.length-i/\i<=ds.length/\σ'.length=n+caps.length/\σ'.drop n=(caps.map fun p=>(σ[p.2]?).join)/\∃w1 S2 es zci,w1.H=H'/\Fut w0.inn w1/\World' cl w0.base w1 S2/\Shds cl w1 ys es/\zbL t fc fe (zbT n (caps.map (·.2)) ρ) (ds.drop i) S2=.ok zci Sf/\es++zci=all,⟨ds.length,by simp,ybm _,by simp [capσ],by simp [capσ],w0.inn,S1,[],all,rfl,Fut.refl _,R0.wd.enter,.nil,by rw [ycQ];exact hcd,rfl⟩,?_⟩;rintro i m ys σ1 H1 ⟨rfl,hi,hl1,hd1,w1,S2,es,zci,rfl,F1,W1,sh,hrest,hall⟩;refine ⟨?_,?_⟩
    ·rw [sh.length];refine yaj ?_ (za9 hz);rw [<-hall,yal];omega
    have F1':Fut w0 w1:=(zcv w0).trans F1
    by_cases hlt:i<ds.length
    ·obtain ⟨d,hdi⟩:∃d,ds[i]?=some d:=⟨ds[i],yac hlt⟩
     have hdr:ds.drop i=d::ds.drop (i+1):=by
      rw [yb1 hlt];rw [yac hlt] at hdi;cases hdi;rfl
     rw [hdr] at hrest;unfold zbL at hrest;refine .inr ⟨hJ.go w1 F1' i hlt,fun x H' y=>?_⟩;obtain ⟨w2,rfl,g2,s2⟩:=hJ.yld w1 F1' i d x H' hdi y;have R1:Rel cl w0.base σ1 w2 (zbT n (caps.map (·.2)) ρ) S2:=zlw R0 (W1.grow g2) (F1'.trans g2.fut) hl1 hd1
     cases hp:t.put (zbT n (caps.map (·.2)) ρ) d with
     | none=>rw [hp] at hrest;cases hrest
     | some ρ1 =>
      rw [hp] at hrest;dsimp only at hrest;refine ⟨w0.base,w2,_,S2,d,ρ1,rfl,R1,s2,hp,fun σ2 hk1 hk2 R2=>⟨w0.base,w2,ρ1,S2,rfl,R2,?_⟩⟩
      cases hc:fc ρ1 S2 with
      | bad=>rw [hc] at hrest;cases hrest
      | exc _ _=>rw [hc] at hrest;cases hrest
      | ok b S3 =>
       rw [hc] at hrest;dsimp only [Out.bind] at hrest ⊢
       cases hb:isB b with
       | none=>rw [hb] at hrest;cases hrest
       | some bb =>
        rw [hb] at hrest;intro w3 R3 F3
        cases bb with
        | false=>exact zoq ⟨ds.length-(i+1),by omega,rfl,hlt,hk1.trans hl1,hk2.trans hd1,w3,S3,es,zci,rfl,F1.trans (g2.fut.trans F3),R3.wd,sh.up (g2.fut.trans F3),hrest,hall⟩
        | true =>
         refine zop ⟨w0.base,w3,ρ1,S3,rfl,R3,?_⟩;dsimp only at hrest
         cases he:fe ρ1 S3 with
         | bad=>rw [he] at hrest;cases hrest
         | exc _ _=>rw [he] at hrest;cases hrest
         | ok yv S4 =>
          rw [he] at hrest;dsimp only at hrest
          cases hr:zbL t fc fe (zbT n (caps.map (·.2)) ρ) (ds.drop (i+1)) S4 with
          | bad=>rw [hr] at hrest;cases hrest
          | exc _ _=>rw [hr] at hrest;cases hrest
          | ok zs S5 =>
           rw [hr] at hrest;cases hrest;intro v w4 R4 F4 h4;have ff:=g2.fut.trans (F3.trans F4);exact ⟨ds.length-(i+1),by omega,rfl,hlt,hk1.trans hl1,hk2.trans hd1,w4,S4,es++[yv],zs,rfl,F1.trans ff,R4.wd,(sh.up ff).append (.cons h4 .nil),hr,by rw [<-hall,ycR];rfl⟩
    ·have e:i=ds.length:=by omega
     subst e;rw [List.drop_length] at hrest;cases hrest;rw [ya5] at hall;subst hall;refine .inl ⟨hJ.stop w1 F1',fun p hp=>?_⟩;obtain ⟨Rb,Fb⟩:=R0.leave W1 F1;exact q p (.lst ys) (w0.back w1) Rb (F0.trans Fb) hp (.lst (sh.up (zdf W1)))
end
end S2
namespace L2
open PySem PySem.Spec PyProof.Rows
section
variable{X:Cx}
end
end L2
namespace L2
open PySem PySem.Spec PyProof.Rows
def CXE(P:Program)(w:World):CXT:=fun outer H s E e s'=>∃(a:Addr) (cls a0:Value) (H':Hp) (B:Heap),e=.ref a/\Heap.FlyingW B outer a cls a0 s'.heap ∧
 (∀b o,s'.heap.get? b=some o->H' b≠none->B.get? b=some o)/\(∀b o,s.heap.get? b=some o->H b=none->b ∉ frs outer->B.get? b=some o) ∧
 (∀b o,s.heap.get? b=some o->b ∉ frs outer->∃o',B.get? b=some o') ∧
 s'.os=s.os/\AllBare s'.gens/\Un (frs outer) [] H H' s.heap s'.heap/\HOk P w H' s'.heap/\E cls none H'
def zbu.has{P:Program}{w:World}{H:Hp}{h:Heap}{a:Addr}{o:HO}(x:zbu P w H h a o):∃ob,h.get? a=some ob:=by
 cases o with
 | lst xs=>obtain ⟨_,_,_,_,e⟩:=x;exact ⟨_,e⟩
 | tup xs=>obtain ⟨_,_,_,ob,e,_⟩:=x;exact ⟨_,e⟩
 | dK kvs=>obtain ⟨_,_,_,_,o,_,_,e,_⟩:=x;exact ⟨_,e⟩
 | dT kvs=>obtain ⟨_,_,_,_,o,_,_,e,_⟩:=x;exact ⟨_,e⟩
 | set S n=>obtain ⟨o,_,_,_,e,_⟩:=x;exact ⟨_,e⟩
 | ins C dx fs=>obtain ⟨_,_,_,e,_⟩:=x;exact ⟨_,e⟩
 | own y=>exact x
 | xd fs=>obtain ⟨_,⟨_,_,_,e,_⟩,_⟩:=x;exact ⟨_,e⟩
 | rng lo hi=>obtain ⟨_,_,_,e⟩:=x;exact ⟨_,e⟩
 | frz ob u=>obtain ⟨e,_⟩:=x;exact ⟨_,e⟩
 | tbl ps=>exact ⟨_,(show h.get? a=some _ from x)⟩
 | met f y=>exact ⟨_,(show h.get? a=some _ from x)⟩
 | ext φ=>obtain ⟨_,e,_⟩:=x;exact e
def HOk.same{P:Program}{w:World}{H:Hp}{h h':Heap}(x:HOk P w H h)(k:∀b u,h.get? b=some u->H b≠none->h'.get? b=some u):HOk P w H h':=fun a o e =>
 (x a o e).stay (fun b u hb q=>k b u q (hb.elim (fun z=>by rw [z,e];exact yaL _) (fun z=>by rw [z];exact yaL _))) (fun _ q=>q) fun _ _ q=>q
section
variable{X:Cx}{pins:Z3}{σ:St}{H:Hp}{s:Shared}{M:Model}
def znt(l:List Env):∀env∈l,∀b,env.frame=some b->b∈frs l:=fun env he b hb=>yca.mpr ⟨env,he,hb⟩
def zjC{h':Heap}{e:Addr}{cls:Value}{vs:List Value}{E:XK}{Er:Z5}(I:Inv X pins σ H s)(hx:X.ex=[])(hs:X.stack=X.env::X.outer)(hf:X.env.frame=some X.env.locals)(mk:Heap.MadeExcOf s.heap h' e cls vs)(q:E cls none H) :
  wpAny M X.A (leaving X.env (.ref e)) (fun _ s''=>CXE X.prog X.w X.outer X.H₀ X.s₀ E (.ref e) s'') Er { s with heap:=h' }:=by
 have hfr:X.A.frames=some (X.env::X.outer):=by rw [<-hs];exact I.ok.frames
 have hst:s.heap.FunFrames X.base (X.env::X.outer):=by rw [<-hs];exact I.stack
 refine wpAny_leaves_madeW (base:=PySem.W.hideAll s.heap (frs (X.env::X.outer))) hfr hf (fun b o z=>PySem.W.of_hideAll _ z) (PySem.W.funFrames_hide hst (znt _)) mk fun h2 t fl tup _ up=>?_
 have inB:∀b o,s.heap.get? b=some o->b ∉ frs (X.env::X.outer)->(PySem.W.hideAll s.heap (frs (X.env::X.outer))).get? b=some o:=fun b o z n=>PySem.W.hideAll_get _ z n
 have sub:∀b,b∈frs (X.env::X.outer)->b=X.env.locals\/b∈X.fs:=fun b hb=>by
  rw [<-hs] at hb;exact yav.mp (I.stkSub b hb)
 have fre:∀b,b∈frs (X.env::X.outer)->H b=none:=fun b hb=>by rw [<-hs] at hb;exact I.stkFree b hb
 have old:∀b o,X.s₀.heap.get? b=some o->b ∉ frs X.outer->b ∉ frs (X.env::X.outer):=fun b o z n hb=>by
  rcases sub b hb with r | r
  ·exact absurd (yan (yas z) I.ok.above) (by rw [r];exact yaR _)
  ·exact n r
 have nx:∀b:Addr,b ∉ X.ex:=fun b z=>by rw [hx] at z;cases z
 have trk:∀b o,s.heap.get? b=some o->H b≠none->h2.get? b=some o:=fun b o z n=>fl.1 b o (inB b o z fun hb=>n (fre b hb))
 have hok2:HOk X.prog X.w H h2:=I.hok.same trk
 have slt:∀b o,s.heap.get? b=some o->b∈frs X.stack->∃sl,h2.get? b=some { o with slots:=sl }:=fun b o z hb=>by
  obtain ⟨_,o',z',hd⟩:=I.stack.mem hb;rw [z] at z';cases z';exact up b o (mk.keeps b o z) hd
 have un2:Un (frs X.stack) [] H H s.heap h2:=⟨fun b o z n hb _=>fl.1 b o (inB b o z (by rw [<-hs];exact hb)),fun b o z n hb _=>slt b o z hb,fun b o z n _=>n,
  fun b o z _=>by
   by_cases hb:b∈frs X.stack
   ·obtain ⟨sl,r⟩:=slt b o z hb;exact ⟨_,r⟩
   ·exact ⟨o,fl.1 b o (inB b o z (by rw [<-hs];exact hb))⟩,
  fun _ _ z=>z,fun _ _ _ z=>z,fun _ ps z=>⟨#[],by rw [z,Array.append_empty]⟩⟩
 have J:=I.call (g':=s.gens) (t':=s.toks) (d':=s.drawn) (ch:=[]) un2 hok2 I.bare (fun b z=>absurd z (by simp));refine ⟨e,cls,.ref t,H,_,rfl,fl,fun b o z n=>?_,fun b o z n hb=>?_,fun b o z hb=>?_,J.os,J.bare,?_,J.hok,q⟩
 ·cases k:H b with
  | none=>exact absurd k n
  | some u =>
   obtain ⟨o',z'⟩:=(I.hok b u k).has;have:=trk b o' z' n;rw [show h2.get? b=some o from z] at this;cases this;exact inB b o z' fun hb=>n (fre b hb)
 ·exact inB b o (I.base.keep b o z n hb (nx b)) (old b o z hb)
 ·obtain ⟨o',z'⟩:=I.base.there b o z (nx b);exact ⟨o',inB b o' z' (old b o z hb)⟩
 ·have:=J.base;rwa [hx] at this
def znb{e:Value}{s':Shared}{E:XK}{Er:Z5}(I:Inv X pins σ H s)(hx:X.ex=[])(hs:X.stack=X.env::X.outer)(hf:X.env.frame=some X.env.locals)(q:CXE X.prog X.w X.stack H s E e s') :
  wpAny M X.A (leaving X.env e) (fun _ s''=>CXE X.prog X.w X.outer X.H₀ X.s₀ E e s'') Er s':=by
 have hfr:X.A.frames=some (X.env::X.outer):=by rw [<-hs];exact I.ok.frames
 obtain ⟨a,cls,a0,H',B,rfl,fl,c1,c2,c3,os,bare,un,hok,q⟩:=q
 have fl':Heap.FlyingW B (X.env::X.outer) a cls a0 s'.heap:=by rw [<-hs];exact fl
 refine wpAny_leaves_onW hfr hf fl' fun h2 fl2 up=>?_
 have sub:∀b,b∈frs X.stack->b=X.env.locals\/b∈X.fs:=fun b hb=>yav.mp (I.stkSub b hb)
 have old:∀b o,X.s₀.heap.get? b=some o->b ∉ frs X.outer->b ∉ frs X.stack:=fun b o z n hb=>by
  rcases sub b hb with r | r
  ·exact absurd (yan (yas z) I.ok.above) (by rw [r];exact yaR _)
  ·exact n r
 have nx:∀b:Addr,b ∉ X.ex:=fun b z=>by rw [hx] at z;cases z
 have trk:∀b o,s'.heap.get? b=some o->H' b≠none->h2.get? b=some o:=fun b o z n=>fl2.1 b o (c1 b o z n)
 have hok2:HOk X.prog X.w H' h2:=hok.same trk
 have slt:∀b o,s.heap.get? b=some o->H b=none->b∈frs X.stack->∃sl,h2.get? b=some { o with slots:=sl }:=fun b o z n hb=>by
  obtain ⟨_,o',z',hd⟩:=I.stack.mem hb;rw [z] at z';cases z';obtain ⟨sl,r⟩:=un.slot b o z n hb (by simp);obtain ⟨sl',r'⟩:=up b ({ o with slots:=sl }:Obj) r hd;exact ⟨sl',r'⟩
 have un2:Un (frs X.stack) [] H H' s.heap h2:=⟨fun b o z n hb _=>fl2.1 b o (c2 b o z n hb),fun b o z n hb _=>slt b o z n hb,un.free,
  fun b o z _=>by
   by_cases hb:b∈frs X.stack
   ·obtain ⟨sl,r⟩:=slt b o z (I.stkFree b hb) hb;exact ⟨_,r⟩
   ·obtain ⟨o',r⟩:=c3 b o z hb
    exact ⟨o',fl2.1 b o' r⟩,
  un.tups,un.frzs,un.tbls⟩
 have J:=I.call (g':=s'.gens) (t':=s'.toks) (d':=s'.drawn) (ch:=[]) un2 hok2 bare (fun b z=>absurd z (by simp));refine ⟨a,cls,a0,H',B,rfl,fl2,fun b o z n=>?_,fun b o z n hb=>?_,fun b o z hb=>?_,os.trans I.os,bare,?_,J.hok,q⟩
 ·cases k:H' b with
  | none=>exact absurd k n
  | some u =>
   obtain ⟨o',z'⟩:=(hok b u k).has;have:=trk b o' z' n;rw [show h2.get? b=some o from z] at this;cases this;exact c1 b o z' n
 ·exact c2 b o (I.base.keep b o z n hb (nx b)) (I.base.free b o z n (nx b)) (old b o z hb)
 ·obtain ⟨o',z'⟩:=I.base.there b o z (nx b);exact c3 b o' z' (old b o z hb)
 ·have:=J.base;rwa [hx] at this
end
def zss{P:Program}{w:World}{K:PySem.W.Frag}{mg:Z6}{base:Heap}{N:List Str}{qual:Str}{scope:Scope}{f:Addr}{cd:Value}{A:Around}{outer:List Env}{s:Shared}{H:Hp}{E:XK} :
  ztX (CXE P w) (zlM (CXE P w) P w K mg base N qual scope f cd A outer s H E) E:=fun pins σ H1 s1 e s' I q =>
 znb (X:=zlM (CXE P w) P w K mg base N qual scope f cd A outer s H E) I rfl rfl rfl q
def zh4{K:PySem.W.Frag}{h:Heap}{C:Addr}{bmB:List Value}{nid:String}(k:K.In h)(z:PySem.W.excIn K C bmB nid=true) :
  ∃bm N nm qn bs hd sn sub ab col dd c0 c1 c2 c3 c5 mN,h.get? C=some (excClassObj nm qn C N bs bm hd sn sub ab col dd c0 c1 c2 c3 c5 nid)/\h.Ns N mN/\mN "__init__" = none/\OwnTail h bmB bm:=by
 unfold PySem.W.excIn at z;split at z
 case h_2=>cases z
 case h_1 dd cd sl ho =>
  split at z
  case h_2=>cases z
  case h_1 D bm c0 c1 c2 c3 n c5 e1 e2 =>
   simp only [yab,ybS,ybo] at z;obtain ⟨⟨⟨⟨⟨z1,z2⟩,z3⟩,z4⟩,z5⟩,z6⟩:=z;subst z1 z2
   have hsl:sl=#[c0,c1,c2,c3,some (.builtin n),c5]:=by
    cases sl with
    | mk l=>exact congrArg Array.mk e2
   have hcd:cd={ cd with mro:=.ref D::bm,hasDel:=false }:=by
    cases cd;simp only at e1 z3;simp only [e1,z3]
   rw [hsl,hcd] at ho;exact ⟨bm,cd.ns,cd.name,_,cd.bases,_,_,_,_,_,dd,c0,c1,c2,c3,c5,_,k _ _ ho,.of_isNs (PySem.W.isNs_of_in k z5),PySem.W.nsMap_none_of_in k z5 z6,PySem.W.tail_of_in k z4⟩
def ztW(X:Cx)(E:XK):Prop:=∀(C:Addr) (pins:Z3) (σ:St) (H:Hp) (s:Shared) (e:Addr) (h':Heap) (vs:List Value),Inv X pins σ H s->Heap.MadeExcOf s.heap h' e (.ref C) vs->E (.ref C) none H->X.xe (.ref e) { s with heap:=h' }
def zkH{P:Program}{w:World}{K:PySem.W.Frag}{mg:Z6}{base:Heap}{N:List Str}{qual:Str}{scope:Scope}{f:Addr}{cd:Value}{A:Around}{outer:List Env}{s:Shared}{H:Hp}{E:XK} :
  ztW (zlM (CXE P w) P w K mg base N qual scope f cd A outer s H E) E:=fun C pins σ H1 s1 e h' vs I mk q =>
 zjC (X:=zlM (CXE P w) P w K mg base N qual scope f cd A outer s H E) I rfl rfl rfl mk q
end L2
namespace L2
open PySem PySem.Spec PyProof.Rows
def XP(X:Cx)(pins:Z3)(σ:St)(E:XK)(e:Value)(s':Shared):Prop:=∃H1 s1,Inv X pins σ H1 s1/\CXE X.prog X.w X.stack H1 s1 E e s'
section
variable{X:Cx}{k:Nat}{f C:Addr}{fd:FuncData}{ps:List Str}{sp:Sp}{dvs:List V}{ds:List Value}{x m:Str}{p pos apos:Pos}{e o:Expr}{es:List Expr}{ta:TE}{t:TA}
end
def zgm{M:Model}{A:Around}{E:Z5}{K:PySem.W.Frag}{s:Shared}{C D e:Addr}{oe:Obj}{bC bD:List Value}{iC iD:String}{Q:Bool->Shared->Prop}(k:K.In s.heap)(zC:PySem.W.excIn K C bC iC=true)(zD:PySem.W.excIn K D bD iD=true)
  (he:s.heap.get? e=some oe) (hc:oe.cls=.ref C) (hb:bD.contains (.type "BaseException")=true) (up:∃cd d cl sl,K.lookup C=some ⟨cl,d,.cls cd,sl⟩/\cd.mro.contains (.ref D)=true) (q:Q true s):wpAny M A (excMatches (.ref e) (.ref D)) Q E s:=by
 obtain ⟨bm,N,nm,qn,bs,hd,sn,sub,ab,col,dd,c0,c1,c2,c3,c5,mN,o1,o2,o3,o4⟩:=zh4 k zC;obtain ⟨bm',N',nm',qn',bs',hd',sn',sub',ab',col',dd',d0,d1,d2,d3,d5,mN',p1,p2,p3,p4⟩:=zh4 k zD;obtain ⟨cd,d,cl,sl,lk,ct⟩:=up;have o1':=k _ _ lk;rw [o1] at o1';have hcd:=congrArg Obj.data (Option.some.inj o1')
 have hcC:(Value.ref C::bm).contains (.ref D)=true:=by
  injection hcd with h
  rwa [<-h] at ct
 have hcB:(Value.ref D::bm').contains (.type "BaseException")=true:=by rw [ycg,p4.hasType hb,Bool.or_true]
 have f:=tc_notTuple;obtain ⟨h,g,dr,t,os⟩:=s;unfold excMatches
 repeat (first | (with_reducible refine ybB he ?_;rw [hc]) | with_reducible refine ybB p1 ?_ | (with_reducible refine wpAny_isSubtype_exc p1 ?_;rw [hcB]) | (with_reducible refine wpAny_isSubtype_exc o1 ?_;rw [hcC]) | wp_step)
 exact q
end L2
namespace L2
open PySem PySem.Spec PyProof.Rows
section
variable{X:Cx}{pins:Z3}{σ:St}{H:Hp}{s:Shared}
def zqk{M:Model}{A:Around}{E:Z5}{i:Nat}{x:Str}{Q:Unit->Shared->Prop}(I:Inv X pins σ H s)(hN:X.N.Nodup)(hi:X.N[i]?=some x)(hk:X.env.scope.names.lookup x=some .local)(hv:∃v,σ[i]?=some (some v))
  (h:∀s',Inv X pins (σ.set i none) H s'->Q () s'):wpAny M A (unbindName X.env x) Q E s:=by
 obtain ⟨m,hn,hl⟩:=id I.loc
 have hcls:(X.env.scope.kind == .class||(X.env.scope.kind == .module&&X.env.locals != X.env.globals))=false:=by rw [I.ok.kind];rfl
 obtain ⟨v,hv⟩:=hv;obtain ⟨u,r,lk⟩:=hl i x v hi hv (.inl hk)
 have hm:m x=some u:=by
  rcases lk with ⟨_,z⟩ | ⟨z,_⟩
  ·exact z
  ·have z:X.env.scope.names.lookup x=some .cell\/X.env.scope.names.lookup x=some .free:=z;rw [hk] at z
   rcases z with z | z<;>cases z
 refine wpAny_unbindName_local hk hn hm hcls fun h' u' hn' hs=>h _ ?_
 have far:∀b o,X.s₀.heap.get? b=some o->b≠X.env.locals:=fun b o z=>yaB (yan (yas z) I.ok.above)
 refine ⟨I.ok,I.os,I.bare,⟨?_,?_,I.base.free,?_,I.base.tups,I.base.frzs,I.base.tbls⟩,⟨_,hn',?_⟩,?_,I.free,I.freeC,?_,?_,by simpa using I.len⟩
 ·exact fun b o z n hb hx=>(hs.2 b (far b o z)).trans (I.base.keep b o z n hb hx)
 ·exact fun b o z n hb hx=>let ⟨sl,z1⟩:=I.base.slot b o z n hb hx;⟨sl,(hs.2 b (far b o z)).trans z1⟩
 ·exact fun b o z hx=>let ⟨o',z1⟩:=I.base.there b o z hx;⟨o',(hs.2 b (far b o z)).trans z1⟩
 ·intro j y w e1 e2 e3
  have hj:j≠i:=fun z=>by
   subst z;have l1:j<σ.length:=(yag.mp hv).1;rw [yaA l1] at e2;cases e2
  rw [yaP (Ne.symm hj)] at e2;obtain ⟨u1,r1,q⟩:=hl j y w e1 e2 e3;refine ⟨u1,r1,?_⟩
  rcases q with ⟨k1,z⟩ | ⟨k1,c,z,z1⟩
  ·have ny:y≠x:=fun e=>hj (zgl hN e1 (e ▸ hi))
   exact .inl ⟨k1,by simp [ny,z]⟩
  ·exact .inr ⟨k1,c,z,z1.sameBut hs (I.cne y c z)⟩
 ·exact fun y c z=>let ⟨w,z1⟩:=I.cell y c z;⟨w,z1.sameBut hs (I.cne y c z)⟩
 ·exact fun p hp=>let ⟨z,n,ne,nf,d⟩:=I.pin p hp;⟨(hs.2 p.1 ne).trans z,n,ne,nf,d⟩
 ·exact I.hok.same fun b o z n=>(hs.2 b fun e=>n (by rw [e];exact I.free)).trans z
def zgr{M:Model}{A:Around}{E:Z5}{i:Nat}{x:Str}{pos:Pos}{Q:Unit->Shared->Prop}(I:Inv X pins σ H s)(hN:X.N.Nodup)(hi:X.N[i]?=some x)(hk:X.env.scope.names.lookup x=some .local)
  (h:∀s',Inv X pins (σ.set i none) H s'->Q () s'):wpAny M A (do bindName X.env x .none;unbindBehindTheSuite X.env x pos) Q E s:=by
 refine yaa (wpAny_bindName (zdJ (v:=.non) I hN hi (.inl hk) rfl (fun s2 I2=>?_) (.inr hk)));unfold unbindBehindTheSuite;refine ycB ?_
 have l1:i<σ.length:=by rw [I.len];exact (yag.mp hi).1
 refine zqk I2 hN hi hk ⟨.non,yaA l1⟩ fun s3 I3=>h s3 ?_
 rwa [List.set_set] at I3
end
end L2
namespace L2
open PySem PySem.Spec PyProof.Rows
section
variable{X:Cx}{pins:Z3}{σ:St}{H H':Hp}{s s':Shared}{B h2:Heap}{a:Addr}{cls a0:Value}
abbrev Cx.inH(X:Cx)(a:Addr):Cx:={ X with A:=X.A.mark (some (.ref a)),calm:=false,xe:=fun _ _=>False }
theorem Inv.inH(I:Inv X pins σ H s)(a:Addr):Inv (X.inH a) pins σ H s :=
 ⟨⟨I.ok.mod,I.ok.kind,I.ok.glob,I.ok.blt,I.ok.above,I.ok.inj,I.ok.has,I.ok.cab,(fun z=>nomatch z),I.ok.frames,I.ok.stk,I.ok.exf,I.ok.bs,I.ok.bsz,I.ok.noex,I.ok.exfs,I.ok.funs,I.ok.frf⟩,I.os,I.bare,I.base,I.loc,I.cell,I.free,I.freeC,I.pin,I.hok,I.len⟩
def Inv.outH(J:X.Ok)(I:Inv (X.inH a) pins σ H s):Inv X pins σ H s:=⟨J,I.os,I.bare,I.base,I.loc,I.cell,I.free,I.freeC,I.pin,I.hok,I.len⟩
def zfW(I:Inv X pins σ H s)(fl:Heap.FlyingW B X.stack a cls a0 h2)(up:s'.heap.UpToSlots h2)(c1:∀b o,s'.heap.get? b=some o->H' b≠none->B.get? b=some o)
  (c2:∀b o,s.heap.get? b=some o->H b=none->b ∉ frs X.stack->B.get? b=some o) (c3:∀b o,s.heap.get? b=some o->b ∉ frs X.stack->∃o',B.get? b=some o')
  (os:s'.os=s.os) (bare:AllBare s'.gens) (un:Un (frs X.stack) [] H H' s.heap s'.heap) (hok:HOk X.prog X.w H' s'.heap) :
  Inv X pins σ H' { s' with heap:=h2 }/\∃ob,ob.cls=cls/\h2.get? a=some ob/\H' a=none/\Inv X pins σ (upd H' a (.frz ob (.own a))) { s' with heap:=h2 }:=by
 have trk:∀b o,s'.heap.get? b=some o->H' b≠none->h2.get? b=some o:=fun b o z n=>fl.1 b o (c1 b o z n)
 have hok2:HOk X.prog X.w H' h2:=hok.same trk
 have slt:∀b o,s.heap.get? b=some o->H b=none->b∈frs X.stack->∃sl,h2.get? b=some { o with slots:=sl }:=fun b o z n hb=>by
  obtain ⟨_,o',z',hd⟩:=I.stack.mem hb;rw [z] at z';cases z';obtain ⟨sl,r⟩:=un.slot b o z n hb (by simp);obtain ⟨sl',r'⟩:=up b ({ o with slots:=sl }:Obj) r hd;exact ⟨sl',r'⟩
 have th:∀b o,s.heap.get? b=some o->b ∉ ([]:List Addr)->∃o',h2.get? b=some o':=fun b o z _=>by
  by_cases hb:b∈frs X.stack
  ·obtain ⟨sl,r⟩:=slt b o z (I.stkFree b hb) hb;exact ⟨_,r⟩
  ·obtain ⟨o',r⟩:=c3 b o z hb;exact ⟨o',fl.1 b o' r⟩
 have un2:Un (frs X.stack) [] H H' s.heap h2:=⟨fun b o z n hb _=>fl.1 b o (c2 b o z n hb),fun b o z n hb _=>slt b o z n hb,un.free,th,un.tups,un.frzs,un.tbls⟩;refine ⟨I.call' (s':={ s' with heap:=h2 }) (ch:=[]) os un2 hok2 bare (fun b z=>absurd z (by simp)),?_⟩;obtain ⟨oe,vs,he,hc,hd,_⟩:=fl.first
 have na:H' a=none:=by
  cases k:H' a with
  | none=>rfl
  | some u =>
   obtain ⟨o',z'⟩:=(hok a u k).has;have:=c1 a o' z' (by rw [k];exact yaL _);rw [fl.2.1] at this;cases this
 have ns:∀o,s.heap.get? a=some o->False:=fun o z=>by
  by_cases hb:a∈frs X.stack
  ·obtain ⟨_,o',z',hd'⟩:=fl.2.2.1.mem hb;rw [he] at z';cases z';exact hd' _ hd
  ·obtain ⟨o',r⟩:=c3 a o z hb;rw [fl.2.1] at r;cases r
 have ne:∀{b:Addr} {u:HO},H' b=some u->b≠a:=fun {b u} z e=>by rw [e,na] at z;cases z
 refine ⟨oe,hc,he,na,I.call' (s':={ s' with heap:=h2 }) (ch:=[]) os ⟨un2.keep,un2.slot,fun b o z n hx=>?_,th,fun b xs z=>?_,fun b o u z=>?_,fun b ps z=>?_⟩ (fun b u z=>?_) bare (fun b z=>absurd z (by simp))⟩
 ·rw [zal (a:=a) (b:=b) fun e=>ns o (by rw [<-e];exact z)];exact un.free b o z n hx
 ·have:=un.tups b xs z;rw [zal (ne this)];exact this
 ·have:=un.frzs b o u z;rw [zal (ne this)];exact this
 ·obtain ⟨more,this⟩:=un.tbls b ps z;exact ⟨more,by rw [zal (ne this)];exact this⟩
 ·by_cases e:b=a
  ·subst e;unfold upd at z;rw [if_pos rfl] at z;cases z;exact ⟨he,oe,he⟩
  ·rw [zal e] at z;exact (hok2 b u z).stay (fun _ _ _ q=>q) (fun c q=>by rw [zal (ne q)];exact q) (fun c xs q=>by rw [zal (ne q)];exact q)
end
def znX(K:PySem.W.Frag)(C D:Addr):Prop:=(∃bC iC,PySem.W.excIn K C bC iC=true)/\∃cd d cl sl,K.lookup C=some ⟨cl,d,.cls cd,sl⟩/\cd.mro.contains (.ref D)=true
def Ends.goes(D:Ends)(i:Nat):Ends:={ nx:=fun σ H=>D.nx (σ.set i none) H,rt:=D.rt,bk:=fun σ H=>D.bk (σ.set i none) H,ct:=fun σ H=>D.ct (σ.set i none) H }
def zo8{X:Cx}{a:Addr}{pins:Z3}{D:Ends}{i:Nat}{n:Str}{pos:Pos}{f:Flow}{s:Shared}{E:Z5}(J:X.Ok)(hN:X.N.Nodup)(hi:X.N[i]?=some n)(hk:X.env.scope.names.lookup n=some .local)(h:SP (X.inH a) pins (D.goes i) f s) :
  wpAny (model X.prog X.w) X.A (do bindName X.env n .none;unbindBehindTheSuite X.env n pos) (fun _ s3=>SP X pins D f s3) E s:=by
 cases f with
 | next =>
  obtain ⟨σ',H',I,q⟩:=h;exact zgr (I.outH J) hN hi hk fun s' I'=>⟨_,H',I',q⟩
 | brk =>
  obtain ⟨σ',H',I,q⟩:=h;exact zgr (I.outH J) hN hi hk fun s' I'=>⟨_,H',I',q⟩
 | cont =>
  obtain ⟨σ',H',I,q⟩:=h;exact zgr (I.outH J) hN hi hk fun s' I'=>⟨_,H',I',q⟩
 | ret u =>
  obtain ⟨v,σ',H',I,r,q⟩:=h;exact zgr (I.outH J) hN hi hk fun s' I'=>⟨v,_,H',I',r,q⟩
end L2
namespace PySem.W
open PySem
structure ExcCls(K:Frag)(C:Addr):Prop where
 ga:findIn K (.ref C) "__getattribute__" = some (some (.builtin "BaseException.__getattribute__"))
 gt:findIn K (.ref C) "__getattr__" = some none
 cl:findIn K (.ref C) "__class__" = some (some (.builtin "object.__class__"))
 ob:subIn K (.ref C) (.type "object")=some true
 be:subIn K (.ref C) (.type "BaseException")=some true
 is:∃c d cd sl,K.lookup C=some ⟨c,d,.cls cd,sl⟩
section
variable{prog:Program}{w:World}{A:Around}{E:Z5}{h:Heap}{g:Array GenState}{d:Drawn}{t:Nat}{os:OsState}{a C:Addr}{o:Obj}{K:Frag}
def zgu{R:Result->Shared->Prop}(k:K.In h)(X:ExcCls K C)(hx:h.get? a=some o)(hc:o.cls=.ref C)(hq:R (.ok (.ret (.ref C))) ⟨h,g,d,t,os⟩) :
  codeAny (model prog w) A (.call (.builtin "getset_descriptor.__get__") ⟨[.builtin "object.__class__",.ref a,.ref C],[]⟩) R ⟨h,g,d,t,os⟩:=by
 have isGs:Shared.TypeIs ⟨h,g,d,t,os⟩ (.builtin "object.__class__") "getset_descriptor":=ycq
 have f8:subIn K (.ref C) (.type (".".intercalate ("object.__class__".cutAt '.').dropLast))=some true:=by rw [F.owner_object_class];exact X.ob
 refine codeAny_call_builtin F.slot_gs_get.plain F.entry_gs_get ?_;refine F.slot_gs_get.check _ _ _ _ _ _ _ _ isGs (F.args_gs_get _ _ _) ?_
 repeat (any_goals (first | assumption | (with_reducible refine ybB hx ?_;rw [hc]) | with_reducible refine Looks.at (looks_subIn k f8) ?_ | wp_step))
 refine And.intro (Code.quiet_builtin _ (by decide +kernel)) ?_;refine codeAny_builtin F.entry_object_class ?_
 repeat (any_goals (first | assumption | (with_reducible refine ybB hx ?_;rw [hc]) | wp_step))
def zfl{tk:Tok}{Q:Fin->Shared->Prop}(k:K.In h)(X:ExcCls K C)(hx:h.get? a=some o)(hc:o.cls=.ref C)(hq:Q (.done (.ret (.ref C))) ⟨h,g,d,t,os⟩) :
  wpAny (model prog w) A (Builtin.«object.__getattribute__» { pos:=[.ref a,.str "__class__" tk],kw:=[] }) Q E ⟨h,g,d,t,os⟩:=by
 have isGs:Shared.TypeIs ⟨h,g,d,t,os⟩ (.builtin "object.__class__") "getset_descriptor":=ycq;have known:=And.intro ycq (And.intro F.slot_gs_get.lookup F.slot_gs_set.lookup);obtain ⟨p5,p6,p7⟩:=known
 repeat (any_goals (first | assumption | (with_reducible refine ybB hx ?_;rw [hc]) | with_reducible refine Looks.at (looks_findIn k X.cl) ?_ | wp_step))
 refine zgu k X hx hc ?_
 repeat any_goals first | assumption | wp_step
end
end PySem.W
namespace PySem.W
open PySem
section
variable{prog:Program}{w:World}{A:Around}{E:Z5}{h:Heap}{g:Array GenState}{d:Drawn}{t:Nat}{os:OsState}{a C:Addr}{o:Obj}{K:Frag}
def zfm{M:Model}{nameV:Value}{Q:Unit->Shared->Prop}(k:K.In h)(X:ExcCls K C)(hx:h.get? a=some o)(hc:o.cls=.ref C)(hq:Q () ⟨h,g,d,t,os⟩) :
  wpAny M A (checkBuiltinCall "BaseException.__getattribute__" ⟨[.ref a,nameV],[]⟩) Q E ⟨h,g,d,t,os⟩:=by
 have k1:builtinKind "BaseException.__getattribute__" = some .slot:=by decide +kernel
 have k2:splitId "BaseException.__getattribute__" = some ("BaseException","__getattribute__"):=by decide +kernel
 have fits:=F.args_bexc_ga (.ref a) nameV;simp only [checkBuiltinCall,k1,k2];refine yaa ?_;unfold isInstance
 repeat (first | (with_reducible refine ybB hx ?_;rw [hc]) | with_reducible refine Looks.at (looks_subIn k X.be) ?_ | wp_step)
 exact hq
def zfx{tk:Tok}{R:Result->Shared->Prop}(k:K.In h)(X:ExcCls K C)(hx:h.get? a=some o)(hc:o.cls=.ref C)(hq:R (.ok (.ret (.ref C))) ⟨h,g,d,t,os⟩) :
  codeAny (model prog w) A (.call (.builtin "BaseException.__getattribute__") ⟨[.ref a,.str "__class__" tk],[]⟩) R ⟨h,g,d,t,os⟩ :=
 codeAny_call_builtin F.attr_ValueError.ga.plain F.entry_bexc_ga (zfm k X hx hc (zfl k X hx hc hq))
def zhk{tk:Tok}{fill expr:Bool}{Q:Z5}(k:K.In h)(X:ExcCls K C)(hx:h.get? a=some o)(hc:o.cls=.ref C)(hq:Q (.ref C) ⟨h,g,d,t,os⟩) :
  wpAny (model prog w) A (getAttrBy (.ref a) (.str "__class__" tk) fill expr) Q E ⟨h,g,d,t,os⟩:=by
 have f3:=F.attr_ValueError.ga.bind (.ref a)
 have n0:(expr&&onTheHeap (Value.builtin "BaseException.__getattribute__"))=false:=by cases expr<;>rfl
 have n2:(Value.builtin "BaseException.__getattribute__" == Value.builtin "object.__getattribute__")=false:=by decide +kernel
 have n1:(onTheHeap (Value.ref C)&&Value.builtin "BaseException.__getattribute__" == Value.builtin "object.__getattribute__")=false:=by rw [n2];rfl
 repeat (any_goals (first | assumption | (with_reducible refine ybB hx ?_;rw [hc]) | with_reducible refine Looks.at (looks_findIn k X.ga) ?_ | with_reducible refine Looks.at (looks_findIn k X.gt) ?_ | wp_step))
 refine zfx k X hx hc ?_
 repeat any_goals first | assumption | wp_step
def zfy{Q:Option Value->Shared->Prop}(k:K.In h)(X:ExcCls K C)(hx:h.get? a=some o)(hc:o.cls=.ref C)(hq:Q (some (.ref C)) ⟨h,g,d,t+1,os⟩):wpAny (model prog w) A (getAttr? (.ref a) "__class__") Q E ⟨h,g,d,t,os⟩:=by
 unfold getAttr? getAttrBy?
 repeat (any_goals (first | assumption | with_reducible apply zhk k X hx hc | wp_step))
end
def znf{K:Frag}{a C:Addr}(X:ExcCls K C):KitX K (.ref a) (.ref C) (fun h=>∃o,h.get? a=some o/\o.cls=.ref C) where
 ty:=fun M h _ p=>by
  obtain ⟨o,h1,h2⟩:=p;rw [<-h2];exact Looks.andThen (Looks.ld h1) .now
 it:=fun _ _ k _=>by
  obtain ⟨c,d,cd,sl,lk⟩:=X.is;intro A' Q' E' s' kk q;unfold isType loadHead;exact yaa (wpAny_loadPart (kk _ _ (k _ _ lk)) (yah q))
 ne:=fun h tp dd its n sl k htp=>by
  obtain ⟨c,d,cd,sl',lk⟩:=X.is;refine Bool.eq_false_iff.mpr fun q=>?_
  have e:C=tp:=Value.ref.inj (ybS.mp q);have z:=k _ _ lk;rw [e,htp] at z;cases z
 ca:=fun {_ _ _ _ _ s} k p q=>by
  obtain ⟨o,h1,h2⟩:=p;obtain ⟨h,g,d,t,os⟩:=s;exact zfy k X h1 h2 q
end PySem.W
namespace L2
open PySem PySem.Spec PyProof.Rows
def zjS{X:Cx}:zd4 X (.builtin "isinstance") (fun xs H Q=>∃(a C:Addr) (ob:Obj) (c:V) (cv:Value) (k:Bool),xs=[.ref a,c]/\H a=some (.frz ob (.own a))/\ob.cls=.ref C/\PySem.W.ExcCls X.K C/\(∀u,za2 c u->u=cv)/\PySem.W.kitOne X.K (.ref C) cv=some k/\Q (.bl k) H):=by
 intro pins s σ H xs us Q I r h;obtain ⟨a,C,ob,c,cv,k,rfl,ha,hc,Z,hv,e,q⟩:=h
 cases r with
 | cons r1 rr =>
  cases rr with
  | cons r2 r3 =>
   cases r3;cases (show _=Value.ref a from r1);rw [hv _ r2];obtain ⟨h1,_⟩:=(show zbu X.prog X.w H s.heap a (.frz ob (.own a)) from I.hok a _ ha);exact ya4 (PySem.W.znf Z) I.kIn ⟨ob,h1,hc⟩ e (fun z=>nomatch z) fun tk=>⟨.bl k,H,I.tok tk,rfl,q⟩
end L2
namespace L2
open PySem PySem.Spec PyProof.Rows PySem.SeqAt
section
variable{X:Cx}
end
end L2
namespace L2
open PySem PySem.Spec PyProof.Rows
theorem ziE(ns:List Int):∀j,j<=ns.length->preSum (fun i=>ns.getD i 0) j=(ns.take j).sum
 | 0,_=>by rw [List.take_zero];rfl
 | j+1,h=>by
  have ih:=ziE ns j (by omega);show preSum _ j+ns.getD j 0=_
  have e:ns.take (j+1)=ns.take j++[ns[j]]:=by rw [ycV,yac (by omega)];rfl
  have e2:ns.getD j 0=ns[j]:=by simp [List.getD,show j<ns.length by omega]
  rw [ih,e,e2,List.sum_append];simp
theorem zg0(ns:List Int)(h:∀n∈ns,0<=n/\n<=1000000):∀j,j<=ns.length->0<=preSum (fun i=>ns.getD i 0) j/\preSum (fun i=>ns.getD i 0) j<=1000000*(j:Int)
 | 0,_=>⟨Int.le_refl _,Int.le_refl _⟩
 | j+1,hj=>by
  have ih:=zg0 ns h j (by omega)
  have e:ns.getD j 0=ns[j]:=by simp [List.getD,show j<ns.length by omega]
  have hb:=h ns[j] (ybt (by omega));show 0<=preSum _ j+ns.getD j 0/\preSum _ j+ns.getD j 0<=_;rw [e]
  push_cast
  omega
section
variable{X:Cx}
def znO(hc:X.calm=true):zd4 X (.builtin "sum") (fun xs H Q=>∃(p:Addr) (ns:List Int),xs=[.ref p]/\SqL X.K H p (ns.map V.int)/\ns.length<=1000/\(∀n∈ns,0<=n/\n<=1000000)/\Q (.int ns.sum) H):=by
 intro pins s σ H xs us Q I r h;obtain ⟨p,ns,rfl,hq,hl1000,hb,q⟩:=h;obtain ⟨u,rfl,rx⟩:=zhD r;cases rx;obtain ⟨its,rv,pl,hz⟩:=I.list hq;have hl:=pl.isList
 have hlt:p<s.heap.objs.size:=by obtain ⟨_,e,_⟩:=hl;exact yas e
 have hn:its.length=ns.length:=by have:=rv.length;rw [yaf] at this;exact this.symm
 refine call_sum_walk (ycm hl ?_);refine ⟨s.heap.objs.size,[s.heap.objs.size,p],[s.heap.objs.size],its.toArray.size,_,_,fun i=>ns.getD i 0,rfl,Walks.list (A:=X.A.in1) (I.ok.hd hc) _ p (yaB hlt) its.toArray,⟨⟨_,yar _ rfl,rfl,rfl⟩,hl.push _⟩,fun b hm=>?_,fun i v hP=>?_,fun j hj=>?_,fun h' tk t' hk=>?_⟩
 ·show b<(s.heap.push _).objs.size;rw [yaV];simp only [yav,yaJ,ybU] at hm
  rcases hm with z | z
  ·rw [z];exact yb3 _
  ·rw [z];exact Nat.lt_succ_of_lt hlt
 ·have hv:its[i]?=some v:=by simpa using hP
  have hi:i<ns.length:=by rw [<-hn];exact (yag.mp hv).1
  obtain ⟨u,hu,ru⟩:=rv.get (i:=i) (x:=.int ns[i]) (by rw [yao,yac hi];rfl);rw [hv] at hu;cases hu;obtain ⟨t,rfl⟩:=ru;exact ⟨t,by simp [List.getD,hi]⟩
 ·rw [yak,hn] at hj;have h1:=zg0 ns hb (j+1) hj
  have e:ns.getD j 0=ns[j]:=by simp [List.getD,hj]
  have h2:=hb ns[j] (ybt hj);refine ⟨?_,?_⟩
  ·show InLong (ns.getD j 0);rw [e];exact ⟨by omega,by omega⟩
  ·have:((j+1:Nat):Int)<=1000:=by omega
   exact ⟨by omega,by omega⟩
 ·rw [yak,hn,ziE ns ns.length (yam _),List.take_length];refine ⟨.int _,H,I.kept (t':=tk) fun b o e=>?_,⟨t',rfl⟩,q⟩;exact hk b o (fun hm=>by rw [yaQ.mp hm] at e;exact yaR _ (yas e)) (yad _ e)
end
end L2
namespace S2
open PySem PySem.Spec PyProof.Rows L2
mutual
def D.py:D->PyData
 | .non=>.none
 | .bl b=>.bool b
 | .int i=>.int i
 | .str x=>.str x
 | .tup l=>.tuple (D.pys l)
 | .lst l=>.list (D.pys l)
 | .scr l=>.list (l.map PyData.int)
 | .dic _=>.none
 | .ref _=>.none
 | .exc _=>.none
def D.pys:List D->List PyData
 | []=>[]
 | d::l=>d.py::D.pys l
end
mutual
def D.fit:Nat->D->Bool
 | _,.non=>true
 | _,.bl _=>true
 | _,.int _=>true
 | _,.str x=>PyData.strOk x
 | 0,.tup _=>false
 | n+1,.tup l=>D.fits n l
 | 0,.lst _=>false
 | n+1,.lst l=>D.fits n l
 | 0,.scr _=>false
 | _+1,.scr _=>true
 | _,.dic _=>false
 | _,.ref _=>false
 | _,.exc _=>false
def D.fits:Nat->List D->Bool
 | _,[]=>true
 | n,d::l=>d.fit n&&D.fits n l
end
theorem D.fits_iff{n:Nat}:∀{l:List D},D.fits n l=true↔∀d∈l,d.fit n=true
 | []=>by simp [D.fits]
 | d::l=>by simp [D.fits,D.fits_iff (l:=l)]
theorem ziS:∀(l:List Int),PyData.canLayAll0 (l.map PyData.int)=true/\PyData.depthAll (l.map PyData.int)=0
 | []=>⟨rfl,rfl⟩
 | i::l=>by
  obtain ⟨a,b⟩:=ziS l;exact ⟨by simp [PyData.canLayAll0,PyData.canLay0,a],by simp [PyData.depthAll,PyData.depth,b]⟩
mutual
theorem D.lay:∀{n:Nat} {d:D},d.fit n=true->d.py.canLay0=true/\d.py.depth<=n
 | _,.non,_=>⟨rfl,ybm _⟩
 | _,.bl _,h=>⟨rfl,ybm _⟩
 | _,.int _,_=>⟨rfl,ybm _⟩
 | _,.str x,h=>⟨by simpa [D.fit,D.py,PyData.canLay0] using h,ybm _⟩
 | 0,.tup _,h=>by simp [D.fit] at h
 | 0,.lst _,h=>by simp [D.fit] at h
 | 0,.scr _,h=>by simp [D.fit] at h
 | n+1,.scr l,h=>by
  obtain ⟨a,b⟩:=ziS l;exact ⟨by simpa [D.py,PyData.canLay0] using a,by simp only [D.py,PyData.depth];omega⟩
 | _,.dic _,h=>by simp [D.fit] at h
 | _,.ref _,h=>by simp [D.fit] at h
 | _,.exc _,h=>by simp [D.fit] at h
 | n+1,.tup l,h=>by
  have h':D.fits n l=true:=by simpa [D.fit] using h
  obtain ⟨a,b⟩:=D.lays h';exact ⟨by simpa [D.py,PyData.canLay0] using a,by simp only [D.py,PyData.depth];omega⟩
 | n+1,.lst l,h=>by
  have h':D.fits n l=true:=by simpa [D.fit] using h
  obtain ⟨a,b⟩:=D.lays h';exact ⟨by simpa [D.py,PyData.canLay0] using a,by simp only [D.py,PyData.depth];omega⟩
theorem D.lays:∀{n:Nat} {l:List D},D.fits n l=true->PyData.canLayAll0 (D.pys l)=true/\PyData.depthAll (D.pys l)<=n
 | _,[],_=>⟨rfl,ybm _⟩
 | n,d::l,h=>by
  simp only [D.fits,yab] at h;obtain ⟨a,b⟩:=D.lay h.1;obtain ⟨c,e⟩:=D.lays h.2;exact ⟨by simp [D.pys,PyData.canLayAll0,a,c],by simp only [D.pys,PyData.depthAll];omega⟩
end
section
variable{X:Cx}{cl:Cf}{w:Wd}
def TopV.lstI{v:V}{ds:List D}(h:TopV cl w v (.lst ds)):∃a xs,v=.ref a/\w.H a=some (.lst xs)/\Shds cl w xs ds:=by
 cases h with
 | sh h=>cases h with
  | lst e k r=>exact ⟨_,_,rfl,e,r⟩
 | ow e t=>cases t with
  | lst r=>exact ⟨_,_,rfl,e,r⟩
def TopV.tupI{v:V}{ds:List D}(h:TopV cl w v (.tup ds)):∃a xs,v=.ref a/\w.H a=some (.tup xs)/\w.ow a=none/\Shds cl w xs ds:=by
 cases h with
 | sh h=>cases h with
  | tup e k r=>exact ⟨_,_,rfl,e,k,r⟩
 | ow e t=>cases t
def TopV.intI{v:V}{i:Int}(h:TopV cl w v (.int i)):v=.int i:=by
 cases h with
 | sh h=>cases h;rfl
 | ow e t=>cases t
def TopV.strI{v:V}{i:Str}(h:TopV cl w v (.str i)):v=.str i:=by
 cases h with
 | sh h=>cases h;rfl
 | ow e t=>cases t
def TopV.blI{v:V}{i:Bool}(h:TopV cl w v (.bl i)):v=.bl i:=by
 cases h with
 | sh h=>cases h;rfl
 | ow e t=>cases t
def TopV.nonI{v:V}(h:TopV cl w v .non):v=.non:=by
 cases h with
 | sh h=>cases h;rfl
 | ow e t=>cases t
def Shd.scrI{v:V}{l:List Int}(hK:X.K=cl.K)(h:Shd cl w v (.scr l)):∃a,v=.ref a/\SqL X.K w.H a (l.map V.int):=by
 cases h with
 | scr e k=>exact ⟨_,rfl,.inl (.inr ⟨_,e⟩)⟩
 | scrK h=>exact ⟨_,rfl,by rw [hK];exact h _⟩
theorem TopV.scrI{v:V}{l:List Int}(hK:X.K=cl.K)(h:TopV cl w v (.scr l)):∃a,v=.ref a/\SqL X.K w.H a (l.map V.int):=by
 cases h with
 | sh h=>exact h.scrI hK
 | ow e t=>cases t
def ziC{pins:Z3}{σ:St}{s:Shared}(I:Inv X pins σ w.H s)(hK:X.K=cl.K){v:V}{l:List Int}(h:Shd cl w v (.scr l)){u:Value}(r:za2 v u):∃as,Reads s.heap u (D.scr l).py as:=by
  obtain ⟨a,rfl,hq⟩:=h.scrI hK;cases r;obtain ⟨its,rv,p,_⟩:=I.list hq;obtain ⟨o,ho,hc,n,hd⟩:=id p.isList
  have go:∀{l:List Int} {us:List Value},Vals (l.map V.int) us->∃as,ReadsAll s.heap us (l.map PyData.int) as:=by
   intro l
   induction l with
   | nil=>intro us h;cases h;exact ⟨_,.nil⟩
   | cons i l ih =>
    intro us h
    cases h with
    | cons h1 h2 =>
     obtain ⟨t,rfl⟩:=h1;obtain ⟨as,ra⟩:=ih h2;exact ⟨_,.cons (.int i t) ra⟩
  obtain ⟨as,ra⟩:=go rv;exact ⟨_,.list ho hc hd (by simpa using ra)⟩
mutual
theorem zr5{pins:Z3}{σ:St}{s:Shared}(I:Inv X pins σ w.H s)(hK:X.K=cl.K):∀{v:V} {d:D} {n:Nat},Shd cl w v d->d.fit n=true->∀{u:Value},za2 v u->∃as,Reads s.heap u d.py as
 | _,_,_,.non,_,_,r=>by cases r;exact ⟨_,.none⟩
 | _,_,_,.bl b,_,_,r=>by cases r;exact ⟨_,.bool b⟩
 | _,_,_,.int i,_,_,r=>by obtain ⟨t,rfl⟩:=r;exact ⟨_,.int i t⟩
 | _,_,_,.str x,_,_,r=>by obtain ⟨t,rfl⟩:=r;exact ⟨_,.str x t⟩
 | _,_,0,.tup _ _ _,h,_,_=>by simp [D.fit] at h
 | _,_,0,.lst _ _ _,h,_,_=>by simp [D.fit] at h
 | _,_,n+1,.tup (a:=a) e _ rs,h,_,r=>by
  cases r;obtain ⟨its,rv,p,_⟩:=I.tuple (SqT.of (K:=X.K) e);obtain ⟨o,ho,hc,n,hd⟩:=id p;obtain ⟨as,ra⟩:=zdq I hK rs (by simpa [D.fit] using h) rv;exact ⟨_,.tuple ho hc hd (by simpa using ra)⟩
 | _,_,n+1,.lst (a:=a) e _ rs,h,_,r=>by
  cases r;obtain ⟨its,rv,p,_⟩:=I.list (SqL.of (K:=X.K) e);obtain ⟨o,ho,hc,n,hd⟩:=id p.isList;obtain ⟨as,ra⟩:=zdq I hK rs (by simpa [D.fit] using h) rv;exact ⟨_,.list ho hc hd (by simpa using ra)⟩
 | _,_,n,.scr e k,h,_,r=>ziC I hK (.scr e k) r
 | _,_,n,.scrK e,h,_,r=>ziC I hK (.scrK e) r
 | _,_,n,.dicK _ _ _,h,_,_=>by simp [D.fit] at h
 | _,_,n,.dicT _ _ _,h,_,_=>by simp [D.fit] at h
 | _,_,n,.ref _,h,_,_=>by simp [D.fit] at h
 | _,_,n,.exc _ _ _,h,_,_=>by simp [D.fit] at h
theorem zdq{pins:Z3}{σ:St}{s:Shared}(I:Inv X pins σ w.H s)(hK:X.K=cl.K):∀{vs:List V} {ds:List D} {n:Nat},Shds cl w vs ds->D.fits n ds=true->∀{us:List Value},Vals vs us->∃as,ReadsAll s.heap us (D.pys ds) as
 | _,_,_,.nil,_,_,r=>by cases r;exact ⟨_,.nil⟩
 | _,_,n,.cons h t,f,_,r=>by
  simp only [D.fits,yab] at f
  cases r with
  | cons r1 r2 =>
   obtain ⟨as,a⟩:=zr5 I hK h f.1 r1;obtain ⟨bs,b⟩:=zdq I hK t f.2 r2;exact ⟨_,.cons a b⟩
end
def zgY{pins:Z3}{σ:St}{s:Shared}(I:Inv X pins σ w.H s)(hK:X.K=cl.K){v:V}{d:D}{n:Nat}(h:TopV cl w v d)(f:d.fit n=true){u:Value}(r:za2 v u):∃as,Reads s.heap u d.py as:=by
 cases h with
 | sh h=>exact zr5 I hK h f r
 | ow e t =>
  cases t with
  | lst rs =>
   cases n with
   | zero=>simp [D.fit] at f
   | succ n =>
    cases r;obtain ⟨its,rv,p,_⟩:=I.list (SqL.of (K:=X.K) e);obtain ⟨o,ho,hc,n,hd⟩:=id p.isList;obtain ⟨as,ra⟩:=zdq I hK rs (by simpa [D.fit] using f) rv;exact ⟨_,.list ho hc hd (by simpa using ra)⟩
  | dicK _=>simp [D.fit] at f
  | dicT _=>simp [D.fit] at f
def zfs(d e:D):Bool:=d.py.eqv e.py
def eqD(d e:D):Option D:=if d.fit 9&&e.fit 9 then some (.bl (zfs d e)) else none
def neD(d e:D):Option D:=if d.fit 9&&e.fit 9 then some (.bl (!zfs d e)) else none
def zvA(hK:X.K=cl.K)(hu:X.A.units+64<cLine):OpD X cl (compareOp .Eq) eqD:=by
 intro pins s σ H x y v u Q I rx ry h;obtain ⟨w,d,e,r,rfl,hx,hy,hg,q⟩:=h;unfold eqD at hg;split at hg
 ·rename_i hf;cases hg;rw [yab] at hf;obtain ⟨as,ra⟩:=zgY I hK hx hf.1 rx;obtain ⟨bs,rb⟩:=zgY I hK hy hf.2 ry;obtain ⟨l1,d1⟩:=D.lay hf.1;obtain ⟨l2,d2⟩:=D.lay hf.2;exact SeqAt.compareEq_reads ra rb l1 l2 (by omega) ⟨.bl _,w.H,I,rfl,q _ w (Grow.refl _) (.bl _)⟩
 ·cases hg
def zvy(hK:X.K=cl.K)(hu:X.A.units+64<cLine):OpD X cl (compareOp .NotEq) neD:=by
 intro pins s σ H x y v u Q I rx ry h;obtain ⟨w,d,e,r,rfl,hx,hy,hg,q⟩:=h;unfold neD at hg;split at hg
 ·rename_i hf;cases hg;rw [yab] at hf;obtain ⟨as,ra⟩:=zgY I hK hx hf.1 rx;obtain ⟨bs,rb⟩:=zgY I hK hy hf.2 ry;obtain ⟨l1,d1⟩:=D.lay hf.1;obtain ⟨l2,d2⟩:=D.lay hf.2;exact SeqAt.compareNe_reads ra rb l1 l2 (by omega) ⟨.bl _,w.H,I,rfl,q _ w (Grow.refl _) (.bl _)⟩
 ·cases hg
def zf8:D->Option (List D) | .lst l=>some l | .tup l=>some l | _=>none
def zhC(d:D)(l:List D):Bool:=l.any fun e=>zfs e d
def inD(d e:D):Option D:=match zf8 e with | some l=>if d.fit 8&&D.fits 8 l then some (.bl (zhC d l)) else none | none=>none
def zm2(d e:D):Option D:=match zf8 e with | some l=>if d.fit 8&&D.fits 8 l then some (.bl (!zhC d l)) else none | none=>none
def zdm{s:Shared}{its:List Value}{ds:List D}{as:List Addr}{d:D}(ra:ReadsAll s.heap its (D.pys ds) as)(f:D.fits 8 ds=true):(its.toArray.any fun y=>(SeqAt.readOf s.heap y).eqv d.py)=zhC d ds:=by
 rw [SeqAt.any_by_data (vs:=its.toArray) (xs:=D.pys ds) (as:=as) (by simpa using ra) (D.lays f).1]
 have:∀{l:List D},((D.pys l).any fun y=>y.eqv d.py)=zhC d l:=by
  intro l
  induction l with
  | nil=>rfl
  | cons e l ih =>
   show (e.py.eqv d.py||(D.pys l).any fun y=>y.eqv d.py)=(zfs e d||zhC d l);rw [ih];rfl
 exact this
theorem zca{A:Around}{s:Shared}{x:Value}{d:D}{bs:List Addr}(hu:A.units+64<cLine)(rx:Reads s.heap x d.py bs)(fd:d.fit 8=true):∀{its:List Value} {ds:List D} {as:List Addr},ReadsAll s.heap its (D.pys ds) as->D.fits 8 ds=true->∀y,y∈its.toArray->SeqAt.EqAt A.in1 s y x ((SeqAt.readOf s.heap y).eqv d.py)
 | [],[],_,_,_,y,hy=>by simp at hy
 | [],_::_,_,h,_,_,_=>by cases h
 | _::_,[],_,h,_,_,_=>by cases h
 | v::its,e::ds,_,h,f,y,hy=>by
  simp only [D.fits,yab] at f
  cases h with
  | cons h1 h2 =>
   simp at hy
   rcases hy with rfl | hy
   ·rw [zhO (D.lay f.1).1 h1];refine SeqAt.eqAt_reads _ _ _ _ _ _ _ _ h1 rx (D.lay f.1).1 (D.lay fd).1 ?_;have:=(D.lay f.1).2;show A.units+1+_<cLine;omega
   ·exact zca hu rx fd h2 f.2 y (by simpa using hy)
def zkq{e:D}{l:List D}(h:zf8 e=some l):e=.lst l\/e=.tup l:=by
 cases e<;>simp [zf8] at h
 ·exact .inr (by rw [h])
 ·exact .inl (by rw [h])
def zvz(hK:X.K=cl.K)(hu:X.A.units+64<cLine):OpD X cl (compareOp .In) inD:=by
 intro pins s σ H x y v u Q I rx ry h;obtain ⟨w,d,e,r,rfl,hx,hy,hg,q⟩:=h;unfold inD at hg;split at hg
 ·rename_i l hl;split at hg
  ·rename_i hf;cases hg;rw [yab] at hf;obtain ⟨bs,rb⟩:=zgY I hK hx hf.1 rx
   rcases zkq hl with rfl | rfl
   ·obtain ⟨a,xs,rfl,e,rs⟩:=hy.lstI;cases ry;obtain ⟨its,rv,p,_⟩:=I.list (SqL.of (K:=X.K) e);obtain ⟨as,ra⟩:=zdq I hK rs hf.2 rv;refine SeqAt.in_listAt _ p.isList (zca hu rb hf.1 ra hf.2) ?_;rw [zdm ra hf.2];exact ⟨.bl _,w.H,I,rfl,q _ w (Grow.refl _) (.bl _)⟩
   ·obtain ⟨a,xs,rfl,e,_,rs⟩:=hy.tupI;cases ry;obtain ⟨its,rv,p,_⟩:=I.tuple (SqT.of (K:=X.K) e);obtain ⟨as,ra⟩:=zdq I hK rs hf.2 rv;refine SeqAt.in_tupleAt _ p (zca hu rb hf.1 ra hf.2) ?_;rw [zdm ra hf.2];exact ⟨.bl _,w.H,I,rfl,q _ w (Grow.refl _) (.bl _)⟩
  ·cases hg
 ·cases hg
def zsC(hK:X.K=cl.K)(hu:X.A.units+64<cLine):OpD X cl (compareOp .NotIn) zm2:=by
 intro pins s σ H x y v u Q I rx ry h;obtain ⟨w,d,e,r,rfl,hx,hy,hg,q⟩:=h;unfold zm2 at hg;split at hg
 ·rename_i l hl;split at hg
  ·rename_i hf;cases hg;rw [yab] at hf;obtain ⟨bs,rb⟩:=zgY I hK hx hf.1 rx
   rcases zkq hl with rfl | rfl
   ·obtain ⟨a,xs,rfl,e,rs⟩:=hy.lstI;cases ry;obtain ⟨its,rv,p,_⟩:=I.list (SqL.of (K:=X.K) e);obtain ⟨as,ra⟩:=zdq I hK rs hf.2 rv;refine SeqAt.notIn_listAt _ p.isList (zca hu rb hf.1 ra hf.2) ?_;rw [zdm ra hf.2];exact ⟨.bl _,w.H,I,rfl,q _ w (Grow.refl _) (.bl _)⟩
   ·obtain ⟨a,xs,rfl,e,_,rs⟩:=hy.tupI;cases ry;obtain ⟨its,rv,p,_⟩:=I.tuple (SqT.of (K:=X.K) e);obtain ⟨as,ra⟩:=zdq I hK rs hf.2 rv;refine SeqAt.notIn_tupleAt _ p (zca hu rb hf.1 ra hf.2) ?_;rw [zdm ra hf.2];exact ⟨.bl _,w.H,I,rfl,q _ w (Grow.refl _) (.bl _)⟩
  ·cases hg
 ·cases hg
def zby:D->D->Option D
 | .int i,.int j=>some (.int (i+j))
 | .tup a,.tup b=>if small (a.length+b.length) then some (.tup (a++b)) else none
 | .lst a,.lst b=>if small (a.length+b.length) then some (.lst (a++b)) else none
 | .str a,.str b=>if small (a.length+b.length) then some (.str (a++b)) else none
 | _,_=>none
def zsI:OpD X cl (binaryOp .Add) zby:=by
 intro pins s σ H x y v u Q I rx ry h;obtain ⟨w,d,e,r,rfl,hx,hy,hg,q⟩:=h;unfold zby at hg;split at hg
 ·cases hg;rename_i i j;obtain rfl:=hx.intI;obtain rfl:=hy.intI;exact zsy pins s σ w.H _ _ v u Q I rx ry ⟨i,j,rfl,rfl,q _ w (Grow.refl _) (.int _)⟩
 ·rename_i a b;split at hg
  ·rename_i hz;cases hg;obtain ⟨p,xs,rfl,ep,kp,rs⟩:=hx.tupI;obtain ⟨p2,ys,rfl,ep2,kp2,rs2⟩:=hy.tupI
   by_cases hxe:xs=[]
   ·subst hxe;cases rs;exact zmY pins s σ w.H _ _ v u Q I rx ry ⟨p,p2,ys,rfl,rfl,SqT.of ep,SqT.of ep2,q _ w (Grow.refl _) (.tup ep2 kp2 rs2)⟩
   ·refine zpM pins s σ w.H _ _ v u Q I rx ry ⟨p,p2,xs,ys,rfl,rfl,SqT.of ep,SqT.of ep2,hxe,by rw [rs.length,rs2.length];exact za9 hz,fun z=>?_,fun z l hl=>?_⟩
    ·subst z;cases rs2;rw [ya5] at q;exact q _ w (Grow.refl _) (.tup ep kp rs)
    ·exact q _ (w.add l _) (zaA hl _) (Shd.newT hl (rs.append rs2))
  ·cases hg
 ·rename_i a b;split at hg
  ·rename_i hz;cases hg;obtain ⟨p,xs,rfl,ep,rs⟩:=hx.lstI;obtain ⟨p2,ys,rfl,ep2,rs2⟩:=hy.lstI;exact zsx pins s σ w.H _ _ v u Q I rx ry ⟨p,p2,xs,ys,rfl,rfl,ep,ep2,by rw [rs.length,rs2.length];exact za9 hz,fun l hl=>q _ (w.add l _) (zaA hl _) (Shd.newL hl (rs.append rs2))⟩
  ·cases hg
 ·rename_i a b;split at hg
  ·rename_i hz;cases hg;obtain rfl:=hx.strI;obtain rfl:=hy.strI;exact zjt pins s σ w.H _ _ v u Q I rx ry ⟨a,b,rfl,rfl,za9 hz,q _ w (Grow.refl _) (.str _)⟩
  ·cases hg
 ·cases hg
def zmd:D->D->Option D | .int i,.int j=>some (.int (i-j)) | _,_=>none
def zsB:OpD X cl (binaryOp .Sub) zmd:=by
 intro pins s σ H x y v u Q I rx ry h;obtain ⟨w,d,e,r,rfl,hx,hy,hg,q⟩:=h;unfold zmd at hg;split at hg
 ·cases hg;rename_i i j;obtain rfl:=hx.intI;obtain rfl:=hy.intI;exact zst pins s σ w.H _ _ v u Q I rx ry ⟨i,j,rfl,rfl,q _ w (Grow.refl _) (.int _)⟩
 ·cases hg
def zcr(i:Int):Bool:=decide (-(2 ^ 64)<i/\i<2 ^ 64)
def zgF:D->D->Option D
 | .int i,.int j=>if zcr i||zcr j then some (.int (i*j)) else none
 | .tup a,.int j=>if decide (1<=j/\j<=1000/\a≠[]/\a.length<=1000) then some (.tup (List.replicate j.toNat a).flatten) else none
 | .lst a,.int j=>if decide (0<=j/\j<=1000/\a.length<=1000) then some (.lst (List.replicate j.toNat a).flatten) else none
 | _,_=>none
def zsD:OpD X cl (binaryOp .Mult) zgF:=by
 intro pins s σ H x y v u Q I rx ry h;obtain ⟨w,d,e,r,rfl,hx,hy,hg,q⟩:=h;unfold zgF at hg;split at hg
 ·rename_i i j;split at hg
  ·rename_i hz;cases hg;obtain rfl:=hx.intI;obtain rfl:=hy.intI;refine zsu pins s σ w.H _ _ v u Q I rx ry ⟨i,j,rfl,rfl,?_,q _ w (Grow.refl _) (.int _)⟩;rw [ycI] at hz;exact hz.imp (fun z=>yat z) fun z=>yat z
  ·cases hg
 ·rename_i a j;split at hg
  ·rename_i hz;cases hg;have hz':=yat hz;obtain ⟨p,xs,rfl,ep,kp,rs⟩:=hx.tupI;obtain rfl:=hy.intI;have hl:=rs.length;obtain ⟨k,rfl⟩:∃k:Nat,j=(k:Int):=⟨j.toNat,by omega⟩;have hne:xs≠[]:=fun z=>hz'.2.2.1 (by cases a with | nil=>rfl | cons _ _=>rw [z] at hl;cases hl)
   by_cases hk:k=1
   ·subst hk;cases rx;obtain ⟨t,rfl⟩:=ry;obtain ⟨its,rv,⟨o,ho,hc,n,hd⟩,_⟩:=I.tuple (SqT.of (K:=X.K) ep);refine PySem.zm4 ho hc hd ⟨.ref p,w.H,I,rfl,q _ w (Grow.refl _) (.tup ep kp ?_)⟩;simpa using rs
   ·refine zpJ pins s σ w.H _ _ v u Q I rx ry ⟨p,k,xs,rfl,rfl,SqT.of ep,hne,by omega,by omega,by omega,fun l hl=>q _ (w.add l _) (zaA hl _) (Shd.newT hl (rs.flat _))⟩
  ·cases hg
 ·rename_i a j;split at hg
  ·rename_i hz;cases hg;have hz':=yat hz;obtain ⟨p,xs,rfl,ep,rs⟩:=hx.lstI;obtain rfl:=hy.intI;have hl:=rs.length;refine zof pins s σ w.H _ _ v u Q I rx ry ⟨p,j,xs,rfl,rfl,ep,by omega,by omega,?_,fun l hl=>q _ (w.add l _) (zaA hl _) (Shd.newL hl (rs.flat _))⟩;refine yaj (ya0 (show xs.length<=1000 by omega) (show j.toNat<=1000 by omega)) (by decide)
  ·cases hg
 ·cases hg
def zjZ:D->D->Option D | .int i,.int j=>if 0<j then some (.int (i % j)) else none | _,_=>none
def ztx:D->D->Option D | .int i,.int j=>if 0<j/\j<1073741824 then some (.int (i / j)) else none | _,_=>none
def zsE:OpD X cl (binaryOp .Mod) zjZ:=by
 intro pins s σ H x y v u Q I rx ry h;obtain ⟨w,d,e,r,rfl,hx,hy,hg,q⟩:=h;unfold zjZ at hg;split at hg
 ·rename_i i j;split at hg
  ·rename_i hz;cases hg;obtain rfl:=hx.intI;obtain rfl:=hy.intI;exact zsv pins s σ w.H _ _ v u Q I rx ry ⟨i,j,rfl,rfl,hz,q _ w (Grow.refl _) (.int _)⟩
  ·cases hg
 ·cases hg
def zsH:OpD X cl (binaryOp .FloorDiv) ztx:=by
 intro pins s σ H x y v u Q I rx ry h;obtain ⟨w,d,e,r,rfl,hx,hy,hg,q⟩:=h;unfold ztx at hg;split at hg
 ·rename_i i j;split at hg
  ·rename_i hz;cases hg;obtain rfl:=hx.intI;obtain rfl:=hy.intI;exact zpL pins s σ w.H _ _ v u Q I rx ry ⟨i,j,rfl,rfl,hz,q _ w (Grow.refl _) (.int _)⟩
  ·cases hg
 ·cases hg
def zmg:D->Option D | .int i=>some (.int (-i)) | _=>none
def zrh:UnD X cl (unaryOp .USub) zmg:=by
 intro pins s σ H x v Q I rx h;obtain ⟨w,d,r,rfl,hx,hg,q⟩:=h;unfold zmg at hg;split at hg
 ·cases hg;rename_i i;obtain rfl:=hx.intI;exact zrg pins s σ w.H _ v Q I rx ⟨i,rfl,q _ w (Grow.refl _) (.int _)⟩
 ·cases hg
def zq0(p:Int->Int->Bool):D->D->Option D | .int i,.int j=>some (.bl (p i j)) | _,_=>none
def zgk{op:CmpOp}{p:Int->Int->Bool}(ho:OpR X (compareOp op) (rI0 fun i j=>.bl (p i j))):OpD X cl (compareOp op) (zq0 p):=by
 intro pins s σ H x y v u Q I rx ry h;obtain ⟨w,d,e,r,rfl,hx,hy,hg,q⟩:=h;unfold zq0 at hg;split at hg
 ·cases hg;rename_i i j;obtain rfl:=hx.intI;obtain rfl:=hy.intI;exact ho pins s σ w.H _ _ v u Q I rx ry ⟨i,j,rfl,rfl,q _ w (Grow.refl _) (.bl _)⟩
 ·cases hg
def zc0:D->Bool | .non=>true | _=>false
def znk(d e:D):Option D:=if zc0 e then some (.bl (zc0 d)) else none
def zk7(d e:D):Option D:=if zc0 e then some (.bl (!zc0 d)) else none
def TopV.non_iff{v:V}{d:D}(h:TopV cl w v d):decide (v=.non)=zc0 d:=by
 cases h with
 | sh h=>cases h<;>simp [zc0]
 | ow e t=>cases t<;>simp [zc0]
def zhf{d:D}(h:zc0 d=true):d=.non:=by cases d<;>simp [zc0] at h;rfl
def zsF:OpD X cl (compareOp .Is) znk:=by
 intro pins s σ H x y v u Q I rx ry h;obtain ⟨w,d,e,r,rfl,hx,hy,hg,q⟩:=h;unfold znk at hg;split at hg
 ·rename_i hz;cases hg;rw [zhf hz] at hy;obtain rfl:=hy.nonI;refine zsw pins s σ w.H _ _ v u Q I rx ry ⟨rfl,?_⟩;rw [hx.non_iff];exact q _ w (Grow.refl _) (.bl _)
 ·cases hg
def zpQ:OpD X cl (compareOp .IsNot) zk7:=by
 intro pins s σ H x y v u Q I rx ry h;obtain ⟨w,d,e,r,rfl,hx,hy,hg,q⟩:=h;unfold zk7 at hg;split at hg
 ·rename_i hz;cases hg;rw [zhf hz] at hy;obtain rfl:=hy.nonI;refine zpK pins s σ w.H _ _ v u Q I rx ry ⟨rfl,?_⟩;rw [hx.non_iff];exact q _ w (Grow.refl _) (.bl _)
 ·cases hg
def zm1:D->D->Option D | .bl a,.bl b=>some (.bl (!decide (a=b))) | _,_=>none
def zpR:OpD X cl (compareOp .IsNot) zm1:=by
 intro pins s σ H x y v u Q I rx ry h;obtain ⟨w,d,e,r,rfl,hx,hy,hg,q⟩:=h;unfold zm1 at hg;split at hg
 ·cases hg;obtain rfl:=hx.blI;obtain rfl:=hy.blI;exact zhQ pins s σ w.H _ _ v u Q I rx ry ⟨_,_,rfl,rfl,q _ w (Grow.refl _) (.bl _)⟩
 ·cases hg
def ixD:D->D->Option D
 | .lst l,.int i=>atI l i
 | .tup l,.int i=>atI l i
 | .scr l,.int i=>(atI l i).map D.int
 | _,_=>none
def ziz{xs:List V}{ds:List D}(r:Shds cl w xs ds){i:Int}{d:D}(h:atI ds i=some d):∃v,atI xs i=some v/\Shd cl w v d:=by
 unfold atI at h ⊢;rw [r.length]
 cases e:ixN ds.length i with
 | none=>rw [e] at h;cases h
 | some j =>
  rw [e] at h;exact r.at h
def zvX(hK:X.K=cl.K):IxD X cl ixD:=by
 intro value slice pins s σ H x y v u Q I rx ry h hsub;obtain ⟨w,d,e,r,rfl,hx,hy,hg,q⟩:=h;unfold ixD at hg;split at hg
 ·rename_i l i;obtain ⟨p,xs,rfl,ep,rs⟩:=hx.lstI;obtain rfl:=hy.intI;obtain ⟨z,e1,e2⟩:=ziz rs hg;exact zln value slice pins s σ w.H _ _ v u Q I rx ry ⟨p,xs,i,z,rfl,rfl,SqL.of ep,e1,q _ w (Grow.refl _) e2⟩ hsub
 ·rename_i l i;obtain ⟨p,xs,rfl,ep,_,rs⟩:=hx.tupI;obtain rfl:=hy.intI;obtain ⟨z,e1,e2⟩:=ziz rs hg;exact zs9 value slice pins s σ w.H _ _ v u Q I rx ry ⟨p,xs,i,z,rfl,rfl,SqT.of ep,e1,q _ w (Grow.refl _) e2⟩ hsub
 ·rename_i l i;obtain ⟨p,rfl,ep⟩:=hx.scrI hK;obtain rfl:=hy.intI
  cases hl:atI l i with
  | none=>rw [hl] at hg;cases hg
  | some k =>
   rw [hl] at hg;cases hg
   have e1:atI (l.map V.int) i=some (.int k):=by
    unfold atI at hl ⊢;rw [yaf]
    cases e:ixN l.length i with
    | none=>rw [e] at hl;cases hl
    | some j =>
     rw [e] at hl;have hl':l[j]?=some k:=hl;show (l.map V.int)[j]?=_;rw [yao,hl'];rfl
   exact zln value slice pins s σ w.H _ _ v u Q I rx ry ⟨p,_,i,_,rfl,rfl,ep,e1,q _ w (Grow.refl _) (.int _)⟩ hsub
 ·cases hg
def zeA:List D->Option D
 | [.lst l]=>some (.int l.length)
 | [.tup l]=>some (.int l.length)
 | [.scr l]=>some (.int l.length)
 | [.str x]=>if small x.length then some (.int x.length) else none
 | _=>none
def ztG(hK:X.K=cl.K):zih X cl (.builtin "len") zeA:=by
 intro pins s σ H xs us Q I r h;obtain ⟨w,ds,d,rfl,hx,hg,q⟩:=h;unfold zeA at hg;split at hg
 ·rename_i l;cases hg
  cases hx with
  | cons h1 h2 =>
   cases h2;obtain ⟨p,ys,rfl,ep,rs⟩:=h1.lstI;refine zc8 pins s σ w.H _ us Q I r ⟨p,ys,rfl,.inl (SqL.of ep),?_⟩;rw [rs.length];exact q _ w (Grow.refl _) (.int _)
 ·rename_i l;cases hg
  cases hx with
  | cons h1 h2 =>
   cases h2;obtain ⟨p,ys,rfl,ep,_,rs⟩:=h1.tupI;refine zc8 pins s σ w.H _ us Q I r ⟨p,ys,rfl,.inr (SqT.of ep),?_⟩;rw [rs.length];exact q _ w (Grow.refl _) (.int _)
 ·rename_i l;cases hg
  cases hx with
  | cons h1 h2 =>
   cases h2;obtain ⟨p,rfl,ep⟩:=h1.scrI hK;refine zc8 pins s σ w.H _ us Q I r ⟨p,l.map V.int,rfl,.inl ep,?_⟩;rw [yaf];exact q _ w (Grow.refl _) (.int _)
 ·rename_i x;split at hg
  ·rename_i hz;cases hg
   cases hx with
   | cons h1 h2 =>
    cases h2;obtain rfl:=h1.strI;exact zhr pins s σ w.H _ us Q I r ⟨x,rfl,za9 hz,q _ w (Grow.refl _) (.int _)⟩
  ·cases hg
 ·cases hg
def zbv:List D->Option D
 | [.lst l]=>some (.tup l)
 | [.tup l]=>some (.tup l)
 | _=>none
def znN:zih X cl (.type "tuple") zbv:=by
 intro pins s σ H xs us Q I r h;obtain ⟨w,ds,d,rfl,hx,hg,q⟩:=h;unfold zbv at hg;split at hg
 ·rename_i l;cases hg
  cases hx with
  | cons h1 h2 =>
   cases h2;obtain ⟨p,ys,rfl,ep,rs⟩:=h1.lstI;exact zd2 pins s σ w.H _ us Q I r ⟨p,ys,rfl,.inl ⟨SqL.of ep,fun l hl=>q _ (w.add l _) (zaA hl _) (Shd.newT hl rs)⟩⟩
 ·rename_i l;cases hg
  cases hx with
  | cons h1 h2 =>
   cases h2;obtain ⟨p,ys,rfl,ep,kp,rs⟩:=h1.tupI;exact zd2 pins s σ w.H _ us Q I r ⟨p,ys,rfl,.inr ⟨SqT.of ep,q _ w (Grow.refl _) (.tup ep kp rs)⟩⟩
 ·cases hg
def zjB:List D->Option D
 | [.lst l]=>some (.lst l)
 | [.tup l]=>some (.lst l)
 | _=>none
def zqx:zt2 X cl (.type "list") zjB:=by
 intro pins s σ H xs us Q I r h;obtain ⟨w,ds,d,rfl,hx,hg,q⟩:=h;unfold zjB at hg;split at hg
 ·rename_i l;cases hg
  cases hx with
  | cons h1 h2 =>
   cases h2;obtain ⟨p,ys,rfl,ep,rs⟩:=h1.lstI;exact zep pins s σ w.H _ us Q I r ⟨p,ys,rfl,.inl (SqL.of ep),fun l hl=>q _ _ w (Grow.refl _) hl (.lst rs)⟩
 ·rename_i l;cases hg
  cases hx with
  | cons h1 h2 =>
   cases h2;obtain ⟨p,ys,rfl,ep,_,rs⟩:=h1.tupI;exact zep pins s σ w.H _ us Q I r ⟨p,ys,rfl,.inr (SqT.of ep),fun l hl=>q _ _ w (Grow.refl _) hl (.lst rs)⟩
 ·cases hg
def zgC:List D->Option (List Bool)
 | []=>some []
 | .bl b::l=>(zgC l).map (b::·)
 | _=>none
def znU{bs:List Bool}{ds:List D}:∀{xs:List V},Shds cl w xs ds->zgC ds=some bs->xs=bs.map V.bl:=by
 induction ds generalizing bs with
 | nil=>intro xs r h;cases r;cases h;rfl
 | cons d ds ih =>
  intro xs r e
  cases r with
  | cons h t =>
   cases d with
   | bl b =>
    cases h;unfold zgC at e
    cases hr:zgC ds with
    | none=>rw [hr] at e;cases e
    | some cs=>rw [hr] at e;cases e;rw [ih t hr];rfl
   | _=>cases e
def ztU:List D->Option D
 | [.lst l]=>(zgC l).map fun bs=>.bl (bs.all id)
 | _=>none
def ztH(hc:X.calm=true):zih X cl (.builtin "all") ztU:=by
 intro pins s σ H xs us Q I r h;obtain ⟨w,ds,d,rfl,hx,hg,q⟩:=h;unfold ztU at hg;split at hg
 ·rename_i l
  cases hb:zgC l with
  | none=>rw [hb] at hg;cases hg
  | some bs =>
   rw [hb] at hg;cases hg
   cases hx with
   | cons h1 h2 =>
    cases h2;obtain ⟨p,ys,rfl,ep,rs⟩:=h1.lstI;obtain rfl:=znU rs hb;exact zia hc pins s σ w.H _ us Q I r ⟨p,bs,rfl,SqL.of ep,q _ w (Grow.refl _) (.bl _)⟩
 ·cases hg
def zdu:List D->Option (List Int)
 | []=>some []
 | .int b::l=>(zdu l).map (b::·)
 | _=>none
def zlv{bs:List Int}{ds:List D}:∀{xs:List V},Shds cl w xs ds->zdu ds=some bs->xs=bs.map V.int:=by
 induction ds generalizing bs with
 | nil=>intro xs r h;cases r;cases h;rfl
 | cons d ds ih =>
  intro xs r e
  cases r with
  | cons h t =>
   cases d with
   | int b =>
    cases h;unfold zdu at e
    cases hr:zdu ds with
    | none=>rw [hr] at e;cases e
    | some cs=>rw [hr] at e;cases e;rw [ih t hr];rfl
   | _=>cases e
def zqU:List D->Option D
 | [.lst l]=>(zdu l).bind fun ns=>if decide (ns.length<=1000)&&ns.all (fun n=>decide (0<=n/\n<=1000000)) then some (.int ns.sum) else none
 | _=>none
def ztE(hc:X.calm=true):zih X cl (.builtin "sum") zqU:=by
 intro pins s σ H xs us Q I r h;obtain ⟨w,ds,d,rfl,hx,hg,q⟩:=h;unfold zqU at hg;split at hg
 ·rename_i l
  cases hb:zdu l with
  | none=>rw [hb] at hg;cases hg
  | some ns =>
   rw [hb] at hg;dsimp only [Option.bind] at hg;split at hg
   ·rename_i hz;cases hg;rw [yab,ybk] at hz
    cases hx with
    | cons h1 h2 =>
     cases h2;obtain ⟨p,ys,rfl,ep,rs⟩:=h1.lstI;obtain rfl:=zlv rs hb;exact znO hc pins s σ w.H _ us Q I r ⟨p,ns,rfl,SqL.of ep,yat hz.1,fun n hn=>yat (hz.2 n hn),q _ w (Grow.refl _) (.int _)⟩
   ·cases hg
 ·cases hg
end
end S2
namespace L2
open PySem PySem.Spec PyProof.Rows
section
variable{X:Cx}{e st:Expr}{te ts:TE}{pos p2:Pos}
end
end L2
namespace S2
open PySem PySem.Spec PyProof.Rows L2
def zcU(g g':D->D->Option D)(f h k:Fe):Fe:=fun ρ S=>(f ρ S).bind fun a S1=>(h ρ S1).bind fun b S2=>match (g a b).bind isB with
 | some true=>(k ρ S2).bind fun c S3=>Out.of (g' b c) S3
 | some false=>.ok (.bl false) S2
 | none=>.bad
section
variable{X:Cx}{cl:Cf}{E:St->XK}{a b c e:Expr}{f h k:Fe}{pos:Pos}
def zit{g g':D->D->Option D}{r r':R2}(hr:∀x y H Q,(∃w d e r,w.H=H/\TopV cl w x d/\TopV cl w y e/\g d e=some r/\∀v w',Grow w w'->Shd cl w' v r->Q v w'.H)->r x y H Q)
  (hr':∀x y H Q,(∃w d e r,w.H=H/\TopV cl w x d/\TopV cl w y e/\g' d e=some r/\∀v w',Grow w w'->Shd cl w' v r->Q v w'.H)->r' x y H Q) {σ:St} {H:Hp} {Q:VK} (q:tE cl E (zcU g g' f h k) σ H Q):zkk r r' (tH cl E f) (tH cl E h) (tH cl E k) σ H Q:=by
 obtain ⟨B,w,ρ,S,rfl,R,q⟩:=q;refine ⟨B,w,ρ,S,rfl,R,?_⟩;unfold zcU at q
 cases hf:f ρ S with
 | bad=>rwa [hf] at q
 | exc c S1=>rwa [hf] at q
 | ok d S1 =>
  rw [hf] at q;intro v w1 R1 F1 h1;refine ⟨B,w1,ρ,S1,rfl,R1,?_⟩;dsimp only [Out.bind] at q
  cases hh:h ρ S1 with
  | bad=>rwa [hh] at q
  | exc c S2=>rw [hh] at q;exact fun w2 R2 F2=>q w2 R2 (F1.trans F2)
  | ok e S2 =>
   rw [hh] at q;intro y w2 R2 F2 h2;dsimp only at q
   cases hg:g d e with
   | none=>rw [hg] at q;exact q.elim
   | some z =>
    rw [hg] at q;dsimp only [Option.bind] at q
    cases hb:isB z with
    | none=>rw [hb] at q;exact q.elim
    | some bb =>
     rw [hb] at q;rw [zde hb] at hg;refine hr _ _ _ _ ⟨w2,d,e,_,rfl,(h1.up F2).top R2,h2.top R2,hg,fun v' w3 gr sh=>⟨bb,zgS sh,?_⟩⟩;have R3:=R2.grow gr
     cases bb with
     | false=>exact zoq (q _ w3 R3 (F1.trans (F2.trans gr.fut)) (.bl _))
     | true =>
      refine zop ⟨B,w3,ρ,S2,rfl,R3,?_⟩;dsimp only at q
      cases hk:k ρ S2 with
      | bad=>rwa [hk] at q
      | exc c S3=>rw [hk] at q;exact fun w4 R4 F4=>q w4 R4 (F1.trans (F2.trans (gr.fut.trans F4)))
      | ok c S3 =>
       rw [hk] at q;intro z' w4 R4 F4 h4;dsimp only at q
       cases hg':g' e c with
       | none=>rw [hg'] at q;exact q.elim
       | some r2 =>
        rw [hg'] at q;exact hr' _ _ _ _ ⟨w4,e,c,r2,rfl,(h2.up (gr.fut.trans F4)).top R4,h4.top R4,hg',fun v' w5 gr5 sh5=>q v' w5 (R4.grow gr5) (F1.trans (F2.trans (gr.fut.trans (F4.trans gr5.fut)))) sh5⟩
def zmu{op op':CmpOp}{g g':D->D->Option D}(ho:OpD X cl (compareOp op) g)(ho':OpD X cl (compareOp op') g')(ha:PE X a (tH cl E f))(hb:PE X b (tH cl E h))(hc:PE X c (tH cl E k))(hm:lastMarks [op,op'] [b,c]=false):PE X (.Compare a [op,op'] [b,c] pos) (tE cl E (zcU g g' f h k)) :=
 PE.imp (zmU ho ho' ha hb hc hm) fun _ _ _ q=>zit (fun _ _ _ _ z=>z) (fun _ _ _ _ z=>z) q
def zmo{op op':CmpOp}{g g':D->D->Option D}(ho:OpD X cl (compareOp op) g)(ho':OpD X cl (compareOp op') g')(ha:PE X a (tH cl E f))(hb:PE X b (tH cl E h))(hc:PE X c (tH cl E k))(hm:lastMarks [op,op'] [b,c]=false):PT X (.Compare a [op,op'] [b,c] pos) (tTr cl E (zcU g g' f h k)) :=
 PT.imp (zmF ho ho' ha hb hc hm) fun _ _ _ q=>zit (fun _ _ _ _ z=>z) (fun _ _ _ _ z=>z) (zis q)
def zgH{α:Type}(l:List α)(lo hi:Option Int):List α:=(l.drop (HT.sIx l.length 0 lo)).take (HT.sIx l.length l.length hi-HT.sIx l.length 0 lo)
def slD(d:D)(lo hi:Option Int):Option D:=match d with
 | .lst l=>some (.lst (zgH l lo hi))
 | .tup l=>some (.tup (zgH l lo hi))
 | _=>none
def zcV(o:Option Fe)(ρ:Env)(S:Sto):Out (Option Int):=match o with
 | none=>.ok none S
 | some f=>(f ρ S).bind fun d S1=>match d with | .int i=>.ok (some i) S1 | _=>.bad
def eSl(f:Fe)(lo hi:Option Fe):Fe:=fun ρ S=>(f ρ S).bind fun d S1=>(zcV lo ρ S1).bind fun l S2=>(zcV hi ρ S2).bind fun u S3=>Out.of (slD d l u) S3
def zho{w:Wd}{xs:List V}{ds:List D}(r:Shds cl w xs ds)(lo hi:Option Int):Shds cl w (zoB xs lo hi) (zgH ds lo hi):=by
 unfold zoB zgH;rw [r.length];exact (r.drop _).take _
def SlD(X:Cx)(cl:Cf):Prop:=SlR X fun x lo hi H Q=>∃w d r,w.H=H/\TopV cl w x d/\slD d lo hi=some r/\∀v w',Grow w w'->Shd cl w' v r->Q v w'.H
def zvg:SlD X cl:=by
 intro pins s σ H x v vl vu lo hi sl Q I rx hs pl pu h;obtain ⟨w,d,r,rfl,hx,hg,q⟩:=h;unfold slD at hg;split at hg
 ·rename_i l;cases hg;obtain ⟨p,xs,rfl,ep,rs⟩:=hx.lstI;exact zo9 pins s σ w.H _ v vl vu lo hi sl Q I rx hs pl pu ⟨p,xs,rfl,SqL.of ep,fun p' hp=>q _ (w.add p' _) (zaA hp _) (Shd.newL hp (zho rs lo hi))⟩
 ·rename_i l;cases hg;obtain ⟨p,xs,rfl,ep,kp,rs⟩:=hx.tupI
  by_cases hw:HT.sIx xs.length 0 lo=0/\HT.sIx xs.length xs.length hi=xs.length
  ·refine zjm pins s σ w.H _ v vl vu lo hi sl Q I rx hs pl pu ⟨p,xs,rfl,SqT.of ep,hw.1,hw.2,q _ w (Grow.refl _) (.tup ep kp ?_)⟩
   have:zgH l lo hi=l:=by
    unfold zgH;rw [<-rs.length,hw.1,hw.2,ycQ,Nat.sub_zero,ybl (by rw [rs.length];exact yam _)]
   rw [this];exact rs
  ·exact zrI pins s σ w.H _ v vl vu lo hi sl Q I rx hs pl pu ⟨p,xs,rfl,SqT.of ep,hw,fun p' hp=>q _ (w.add p' _) (zaA hp _) (Shd.newT hp (zho rs lo hi))⟩
 ·cases hg
def zt6(cl:Cf)(E:St->XK)(o:Option Fe):TO:=match o with | none=>zkj | some f=>zrn (tH cl E f)
def zrR{lo hi:Option Expr}{fl fh:Option Fe}{p2:Pos}(he:PE X e (tH cl E f))(hl:PO X lo (zt6 cl E fl))(hu:PO X hi (zt6 cl E fh)):PE X (.Subscript e (.Slice lo hi none p2) pos) (tE cl E (eSl f fl fh)):=by
 refine PE.imp (zmO (zvg (cl:=cl)) he hl hu) ?_;rintro σ H Q ⟨B,w,ρ,S,rfl,R,q⟩;refine ⟨B,w,ρ,S,rfl,R,?_⟩;unfold eSl at q
 cases hf:f ρ S with
 | bad=>rwa [hf] at q
 | exc c S1=>rwa [hf] at q
 | ok d S1 =>
  rw [hf] at q;intro v w1 R1 F1 h1;dsimp only [Out.bind] at q
  have last:∀(l u:Option Int) (w3:Wd) (S3:Sto),Rel cl B σ w3 ρ S3->Fut w1 w3->(match Out.of (slD d l u) S3 with
    | .ok d S'=>∀v w',Rel cl B σ w' ρ S'->Fut w w'->Shd cl w' v d->Q v w'.H
    | .exc c S'=>∀w',Rel cl B σ w' ρ S'->Fut w w'->E σ (.ref (cl c)) none w'.H
    | .bad=>False)->∃w d r,w.H=w3.H/\TopV cl w v d/\slD d l u=some r/\∀v w',Grow w w'->Shd cl w' v r->Q v w'.H:=by
   intro l u w3 S3 R3 F3 q3
   cases hg:slD d l u with
   | none=>rw [hg] at q3;exact q3.elim
   | some r =>
    rw [hg] at q3;exact ⟨w3,d,r,rfl,(h1.up F3).top R3,hg,fun v' w' gr sh=>q3 v' w' (R3.grow gr) (F1.trans (F3.trans gr.fut)) sh⟩
  have second:∀(l:Option Int) (w2:Wd) (S2:Sto),Rel cl B σ w2 ρ S2->Fut w1 w2->(match (zcV fh ρ S2).bind fun u S3=>Out.of (slD d l u) S3 with
    | .ok d S'=>∀v w',Rel cl B σ w' ρ S'->Fut w w'->Shd cl w' v d->Q v w'.H
    | .exc c S'=>∀w',Rel cl B σ w' ρ S'->Fut w w'->E σ (.ref (cl c)) none w'.H
    | .bad=>False)->zt6 cl E fh σ w2.H fun u H3=>∃w d r,w.H=H3/\TopV cl w v d/\slD d l u=some r/\∀v w',Grow w w'->Shd cl w' v r->Q v w'.H:=by
   intro l w2 S2 R2 F2 q2
   cases fh with
   | none=>exact last l none w2 S2 R2 F2 q2
   | some fh =>
    refine ⟨B,w2,ρ,S2,rfl,R2,?_⟩;unfold zcV at q2;dsimp only at q2
    cases hh:fh ρ S2 with
    | bad=>rwa [hh] at q2
    | exc c S3=>rw [hh] at q2;exact fun w3 R3 F3=>q2 w3 R3 (F1.trans (F2.trans F3))
    | ok dh S3 =>
     rw [hh] at q2;intro y w3 R3 F3 h3;dsimp only [Out.bind] at q2
     cases dh with
     | int i =>
      refine ⟨i,(h3.top R3).intI,?_⟩;exact last l (some i) w3 S3 R3 (F2.trans F3) q2
     | _=>exact q2.elim
  cases fl with
  | none=>exact second none w1 S1 R1 (Fut.refl _) q
  | some fl =>
   refine ⟨B,w1,ρ,S1,rfl,R1,?_⟩;unfold zcV at q;dsimp only at q
   cases hh:fl ρ S1 with
   | bad=>rwa [hh] at q
   | exc c S3=>rw [hh] at q;exact fun w3 R3 F3=>q w3 R3 (F1.trans F3)
   | ok dl S2 =>
    rw [hh] at q;intro y w2 R2 F2 h2;dsimp only [Out.bind] at q
    cases dl with
    | int i =>
     refine ⟨i,(h2.top R2).intI,?_⟩;exact second (some i) w2 S2 R2 F2 q
    | _=>exact q.elim
def zes(T:String)(d:D):Option D :=
 if T = "int" then (match d with | .int _=>some (.bl true) | .bl _=>some (.bl true) | .non=>some (.bl false) | .str _=>some (.bl false) | .tup _=>some (.bl false) | .lst _=>some (.bl false) | _=>none)
 else if T = "bool" then (match d with | .int _=>some (.bl false) | .bl _=>some (.bl true) | .non=>some (.bl false) | .str _=>some (.bl false) | .tup _=>some (.bl false) | .lst _=>some (.bl false) | _=>none)
 else if T = "tuple" then (match d with | .int _=>some (.bl false) | .bl _=>some (.bl false) | .non=>some (.bl false) | .str _=>some (.bl false) | .tup _=>some (.bl true) | .lst _=>some (.bl false) | _=>none)
 else if T = "str" then (match d with | .int _=>some (.bl false) | .bl _=>some (.bl false) | .non=>some (.bl false) | .str _=>some (.bl true) | .tup _=>some (.bl false) | .lst _=>some (.bl false) | _=>none)
 else if T = "list" then (match d with | .int _=>some (.bl false) | .bl _=>some (.bl false) | .non=>some (.bl false) | .str _=>some (.bl false) | .tup _=>some (.bl false) | .lst _=>some (.bl true) | _=>none)
 else none
def zqh{K:PySem.W.Frag}{w:Wd}{v:V}{d r:D}{T:String}(h:TopV cl w v d)(hg:zes T d=some r):∃t b,TyOf K w.H v t/\PySem.W.kitOne K t (.type T)=some b/\r=.bl b:=by
 unfold zes at hg;split at hg
 ·rename_i hT;subst hT
  split at hg<;>cases hg
  ·obtain rfl:=h.intI;exact ⟨_,_,.int _,by with_unfolding_all rfl,rfl⟩
  ·obtain rfl:=h.blI;exact ⟨_,_,.bl _,by with_unfolding_all rfl,rfl⟩
  ·obtain rfl:=h.nonI;exact ⟨_,_,.non,by with_unfolding_all rfl,rfl⟩
  ·obtain rfl:=h.strI;exact ⟨_,_,.str _,by with_unfolding_all rfl,rfl⟩
  ·obtain ⟨_,_,rfl,e,_⟩:=h.tupI;exact ⟨_,_,.tup e,by with_unfolding_all rfl,rfl⟩
  ·obtain ⟨_,_,rfl,e,_⟩:=h.lstI;exact ⟨_,_,.lst e,by with_unfolding_all rfl,rfl⟩
 split at hg
 ·rename_i hT;subst hT
  split at hg<;>cases hg
  ·obtain rfl:=h.intI;exact ⟨_,_,.int _,by with_unfolding_all rfl,rfl⟩
  ·obtain rfl:=h.blI;exact ⟨_,_,.bl _,by with_unfolding_all rfl,rfl⟩
  ·obtain rfl:=h.nonI;exact ⟨_,_,.non,by with_unfolding_all rfl,rfl⟩
  ·obtain rfl:=h.strI;exact ⟨_,_,.str _,by with_unfolding_all rfl,rfl⟩
  ·obtain ⟨_,_,rfl,e,_⟩:=h.tupI;exact ⟨_,_,.tup e,by with_unfolding_all rfl,rfl⟩
  ·obtain ⟨_,_,rfl,e,_⟩:=h.lstI;exact ⟨_,_,.lst e,by with_unfolding_all rfl,rfl⟩
 split at hg
 ·rename_i hT;subst hT
  split at hg<;>cases hg
  ·obtain rfl:=h.intI;exact ⟨_,_,.int _,by with_unfolding_all rfl,rfl⟩
  ·obtain rfl:=h.blI;exact ⟨_,_,.bl _,by with_unfolding_all rfl,rfl⟩
  ·obtain rfl:=h.nonI;exact ⟨_,_,.non,by with_unfolding_all rfl,rfl⟩
  ·obtain rfl:=h.strI;exact ⟨_,_,.str _,by with_unfolding_all rfl,rfl⟩
  ·obtain ⟨_,_,rfl,e,_⟩:=h.tupI;exact ⟨_,_,.tup e,by with_unfolding_all rfl,rfl⟩
  ·obtain ⟨_,_,rfl,e,_⟩:=h.lstI;exact ⟨_,_,.lst e,by with_unfolding_all rfl,rfl⟩
 split at hg
 ·rename_i hT;subst hT
  split at hg<;>cases hg
  ·obtain rfl:=h.intI;exact ⟨_,_,.int _,by with_unfolding_all rfl,rfl⟩
  ·obtain rfl:=h.blI;exact ⟨_,_,.bl _,by with_unfolding_all rfl,rfl⟩
  ·obtain rfl:=h.nonI;exact ⟨_,_,.non,by with_unfolding_all rfl,rfl⟩
  ·obtain rfl:=h.strI;exact ⟨_,_,.str _,by with_unfolding_all rfl,rfl⟩
  ·obtain ⟨_,_,rfl,e,_⟩:=h.tupI;exact ⟨_,_,.tup e,by with_unfolding_all rfl,rfl⟩
  ·obtain ⟨_,_,rfl,e,_⟩:=h.lstI;exact ⟨_,_,.lst e,by with_unfolding_all rfl,rfl⟩
 split at hg
 ·rename_i hT;subst hT
  split at hg<;>cases hg
  ·obtain rfl:=h.intI;exact ⟨_,_,.int _,by with_unfolding_all rfl,rfl⟩
  ·obtain rfl:=h.blI;exact ⟨_,_,.bl _,by with_unfolding_all rfl,rfl⟩
  ·obtain rfl:=h.nonI;exact ⟨_,_,.non,by with_unfolding_all rfl,rfl⟩
  ·obtain rfl:=h.strI;exact ⟨_,_,.str _,by with_unfolding_all rfl,rfl⟩
  ·obtain ⟨_,_,rfl,e,_⟩:=h.tupI;exact ⟨_,_,.tup e,by with_unfolding_all rfl,rfl⟩
  ·obtain ⟨_,_,rfl,e,_⟩:=h.lstI;exact ⟨_,_,.lst e,by with_unfolding_all rfl,rfl⟩
 ·cases hg
def zht:bootBuiltins "isinstance" = some (.builtin "isinstance"):=by decide +kernel
def zpj{T:String}{x:Str}{p p2:Pos}(hg:Gl X "isinstance")(hm:X.mg "isinstance" = none)(hgT:Gl X x)(hmT:X.mg x=none)(hvT:bootBuiltins x=some (.type T))(hn:x ≠ "__name__")(hdb:(x == ("__debug__":Str))=false)(hp:zcm e=true)(he:PE X e (tH cl E f)) :
  PE X (.Call (.Name "isinstance" p) [e,.Name x p2] [] pos) (tE cl E (eUn (zes T) f)):=by
 refine PE.imp (zgi zh9 hg hm zht (zcL he (zcL (zkY (v:=.ty T) hgT hmT hvT rfl hn hdb) zeX rfl) (za8 hp)) (he:=za8 hp) (hpl:=rfl)) ?_;rintro σ H Q ⟨B,w,ρ,S,rfl,R,q⟩;refine ⟨B,w,ρ,S,rfl,R,?_⟩;unfold eUn at q
 cases hf:f ρ S with
 | bad=>rwa [hf] at q
 | exc c S1=>rwa [hf] at q
 | ok d S1 =>
  rw [hf] at q;intro v w1 R1 F1 h1;dsimp only [Out.bind] at q
  cases hg:zes T d with
  | none=>rw [hg] at q;exact q.elim
  | some r =>
   rw [hg] at q;obtain ⟨t,b,h2,h3,rfl⟩:=zqh (K:=X.K) (h1.top R1) hg;exact ⟨v,t,T,b,rfl,h2,h3,q _ w1 R1 F1 (.bl _)⟩
def zay(f:Fe):Fi:=fun ρ S=>(f ρ S).bind fun d S1=>match d with | .lst l=>.ok l S1 | .tup l=>.ok l S1 | _=>.bad
def zrL{tg:Expr}(hK:X.K=cl.K)(he:PE X e (tE cl E f)):PI X tg e (tI cl E (zay f)):=by
 intro pins s σ H R' I q;obtain ⟨B,w,ρ,S,rfl,R,q⟩:=q;unfold zay at q
 cases hf:f ρ S with
 | bad=>rw [hf] at q;exact q.elim
 | exc c S1 =>
  refine zko he pins s σ w.H R' I ⟨B,w,ρ,S,rfl,R,?_⟩;unfold zi3;rw [hf] at q ⊢;exact q
 | ok d S1 =>
  rw [hf] at q;dsimp only [Out.bind] at q
  cases d with
  | lst l =>
   refine zko he pins s σ w.H R' I ⟨B,w,ρ,S,rfl,R,?_⟩;unfold zi3;rw [hf];exact q
  | tup l =>
   refine zrK he pins s σ w.H R' I ⟨B,w,ρ,S,rfl,R,?_⟩;unfold zh6;rw [hf];exact q
  | _=>exact q.elim
end
end S2
namespace L2
open PySem PySem.Spec PyProof.Rows
def zj1(b:Bool)(h:Heap)(a:Addr)(vs:Array Value):Prop:=match b with | true=>h.IsList a vs | false=>h.IsTuple a vs
def zma(b:Bool)(h:Heap)(it a:Addr)(j:Nat):Prop:=match b with | true=>h.IsListIter it a j | false=>h.IsTupleIter it a j
def itN(b:Bool):String:=match b with | true=>"list_iterator" | false=>"tuple_iterator"
def zj1.keep{b:Bool}{h h':Heap}{a:Addr}{vs:Array Value}(p:zj1 b h a vs)(k:∀o,h.get? a=some o->h'.get? a=some o):zj1 b h' a vs:=by
 cases b with
 | true=>exact Heap.IsList.at p k
 | false=>obtain ⟨o,ho,r⟩:=p;exact ⟨o,k o ho,r⟩
def zma.keep{b:Bool}{h h':Heap}{it a:Addr}{j:Nat}(p:zma b h it a j)(k:∀o,h.get? it=some o->h'.get? it=some o):zma b h' it a j:=by
 cases b with
 | true=>exact Heap.IsListIter.at p k
 | false=>exact Heap.IsTupleIter.at p k
def zma.live{b:Bool}{h:Heap}{it a:Addr}{j:Nat}(p:zma b h it a j):∃o,h.get? it=some o/\∀v,o.data≠.cell v:=by
 cases b with
 | true=>obtain ⟨o,ho,c,d⟩:=p;exact ⟨o,ho,fun v z=>by rw [d] at z;cases z⟩
 | false=>obtain ⟨o,ho,c,d⟩:=p;exact ⟨o,ho,fun v z=>by rw [d] at z;cases z⟩
section
variable{prog:Program}{w:World}{A:Around}{E:Z5}{s:Shared}
def zeG(hh:A.handled=none)(b:Bool)(it t:Addr)(ne:t≠it)(vs:Array Value):Draws prog w A it [it,t] vs.size (fun j v=>vs[j]?=some v) (fun j h=>zma b h it t j/\zj1 b h t vs):=by
 cases b with
 | false=>exact zhm hh it t ne vs
 | true =>
  exact {
   live:=fun _ _ st=>by obtain ⟨⟨o,ho,_⟩,_⟩:=st;exact ⟨o,ho⟩
   frame:=fun _ _ _ st hk=>⟨st.1.keep fun o e=>hk it (by simp) o e,st.2.keep fun o e=>hk t (by simp) o e⟩
   item:=fun j s Q E hj st hQ=>wpAny_nextOf_list_item (x:=vs[j]) st.1 st.2 (by simp [hj]) fun h' st' sb=>hQ _ h' s.toks (by simp [hj]) ⟨st',st.2.keep fun o e=>(sb.2 t ne).trans e⟩ sb
   done:=fun s Q E st hE=>wpAny_nextOf_list_end hh st.1 st.2 (by simp) fun h' e sb he=>hE h' e sb he }
def zgZ{b:Bool}{l:Addr}{vs:Array Value}{Q:Z5}(p:zj1 b s.heap l vs)(h:Q (.ref s.heap.objs.size) { s with heap:=s.heap.push { cls:=.type (itN b),data:=.fields #[.ref l,.int 0 0] } }):wpAny (model prog w) A (pyIter (.ref l)) Q E s:=by
 cases b with
 | true=>exact ycm p h
 | false=>exact yb9 p h
structure ZipD(z TI TO i1 i2:Addr)(f1 f2:List Addr):Prop where
 TIz:TI≠z
 TOz:TO≠z
 i1z:i1≠z
 i2z:i2≠z
 TITO:TI≠TO
 TIi1:TI≠i1
 TIi2:TI≠i2
 TOi1:TO≠i1
 TOi2:TO≠i2
 i12:i1≠i2
 z1:z ∉ f1
 z2:z ∉ f2
 O1:TO ∉ f1
 O2:TO ∉ f2
 i1f:i1 ∉ f2
 i2f:i2 ∉ f1
def nin{a:Addr}{f:List Addr}{b:Addr}(h:a ∉ f)(hb:b∈f):b≠a:=fun z=>h (z ▸ hb)
def zft{z TI TO i1 i2:Addr}{f1 f2:List Addr}{n1 n2:Nat}{P1 P2:Nat->Value->Prop}{S1 S2:Nat->Heap->Prop}{k1 k2:Nat}{a b:Value}{Q:Z5}(D:ZipD z TI TO i1 i2 f1 f2)
  (D1:Draws prog w A i1 f1 n1 P1 S1) (D2:Draws prog w A i2 f2 n2 P2 S2)
  (hz:IsZip s.heap z TI TO .none) (hTI:IsPair s.heap TI (.ref i1) (.ref i2)) (hTO:IsPair s.heap TO a b)
  (h1:S1 k1 s.heap) (h2:S2 k2 s.heap) (hx:k1<n1) (hy:k2<n2)
  (hQ:∀x y h' tk,P1 k1 x->P2 k2 y->IsZip h' z TI TO (rawInt s.heap.objs.size)->IsPair h' TO x y->S1 (k1+1) h'->S2 (k2+1) h'->IsPair h' s.heap.objs.size x y->h'.objs.size=s.heap.objs.size+1 →
   (∀c o,c≠z->c≠TO->c≠i1->c≠i2->s.heap.get? c=some o->h'.get? c=some o)->Q (.ref s.heap.objs.size) { s with heap:=h',toks:=tk }) :
  wpAny (model prog w) A (Builtin.«zip.__next__» ⟨[.ref z],[]⟩) (fun fin s'=>∃v,fin=.done (.ret v)/\Q v s') E s:=by
 show wpAny _ _ (field (.ref z) 2 >>= _) _ _ _;refine yaa (ybd hz rfl (x:=.bool false) rfl ?_);show wpAny _ _ (field (.ref z) 3 >>= _) _ _ _;refine yaa (ybd hz rfl (x:=.ref TI) rfl ?_);refine yaa (ybp hTI rfl ?_);show wpAny _ _ (Builtin.SmallTypes.ownedTupleIsFree (.ref z) >>= _) _ _ _;refine yaa ?_;unfold Builtin.SmallTypes.ownedTupleIsFree;refine yaa (ybd hz rfl (x:=.none) rfl (yah ?_));simp only [yb4];refine yaa (ycU ?_);refine yaa (ybd hz rfl (x:=.ref TO) rfl ?_);refine yaa (ybI hz (by simp) fun h₁ hz₁ hs₁=>?_);replace hz₁:IsZip h₁ z TI TO .ellipsis:=hz₁;refine yaa ?_;simp only [List.zipIdx_cons,List.zipIdx_nil,ycH,List.forIn_nil];refine yaa (yaa (ycB ?_));show wpAny _ _ (Builtin.SmallTypes.nextOf (.ref i1) >>= _) _ _ _;refine yaa (D1.item k1 _ _ _ hx (D1.frame _ _ _ h1 fun c hc o e=>hs₁.extBut _ _ (nin D.z1 hc) e) fun x h₂ tk₂ px h1₂ hs₂=>yah ?_);have hTO₂:IsPair h₂ TO a b:=hs₂.extBut _ _ D.TOi1 (hs₁.extBut _ _ D.TOz hTO);refine yaa (ybp hTO₂ rfl ?_);refine yaa (ycy hTO₂ fun h₃ hTO₃ hs₃=>?_);replace hTO₃:IsPair h₃ TO x b:=hTO₃;refine yaa (wpAny_letGo (yah ?_));refine yaa (yaa (ycB ?_));show wpAny _ _ (Builtin.SmallTypes.nextOf (.ref i2) >>= _) _ _ _;refine yaa (D2.item k2 _ _ _ hy (D2.frame _ _ _ h2 fun c hc o e=>hs₃.extBut _ _ (nin D.O2 hc) (hs₂.extBut _ _ (nin D.i1f hc) (hs₁.extBut _ _ (nin D.z2 hc) e))) fun y h₄ tk₄ py h2₄ hs₄=>yah ?_);have hTO₄:IsPair h₄ TO x b:=hs₄.extBut _ _ D.TOi2 hTO₃;refine yaa (ybp hTO₄ rfl ?_);refine yaa (ycy hTO₄ fun h₅ hTO₅ hs₅=>?_);replace hTO₅:IsPair h₅ TO x y:=hTO₅;refine yaa (wpAny_letGo (yah (yah ?_)));refine yaa (ybp hTO₅ rfl ?_);refine yaa (wpAny_newTuple ?_)
 have hsz:h₅.objs.size=s.heap.objs.size:=by rw [hs₅.1,hs₄.1,hs₃.1,hs₂.1,hs₁.1]
 have hz₅:IsZip h₅ z TI TO .ellipsis:=hs₅.extBut _ _ D.TOz.symm (hs₄.extBut _ _ D.i2z.symm (hs₃.extBut _ _ D.TOz.symm (hs₂.extBut _ _ D.i1z.symm hz₁)))
 have hk₅:∀c o,c≠z->c≠TO->c≠i1->c≠i2->s.heap.get? c=some o->h₅.get? c=some o:=fun c o c1 c2 c3 c4 e =>
  hs₅.extBut _ _ c2 (hs₄.extBut _ _ c4 (hs₃.extBut _ _ c2 (hs₂.extBut _ _ c3 (hs₁.extBut _ _ c1 e))))
 have h1₅:S1 (k1+1) h₅:=D1.frame _ _ _ h1₂ fun c hc o e=>hs₅.extBut _ _ (nin D.O1 hc) (hs₄.extBut _ _ (nin D.i2f hc) (hs₃.extBut _ _ (nin D.O1 hc) e))
 have h2₅:S2 (k2+1) h₅:=D2.frame _ _ _ h2₄ fun c hc o e=>hs₅.extBut _ _ (nin D.O2 hc) e
 have hzlt:z<h₅.objs.size:=yas hz₅;have hTOlt:TO<h₅.objs.size:=yas hTO₅;show wpAny _ _ (Builtin.SmallTypes.ownedTupleHandOut (.ref z) (.ref h₅.objs.size) >>= _) _ _ _;refine yaa ?_;unfold Builtin.SmallTypes.ownedTupleHandOut;have hz₆:IsZip (h₅.push { cls:=.type "tuple",data:=.seq #[x,y] }) z TI TO .ellipsis:=yad _ hz₅;refine yaa (ybI hz₆ (by simp) fun h₇ hz₇ hs₇=>?_);replace hz₇:IsZip h₇ z TI TO (rawInt h₅.objs.size):=hz₇;refine ybI hz₇ (by simp) fun h₈ hz₈ hs₈=>?_
 replace hz₈:IsZip h₈ z TI TO (rawInt h₅.objs.size):=hz₈;have up:∀c o,c≠z->h₅.get? c=some o->h₈.get? c=some o:=fun c o c1 e=>hs₈.extBut _ _ c1 (hs₇.extBut _ _ c1 (yad _ e))
 have hT₈:IsPair h₈ h₅.objs.size x y:=hs₈.extBut _ _ (ya3 hzlt) (hs₇.extBut _ _ (ya3 hzlt) (yar _ rfl))
 have hz8:h₈.objs.size=h₅.objs.size+1:=by rw [hs₈.1,hs₇.1,yaV]
 rw [hsz] at hz₈ hT₈ hz8;refine yah ⟨_,rfl,?_⟩;show Q (.ref h₅.objs.size) _;rw [hsz];exact hQ x y h₈ tk₄ px py hz₈ (up _ _ D.TOz hTO₅) (D1.frame _ _ _ h1₅ fun c hc o e=>up _ o (nin D.z1 hc) e) (D2.frame _ _ _ h2₅ fun c hc o e=>up _ o (nin D.z2 hc) e) hT₈ hz8 fun c o c1 c2 c3 c4 e=>up c o c1 (hk₅ c o c1 c2 c3 c4 e)
def zf1{z TI TO i1 i2:Addr}{f1 f2:List Addr}{n1 n2:Nat}{P1 P2:Nat->Value->Prop}{S1 S2:Nat->Heap->Prop}{k1 k2:Nat}{a b:Value}{Q:Fin->Shared->Prop}(D:ZipD z TI TO i1 i2 f1 f2)
  (D1:Draws prog w A i1 f1 n1 P1 S1) (D2:Draws prog w A i2 f2 n2 P2 S2)
  (hz:IsZip s.heap z TI TO .none) (hTI:IsPair s.heap TI (.ref i1) (.ref i2)) (hTO:IsPair s.heap TO a b)
  (h1:S1 k1 s.heap) (h2:S2 k2 s.heap) (hend:k1=n1\/(k1<n1/\k2=n2))
  (hE:∀h' e tk,(∀c o,c≠z->c≠TO->c≠i1->c≠i2->s.heap.get? c=some o->h'.get? c=some o)->(∃o,h'.get? e=some o/\o.cls=.type "StopIteration")->E (.ref e) { s with heap:=h',toks:=tk }) :
  wpAny (model prog w) A (Builtin.«zip.__next__» ⟨[.ref z],[]⟩) Q E s:=by
 show wpAny _ _ (field (.ref z) 2 >>= _) _ _ _;refine yaa (ybd hz rfl (x:=.bool false) rfl ?_);show wpAny _ _ (field (.ref z) 3 >>= _) _ _ _;refine yaa (ybd hz rfl (x:=.ref TI) rfl ?_);refine yaa (ybp hTI rfl ?_);show wpAny _ _ (Builtin.SmallTypes.ownedTupleIsFree (.ref z) >>= _) _ _ _;refine yaa ?_;unfold Builtin.SmallTypes.ownedTupleIsFree;refine yaa (ybd hz rfl (x:=.none) rfl (yah ?_));simp only [yb4];refine yaa (ycU ?_);refine yaa (ybd hz rfl (x:=.ref TO) rfl ?_);refine yaa (ybI hz (by simp) fun h₁ hz₁ hs₁=>?_);replace hz₁:IsZip h₁ z TI TO .ellipsis:=hz₁;refine yaa ?_;simp only [List.zipIdx_cons,List.zipIdx_nil,ycH,List.forIn_nil];refine yaa (yaa (ycB ?_));show wpAny _ _ (Builtin.SmallTypes.nextOf (.ref i1) >>= _) _ _ _;have h1₁:S1 k1 h₁:=D1.frame _ _ _ h1 fun c hc o e=>hs₁.extBut _ _ (nin D.z1 hc) e
 rcases hend with rfl | ⟨hx,rfl⟩
 ·refine yaa (D1.done _ _ _ h1₁ fun h₂ e hs₂ he=>?_);obtain ⟨oe,hoe,hce⟩:=he;have hz₂:IsZip h₂ z TI TO .ellipsis:=hs₂ _ _ D.i1z.symm hz₁
  have hez:e≠z:=fun x=>by subst x;rw [hz₂] at hoe;cases hoe;simp at hce
  refine ybI hz₂ (by simp) fun h₃ _ hs₃=>hE h₃ e _ (fun c o c1 _ c3 _ x=>hs₃.extBut _ _ c1 (hs₂ _ _ c3 (hs₁.extBut _ _ c1 x))) ⟨oe,hs₃.extBut _ _ hez hoe,hce⟩
 ·refine yaa (D1.item k1 _ _ _ hx h1₁ fun x h₂ tk₂ px h1₂ hs₂=>yah ?_);have hTO₂:IsPair h₂ TO a b:=hs₂.extBut _ _ D.TOi1 (hs₁.extBut _ _ D.TOz hTO);refine yaa (ybp hTO₂ rfl ?_);refine yaa (ycy hTO₂ fun h₃ hTO₃ hs₃=>?_);refine yaa (wpAny_letGo (yah ?_));refine yaa (yaa (ycB ?_));show wpAny _ _ (Builtin.SmallTypes.nextOf (.ref i2) >>= _) _ _ _;refine yaa (D2.done _ _ _ (D2.frame _ _ _ h2 fun c hc o e=>hs₃.extBut _ _ (nin D.O2 hc) (hs₂.extBut _ _ (nin D.i1f hc) (hs₁.extBut _ _ (nin D.z2 hc) e))) fun h₄ e hs₄ he=>?_);obtain ⟨oe,hoe,hce⟩:=he;have hz₄:IsZip h₄ z TI TO .ellipsis:=hs₄ _ _ D.i2z.symm (hs₃.extBut _ _ D.TOz.symm (hs₂.extBut _ _ D.i1z.symm hz₁))
  have hez:e≠z:=fun x=>by subst x;rw [hz₄] at hoe;cases hoe;simp at hce
  refine ybI hz₄ (by simp) fun h₅ _ hs₅=>hE h₅ e _ (fun c o c1 c2 c3 c4 x=>hs₅.extBut _ _ c1 (hs₄ _ _ c4 (hs₃.extBut _ _ c2 (hs₂.extBut _ _ c3 (hs₁.extBut _ _ c1 x))))) ⟨oe,hs₅.extBut _ _ hez hoe,hce⟩
abbrev zG1(b1:Bool)(h:Heap)(l1:Addr):Heap:=h.push { cls:=.type (itN b1),data:=.fields #[.ref l1,.int 0 0] }
abbrev zG2(b1 b2:Bool)(h:Heap)(l1 l2:Addr):Heap:=(zG1 b1 h l1).push { cls:=.type (itN b2),data:=.fields #[.ref l2,.int 0 0] }
abbrev zG3(b1 b2:Bool)(h:Heap)(l1 l2:Addr):Heap:=(zG2 b1 b2 h l1 l2).push { cls:=.type "tuple",data:=.seq #[.ref h.objs.size,.ref (zG1 b1 h l1).objs.size] }
abbrev zG4(b1 b2:Bool)(h:Heap)(l1 l2:Addr):Heap:=(zG3 b1 b2 h l1 l2).push { cls:=.type "tuple",data:=.seq #[.none,.none] }
abbrev zG5(b1 b2:Bool)(h:Heap)(l1 l2:Addr):Heap:=(zG4 b1 b2 h l1 l2).push { cls:=.type "zip",data:=.fields #[.none,.bool false,.bool false,.ref (zG2 b1 b2 h l1 l2).objs.size,.ref (zG3 b1 b2 h l1 l2).objs.size] }
def zfv(b1 b2:Bool)(l1 l2:Addr)(xs ys:Array Value) :
  Meets (Builtin.«zip.__new__» ⟨[.type "zip",.ref l1,.ref l2],[]⟩) (fun _ R s=>zj1 b1 s.heap l1 xs/\zj1 b2 s.heap l2 ys ∧
   R (.ok (.ret (.ref (zG4 b1 b2 s.heap l1 l2).objs.size))) { s with heap:=zG5 b1 b2 s.heap l1 l2 }) :=
 .of_wp fun prog w A R s h=>by
  obtain ⟨hp,g,d,tk,os⟩:=s;obtain ⟨hl1,hl2,h⟩:=h;have hsub:=sub_zip;have hL1:zj1 b1 (Shared.heap ⟨hp,g,d,tk,os⟩) l1 xs:=hl1;have hL2:zj1 b2 (Shared.heap ⟨hp.push { cls:=.type (itN b1),data:=.fields #[.ref l1,.int 0 0] },g,d,tk,os⟩) l2 ys:=hl2.keep fun o e=>yad _ e
  wp_walk using zgZ hL1,zgZ hL2
  exact ⟨_,rfl,h⟩
def zor{b:Bool}{h:Heap}{it a:Addr}(g:h.get? it=some { cls:=.type (itN b),data:=.fields #[.ref a,.int 0 0] }):zma b h it a 0:=by
 cases b with
 | true=>exact ⟨_,g,rfl,rfl⟩
 | false=>exact ⟨_,g,rfl,rfl⟩
def zlW{b1 b2:Bool}{l1 l2:Addr}{xs ys:Array Value}{Q:Z5}(hl1:zj1 b1 s.heap l1 xs)(hl2:zj1 b2 s.heap l2 ys)
  (h:∀h',IsZip h' (s.heap.objs.size+4) (s.heap.objs.size+2) (s.heap.objs.size+3) .none->IsPair h' (s.heap.objs.size+2) (.ref s.heap.objs.size) (.ref (s.heap.objs.size+1)) →
   IsPair h' (s.heap.objs.size+3) .none .none->zma b1 h' s.heap.objs.size l1 0->zma b2 h' (s.heap.objs.size+1) l2 0->h'.objs.size=s.heap.objs.size+5 →
   (∀c o,s.heap.get? c=some o->h'.get? c=some o)->Q (.ref (s.heap.objs.size+4)) { s with heap:=h' }) :
  wpAny (model prog w) A (call (.type "zip") [.ref l1,.ref l2]) Q E s:=by
 refine callType_new F.called_zip (by decide) (F.typeCall_zip_2 _ _) (F.newCall_zip_2 _ _) (fun obj=>F.args_object_init_3 obj _ _) F.entry_zip_new
  (zfv b1 b2 l1 l2 xs ys) ⟨hl1,hl2,?_⟩
 have z1:(zG1 b1 s.heap l1).objs.size=s.heap.objs.size+1:=yaV ..
 have z2:(zG2 b1 b2 s.heap l1 l2).objs.size=s.heap.objs.size+2:=by rw [yaV,z1]
 have z3:(zG3 b1 b2 s.heap l1 l2).objs.size=s.heap.objs.size+3:=by rw [yaV,z2]
 have z4:(zG4 b1 b2 s.heap l1 l2).objs.size=s.heap.objs.size+4:=by rw [yaV,z3]
 have z5:(zG5 b1 b2 s.heap l1 l2).objs.size=s.heap.objs.size+5:=by rw [yaV,z4]
 have g5:(zG5 b1 b2 s.heap l1 l2).get? (zG4 b1 b2 s.heap l1 l2).objs.size=some _:=yar _ rfl;have g4:(zG5 b1 b2 s.heap l1 l2).get? (zG3 b1 b2 s.heap l1 l2).objs.size=some _:=yad _ (yar _ rfl);have g3:(zG5 b1 b2 s.heap l1 l2).get? (zG2 b1 b2 s.heap l1 l2).objs.size=some _:=yad _ (yad _ (yar _ rfl));have g2:(zG5 b1 b2 s.heap l1 l2).get? (zG1 b1 s.heap l1).objs.size=some { cls:=.type (itN b2),data:=.fields #[.ref l2,.int 0 0] }:=yad _ (yad _ (yad _ (yar _ rfl)));have g1:(zG5 b1 b2 s.heap l1 l2).get? s.heap.objs.size=some { cls:=.type (itN b1),data:=.fields #[.ref l1,.int 0 0] }:=yad _ (yad _ (yad _ (yad _ (yar _ rfl))));show _/\_;rw [z2,z3,z4] at g5;rw [z1,z2] at g3;rw [z3] at g4;rw [z1] at g2;rw [z4]
 exact ⟨⟨_,g5,rfl⟩,h _ g5 g3 g4 (zor g1) (zor g2) z5 fun c o x =>
  yad _ (yad _ (yad _ (yad _ (yad _ x))))⟩
end
end L2
namespace L2
open PySem PySem.Spec PyProof.Rows
section
variable{X:Cx}{pins:Z3}{σ:St}{H:Hp}{s:Shared}
def SqB(b:Bool)(H:Hp)(a:Addr)(xs:List V):Prop:=match b with | true=>H a=some (.lst xs) | false=>H a=some (.tup xs)
def Inv.sq{b:Bool}{a:Addr}{xs:List V}(I:Inv X pins σ H s)(h:SqB b H a xs):∃its:List Value,Vals xs its/\zj1 b s.heap a its.toArray:=by
 cases b with
 | true=>obtain ⟨its,rv,p,_⟩:=I.list (SqL.of h);exact ⟨its,rv,p.isList⟩
 | false=>obtain ⟨its,rv,p,_⟩:=I.tuple (SqT.of h);exact ⟨its,rv,p⟩
def Inv.sq_inj{b:Bool}{a:Addr}{xs ys:List V}(I:Inv X pins σ H s)(h:SqB b H a xs)(h':SqB b H a ys):xs=ys:=by
 cases b with
 | true=>exact I.list_inj (SqL.of h) (SqL.of h')
 | false=>exact I.tuple_inj (SqT.of h) (SqT.of h')
def ItZ(b1 b2:Bool)(l1 l2:Addr):It :=
 ⟨fun i H=>∃xs ys x y,SqB b1 H l1 xs/\SqB b2 H l2 ys/\xs[i]?=some x/\ys[i]?=some y,
  fun i H v H'=>∃t x y,v=.ref t/\H t=none/\H'=upd H t (.tup [x,y])/\(∀xs,SqB b1 H l1 xs->xs[i]?=some x)/\∀ys,SqB b2 H l2 ys->ys[i]?=some y,
  fun i H=>∃xs ys,SqB b1 H l1 xs/\SqB b2 H l2 ys/\(i=xs.length\/(i<xs.length/\i=ys.length))⟩
def zoI{z TI TO i1 i2 T:Addr}{h1 h2:Heap}{tk:Nat}{u1 u2:Value}{y1 y2:V}(I:Inv X pins σ H s)(hf:∀b∈[z,TI,TO,i1,i2],zmb X pins H b)(hT:T=s.heap.objs.size)(te:h1.get? T=some { cls:=.type "tuple",data:=.seq #[u1,u2] })
  (k:∀b o,b≠z->b≠TO->b≠i1->b≠i2->s.heap.get? b=some o->h1.get? b=some o) (sb:Heap.SameBut z h1 h2) (ne:T≠z) (r1:za2 y1 u1) (r2:za2 y2 u2):Inv X pins σ (upd H T (.tup [y1,y2])) { s with heap:=h2,toks:=tk }/\H T=none:=by
 have fr:H T=none:=by rw [hT];exact I.hok.fresh (yam _)
 refine ⟨?_,fr⟩
 have I1:Inv X pins σ H { s with heap:=h2,toks:=tk }:=I.turnedL (ch:=[z,TI,TO,i1,i2]) (fun b o hb q=>by
  simp only [yav,yaJ,ybU,not_or] at hb
  exact (sb.2 b hb.1).trans (k b o hb.1 hb.2.2.1 hb.2.2.2.1 hb.2.2.2.2 q)) hf
 refine I1.track fr (by rw [hT];exact I.sz) (by rw [hT];exact ya3 I.lt) (fun z c q=>?_) (fun p hp=>?_) ?_
 ·obtain ⟨v,cq⟩:=I.cell z c q;rw [hT];exact yaB cq.lt
 ·rw [hT];exact yaB (yas (I.pin p hp).1)
 ·refine ⟨by show 2<=sizeLine;decide,[u1,u2],.cons r1 (.cons r2 .nil),?_⟩;exact ⟨_,(sb.2 T ne).trans te,rfl,_,rfl⟩
structure ZipI(z TI TO i1 i2:Addr):Prop where
 TIz:TI≠z
 TOz:TO≠z
 i1z:i1≠z
 i2z:i2≠z
 TITO:TI≠TO
 TIi1:TI≠i1
 TIi2:TI≠i2
 TOi1:TO≠i1
 TOi2:TO≠i2
 i12:i1≠i2
def SqB.ne{b:Bool}{a c:Addr}{xs:List V}(h:SqB b H a xs)(n:H c=none):a≠c:=by
 rintro rfl
 cases b with
 | true=>rw [show H a=_ from h] at n;cases n
 | false=>rw [show H a=_ from h] at n;cases n
def zml{P:Program}{w:World}{K:PySem.W.Frag}{elts:List Expr}{x1:Nat}{pos:Pos}(b1 b2:Bool)(l1 l2 z TI TO i1 i2:Addr)(D:ZipI z TI TO i1 i2):Turn P w K (.Tuple elts x1 pos) (ItZ b1 b2 l1 l2) [z,TI,TO,i1,i2] z (fun i h=>IsZip h z TI TO .none/\IsPair h TI (.ref i1) (.ref i2)/\(∃a b,IsPair h TO a b)/\zma b1 h i1 l1 i/\zma b2 h i2 l2 i) where
 mem:=by simp
 obj:=fun i h st b hb=>by
  obtain ⟨hz,hI,⟨a,c,hO⟩,h1,h2⟩:=st;simp only [yav,yaJ,ybU] at hb
  rcases hb with rfl | rfl | rfl | rfl | rfl
  ·exact ⟨_,hz,fun v e=>by cases e⟩
  ·exact ⟨_,hI,fun v e=>by cases e⟩
  ·exact ⟨_,hO,fun v e=>by cases e⟩
  ·exact h1.live
  ·exact h2.live
 keep:=fun i h h' st k=>by
  obtain ⟨hz,hI,⟨a,c,hO⟩,h1,h2⟩:=st;exact ⟨k _ (by simp) _ hz,k _ (by simp) _ hI,⟨a,c,k _ (by simp) _ hO⟩,h1.keep fun o e=>k _ (by simp) o e,h2.keep fun o e=>k _ (by simp) o e⟩
 item:=by
  intro X hP hw hK hc i pins s σ H E I hf st hg;subst hP hw hK;obtain ⟨xs,ys,x,y,q1,q2,e1,e2⟩:=hg;obtain ⟨hz,hI,⟨a,c,hO⟩,h1,h2⟩:=st;obtain ⟨its,rv1,p1⟩:=I.sq q1;obtain ⟨jts,rv2,p2⟩:=I.sq q2;obtain ⟨u1,hu1,ru1⟩:=rv1.get e1;obtain ⟨u2,hu2,ru2⟩:=rv2.get e2
  have hlt1:i<its.toArray.size:=by simpa using (yag.mp hu1).1
  have hlt2:i<jts.toArray.size:=by simpa using (yag.mp hu2).1
  have n1:∀b∈[z,TI,TO,i1,i2],l1≠b:=fun b hb=>q1.ne (hf b hb).1
  have n2:∀b∈[z,TI,TO,i1,i2],l2≠b:=fun b hb=>q2.ne (hf b hb).1
  have D':ZipD z TI TO i1 i2 [i1,l1] [i2,l2]:=⟨D.TIz,D.TOz,D.i1z,D.i2z,D.TITO,D.TIi1,D.TIi2,D.TOi1,D.TOi2,D.i12,
   by simp [D.i1z.symm,(n1 z (by simp)).symm],by simp [D.i2z.symm,(n2 z (by simp)).symm],by simp [D.TOi1,(n1 TO (by simp)).symm],by simp [D.TOi2,(n2 TO (by simp)).symm],
   by simp [D.i12,(n2 i1 (by simp)).symm],by simp [D.i12.symm,(n1 i2 (by simp)).symm]⟩
  have hT:s.TypeIs (.ref z) "zip":=⟨_,hz,rfl⟩;unfold pyNext
  refine yaa (wpAny_attempt (ya8 (name:=Str.ofString "__next__") hT ycJ (ybj ycJ hT F.entry_zip_next
   (zft D' (zeG (A:=X.A.in1) (I.ok.hd hc) b1 i1 l1 (n1 i1 (by simp)) its.toArray) (zeG (A:=X.A.in1) (I.ok.hd hc) b2 i2 l2 (n2 i2 (by simp)) jts.toArray) hz hI hO ⟨h1,p1⟩ ⟨h2,p2⟩ hlt1 hlt2 fun v1 v2 h' tk pv1 pv2 a1 a2 a3 a4 a5 a6 a7=>yah ?_) (F.args_zip_next_1 _))))
  have ev1:v1=u1:=by
   have:its[i]?=some v1:=by simpa using pv1
   rw [hu1] at this;exact (Option.some.inj this).symm
  have ev2:v2=u2:=by
   have:jts[i]?=some v2:=by simpa using pv2
   rw [hu2] at this;exact (Option.some.inj this).symm
  subst ev1 ev2;have neT:s.heap.objs.size≠z:=ya3 (yas hz);refine ⟨_,rfl,wpAny_letOwnedTupleGo_zip a1 fun h2' hz2 sb=>?_⟩;obtain ⟨I2,fr⟩:=zoI (tk:=tk) (h2:=h2') I hf rfl a5 a7 sb neT ru1 ru2;refine ⟨.ref s.heap.objs.size,_,I2,rfl,⟨_,x,y,rfl,fr,rfl,fun xs' hx'=>by rw [I.sq_inj hx' q1];exact e1,fun ys' hy'=>by rw [I.sq_inj hy' q2];exact e2⟩,⟨hz2,(sb.2 _ D.TIz).trans (a7 _ _ D.TIz D.TITO D.TIi1 D.TIi2 hI),⟨_,_,(sb.2 _ D.TOz).trans a2⟩,a3.1.keep fun o e=>(sb.2 _ D.i1z).trans e,a4.1.keep fun o e=>(sb.2 _ D.i2z).trans e⟩,fun b hb=>?_⟩;rw [zal]
  ·exact (hf b hb).1
  ·rintro rfl
   have hlive:∃o,s.heap.get? s.heap.objs.size=some o:=by
    simp only [yav,yaJ,ybU] at hb
    rcases hb with e | e | e | e | e
    ·exact absurd e neT
    ·rw [e];exact ⟨_,hI⟩
    ·rw [e];exact ⟨_,hO⟩
    ·rw [e];obtain ⟨o,q,_⟩:=h1.live;exact ⟨o,q⟩
    ·rw [e];obtain ⟨o,q,_⟩:=h2.live;exact ⟨o,q⟩
   obtain ⟨o,q⟩:=hlive;exact absurd (yas q) (yaR _)
 done:=by
  intro X hP hw hK hc i pins s σ H E I hf st hg;subst hP hw hK;obtain ⟨xs,ys,q1,q2,he⟩:=hg;obtain ⟨hz,hI,⟨a,c,hO⟩,h1,h2⟩:=st;obtain ⟨its,rv1,p1⟩:=I.sq q1;obtain ⟨jts,rv2,p2⟩:=I.sq q2;have hl1:=rv1.length;have hl2:=rv2.length;have n1:∀b∈[z,TI,TO,i1,i2],l1≠b:=fun b hb=>q1.ne (hf b hb).1
  have n2:∀b∈[z,TI,TO,i1,i2],l2≠b:=fun b hb=>q2.ne (hf b hb).1
  have D':ZipD z TI TO i1 i2 [i1,l1] [i2,l2]:=⟨D.TIz,D.TOz,D.i1z,D.i2z,D.TITO,D.TIi1,D.TIi2,D.TOi1,D.TOi2,D.i12,
   by simp [D.i1z.symm,(n1 z (by simp)).symm],by simp [D.i2z.symm,(n2 z (by simp)).symm],by simp [D.TOi1,(n1 TO (by simp)).symm],by simp [D.TOi2,(n2 TO (by simp)).symm],
   by simp [D.i12,(n2 i1 (by simp)).symm],by simp [D.i12.symm,(n1 i2 (by simp)).symm]⟩
  have hT:s.TypeIs (.ref z) "zip":=⟨_,hz,rfl⟩;unfold pyNext
  refine yaa (wpAny_attempt (ya8 (name:=Str.ofString "__next__") hT ycJ (ybj ycJ hT F.entry_zip_next
   (zf1 D' (zeG (A:=X.A.in1) (I.ok.hd hc) b1 i1 l1 (n1 i1 (by simp)) its.toArray) (zeG (A:=X.A.in1) (I.ok.hd hc) b2 i2 l2 (n2 i2 (by simp)) jts.toArray) hz hI hO ⟨h1,p1⟩ ⟨h2,p2⟩ (by simp;omega) fun h' e tk hk he'=>?_) (F.args_zip_next_1 _))))
  obtain ⟨o,ho,hcl⟩:=he';refine yaa (yct (T:="StopIteration") (b:=true) ⟨o,ho,hcl⟩ isSubtype_stop ?_);refine yah ⟨rfl,I.turnedL (ch:=[z,TI,TO,i1,i2]) (fun b o hb q=>?_) hf⟩;simp only [yav,yaJ,ybU,not_or] at hb;exact hk b o hb.1 hb.2.2.1 hb.2.2.2.1 hb.2.2.2.2 q
 self:=fun _ _ _ _ _ st h=>wpAny_pyIter_zip st.1 h
def znP:bootBuiltins "zip" = some (.type "zip"):=by decide +kernel
def zq2{b1 b2:Bool}{elts:List Expr}{x1:Nat}{tp:Pos}{s1:Shared}{H1:Hp}{l1 l2:Addr}{xs ys:List V}{R:It->Hp->Prop}(I1:Inv X pins σ H1 s1)(q1:SqB b1 H1 l1 xs)(q2:SqB b2 H1 l2 ys)(q:R (ItZ b1 b2 l1 l2) H1) :
  wpAny (model X.prog X.w) X.A (call (.type "zip") [.ref l1,.ref l2]) (fun v s2=>wpAny (model X.prog X.w) X.A (pyIter v) (PIE X pins σ (.Tuple elts x1 tp) R) X.xe s2) X.xe s1:=by
 obtain ⟨its,rv1,p1⟩:=I1.sq q1;obtain ⟨jts,rv2,p2⟩:=I1.sq q2;refine zlW p1 p2 fun h' hz hI hO hi1 hi2 hsz hk=>wpAny_pyIter_zip hz ?_
 refine ⟨s1.heap.objs.size+4,[s1.heap.objs.size+4,s1.heap.objs.size+2,s1.heap.objs.size+3,s1.heap.objs.size,s1.heap.objs.size+1],_,_,H1,rfl,I1.kept (t':=s1.toks) hk,zml b1 b2 l1 l2 _ _ _ _ _ ⟨?_,?_,?_,?_,?_,?_,?_,?_,?_,?_⟩,⟨hz,hI,⟨_,_,hO⟩,hi1,hi2⟩,fun c hb=>?_,q⟩
 all_goals try (first | omega | exact yaB (by omega) | exact ya3 (by omega))
 simp only [yav,yaJ,ybU] at hb
 have hc:s1.heap.objs.size<=c:=by rcases hb with rfl | rfl | rfl | rfl | rfl<;>omega
 exact I1.fpOk hc (I1.hok.fresh hc)
end
end L2
namespace PySem.F
end PySem.F
namespace L2
open PySem PySem.Spec PyProof.Rows
section
variable{prog:Program}{w:World}{A:Around}{E:Z5}{s:Shared}
end
section
variable{X:Cx}{pins:Z3}{σ:St}{H:Hp}{s:Shared}
end
end L2
namespace S2
open PySem PySem.Spec PyProof.Rows L2
section
variable{X:Cx}{cl:Cf}{E:St->XK}{e tg:Expr}{f:Fe}{own:Bool}{pos pos':Pos}
def zqZ:List D->Option D | [.int i,.int j]=>some (.int (if j > i then j else i)) | _=>none
def zy8:List D->Option D | [.int i,.int j]=>some (.int (if j<i then j else i)) | _=>none
def ztF(hc:X.calm=true):zih X cl (.builtin "max") zqZ:=by
 intro pins s σ H xs us Q I r h;obtain ⟨w,ds,d,rfl,hx,hg,q⟩:=h;unfold zqZ at hg;split at hg
 ·rename_i i j;cases hg
  cases hx with
  | cons h1 h2=>cases h2 with
   | cons h2 h3 =>
    cases h3;obtain rfl:=h1.intI;obtain rfl:=h2.intI;exact zlX hc pins s σ w.H _ us Q I r ⟨i,j,rfl,q _ w (Grow.refl _) (.int _)⟩
 ·cases hg
def zcy(l:List D):List D:=l.zipIdx.map fun p=>.tup [.int p.2,p.1]
def zdY(l:List D):(zcy l).length=l.length:=by unfold zcy;rw [yaf,List.length_zipIdx]
def zdZ{l:List D}{i:Nat}{d:D}(h:(zcy l)[i]?=some d):∃y,l[i]?=some y/\d=.tup [.int i,y]:=by
 unfold zcy at h;rw [yao,List.getElem?_zipIdx] at h
 cases hl:l[i]? with
 | none=>rw [hl] at h;cases h
 | some y =>
  rw [hl] at h;refine ⟨y,rfl,?_⟩;have:=Option.some.inj h;rw [<-this];simp
def zjN(f:Fe):Fi:=fun ρ S=>(zak [f] ρ S).bind fun ds S1=>match ds with | [.lst l]=>.ok (zcy l) S1 | [.tup l]=>.ok (zcy l) S1 | _=>.bad
def zoo{S:Hp->Addr->List V->Prop}{w:Wd}{a:Addr}{xs:List V}{l:List D}(hS:∀w',Fut w w'->S w'.H a xs)(r:Shds cl w xs l):ItOk cl w (ItE S a) (zcy l):=by
 have hl:=r.length;have hel:=zdY l;refine ⟨fun w1 F1 i hi=>⟨xs,xs[i]'(by omega),hS w1 F1,yac (by omega)⟩,fun w1 F1=>⟨xs,hS w1 F1,by omega⟩,fun w1 F1 i d x H1 hd y=>?_⟩;obtain ⟨t,v,rfl,ht,rfl,hy⟩:=y;obtain ⟨z,hz,rfl⟩:=zdZ hd;have hv:=hy xs (hS w1 F1);obtain ⟨d',e1,e2⟩:=r.get hv;rw [hz] at e1;cases e1;exact ⟨w1.add t _,rfl,zaA ht _,Shd.newT ht (.cons (.int _) (.cons (e2.up F1) .nil))⟩
def zpd{es:List Expr}{kk:Nat}{tp p:Pos}(hg:Gl X "enumerate")(hm:X.mg "enumerate" = none)(ha:PA X [e] (tAs cl E [f]))(hs:starEach [e] X.env=[(false,eval e X.env)]):PI X (.Tuple es kk tp) (.Call (.Name "enumerate" p) [e] [] pos) (tI cl E (zjN f)):=by
 intro pins s σ H R' I q;obtain ⟨B,w,ρ,S,rfl,R,q⟩:=q;unfold zjN at q;have L:=zmM (elts:=es) (x1:=kk) (tp:=tp) (p:=p) (pos:=pos) hg hm ha rfl hs pins s σ w.H R' I;have T:=zmL (elts:=es) (x1:=kk) (tp:=tp) (p:=p) (pos:=pos) hg hm ha rfl hs pins s σ w.H R' I
 cases hf:zak [f] ρ S with
 | bad=>rw [hf] at q;exact q.elim
 | exc c S1 =>
  refine L ⟨B,w,ρ,S,rfl,R,?_⟩;rw [hf] at q ⊢;exact q
 | ok ds S1 =>
  rw [hf] at q;dsimp only [Out.bind] at q;split at q
  ·rename_i l' S' hm';split at hm'
   ·rename_i l;cases hm';refine L ⟨B,w,ρ,S,rfl,R,?_⟩;rw [hf];intro vs w' R2 F2 sh
    cases sh with
    | cons h1 h2 =>
     cases h2
     cases h1 with
     | lst ep k r=>exact ⟨_,rfl,⟨_,SqL.of ep⟩,q _ w' R2 F2 (zoo (fun w1 F1=>SqL.of (F1.keep _ _ ep k).1) r)⟩
   ·rename_i l;cases hm';refine T ⟨B,w,ρ,S,rfl,R,?_⟩;rw [hf];intro vs w' R2 F2 sh
    cases sh with
    | cons h1 h2 =>
     cases h2
     cases h1 with
     | tup ep k r=>exact ⟨_,rfl,⟨_,SqT.of ep⟩,q _ w' R2 F2 (zoo (fun w1 F1=>SqT.of (F1.keep _ _ ep k).1) r)⟩
   ·cases hm'
  ·rename_i hm';split at hm'<;>cases hm'
  ·exact q.elim
def zfB:List D->List D->List D
 | x::xs,y::ys=>.tup [x,y]::zfB xs ys
 | _,_=>[]
theorem zij:∀(xs ys:List D),(zfB xs ys).length=min xs.length ys.length
 | [],_=>by simp [zfB]
 | _::_,[]=>by simp [zfB]
 | _::xs,_::ys=>by simp [zfB,zij xs ys]
theorem zik:∀{xs ys:List D} {i:Nat} {d:D},(zfB xs ys)[i]?=some d->∃x y,xs[i]?=some x/\ys[i]?=some y/\d=.tup [x,y]
 | [],_,_,_,h=>by simp [zfB] at h
 | _::_,[],_,_,h=>by simp [zfB] at h
 | x::xs,y::ys,0,d,h=>by
  simp only [zfB,List.getElem?_cons_zero,Option.some.injEq] at h;exact ⟨x,y,rfl,rfl,h.symm⟩
 | x::xs,y::ys,i+1,d,h=>by
  simp only [zfB,List.getElem?_cons_succ] at h ⊢;exact zik h
def zrO:D->Option (List D) | .lst l=>some l | .tup l=>some l | _=>none
def zox(f g:Fe):Fi:=fun ρ S=>(zak [f,g] ρ S).bind fun ds S1=>match ds with | [x,y]=>(match zrO x,zrO y with | some l,some k=>.ok (zfB l k) S1 | _,_=>.bad) | _=>.bad
def ztb{b1 b2:Bool}{w:Wd}{l1 l2:Addr}{xs ys:List V}{ds es:List D}(h1:∀w',Fut w w'->SqB b1 w'.H l1 xs)(h2:∀w',Fut w w'->SqB b2 w'.H l2 ys)(r1:Shds cl w xs ds)(r2:Shds cl w ys es):ItOk cl w (ItZ b1 b2 l1 l2) (zfB ds es):=by
 have e1:=r1.length;have e2:=r2.length;have el:=zij ds es;refine ⟨fun w1 F1 i hi=>⟨xs,ys,xs[i]'(by omega),ys[i]'(by omega),h1 w1 F1,h2 w1 F1,yac (by omega),yac (by omega)⟩,fun w1 F1=>⟨xs,ys,h1 w1 F1,h2 w1 F1,by omega⟩,fun w1 F1 i d x H1 hd y=>?_⟩;obtain ⟨t,v1,v2,rfl,ht,rfl,hx,hy⟩:=y;obtain ⟨z1,z2,hz1,hz2,rfl⟩:=zik hd;obtain ⟨d1,q1,s1⟩:=r1.get (hx xs (h1 w1 F1));obtain ⟨d2,q2,s2⟩:=r2.get (hy ys (h2 w1 F1));rw [hz1] at q1;cases q1;rw [hz2] at q2;cases q2;exact ⟨w1.add t _,rfl,zaA ht _,Shd.newT ht (.cons (s1.up F1) (.cons (s2.up F1) .nil))⟩
def ziB{w:Wd}{v:V}{d:D}{l:List D}(h:Shd cl w v d)(e:zrO d=some l):∃(b:Bool) (a:Addr) (xs:List V),v=.ref a/\(∀w',Fut w w'->SqB b w'.H a xs)/\Shds cl w xs l:=by
 cases h with
 | lst ep k r=>cases e;exact ⟨true,_,_,rfl,fun w1 F1=>(F1.keep _ _ ep k).1,r⟩
 | tup ep k r=>cases e;exact ⟨false,_,_,rfl,fun w1 F1=>(F1.keep _ _ ep k).1,r⟩
 | _=>cases e
def zrJ{a:Expr}{fa:Fe}{es:List Expr}{kk:Nat}{tp p:Pos}(hg:Gl X "zip")(hm:X.mg "zip" = none)(ha:PA X [a,e] (tAs cl E [fa,f]))(hs:starEach [a,e] X.env=(false,eval a X.env)::starEach [e] X.env)(hs2:(backTo pos (starEach [e] X.env)).any (·.1)=false):PI X (.Tuple es kk tp) (.Call (.Name "zip" p) [a,e] [] pos) (tI cl E (zox fa f)):=by
 have ha':PA X [a,e] (fun σ H R=>tAs cl E [fa,f] σ H R):=ha;intro pins s σ H R' I q;refine Call_ (zdt I hg hm L2.znP (yaO (thn (ha pos pins s σ H (fun vs H1=>∃b1 b2,∃l1 l2,vs=[.ref l1,.ref l2]/\(∃xs,SqB b1 H1 l1 xs)/\(∃ys,SqB b2 H1 l2 ys)/\R' (ItZ b1 b2 l1 l2) H1) I ?_) fun us s1 ⟨vs,H1,I1,r1,q1⟩=>?_) hs hs2))
 ·obtain ⟨B,w,ρ,S,rfl,R,q⟩:=q;refine ⟨B,w,ρ,S,rfl,R,?_⟩;unfold zox at q
  cases hf:zak [fa,f] ρ S with
  | bad=>rw [hf] at q;exact q.elim
  | exc c S1=>rwa [hf] at q
  | ok ds S1 =>
   rw [hf] at q;dsimp only [Out.bind] at q;intro vs w' R2 F2 sh;split at q
   ·rename_i l' S' hm';split at hm'
    ·rename_i x y;split at hm'
     ·rename_i l k hl hk;cases hm'
      cases sh with
      | cons h1 h2 =>
       cases h2 with
       | cons h2 h3 =>
        cases h3;obtain ⟨b1,a1,xs,rfl,p1,r1⟩:=ziB h1 hl;obtain ⟨b2,a2,ys,rfl,p2,r2⟩:=ziB h2 hk;exact ⟨b1,b2,a1,a2,rfl,⟨xs,p1 _ (Fut.refl _)⟩,⟨ys,p2 _ (Fut.refl _)⟩,q _ w' R2 F2 (ztb p1 p2 r1 r2)⟩
     ·cases hm'
    ·cases hm'
   ·rename_i hm';split at hm'
    ·split at hm'<;>cases hm'
    ·cases hm'
   ·exact q.elim
 ·obtain ⟨b1,b2,l1,l2,e,⟨xs,q1⟩,⟨ys,q2⟩,q⟩:=q1;subst e
  cases r1 with
  | cons r rr =>
   cases rr with
   | cons r' rr =>
    cases rr;cases r;cases r';exact zq2 I1 q1 q2 q
def zdN(j c:Int):List D:=(List.range ((j+c-1) / c).toNat).map fun (i:Nat)=>.int (i*c)
def zjM(f g h:Fe):Fi:=fun ρ S=>(zak [f,g,h] ρ S).bind fun ds S1=>match ds with | [.int i,.int j,.int c]=>if i=0/\0<=j/\j<=1000/\1<=c/\c<=1000 then .ok (zdN j c) S1 else .bad | _=>.bad
def ztc{w:Wd}{j c:Int}:ItOk cl w (Itq 0 c ((j+c-1) / c).toNat) (zdN j c):=by
 have hl:(zdN j c).length=((j+c-1) / c).toNat:=by unfold zdN;rw [yaf,ybY]
 refine ⟨fun w1 F1 i h=>by rw [hl] at h;exact h,fun w1 F1=>by rw [hl];exact yam _,fun w1 F1 i d x H1 hd y=>?_⟩;obtain ⟨rfl,rfl⟩:=y;unfold zdN at hd;rw [yao] at hd
 cases hr:(List.range ((j+c-1) / c).toNat)[i]? with
 | none=>rw [hr] at hd;cases hd
 | some k =>
  rw [hr] at hd;have:=(yag.mp hr).2;rw [List.getElem_range] at this;subst this;cases hd;refine ⟨w1,rfl,Grow.refl _,?_⟩;rw [Int.zero_add];exact .int _
def zpa{a b:Expr}{fa fb:Fe}{p:Pos}(hg:Gl X "range")(hm:X.mg "range" = none)(ha:PA X [a,b,e] (tAs cl E [fa,fb,f]))(hs:starEach [a,b,e] X.env=(false,eval a X.env)::starEach [b,e] X.env)(hs2:(backTo pos (starEach [b,e] X.env)).any (·.1)=false):PI X tg (.Call (.Name "range" p) [a,b,e] [] pos) (tI cl E (zjM fa fb f)):=by
 refine PI.imp (zkQ hg hm ha hs hs2) ?_;rintro σ H Q ⟨B,w,ρ,S,rfl,R,q⟩;refine ⟨B,w,ρ,S,rfl,R,?_⟩;unfold zjM at q
 cases hf:zak [fa,fb,f] ρ S with
 | bad=>rwa [hf] at q
 | exc c S1=>rwa [hf] at q
 | ok ds S1 =>
  rw [hf] at q;intro vs w' R' F' h';dsimp only [Out.bind] at q;split at q
  ·rename_i ds' S' hm';split at hm'
   ·rename_i i j c;split at hm'
    ·rename_i hb;obtain ⟨rfl,h1,h2,h3,h4⟩:=hb;cases hm'
     cases h' with
     | cons a1 a2=>cases a1;cases a2 with
      | cons b1 b2=>cases b1;cases b2 with
       | cons c1 c2 =>
        cases c1;cases c2;exact ⟨j,c,rfl,h1,h2,h3,h4,q _ w' R' F' ztc⟩
    ·cases hm'
   ·cases hm'
  ·rename_i hm';split at hm'<;>first | (split at hm'<;>cases hm') | cases hm'
  ·exact q.elim
def zqW(i:Nat)(fe:Fe):Fs:=fun ρ S=>match ρ[i]? with
 | some (some (true,.lst l))=>(match fe ρ S with
  | .ok (.lst k) S'=>if small (l.length+k.length) then .nx (ρ.set i (some (true,.lst (l++k)))) S' else .bad
  | .ok _ _=>.bad
  | .exc c S'=>.ex c ρ S' | .bad=>.bad)
 | _=>.bad
def zrC{i:Nat}{x:Str}{ap cp:Pos}(hN:X.N[i]?=some x)(hv:Vis X.env.scope x)(hd:(x == ("__debug__":Str))=false)(hcd:(x == ("__classdict__":Str))=false)(he:PE X e (tH cl E f))
  (hpl:zcm e=true) (hln:(ap.endLine == cp.line)=true):PS X (.Expr (.Call (.Attribute (.Name x pos') "extend" ap) [e] [] cp) pos) (tS cl E own (zqW i f)):=by
 refine PS.imp (zhP (zpI (es:=[]) ycf PySem.F.slot_list_extend PySem.F.type_list_extend zk8 (zcn hN hv hd hcd) (zcL he zeX (za8 hpl)) (hfew:=zi0 (by simp [hpl]) (by simp)) (hline:=hln) (hs:=za8 hpl) (hplain:=rfl))) ?_;rintro De σ H ⟨B,w,ρ,S,rfl,R,q⟩;unfold zqW at q;split at q
 ·rename_i l hl;obtain ⟨a,xs,e1,h1,h2,t⟩:=R.list hl;refine ⟨_,e1,.inl ⟨rfl,_,SqL.of h2⟩,B,w,ρ,S,rfl,R,?_⟩
  cases hf:f ρ S with
  | bad=>rwa [hf] at q
  | exc c S1=>rw [hf] at q;exact fun w' R' F'=>q σ w' R' F'
  | ok d S1 =>
   rw [hf] at q;intro v w' R' F' h'
   cases d with
   | lst k =>
    dsimp only at q
    cases hz:small (l.length+k.length) with
    | false=>rw [hz,if_neg (by decide)] at q;exact q.elim
    | true =>
     rw [hz,if_pos rfl] at q;obtain ⟨a',xs',e1',h1',h2',t'⟩:=R'.list hl;rw [e1] at e1';cases e1';obtain ⟨b,zs,rfl,eb,rb⟩:=(h'.top R').lstI;refine ⟨a,b,xs',zs,rfl,rfl,h2',eb,by rw [t'.length,rb.length];exact za9 hz,?_⟩;exact q σ (w'.mut a (.lst (xs'++zs))) (R'.mut (d0:=.non) e1 h1' (.lst (t'.append rb))) (F'.trans (zdA (by rw [h1'];exact yaL _)))
   | _=>exact q.elim
 ·exact q.elim
end
end S2
namespace S2
open PySem PySem.Spec PyProof.Rows L2
section
variable{X:Cx}{cl:Cf}{E:St->XK}{e:Expr}{f:Fe}{pos':Pos}
def eMt(g:List D->D->Option D)(i:Nat)(f:Fe):Fe:=fun ρ S=>match ρ[i]? with | some (some (_,.lst l))=>(f ρ S).bind fun d S1=>Out.of (g l d) S1 | _=>.bad
def zfT(l:List D)(d:D):Option D:=if d.fit 8&&D.fits 8 l then some (.int ((l.countP (zfs · d):Nat):Int)) else none
def zfO(l:List D)(d:D):Option D:=if d.fit 8&&D.fits 8 l&&decide (l.length<=1000000)&&zhC d l then some (.int ((l.findIdx (zfs · d):Nat):Int)) else none
def Rel.lstAny{B:Base}{σ:St}{w:Wd}{ρ:Env}{S:Sto}{i:Nat}{o:Bool}{l:List D}(R:Rel cl B σ w ρ S)(h:ρ[i]?=some (some (o,.lst l))):∃a xs,σ[i]?=some (some (.ref a))/\w.H a=some (.lst xs)/\Shds cl w xs l:=by
 cases o with
 | true=>obtain ⟨a,xs,e1,_,h2,t⟩:=R.list h;exact ⟨a,xs,e1,h2,t⟩
 | false =>
  obtain ⟨v,e1,sh⟩:=R.slots i false _ h
  cases sh with
  | lst ep k r=>exact ⟨_,_,e1,ep,r⟩
def MtB(X:Cx)(cl:Cf)(id:String)(g:List D->D->Option D):Prop:=MtM X id fun x vs H Q=>∃(a:Addr) (xs:List V) (l:List D) (w:Wd) (d:D) (v:V) (r:Int),w.H=H/\x=.ref a/\vs=[v]/\w.H a=some (.lst xs)/\Shds cl w xs l/\TopV cl w v d/\g l d=some (.int r)/\Q (.int r) H
theorem zeo{s:Shared}{d:D}:∀{its:List Value} {ds:List D} {as:List Addr},ReadsAll s.heap its (D.pys ds) as->D.fits 8 ds=true->its.countP (fun y=>(SeqAt.readOf s.heap y).eqv d.py)=ds.countP (zfs · d)
 | [],[],_,_,_=>rfl
 | [],_::_,_,h,_=>by cases h
 | _::_,[],_,h,_=>by cases h
 | v::its,e::ds,_,h,f=>by
  simp only [D.fits,yab] at f
  cases h with
  | cons h1 h2 =>
   rw [List.countP_cons,List.countP_cons,zeo h2 f.2,zhO (D.lay f.1).1 h1];rfl
theorem zd9{s:Shared}{d:D}:∀{its:List Value} {ds:List D} {as:List Addr},ReadsAll s.heap its (D.pys ds) as->D.fits 8 ds=true->∀(m:Nat) (hm:m<its.length),∃e,ds[m]?=some e/\(SeqAt.readOf s.heap its[m]).eqv d.py=zfs e d
 | [],_,_,_,_,m,hm=>by simp at hm
 | _::_,[],_,h,_,_,_=>by cases h
 | v::its,e::ds,_,h,f,m,hm=>by
  simp only [D.fits,yab] at f
  cases h with
  | cons h1 h2 =>
   cases m with
   | zero=>exact ⟨e,rfl,by show (SeqAt.readOf s.heap v).eqv d.py=_;rw [zhO (D.lay f.1).1 h1];rfl⟩
   | succ m =>
    obtain ⟨e',h3,h4⟩:=zd9 h2 f.2 m (by simpa using hm);exact ⟨e',by simpa using h3,by simpa using h4⟩
theorem zfG{s:Shared}:∀{its:List Value} {ds:List D} {as:List Addr},ReadsAll s.heap its (D.pys ds) as->its.length=ds.length
 | [],[],_,_=>rfl
 | [],_::_,_,h=>by cases h
 | _::_,[],_,h=>by cases h
 | _::its,_::ds,_,h=>by
  cases h with
  | cons _ h2=>rw [yai,yai,zfG h2]
def zm8(hK:X.K=cl.K)(hu:X.A.units+64<cLine):MtB X cl "list.count" zfT:=by
 intro pins s σ H x vs v us Q I rx rv h;obtain ⟨a,xs,l,w,d,v',r,rfl,rfl,rfl,hH,sh,tv,hg,q⟩:=h;unfold zfT at hg;split at hg
 ·rename_i hf;cases hg;rw [yab] at hf;cases rx;obtain ⟨u,rfl,ru⟩:=rv.one;obtain ⟨bs,rb⟩:=zgY I hK tv hf.1 ru;obtain ⟨z,its,n,r,hl,e⟩:=I.lstM hH;obtain ⟨as,ra⟩:=zdq I hK sh hf.2 r;refine ycn F.slot_list_count ⟨_,e,rfl⟩ F.entry_list_count (F.args_list_count_2 _ _) (SeqAt.list_countAt a _ n none #[] u (fun y=>(SeqAt.readOf s.heap y).eqv d.py)) ⟨e,fun y hy=>zca hu rb hf.1 ra hf.2 y hy,?_⟩;rw [zeo ra hf.2];exact ⟨.int _,w.H,I.tok _,⟨_,rfl⟩,q⟩
 ·cases hg
def zm7(hK:X.K=cl.K)(hu:X.A.units+64<cLine):MtB X cl "list.index" zfO:=by
 intro pins s σ H x vs v us Q I rx rv h;obtain ⟨a,xs,l,w,d,v',r,rfl,rfl,rfl,hH,sh,tv,hg,q⟩:=h;unfold zfO at hg;split at hg
 ·rename_i hf;cases hg;simp only [yab,ybz] at hf;obtain ⟨⟨⟨f1,f2⟩,f3⟩,f4⟩:=hf;cases rx;obtain ⟨u,rfl,ru⟩:=rv.one;obtain ⟨bs,rb⟩:=zgY I hK tv f1 ru;obtain ⟨z,its,n,r,hl,e⟩:=I.lstM hH;obtain ⟨as,ra⟩:=zdq I hK sh f2 r;have hlen:=zfG ra
  have hlt:l.findIdx (zfs · d)<l.length:=by
   rw [List.findIdx_lt_length];unfold zhC at f4;rwa [List.any_eq_true] at f4
  refine ycn F.slot_list_index ⟨_,e,rfl⟩ F.entry_list_index (F.args_list_index_2 _ _) (SeqAt.list_indexAt a _ n none #[] u (fun y=>(SeqAt.readOf s.heap y).eqv d.py) (l.findIdx (zfs · d)) (by rw [yak];omega) (by omega) ?_ ?_) ⟨e,fun y hy=>zca hu rb f1 ra f2 y hy,?_⟩
  ·obtain ⟨e',h1,h2⟩:=zd9 (d:=d) ra f2 (l.findIdx (zfs · d)) (by omega);simp only [List.getElem_toArray];rw [h2];rw [yac hlt] at h1;cases h1;exact List.findIdx_getElem (w:=hlt)
  ·intro m hm hmj
   have lm:m<its.length:=by rwa [yak] at hm
   obtain ⟨e',h1,h2⟩:=zd9 (d:=d) ra f2 m lm;simp only [List.getElem_toArray];rw [h2];rw [yac (by omega)] at h1;cases h1;exact List.not_of_lt_findIdx hmj
  ·exact ⟨.int _,w.H,I.tok _,⟨_,rfl⟩,q⟩
 ·cases hg
def zrU{i:Nat}{x name:Str}{id:String}{g:List D->D->Option D}{ap cp:Pos}(slot:Slot "list" name id)(hty:typeOf (.builtin id)=pure (.type "method_descriptor"))(hm:MtB X cl id g)(hgb:∀l d r,g l d=some r->∃n,r=.int n)
  (hN:X.N[i]?=some x) (hv:Vis X.env.scope x) (hd:(x == ("__debug__":Str))=false) (hcd:(x == ("__classdict__":Str))=false) (he:PE X e (tH cl E f)) (hpl:zcm e=true) (hln:(ap.endLine == cp.line)=true) :
  PE X (.Call (.Attribute (.Name x pos') name ap) [e] [] cp) (tE cl E (eMt g i f)):=by
 refine PE.imp (zpI (es:=[]) ycf slot hty hm (zcn hN hv hd hcd) (zkp he zn8 (za8 hpl)) (hfew:=zi0 (by simp [hpl]) (by simp)) (hline:=hln) (hs:=za8 hpl) (hplain:=rfl)) ?_;rintro σ H Q ⟨B,w,ρ,S,rfl,R,q⟩
 have key:(∃o l,ρ[i]?=some (some (o,.lst l)))\/eMt g i f ρ S=.bad:=by
  unfold eMt;split
  ·rename_i o l hl;exact .inl ⟨o,l,hl⟩
  ·exact .inr rfl
 rcases key with ⟨o,l,hl⟩ | hb
 ·have e':eMt g i f ρ S=(f ρ S).bind fun d S1=>Out.of (g l d) S1:=by unfold eMt;rw [hl]
  rw [e'] at q;obtain ⟨a,xs,e1,h2,t⟩:=R.lstAny hl;refine ⟨_,e1,.inl ⟨rfl,_,SqL.of h2⟩,B,w,ρ,S,rfl,R,?_⟩
  cases hf:f ρ S with
  | bad=>rw [hf] at q;exact q.elim
  | exc c S1 =>
   rw [hf] at q;simp only [zak,hf,Out.bind];exact q
  | ok d S1 =>
   rw [hf] at q;simp only [zak,hf,Out.bind];intro vs w' R' F' sh;dsimp only [Out.bind] at q
   cases hg:g l d with
   | none=>rw [hg] at q;exact q.elim
   | some r =>
    rw [hg] at q;obtain ⟨n,rfl⟩:=hgb l d r hg;obtain ⟨a',xs',e1',h2',t'⟩:=R'.lstAny hl;rw [e1] at e1';cases e1'
    cases sh with
    | cons h1 hn =>
     cases hn;exact ⟨a,xs',l,w',d,_,n,rfl,rfl,rfl,h2',t',h1.top R',hg,q _ w' R' F' (.int _)⟩
 ·rw [hb] at q;exact q.elim
end
end S2
namespace S2
open PySem PySem.Spec PyProof.Rows L2
def zlq(g:Str->Str->Option Bool)(C:Str):D->Option D
 | .exc c=>(g c C).map .bl
 | _=>none
def ztD(cl:Cf)(C:Str):Value:=if C = "ValueError" then .type "ValueError" else .ref (cl C)
section
variable{X:Cx}{cl:Cf}{E:St->XK}{own:Bool}{e:Expr}{f fe:Fe}{pos pos':Pos}
def Shd.excI{w:Wd}{v:V}{c:Str}(h:Shd cl w v (.exc c)):∃a ob,v=.ref a/\w.H a=some (.frz ob (.own a))/\ob.cls=.ref (cl c):=by
 cases h with
 | exc h1 _ h2=>exact ⟨_,_,rfl,h1,h2⟩
theorem TopV.excI{w:Wd}{v:V}{c:Str}(h:TopV cl w v (.exc c)):∃a ob,v=.ref a/\w.H a=some (.frz ob (.own a))/\ob.cls=.ref (cl c):=by
 cases h with
 | sh h=>exact h.excI
 | ow _ t=>cases t
def zjT:bootBuiltins "ValueError" = some (.type "ValueError"):=by decide +kernel
def zn9{g:Str->Str->Option Bool}{C:Str}{vC:V}{p p2:Pos}(hg:Gl X "isinstance")(hm:X.mg "isinstance" = none)(hC:PE X (.Name C p2) (tC vC))(hv:∀u,za2 vC u->u=ztD cl C)
  (hk:∀c b,g c C=some b->PySem.W.ExcCls X.K (cl c)/\PySem.W.kitOne X.K (.ref (cl c)) (ztD cl C)=some b) (hp:zcm e=true) (he:PE X e (tH cl E f)) :
  PE X (.Call (.Name "isinstance" p) [e,.Name C p2] [] pos) (tE cl E (eUn (zlq g C) f)):=by
 refine PE.imp (zgi zjS hg hm zht (zcL he (zcL hC zeX rfl) (za8 hp)) (he:=za8 hp) (hpl:=rfl)) ?_;rintro σ H Q ⟨B,w,ρ,S,rfl,R,q⟩;refine ⟨B,w,ρ,S,rfl,R,?_⟩;unfold eUn at q
 cases hf:f ρ S with
 | bad=>rwa [hf] at q
 | exc c S1=>rwa [hf] at q
 | ok d S1 =>
  rw [hf] at q;intro v w1 R1 F1 h1;dsimp only [Out.bind] at q
  cases d with
  | exc c =>
   dsimp only [zlq] at q
   cases hb:g c C with
   | none=>rw [hb] at q;exact q.elim
   | some b =>
    rw [hb] at q;obtain ⟨k1,k2⟩:=hk c b hb;obtain ⟨a,ob,rfl,h2,h3⟩:=(h1.top R1).excI;exact ⟨a,_,ob,vC,_,b,rfl,h2,h3,k1,hv,k2,q _ w1 R1 F1 (.bl _)⟩
  | _=>exact q.elim
def OpN(X:Cx)(cl:Cf)(op:Value->Value->Sem Value)(g:D->D->Option D):Prop:=OpR X op fun x y H Q=>∃w d e r,w.H=H/\TopV cl w x d/\TopV cl w y e/\g d e=some r/\∀p o w',Grow w w'->w'.H p=none->Top cl w' o r->Q (.ref p) (upd w'.H p o)
def zyO{a b:Expr}{h:Fe}{gg:D->D->Option D}{r2:R2}(hr:∀x y H Q,(∃w d e r,w.H=H/\TopV cl w x d/\TopV cl w y e/\gg d e=some r/\∀p o w',Grow w w'->w'.H p=none->Top cl w' o r->Q (.ref p) (upd w'.H p o))->r2 x y H Q)(σ:St)(H:Hp)(Q:VK)(q:tN cl E (zaf gg f h) σ H Q):tOp r2 (tH cl E f) (tH cl E h) σ H Q:=by
 obtain ⟨B,w,ρ,S,rfl,R,q⟩:=q;refine ⟨B,w,ρ,S,rfl,R,?_⟩;unfold zaf at q
 cases hf:f ρ S with
 | bad=>rwa [hf] at q
 | exc c S1=>rwa [hf] at q
 | ok d S1 =>
  rw [hf] at q;intro v w1 R1 F1 h1;refine ⟨B,w1,ρ,S1,rfl,R1,?_⟩;dsimp only [Out.bind] at q
  cases hh:h ρ S1 with
  | bad=>rwa [hh] at q
  | exc c S2=>rw [hh] at q;exact fun w2 R2 F2=>q w2 R2 (F1.trans F2)
  | ok e S2 =>
   rw [hh] at q;intro y w2 R2 F2 h2;dsimp only at q
   cases hg:gg d e with
   | none=>rw [hg] at q;exact q.elim
   | some r =>
    rw [hg] at q;exact hr _ _ _ _ ⟨w2,d,e,r,rfl,(h1.up F2).top R2,h2.top R2,hg,fun p o w' gr hp t=>q p o w' (R2.grow gr) (F1.trans (F2.trans gr.fut)) hp t⟩
def zjv:D->D->Option D
 | .lst a,.int j=>if decide (0<=j/\j<=1000/\a.length<=1000) then some (.lst (List.replicate j.toNat a).flatten) else none
 | _,_=>none
def zpN:OpN X cl (binaryOp .Mult) zjv:=by
 intro pins s σ H x y v u Q I rx ry h;obtain ⟨w,d,e,r,rfl,hx,hy,hg,q⟩:=h;unfold zjv at hg;split at hg
 ·rename_i a j;split at hg
  ·rename_i hz;cases hg;have hz':=yat hz;obtain ⟨p,xs,rfl,ep,rs⟩:=hx.lstI;obtain rfl:=hy.intI;have hl:=rs.length;refine zof pins s σ w.H _ _ v u Q I rx ry ⟨p,j,xs,rfl,rfl,ep,by omega,by omega,?_,fun l hl=>q l _ w (Grow.refl _) hl (.lst (rs.flat _))⟩;refine yaj (ya0 (show xs.length<=1000 by omega) (show j.toNat<=1000 by omega)) (by decide)
  ·cases hg
 ·cases hg
def zpi{a b:Expr}{h:Fe}(ha:PE X a (tH cl E f))(hb:PE X b (tH cl E h)):PE X (.BinOp a .Mult b pos) (tN cl E (zaf zjv f h)) :=
 PE.imp (zsk zpN ha hb) (zyO (a:=a) (b:=b) fun _ _ _ _ z=>z)
def zqf:Expr->Bool | .List _ _=>true | _=>false
def zte:Operator->Bool | .Mult=>true | _=>false
def zku(i:Nat)(fi fe:Fe):Fs:=fun ρ S=>match ρ[i]? with
 | some (some (true,.lst l))=>(match fe ρ S with
  | .ok d S1=>(match fi ρ S1 with
   | .ok (.int n) S2=>(match ixN l.length n with | some k=>.nx (ρ.set i (some (true,.lst (l.set k d)))) S2 | none=>.bad)
   | .ok _ _=>.bad
   | .exc c S2=>.ex c ρ S2 | .bad=>.bad)
  | .exc c S1=>.ex c ρ S1 | .bad=>.bad)
 | _=>.bad
def zoY{i:Nat}{x:Str}{ix:Expr}{fi:Fe}{p2 p3:Pos}(hN:X.N[i]?=some x)(hv:Vis X.env.scope x)(hd:(x == ("__debug__":Str))=false)(hcd:(x == ("__classdict__":Str))=false)
  (he:PE X e (tE cl E fe)) (hi:PE X ix (tH cl E fi)) (sw1:swapsWithSole [.Subscript (.Name x p2) ix p3] e pos.line X.env=pure false) (sw2:swappedStores [.Subscript (.Name x p2) ix p3] e X.env=pure none)
  (ha:∀v,assign (.Subscript (.Name x p2) ix p3) X.env v=(do
   let ov ← holding [v] (eval (.Name x p2) X.env)
   let iv ← holding [v,ov] (eval ix X.env)
   standAt p3
   holding [v,ov,iv] (setItem ov iv v)
   release [v,ov,iv] [])):PS X (.Assign [.Subscript (.Name x p2) ix p3] e pos) (tS cl E own (zku i fi fe)):=by
 refine PS.imp (zkO he (zoe (zcn hN hv hd hcd) hi zms ha) sw1 sw2 rfl) ?_;rintro De σ H ⟨B,w,ρ,S,rfl,R,q⟩;refine ⟨B,w,ρ,S,rfl,R,?_⟩;unfold zku at q;split at q
 ·rename_i l hl
  cases hf:fe ρ S with
  | bad=>rwa [hf] at q
  | exc c S1=>rw [hf] at q;exact fun w' R' F'=>q σ w' R' F'
  | ok d S1 =>
   rw [hf] at q;intro v w1 R1 F1 h1;dsimp only at q;obtain ⟨a,xs,e1,h1',h2',t'⟩:=R1.list hl;refine ⟨_,e1,B,w1,ρ,S1,rfl,R1,?_⟩
   cases hfi:fi ρ S1 with
   | bad=>rwa [hfi] at q
   | exc c S2=>rw [hfi] at q;exact fun w' R' F'=>q σ w' R' (F1.trans F')
   | ok di S2 =>
    rw [hfi] at q;intro vi w2 R2 F2 h2
    cases di with
    | int n =>
     dsimp only at q;split at q
     ·rename_i k hk;obtain rfl:=(h2.top R2).intI;obtain ⟨a',xs',e1',g1,g2,t2⟩:=R2.list hl;rw [e1] at e1';cases e1';refine ⟨a,xs',n,k,rfl,rfl,g2,by rw [t2.length];exact hk,?_⟩;exact q σ (w2.mut a (.lst (xs'.set k v))) (R2.mut (d0:=.non) e1 g1 (.lst (t2.set (h1.up F2) k))) (F1.trans (F2.trans (zdA (by rw [g1];exact yaL _))))
     ·exact q.elim
    | _=>exact q.elim
 ·exact q.elim
end
end S2
namespace PySem.F
end PySem.F
namespace PySem.F
end PySem.F
namespace L2
open PySem PySem.Spec PyProof.Rows
section
variable{prog:Program}{w:World}{A:Around}{E:Z5}{s:Shared}
end
end L2
namespace L2
open PySem PySem.Spec PyProof.Rows
section
variable{X:Cx}
end
end L2
namespace PySem.F
end PySem.F
namespace L2
open PySem PySem.Spec PyProof.Rows
section
variable{prog:Program}{w:World}{A:Around}{E:Z5}{s:Shared}
end
end L2
namespace L2
open PySem PySem.Spec PyProof.Rows
section
variable{X:Cx}
end
end L2
namespace S2
open PySem PySem.Spec PyProof.Rows L2
section
variable{X:Cx}{cl:Cf}{E:St->XK}{e tg:Expr}{f:Fe}{pos pos':Pos}
end
end S2
namespace S2
open PySem PySem.Spec PyProof.Rows L2
section
variable{X:Cx}{cl:Cf}{E:St->XK}{e:Expr}{f:Fe}{pos:Pos}
end
end S2
namespace S2
open PySem PySem.Spec PyProof.Rows L2
def zaL(f:Str)(o:Bool)(d:D):List (Str×Bool×D)->List (Str×Bool×D)
 | []=>[(f,o,d)]
 | (g,x)::r=>if g=f then (g,o,d)::r else (g,x)::zaL f o d r
def Ob.put(ob:Ob)(f:Str)(o:Bool)(d:D):Ob:=⟨ob.cls,zaL f o d ob.fs⟩
section
variable{cl:Cf}{w:Wd}{n:Nat}
def zdn.len{fs:List (Str×V)}{gs:List (Str×Bool×D)}(h:zdn cl w n fs gs):fs.length=gs.length:=Paired.length h
def zdn.look{fs:List (Str×V)}{gs:List (Str×Bool×D)}(h:zdn cl w n fs gs){f:Str}{o:Bool}{d:D}(e:gs.lookup f=some (o,d)):∃v,fs.lookup f=some v/\zig cl w (.fld n f) o v d:=by
 induction h with
 | nil=>cases e
 | @cons p q l1 l2 h t ih =>
  obtain ⟨h1,h2⟩:=h;obtain ⟨g,v⟩:=p;obtain ⟨g',o',d'⟩:=q;have h1':g=g':=h1;subst h1';rw [yay] at e ⊢
  cases hb:f == g with
  | true =>
   rw [hb] at e;cases e;have:=eq_of_beq hb;subst this;exact ⟨v,rfl,h2⟩
  | false =>
   rw [hb] at e;exact ih e
def zdn.miss{fs:List (Str×V)}{gs:List (Str×Bool×D)}(h:zdn cl w n fs gs){f:Str}(e:gs.lookup f=none):fs.lookup f=none:=by
 induction h with
 | nil=>rfl
 | @cons p q l1 l2 h t ih =>
  obtain ⟨h1,h2⟩:=h;obtain ⟨g,v⟩:=p;obtain ⟨g',o',d'⟩:=q;have h1':g=g':=h1;subst h1';rw [yay] at e ⊢
  cases hb:f == g with
  | true=>rw [hb] at e;cases e
  | false=>rw [hb] at e;exact ih e
def zdn.put{fs:List (Str×V)}{gs:List (Str×Bool×D)}{f:Str}{o:Bool}{d:D}{y:V}(h:zdn cl w n fs gs)(hy:zig cl w (.fld n f) o y d):zdn cl w n (zdy f y fs) (zaL f o d gs):=by
 induction h with
 | nil=>exact .cons ⟨rfl,hy⟩ .nil
 | @cons p q l1 l2 h t ih =>
  obtain ⟨h1,h2⟩:=h;obtain ⟨g,v⟩:=p;obtain ⟨g',o',d'⟩:=q;have h1':g=g':=h1;subst h1';show zdn cl w n (if g=f then (g,y)::l1 else (g,v)::zdy f y l1) (if g=f then (g,o,d)::l2 else (g,o',d')::zaL f o d l2)
  by_cases hg:g=f
  ·subst hg;rw [if_pos rfl,if_pos rfl];exact .cons ⟨rfl,hy⟩ t
  ·rw [if_neg hg,if_neg hg];exact .cons ⟨rfl,h2⟩ ih
def zdn.keepBut{w':Wd}(f:Fut w w'){x:Str}(k:∀a o g,g≠x->w.H a=some o->w.ow a=some (.fld n g)->w'.H a=some o/\w'.ow a=some (.fld n g)){fs:List (Str×V)}{gs:List (Str×Bool×D)}(h:zdn cl w n fs gs)(hn:∀q∈gs,q.1=x->q.2.1=false):zdn cl w' n fs gs:=by
 induction h with
 | nil=>exact .nil
 | @cons p q l1 l2 h t ih =>
  obtain ⟨h1,h2⟩:=h;refine .cons ⟨h1,?_⟩ (ih fun q hq=>hn q (yap _ hq))
  by_cases hx:q.1=x
  ·have ho:=hn q yax hx;rw [ho] at h2 ⊢
   rcases h2 with ⟨_,h2⟩ | ⟨e,_⟩
   ·exact .inl ⟨rfl,Shd.up f h2⟩
   ·cases e
  ·exact h2.keep f fun a o ha hr=>k a o q.1 hx ha hr
def zdn.keepF{w':Wd}(f:Fut w w')(k:∀a o g,w.H a=some o->w.ow a=some (.fld n g)->w'.H a=some o/\w'.ow a=some (.fld n g)){fs:List (Str×V)}{gs:List (Str×Bool×D)}(h:zdn cl w n fs gs):zdn cl w' n fs gs:=by
 induction h with
 | nil=>exact .nil
 | @cons p q l1 l2 h t ih=>exact .cons ⟨h.1,h.2.keep f fun a o ha hr=>k a o q.1 ha hr⟩ ih
variable{B:Base}{σ:St}{ρ:Env}{S:Sto}
def World'.atObj(W:World' cl B w S){ob:Ob}(h:S[n]?=some ob){a:Addr}(e:w.mu[n]?=some a):ztY cl w n a ob:=by
 obtain ⟨a',e',x⟩:=W.obj n ob h;rw [e] at e';cases e';exact x
def zhY{S:Sto}{n m:Nat}{ob ob':Ob}(h:(S.set n ob)[m]?=some ob'):(m=n/\ob'=ob)\/(m≠n/\S[m]?=some ob'):=by
 by_cases e:n=m
 ·subst e
  have hlt:n<S.length:=by
   have:=(yag.mp h).1;rwa [yaH] at this
  rw [yaA hlt] at h;cases h;exact .inl ⟨rfl,rfl⟩
 ·rw [yaP e] at h;exact .inr ⟨fun z=>e z.symm,h⟩
def Rel.setf{a dx:Addr}{ob:Ob}{fs:List (Str×V)}{f:Str}{y:V}{d:D}(R:Rel cl B σ w ρ S)(hn:S[n]?=some ob)(hmu:w.mu[n]?=some a)(how:w.ow a=some (.obj n))(hH:w.H a=some (.ins (cl ob.cls) dx fs))(hF:zdn cl w n fs ob.fs)(hy:Shd cl w y d) :
  Rel cl B σ (w.mut a (.ins (cl ob.cls) dx (zdy f y fs))) ρ (S.set n (ob.put f false d))/\Fut w (w.mut a (.ins (cl ob.cls) dx (zdy f y fs))):=by
 have ff:=zdA (w:=w) (p:=a) (o:=.ins (cl ob.cls) dx (zdy f y fs)) (by rw [how];exact yaL _)
 have kp:∀b u,w.H b=some u->w.ow b≠some (.obj n)->(w.mut a (.ins (cl ob.cls) dx (zdy f y fs))).H b=some u/\(w.mut a (.ins (cl ob.cls) dx (zdy f y fs))).ow b=w.ow b:=fun b u hb hne=>⟨by
  show upd w.H a _ b=_
  rw [zal (fun z=>hne (by rw [z];exact how))];exact hb,rfl⟩
 have hB:B.Fr a=none:=(R.wd.own a _ how).elim (fun z=>by cases z) fun z=>z
 refine ⟨⟨⟨fun b u h=>?_,R.wd.own,by rw [yaH];exact R.wd.len,fun m ob' h=>?_⟩,R.len,fun i o e h=>?_⟩,ff⟩
 ·refine ⟨?_,(R.wd.fr b u h).2⟩;show upd w.H a _ b=_;rw [zal (fun z=>by rw [z,hB] at h;cases h)];exact (R.wd.fr b u h).1
 ·rcases zhY h with ⟨rfl,rfl⟩ | ⟨hne,h⟩
  ·refine ⟨a,hmu,how,dx,_,zaR,?_⟩;exact zdn.put (hF.keepF ff fun b u g hb hg=>⟨(kp b u hb (by rw [hg];exact fun z=>by cases z)).1,hg⟩) (.inl ⟨rfl,hy.up ff⟩)
  ·obtain ⟨b,e,x⟩:=R.wd.obj m ob' h;exact ⟨b,e,x.keep ff fun b u hb hm=>kp b u hb fun z=>by rw [z] at hm;exact hne hm.symm⟩
 ·obtain ⟨v,e1,x⟩:=R.slots i o e h;exact ⟨v,e1,x.keep ff fun b u hb hr=>⟨(kp b u hb (by rw [hr];exact fun z=>by cases z)).1,hr⟩⟩
def Wd.addF(w:Wd)(p:Addr)(o:HO)(n:Nat)(f:Str):Wd:=⟨upd w.H p o,fun b=>if b=p then some (.fld n f) else w.ow b,w.mu⟩
def Rel.newf{a dx p:Addr}{ob:Ob}{fs:List (Str×V)}{f:Str}(R:Rel cl B σ w ρ S)(hn:S[n]?=some ob)(hmu:w.mu[n]?=some a)(how:w.ow a=some (.obj n))(hH:w.H a=some (.ins (cl ob.cls) dx fs))(hF:zdn cl w n fs ob.fs)(hp:w.H p=none) :
  Rel cl B σ ((w.addF p (.ext (DN cl.P cl.wo p [])) n f).mut a (.ins (cl ob.cls) dx (zdy f (.ref p) fs))) ρ (S.set n (ob.put f true (.dic [])))/\Fut w ((w.addF p (.ext (DN cl.P cl.wo p [])) n f).mut a (.ins (cl ob.cls) dx (zdy f (.ref p) fs))):=by
 have hap:a≠p:=zax hH hp
 have kp:∀b u,w.H b=some u->w.ow b≠some (.obj n)->((w.addF p (.ext (DN cl.P cl.wo p [])) n f).mut a (.ins (cl ob.cls) dx (zdy f (.ref p) fs))).H b=some u/\((w.addF p (.ext (DN cl.P cl.wo p [])) n f).mut a (.ins (cl ob.cls) dx (zdy f (.ref p) fs))).ow b=w.ow b:=fun b u hb hne=>by
  have hbp:b≠p:=zax hb hp;refine ⟨?_,?_⟩
  ·show upd (upd w.H p _) a _ b=_;rw [zal (fun z=>hne (by rw [z];exact how)),zal hbp];exact hb
  ·show (if b=p then _ else w.ow b)=_;rw [if_neg hbp]
 have ff:Fut w ((w.addF p (.ext (DN cl.P cl.wo p [])) n f).mut a (.ins (cl ob.cls) dx (zdy f (.ref p) fs))):=⟨fun b u hb hk=>by
  have:=kp b u hb (by rw [hk];exact fun z=>by cases z)
  exact ⟨this.1,this.2.trans hk⟩,fun _ _ h=>h⟩
 have hB:B.Fr a=none:=(R.wd.own a _ how).elim (fun z=>by cases z) fun z=>z
 have hBp:B.Fr p=none:=by
  cases z:B.Fr p with
  | none=>rfl
  | some u=>have:=(R.wd.fr p u z).1;rw [hp] at this;cases this
 have Hp:((w.addF p (.ext (DN cl.P cl.wo p [])) n f).mut a (.ins (cl ob.cls) dx (zdy f (.ref p) fs))).H p=some (.ext (DN cl.P cl.wo p [])):=by
  show upd (upd w.H p _) a _ p=_;rw [zal hap.symm,zaR]
 have owp:((w.addF p (.ext (DN cl.P cl.wo p [])) n f).mut a (.ins (cl ob.cls) dx (zdy f (.ref p) fs))).ow p=some (.fld n f):=if_pos rfl
 have owa:((w.addF p (.ext (DN cl.P cl.wo p [])) n f).mut a (.ins (cl ob.cls) dx (zdy f (.ref p) fs))).ow a=some (.obj n):=by
  show (if a=p then _ else w.ow a)=_;rw [if_neg hap];exact how
 refine ⟨⟨⟨fun b u h=>?_,fun b r h=>?_,by rw [yaH];exact R.wd.len,fun m ob' h=>?_⟩,R.len,fun i o e h=>?_⟩,ff⟩
 ·have:=kp b u (R.wd.fr b u h).1 fun z=>by
   rcases R.wd.own b _ z with y | y
   ·cases y
   ·rw [h] at y;cases y
  exact ⟨this.1,this.2.trans (R.wd.fr b u h).2⟩
 ·have h':(if b=p then some (Root.fld n f) else w.ow b)=some r:=h;split at h'
  ·rename_i z;rw [z];exact .inr hBp
  ·exact R.wd.own b r h'
 ·rcases zhY h with ⟨rfl,rfl⟩ | ⟨hne,h⟩
  ·refine ⟨a,hmu,owa,dx,_,zaR,?_⟩;refine zdn.put (hF.keepF ff fun b u g hb hg=>?_) (.inr ⟨rfl,p,[],[],[],rfl,owp,Hp,.nil,.nil,rfl⟩);have:=kp b u hb (by rw [hg];exact fun z=>by cases z);exact ⟨this.1,this.2.trans hg⟩
  ·obtain ⟨b,e,x⟩:=R.wd.obj m ob' h;exact ⟨b,e,x.keep ff fun b u hb hm=>kp b u hb fun z=>by rw [z] at hm;exact hne hm.symm⟩
 ·obtain ⟨v,e1,x⟩:=R.slots i o e h
  exact ⟨v,e1,x.keep ff fun b u hb hr=>by
   have:=kp b u hb (by rw [hr];exact fun z=>by cases z)
   exact ⟨this.1,this.2.trans hr⟩⟩
def zfK(ob:Ob):Bool:=decide (ob.fs.map (·.1)).Nodup
def zdn.dic{w':Wd}{a:Addr}{f:Str}{d:D}(ff:Fut w w')(k:∀b o g,g≠f->w.H b=some o->w.ow b=some (.fld n g)->w'.H b=some o/\w'.ow b=some (.fld n g))(hy:zig cl w' (.fld n f) true (.ref a) d):∀{fs:List (Str×V)} {gs:List (Str×Bool×D)},zdn cl w n fs gs->(gs.map (·.1)).Nodup->fs.lookup f=some (.ref a)->zdn cl w' n fs (zaL f true d gs):=by
 intro fs gs h
 induction h with
 | nil=>intro _ e;cases e
 | @cons p q l1 l2 h t ih =>
  intro nd e;obtain ⟨h1,h2⟩:=h;obtain ⟨g,v⟩:=p;obtain ⟨g',o',d'⟩:=q;have h1':g=g':=h1;subst h1';rw [yaq,ybg] at nd;show zdn cl w' n ((g,v)::l1) (if g=f then (g,true,d)::l2 else (g,o',d')::zaL f true d l2);rw [yay] at e
  by_cases hg:g=f
  ·subst hg;rw [if_pos rfl];simp only [ybG] at e;cases e;refine .cons ⟨rfl,hy⟩ ?_;have t':zdn cl w n l1 l2:=t;exact t'.keepBut ff k fun q hq hx=>absurd (yaw.mpr ⟨q,hq,hx⟩) nd.1
  ·rw [if_neg hg];have hb:(f == g)=false:=ya1.mpr fun z=>hg z.symm
   rw [hb] at e;exact .cons ⟨rfl,h2.keep ff fun b o hb hr=>k b o g hg hb hr⟩ (ih nd.2 e)
def Rel.setd{a dx c:Addr}{ob:Ob}{fs:List (Str×V)}{f:Str}{xs:List (NK×Addr×Value)}{m:List (NK×V)}{ds:List (D×D)}{k:NK}{kb:Addr}{u:Value}{v:V}{d:D}(R:Rel cl B σ w ρ S)(hn:S[n]?=some ob)(hmu:w.mu[n]?=some a)(how:w.ow a=some (.obj n))(hH:w.H a=some (.ins (cl ob.cls) dx fs))(hF:zdn cl w n fs ob.fs)
  (hl:fs.lookup f=some (.ref c)) (hc:w.ow c=some (.fld n f)) (hcH:w.H c=some (.ext (DN cl.P cl.wo c xs))) (he:zje w xs m) (hs:ShdN cl w m ds) (hk:zmi w kb k) (rv:za2 v u) (hv:Shd cl w v d) (nd:zfK ob=true) :
  Rel cl B σ (w.mut c (.ext (DN cl.P cl.wo c (xs++[(k,kb,u)])))) ρ (S.set n (ob.put f true (.dic (ds++[(nkD k,d)]))))/\Fut w (w.mut c (.ext (DN cl.P cl.wo c (xs++[(k,kb,u)])))):=by
 have ff:=zdA (w:=w) (p:=c) (o:=.ext (DN cl.P cl.wo c (xs++[(k,kb,u)]))) (by rw [hc];exact yaL _)
 have kp:∀b o,w.H b=some o->w.ow b≠some (.fld n f)->(w.mut c (.ext (DN cl.P cl.wo c (xs++[(k,kb,u)])))).H b=some o/\(w.mut c (.ext (DN cl.P cl.wo c (xs++[(k,kb,u)])))).ow b=w.ow b:=fun b o hb hne=>⟨by
  show upd w.H c _ b=_
  rw [zal (fun z=>hne (by rw [z];exact hc))];exact hb,rfl⟩
 have hB:B.Fr c=none:=(R.wd.own c _ hc).elim (fun z=>by cases z) fun z=>z
 refine ⟨⟨⟨fun b o h=>?_,R.wd.own,by rw [yaH];exact R.wd.len,fun m' ob' h=>?_⟩,R.len,fun i o e h=>?_⟩,ff⟩
 ·refine ⟨?_,(R.wd.fr b o h).2⟩;show upd w.H c _ b=_;rw [zal (fun z=>by rw [z,hB] at h;cases h)];exact (R.wd.fr b o h).1
 ·rcases zhY h with ⟨rfl,rfl⟩ | ⟨hne,h⟩
  ·refine ⟨a,hmu,how,dx,fs,?_,?_⟩
   ·exact (kp a _ hH (by rw [how];exact fun z=>by cases z)).1
   ·refine zdn.dic (a:=c) ff (fun b o g hg hb hr=>?_) (.inr ⟨rfl,c,_,m++[(k,v)],ds++[(nkD k,d)],rfl,hc,zaR,?_,?_,rfl⟩) hF (yat nd) hl
    ·exact ⟨(kp b o hb (by rw [hr];exact fun z=>hg (by cases z;rfl))).1,hr⟩
    ·exact (he.up ff).snoc ⟨rfl,hk.up ff,rv⟩
    ·exact (hs.up ff).snoc (hv.up ff)
  ·obtain ⟨b,e,x⟩:=R.wd.obj m' ob' h;exact ⟨b,e,x.keep ff fun b o hb hm=>kp b o hb fun z=>by rw [z] at hm;exact hne hm.symm⟩
 ·obtain ⟨v',e1,x⟩:=R.slots i o e h;exact ⟨v',e1,x.keep ff fun b o hb hr=>⟨(kp b o hb (by rw [hr];exact fun z=>by cases z)).1,hr⟩⟩
def Wd.addO(w:Wd)(x dx C:Addr)(n:Nat):Wd:=⟨upd (upd w.H dx (.own x)) x (.ins C dx []),fun b=>if b=x then some (.obj n) else if b=dx then none else w.ow b,w.mu++[x]⟩
def Rel.made{x dx:Addr}{c:Str}(R:Rel cl B σ w ρ S)(hx:w.H x=none)(hdx:w.H dx=none)(ne:dx≠x):Rel cl B σ (w.addO x dx (cl c) S.length) ρ (S++[⟨c,[]⟩])/\Fut w (w.addO x dx (cl c) S.length):=by
 have kp:∀b o,w.H b=some o->(w.addO x dx (cl c) S.length).H b=some o/\(w.addO x dx (cl c) S.length).ow b=w.ow b:=fun b o hb=>by
  have n1:b≠x:=zax hb hx;have n2:b≠dx:=zax hb hdx;refine ⟨?_,?_⟩
  ·show upd (upd w.H dx _) x _ b=_;rw [zal n1,zal n2];exact hb
  ·show (if b=x then _ else if b=dx then _ else w.ow b)=_;rw [if_neg n1,if_neg n2]
 have ff:Fut w (w.addO x dx (cl c) S.length):=⟨fun b o hb hk=>⟨(kp b o hb).1,(kp b o hb).2.trans hk⟩,fun n a h=>by
  show (w.mu++[x])[n]?=some a
  rw [yaz (yag.mp h).1];exact h⟩
 have hBx:B.Fr x=none:=by
  cases z:B.Fr x with
  | none=>rfl
  | some u=>have:=(R.wd.fr x u z).1;rw [hx] at this;cases this
 refine ⟨⟨⟨fun b o h=>?_,fun b r h=>?_,by show (w.mu++[x]).length=_;rw [yal,yal,R.wd.len];rfl,fun m ob h=>?_⟩,R.len,fun i o e h=>?_⟩,ff⟩
 ·have:=kp b o (R.wd.fr b o h).1;exact ⟨this.1,this.2.trans (R.wd.fr b o h).2⟩
 ·have h':(if b=x then some (Root.obj S.length) else if b=dx then none else w.ow b)=some r:=h;split at h'
  ·rename_i z;rw [z];exact .inr hBx
  ·split at h'
   ·cases h'
   ·exact R.wd.own b r h'
 ·by_cases hm:m<S.length
  ·rw [yaz hm] at h;obtain ⟨b,e,y⟩:=R.wd.obj m ob h;exact ⟨b,ff.mu _ _ e,y.keep ff fun b o hb _=>kp b o hb⟩
  ·have hm':m=S.length:=by
    have:=(yag.mp h).1;rw [yal,ybf] at this;omega
   subst hm';rw [yau (yam _),ybJ] at h;cases h;refine ⟨x,?_,if_pos rfl,dx,[],zaR,.nil⟩;show (w.mu++[x])[S.length]?=some x;rw [yau (by rw [R.wd.len];exact yam _),R.wd.len,ybJ];rfl
 ·obtain ⟨v,e1,y⟩:=R.slots i o e h;exact ⟨v,e1,y.keep ff fun b o hb hr=>⟨(kp b o hb).1,(kp b o hb).2.trans hr⟩⟩
end
end S2
namespace S2
open PySem PySem.Spec PyProof.Rows L2
def zmW:D->Option (Option Int) | .non=>some none | .int i=>some (some i) | _=>none
def zdP:List D->Option (List (Option Int))
 | []=>some []
 | d::r=>(zmW d).bind fun o=>(zdP r).map (o::·)
def ziN:D->Option NK
 | .tup [.int i,.tup l]=>(zdP l).map fun os=>(i,os)
 | _=>none
def zbr(k:NK):List (D×D)->Option D
 | []=>none
 | (q,d)::r=>if ziN q=some k then some d else zbr k r
def zk3(o:Option Int):zmW (oDn o)=some o:=by cases o<;>rfl
theorem zfI:∀l:List (Option Int),zdP (l.map oDn)=some l
 | []=>rfl
 | o::l=>by rw [yaq];unfold zdP;rw [zk3,zfI l];rfl
def zdR(k:NK):ziN (nkD k)=some k:=by
 show (zdP (k.2.map oDn)).map (fun os=>(k.1,os))=some k;rw [zfI];rfl
section
variable{cl:Cf}{w:Wd}
theorem zk2:∀{xs:List V} {ds:List D} {os:Z4},Shds cl w xs ds->zdP ds=some os->xs=os.map oV
 | _,_,os,.nil,h=>by cases h;rfl
 | _,_,os,.cons (v:=v) (d:=d) (ds:=ds) r t,h=>by
  unfold zdP at h
  cases h1:zmW d with
  | none=>rw [h1] at h;cases h
  | some o =>
   rw [h1] at h
   cases h2:zdP ds with
   | none=>rw [h2] at h;cases h
   | some os' =>
    rw [h2] at h;cases h;rw [yaq,<-zk2 t h2]
    cases d<;>simp [zmW] at h1<;>subst h1<;>cases r<;>rfl
def zol{v:V}{d:D}{k:NK}(h:Shd cl w v d)(hk:ziN d=some k):∃kb,v=.ref kb/\zmi w kb k:=by
 unfold ziN at hk;split at hk
 ·rename_i i l
  cases ho:zdP l with
  | none=>rw [ho] at hk;cases hk
  | some os =>
   rw [ho] at hk;cases hk
   cases h with
   | tup e o r =>
    cases r with
    | cons r1 t =>
     cases t with
     | cons r2 t =>
      cases t;cases r1
      cases r2 with
      | tup e2 o2 r2=>exact ⟨_,rfl,_,⟨e,o⟩,by rw [<-zk2 r2 ho];exact e2,o2⟩
 ·cases hk
theorem znE:∀{m:List (NK×V)} {ds:List (D×D)},ShdN cl w m ds->∀k:NK,(m.lookup k=none/\zbr k ds=none)\/∃v d,m.lookup k=some v/\zbr k ds=some d/\Shd cl w v d
 | _,_,.nil,k=>.inl ⟨rfl,rfl⟩
 | _,_,.cons (k:=k') (v:=v) (d:=d) r t,k=>by
  rw [yay];unfold zbr;rw [zdR]
  by_cases e:k'=k
  ·subst e;rw [if_pos rfl,ybG];exact .inr ⟨v,d,rfl,rfl,r⟩
  ·rw [if_neg (fun z=>e (by cases z;rfl)),ya1.mpr (fun z=>e z.symm)];exact znE t k
theorem zoz:∀{m:List (NK×V)} {ds:List (D×D)},ShdN cl w m ds->m.length=ds.length
 | _,_,.nil=>rfl
 | _,_,.cons r t=>by rw [yai,yai,zoz t]
end
def ziV(cn f:Str)(d:D)(S:Sto):Option D:=match d with
 | .ref n=>(match S[n]? with
  | some ob=>if ob.cls=cn then (match ob.fs.lookup f with | some (false,d)=>some d | _=>none) else none
  | none=>none)
 | _=>none
def zeE(cn f:Str)(fe:Fe):Fe:=fun ρ S=>(fe ρ S).bind fun d S1=>match ziV cn f d S1 with | some r=>.ok r S1 | none=>.bad
def zmc(cl:Cf)(cn f:Str):Prop:=Cls cl.K (cl cn)/\zdv cl.K (cl cn) f
def zgG(cn f:Str)(d:D)(S:Sto):Option (Nat×Ob×List (D×D)):=match d with
 | .ref n=>(match S[n]? with
  | some ob=>if ob.cls=cn then (match ob.fs.lookup f with | some (true,.dic ds)=>some (n,ob,ds) | _=>none) else none
  | none=>none)
 | _=>none
section
variable{cl:Cf}{cn:Str}{X:Cx}{E:St->XK}{e:Expr}{fe:Fe}{f:Str}{pos:Pos}{B:Base}{σ:St}{w:Wd}{ρ:Env}{S:Sto}
def zhA{v:V}{n:Nat}{ob:Ob}(R:Rel cl B σ w ρ S)(hv:Shd cl w v (.ref n))(hn:S[n]?=some ob):∃a dx fs,v=.ref a/\w.mu[n]?=some a/\w.ow a=some (.obj n)/\w.H a=some (.ins (cl ob.cls) dx fs)/\zdn cl w n fs ob.fs:=by
 cases hv with
 | ref e =>
  obtain ⟨h1,dx,fs,h2,h3⟩:=R.wd.atObj hn e;exact ⟨_,dx,fs,rfl,e,h1,h2,h3⟩
def ztP{v:V}{d r:D}(hk:zmc cl cn f)(R:Rel cl B σ w ρ S)(hv:Shd cl w v d)(hd:ziV cn f d S=some r):∃a C dx fs y,v=.ref a/\w.H a=some (.ins C dx fs)/\Cls cl.K C/\zdv cl.K C f/\fs.lookup f=some y/\Shd cl w y r:=by
 unfold ziV at hd
 cases d with
 | ref n =>
  dsimp only at hd
  cases hS:S[n]? with
  | none=>rw [hS] at hd;cases hd
  | some ob =>
   rw [hS] at hd;dsimp only at hd;split at hd
   ·rename_i hfk;split at hd
    ·rename_i d hl;cases hd;obtain ⟨a,dx,fs,rfl,_,_,hH,hF⟩:=zhA R hv hS;obtain ⟨v,lv,fr⟩:=hF.look hl
     rcases fr with ⟨_,fr⟩ | ⟨z,_⟩
     ·exact ⟨a,_,dx,fs,v,rfl,hH,hfk ▸ hk.1,hfk ▸ hk.2,lv,fr⟩
     ·cases z
    ·cases hd
   ·cases hd
 | _=>cases hd
def zrW(hk:zmc cl cn f)(kk:X.K=cl.K)(he:PE X e (tE cl E fe))(hb:attributeBase e f X.env (eval e X.env)=eval e X.env):PE X (.Attribute e f pos) (tE cl E (zeE cn f fe)):=by
 refine PE.imp (zg4 he hb) ?_;rintro σ H Q ⟨B,w,ρ,S,rfl,R,q⟩;refine ⟨B,w,ρ,S,rfl,R,?_⟩;unfold zeE at q
 cases hf:fe ρ S with
 | bad=>rwa [hf] at q
 | exc c S1=>rwa [hf] at q
 | ok d S1 =>
  rw [hf] at q;intro v w1 R1 F1 h1;dsimp only [Out.bind] at q
  cases hd:ziV cn f d S1 with
  | none=>rw [hd] at q;exact q.elim
  | some r =>
   rw [hd] at q;obtain ⟨a,C,dx,fs,y,rfl,e1,e2,e3,e4,e5⟩:=ztP hk R1 h1 hd;rw [kk];exact ⟨a,C,dx,fs,y,rfl,e1,e2,e3,e4,q y w1 R1 F1 e5⟩
def zl3{v:V}{d:D}{n:Nat}{ob:Ob}{ds:List (D×D)}(hk:zmc cl cn f)(R:Rel cl B σ w ρ S)(hv:Shd cl w v d)(hd:zgG cn f d S=some (n,ob,ds)) :
  ∃a dx fs c xs m,v=.ref a/\S[n]?=some ob/\w.mu[n]?=some a/\w.ow a=some (.obj n)/\w.H a=some (.ins (cl ob.cls) dx fs)/\zdn cl w n fs ob.fs/\Cls cl.K (cl ob.cls)/\zdv cl.K (cl ob.cls) f/\fs.lookup f=some (.ref c)/\w.ow c=some (.fld n f)/\w.H c=some (.ext (DN cl.P cl.wo c xs))/\zje w xs m/\ShdN cl w m ds:=by
 unfold zgG at hd
 cases d with
 | ref n' =>
  dsimp only at hd
  cases hS:S[n']? with
  | none=>rw [hS] at hd;cases hd
  | some ob' =>
   rw [hS] at hd;dsimp only at hd;split at hd
   ·rename_i hfk;split at hd
    ·rename_i ds' hl;cases hd;obtain ⟨a,dx,fs,rfl,hmu,how,hH,hF⟩:=zhA R hv hS;obtain ⟨v,lv,fr⟩:=hF.look hl
     rcases fr with ⟨z,_⟩ | ⟨_,c,xs,m,ds2,rfl,c1,c2,c3,c4,e⟩
     ·cases z
     ·cases e;exact ⟨a,dx,fs,c,xs,m,rfl,hS,hmu,how,hH,hF,hfk ▸ hk.1,hfk ▸ hk.2,lv,c1,c2,c3,c4⟩
    ·cases hd
   ·cases hd
 | _=>cases hd
end
end S2
namespace L2
open PySem PySem.Spec PyProof.Rows
section
variable{X:Cx}
def zyS(ta:TA):TE:=fun σ H Q=>ta σ H fun vs H1=>∃j:Int,vs=[.int j]/\0<=j/\j<=1000/\∀p,H1 p=none->Q (.ref p) (upd H1 p (.rng 0 j))
def zsj{a:Expr}{ta:TA}{p pos:Pos}(hg:Gl X "range")(hm:X.mg "range" = none)(ha:PA X [a] ta)(hs:starEach [a] X.env=[(false,eval a X.env)]:=by rfl):PE X (.Call (.Name "range" p) [a] [] pos) (zyS ta):=by
 intro pins s σ H Q I h;refine Call_ (zdt I hg hm boot_range (yaO (thn (ha pos pins s σ H _ I h) fun us s1 ⟨vs,H1,I1,r1,q1⟩=>?_) hs rfl));obtain ⟨j,e,j0,j1,q⟩:=q1;subst e
 cases r1 with
 | cons r rr =>
  cases rr;obtain ⟨t,rfl⟩:=r;refine call_range_1 ⟨.ref s1.heap.objs.size,_,I1.laid (a:=s1.heap.objs.size) (o:=.rng 0 j) (fun _ _ q=>yad _ q) (yam _) ⟨_,_,_,yar _ rfl⟩,rfl,q _ (I1.hok.fresh (yam _))⟩
def zjg:∀(n:Nat) (its:List Value),its.length=n->(∀(i:Nat) (v:Value),its[i]?=some v->∃t,v=.int (i:Int) t)->Vals ((List.range n).map fun (i:Nat)=>V.int (i:Int)) its:=by
 intro n
 induction n with
 | zero =>
  intro its hl _;have:its=[]:=ybu hl;subst this;exact .nil
 | succ n ih =>
  intro its hl h
  have e:its=its.take n++[its[n]]:=by
   have:=List.take_append_drop n its
   have h2:its.drop n=[its[n]]:=by
    rw [yb1 (by omega),List.drop_of_length_le (by omega)]
   rw [h2] at this;exact this.symm
  rw [e,ybC,ybP];refine (ih (its.take n) (by rw [ybi];omega) fun i v hv=>?_).append (.cons ?_ .nil)
  ·have hi:i<n:=by
    have:=(yag.mp hv).1;rw [ybi] at this;omega
   rw [ych,if_pos hi] at hv;exact h i v hv
  ·exact h n its[n] (yac (by omega))
def zgA(hc:X.calm=true):zd4 X (.type "list") (fun xs H Q=>∃(p:Addr) (n:Nat),xs=[.ref p]/\H p=some (.rng 0 (n:Int))/\n<=1000/\∀l,H l=none->Q (.ref l) (upd H l (.lst ((List.range n).map fun (i:Nat)=>V.int (i:Int))))):=by
 intro pins s σ H xs us Q I r h;obtain ⟨p,n,rfl,hp,hn,q⟩:=h;obtain ⟨u,rfl,rx⟩:=zhD r;cases rx;obtain ⟨t,u,v,hr⟩:=I.hok p _ hp;refine call_list_range (n:=n) (I.ok.hd hc) (show IsRange s.heap p 0 (n:Int) 1 t u v from hr) (small_one (by omega) (by omega) (by omega) (by omega)) (by rw [rangeSize_one];split<;>omega) (by omega) fun h' tk acc c' kp e hi=>?_
 refine ⟨.ref s.heap.objs.size,_,I.laid (t':=tk) kp (yam _) (show zbu X.prog X.w _ h' _ (.lst _) from ⟨?_,acc.toList,c',zjg n acc.toList ?_ ?_,by simpa using e⟩),rfl,q _ (I.hok.fresh (yam _))⟩
 ·rw [yaf,ybY];exact yaj hn (by decide)
 ·have:=hi.1;simpa using this
 ·intro i v hv;have:=hi.2 i v (by simpa using hv);simpa using this
end
end L2
namespace S2
open PySem PySem.Spec PyProof.Rows L2
def znC(cn f:Str)(fa fo:Fe):Fe:=fun ρ S=>(fa ρ S).bind fun dk S1=>(fo ρ S1).bind fun d S2=>match ziN dk,zgG cn f d S2 with
 | some k,some (_,_,ds)=>.ok (.bl (zbr k ds).isNone) S2
 | _,_=>.bad
def zj0(ρ:Env)(i:Nat):Option NK:=match ρ[i]? with | some (some (false,dk))=>ziN dk | _=>none
def zh7(cn f:Str)(fo:Fe)(i:Nat):Fe:=fun ρ S=>(fo ρ S).bind fun d S1=>match zj0 ρ i,zgG cn f d S1 with
 | some k,some (_,_,ds)=>(match zbr k ds with | some r=>.ok r S1 | none=>.bad)
 | _,_=>.bad
def zhJ(cn f:Str)(fo:Fe)(i:Nat)(fe:Fe):Fs:=fun ρ S=>match fe ρ S with
 | .bad=>.bad
 | .exc c S1=>.ex c ρ S1
 | .ok r S1=>(match fo ρ S1 with
  | .bad=>.bad
  | .exc c S2=>.ex c ρ S2
  | .ok d S2=>(match zj0 ρ i,zgG cn f d S2 with
   | some k,some (n,ob,ds)=>if (zbr k ds).isNone&&decide (ds.length<=1000000)&&zfK ob then .nx ρ (S2.set n (ob.put f true (.dic (ds++[(nkD k,r)])))) else .bad
   | _,_=>.bad))
def zf9(cn f:Str)(fo fe:Fe):Fs:=fun ρ S=>match fe ρ S with
 | .bad=>.bad
 | .exc c S1=>.ex c ρ S1
 | .ok r S1=>(match fo ρ S1 with
  | .bad=>.bad
  | .exc c S2=>.ex c ρ S2
  | .ok (.ref n) S2=>(match S2[n]? with
   | some ob=>if decide (ob.cls=cn)&&decide (ob.fs.length<1000) then .nx ρ (S2.set n (ob.put f false r)) else .bad
   | none=>.bad)
  | .ok _ _=>.bad)
def zjo(cn f:Str)(i:Nat):Fs:=fun ρ S=>match ρ[i]? with
 | some (some (false,.ref n))=>(match S[n]? with
   | some ob=>if decide (ob.cls=cn)&&decide (ob.fs.length<1000) then .nx ρ (S.set n (ob.put f true (.dic []))) else .bad
   | none=>.bad)
 | _=>.bad
def zcZ(c m:Str)(d:D)(S:Sto):Bool:=match d with
 | .ref n=>(match S[n]? with | some ob=>decide (ob.cls=c)&&(ob.fs.lookup m).isNone | none=>false)
 | _=>false
def zbK(c m:Str)(G:List D->Sto->Out D)(fo:Fe)(fs:List Fe):Fe:=fun ρ S=>(fo ρ S).bind fun d S1=>if zcZ c m d S1 then (zak fs ρ S1).bind fun ds S2=>G (d::ds) S2 else .bad
def eMk(c:Str)(dds:List D)(G:List D->Sto->Out D)(fs:List Fe):Fe:=fun ρ S=>(zak fs ρ S).bind fun ds S1=>(G (.ref S1.length::(ds++dds)) (S1++[⟨c,[]⟩])).bind fun r S2=>match r with | .non=>.ok (.ref S1.length) S2 | _=>.bad
structure Same'(cl:Cf)(X:Cx):Prop where
 kk:X.K=cl.K
 pp:X.prog=cl.P
 ww:X.w=cl.wo
section
variable{cl:Cf}{cn:Str}{X:Cx}{E:St->XK}{a o e:Expr}{fa fo fe:Fe}{f:Str}{pos apos:Pos}{own:Bool}
def zsL(sm:Same' cl X)(hk:zmc cl cn f)(σ:St)(H:Hp)(Q:VK)(q:tE cl E (znC cn f fa fo) σ H Q) :
  tOp (fun x y H Q=>∃kb a k xs m,x=.ref kb/\y=.ref a/\zif H kb k/\H a=some (.ext (DN X.prog X.w a xs))/\znY H xs m/\Q (.bl (m.lookup k).isNone) H) (tE cl E fa) (zw3 X.K (tE cl E fo) f) σ H Q:=by
 obtain ⟨B,w,ρ,S,rfl,R,q⟩:=q;refine ⟨B,w,ρ,S,rfl,R,?_⟩;unfold znC at q
 cases hf:fa ρ S with
 | bad=>rwa [hf] at q
 | exc c S1=>rwa [hf] at q
 | ok dk S1 =>
  rw [hf] at q;intro v w1 R1 F1 h1;refine ⟨B,w1,ρ,S1,rfl,R1,?_⟩;dsimp only [Out.bind] at q
  cases hh:fo ρ S1 with
  | bad=>rwa [hh] at q
  | exc c S2=>rw [hh] at q;exact fun w2 R2 F2=>q w2 R2 (F1.trans F2)
  | ok d S2 =>
   rw [hh] at q;intro y w2 R2 F2 h2;dsimp only at q
   cases hn:ziN dk with
   | none=>rw [hn] at q;exact q.elim
   | some k =>
    cases hd:zgG cn f d S2 with
    | none=>rw [hn,hd] at q;exact q.elim
    | some t =>
     obtain ⟨n,ob,ds⟩:=t;rw [hn,hd] at q;dsimp only at q;obtain ⟨a,dx,fs,c,xs,m,rfl,_,_,_,hH,_,c1,c2,lv,_,hc,he,hs⟩:=zl3 hk R2 h2 hd;obtain ⟨kb,rfl,ks⟩:=zol (h1.up F2) hn;rw [sm.kk];refine ⟨a,_,dx,fs,_,rfl,hH,c1,c2,lv,kb,c,k,xs,m,rfl,rfl,ks.at,by rw [sm.pp,sm.ww];exact hc,he.ents,?_⟩
     have:(m.lookup k).isNone=(zbr k ds).isNone:=by
      rcases znE hs k with ⟨e1,e2⟩ | ⟨_,_,e1,e2,_⟩<;>rw [e1,e2]<;>rfl
     rw [this];exact q _ w2 R2 (F1.trans F2) (.bl _)
def zrT(hu:X.A.units+16<cLine)(sm:Same' cl X)(hk:zmc cl cn f)(ha:PE X a (tE cl E fa))(ho:PE X o (tE cl E fo))(hb:attributeBase o f X.env (eval o X.env)=eval o X.env)(hm:behindInMarks .NotIn (.Attribute o f apos)=false):PE X (.Compare a [.NotIn] [.Attribute o f apos] pos) (tE cl E (znC cn f fa fo)) :=
 PE.imp (zkW (zog hu) ha (zg4 ho hb) hm) (zsL sm hk)
def zrx(hu:X.A.units+16<cLine)(sm:Same' cl X)(hk:zmc cl cn f)(ha:PE X a (tE cl E fa))(ho:PE X o (tE cl E fo))(hb:attributeBase o f X.env (eval o X.env)=eval o X.env)(hm:behindInMarks .NotIn (.Attribute o f apos)=false):PT X (.Compare a [.NotIn] [.Attribute o f apos] pos) (tTr cl E (znC cn f fa fo)) :=
 PT.imp (zkK (zog hu) ha (zg4 ho hb) hm) fun _ _ _ q=>zsL sm hk _ _ _ (zis q)
def zlj{B:Base}{σ:St}{w:Wd}{ρ:Env}{S:Sto}{i:Nat}{k:NK}(R:Rel cl B σ w ρ S)(h:zj0 ρ i=some k):∃kb,σ[i]?=some (some (.ref kb))/\zmi w kb k:=by
 unfold zj0 at h;split at h
 ·rename_i dk hi;obtain ⟨v,e,r⟩:=R.slots i false dk hi;obtain ⟨kb,rfl,ks⟩:=zol r h;exact ⟨kb,e,ks⟩
 ·cases h
def zpk{i:Nat}{x:Str}{p:Pos}(hN:X.N[i]?=some x)(hv:Vis X.env.scope x)(hd:(x == ("__debug__":Str))=false)(hcd:(x == ("__classdict__":Str))=false)(hu:X.A.units+16<cLine)(sm:Same' cl X)(hk:zmc cl cn f)(ho:PE X o (tE cl E fo))(hb:attributeBase o f X.env (eval o X.env)=eval o X.env)(hs:zgE (.Name x p)):PE X (.Subscript (.Attribute o f apos) (.Name x p) pos) (tE cl E (zh7 cn f fo i)):=by
 refine PE.imp (zsp (zta hu) (zg4 ho hb) (zcn hN hv hd hcd) hs) ?_;rintro σ H Q ⟨B,w,ρ,S,rfl,R,q⟩;refine ⟨B,w,ρ,S,rfl,R,?_⟩;unfold zh7 at q
 cases hf:fo ρ S with
 | bad=>rwa [hf] at q
 | exc c S1=>rwa [hf] at q
 | ok d S1 =>
  rw [hf] at q;intro v w1 R1 F1 h1;dsimp only [Out.bind] at q
  cases hn:zj0 ρ i with
  | none=>rw [hn] at q;exact q.elim
  | some k =>
   cases hd:zgG cn f d S1 with
   | none=>rw [hn,hd] at q;exact q.elim
   | some t =>
    obtain ⟨n,ob,ds⟩:=t;rw [hn,hd] at q;dsimp only at q;obtain ⟨a,dx,fs,c,xs,m,rfl,_,_,_,hH,_,c1,c2,lv,_,hc,he,hs⟩:=zl3 hk R1 h1 hd;obtain ⟨kb,eσ,ks⟩:=zlj R1 hn
    cases hl:zbr k ds with
    | none=>rw [hl] at q;exact q.elim
    | some r =>
     rw [hl] at q
     rcases znE hs k with ⟨_,e2⟩ | ⟨y,r',e1,e2,sh⟩
     ·rw [hl] at e2;cases e2
     ·rw [hl] at e2;cases e2;rw [sm.kk];exact ⟨a,_,dx,fs,_,rfl,hH,c1,c2,lv,_,eσ,c,kb,k,xs,m,y,rfl,rfl,ks.at,by rw [sm.pp,sm.ww];exact hc,he.ents,e1,q _ w1 R1 F1 sh⟩
def zo3{i:Nat}{x:Str}{p p3:Pos}(hN:X.N[i]?=some x)(hv:Vis X.env.scope x)(hd:(x == ("__debug__":Str))=false)(hcd:(x == ("__classdict__":Str))=false)(hu:X.A.units+16<cLine)(sm:Same' cl X)(hk:zmc cl cn f)(ho:PE X o (tE cl E fo))(hb:attributeBase o f X.env (eval o X.env)=eval o X.env)(he:PE X e (tE cl E fe))
  (sw1:swapsWithSole [.Subscript (.Attribute o f apos) (.Name x p) p3] e pos.line X.env=pure false) (sw2:swappedStores [.Subscript (.Attribute o f apos) (.Name x p) p3] e X.env=pure none)
  (ha:∀v,assign (.Subscript (.Attribute o f apos) (.Name x p) p3) X.env v=(do
   let ov ← holding [v] (eval (.Attribute o f apos) X.env)
   let iv ← holding [v,ov] (eval (.Name x p) X.env)
   standAt p3
   holding [v,ov,iv] (setItem ov iv v)
   release [v,ov,iv] [])):PS X (.Assign [.Subscript (.Attribute o f apos) (.Name x p) p3] e pos) (tS cl E own (zhJ cn f fo i fe)):=by
 refine PS.imp (zkO he (zoe (zg4 ho hb) (zcn hN hv hd hcd) (zpg hu) ha) sw1 sw2 rfl) ?_;rintro De σ H ⟨B,w,ρ,S,rfl,R,q⟩;refine ⟨B,w,ρ,S,rfl,R,?_⟩;unfold zhJ at q
 cases hf:fe ρ S with
 | bad=>rwa [hf] at q
 | exc c S1=>rw [hf] at q;exact fun w' R' F'=>q σ w' R' F'
 | ok r S1 =>
  rw [hf] at q;intro v w1 R1 F1 h1;dsimp only at q;refine ⟨B,w1,ρ,S1,rfl,R1,?_⟩
  cases hfo:fo ρ S1 with
  | bad=>rwa [hfo] at q
  | exc c S2=>rw [hfo] at q;exact fun w' R' F'=>q σ w' R' (F1.trans F')
  | ok d S2 =>
   rw [hfo] at q;intro y w2 R2 F2 h2;dsimp only at q
   cases hn:zj0 ρ i with
   | none=>rw [hn] at q;exact q.elim
   | some k =>
    cases hd:zgG cn f d S2 with
    | none=>rw [hn,hd] at q;exact q.elim
    | some t =>
     obtain ⟨n,ob,ds⟩:=t;rw [hn,hd] at q;dsimp only at q;split at q
     ·rename_i hc0;rw [yab,yab] at hc0;obtain ⟨⟨z1,z2⟩,z3⟩:=hc0;obtain ⟨a,dx,fs,c,xs,m,rfl,hS,hmu,how,hH,hF,c1,c2,lv,oc,hc,he,hs⟩:=zl3 hk R2 h2 hd;obtain ⟨kb,eσ,ks⟩:=zlj R2 hn
      have hno:m.lookup k=none:=by
       rcases znE hs k with ⟨e1,_⟩ | ⟨_,_,_,e2,_⟩
       ·exact e1
       ·rw [e2] at z1;cases z1
      rw [sm.kk];refine ⟨a,_,dx,fs,_,rfl,hH,c1,c2,lv,_,eσ,c,kb,k,xs,m,rfl,rfl,ks.at,by rw [sm.pp,sm.ww];exact hc,he.ents,hno,by rw [zoz hs];exact yat z2,fun u ru=>?_⟩;obtain ⟨R3,F3⟩:=R2.setd hS hmu how hH hF lv oc hc he hs ks ru (h1.up F2) z3;rw [sm.pp,sm.ww];exact q σ _ R3 (F1.trans (F2.trans F3))
     ·exact q.elim
def zo5(sm:Same' cl X)(hk:zmc cl cn f)(ho:PE X o (tE cl E fo))(he:PE X e (tE cl E fe))(hs:swapsWith e (some (.Attribute o f apos)) pos.line X.env=pure false):PS X (.Assign [.Attribute o f apos] e pos) (tS cl E own (zf9 cn f fo fe)):=by
 refine PS.imp (zoc ho he hs) ?_;rintro De σ H ⟨B,w,ρ,S,rfl,R,q⟩;refine ⟨B,w,ρ,S,rfl,R,?_⟩;unfold zf9 at q
 cases hf:fe ρ S with
 | bad=>rwa [hf] at q
 | exc c S1=>rw [hf] at q;exact fun w' R' F'=>q σ w' R' F'
 | ok r S1 =>
  rw [hf] at q;intro v w1 R1 F1 h1;dsimp only at q;refine ⟨B,w1,ρ,S1,rfl,R1,?_⟩
  cases hfo:fo ρ S1 with
  | bad=>rwa [hfo] at q
  | exc c S2=>rw [hfo] at q;exact fun w' R' F'=>q σ w' R' (F1.trans F')
  | ok d S2 =>
   rw [hfo] at q;intro y w2 R2 F2 h2
   cases d with
   | ref n =>
    dsimp only at q
    cases hS:S2[n]? with
    | none=>rw [hS] at q;exact q.elim
    | some ob =>
     rw [hS] at q;dsimp only at q;split at q
     ·rename_i hc0;rw [yab] at hc0;obtain ⟨a,dx,fs,rfl,hmu,how,hH,hF⟩:=zhA R2 h2 hS;rw [sm.kk];refine ⟨a,_,dx,fs,rfl,hH,yat hc0.1 ▸ hk.1,yat hc0.1 ▸ hk.2,by rw [hF.len];exact yat hc0.2,?_⟩;obtain ⟨R3,F3⟩:=R2.setf (f:=f) hS hmu how hH hF (h1.up F2);exact q σ _ R3 (F1.trans (F2.trans F3))
     ·exact q.elim
   | _=>exact q.elim
def zo6{i:Nat}{x:Str}{p p2:Pos}(hN:X.N[i]?=some x)(hv:Vis X.env.scope x)(hd:(x == ("__debug__":Str))=false)(hcd:(x == ("__classdict__":Str))=false)(sm:Same' cl X)(hk:zmc cl cn f)(hs:swapsWith (.Dict [] [] p) (some (.Attribute (.Name x p2) f apos)) pos.line X.env=pure false):PS X (.Assign [.Attribute (.Name x p2) f apos] (.Dict [] [] p) pos) (tS cl E own (zjo cn f i)):=by
 refine PS.imp (zoc (zcn hN hv hd hcd) zpH hs) ?_;rintro De σ H ⟨B,w,ρ,S,rfl,R,q⟩;intro pd hpd;unfold zjo at q;split at q
 ·rename_i n hi;obtain ⟨v,ev,rv⟩:=R.slots i false _ hi
  cases hS:S[n]? with
  | none=>rw [hS] at q;exact q.elim
  | some ob =>
   rw [hS] at q;dsimp only at q;split at q
   ·rename_i hc0;rw [yab] at hc0;obtain ⟨a,dx,fs,rfl,hmu,how,hH,hF⟩:=zhA R rv hS;rw [sm.kk];refine ⟨_,ev,a,_,dx,fs,rfl,?_,yat hc0.1 ▸ hk.1,yat hc0.1 ▸ hk.2,by rw [hF.len];exact yat hc0.2,?_⟩
    ·rw [zal (zax hH hpd)];exact hH
    ·obtain ⟨R3,F3⟩:=R.newf (f:=f) hS hmu how hH hF hpd;rw [sm.pp,sm.ww];exact q σ _ R3 F3
   ·exact q.elim
 ·exact q.elim
end
def zgL(C:Addr)(m:Str)(sp:Sp)(dvs:List V)(E:St->XK)(ta:TE)(t:TA):TE:=fun σ H Q=>ta σ H fun x H1=>∃a dx fs,x=.ref a/\H1 a=some (.ins C dx fs)/\fs.lookup m=none ∧
 t σ H1 fun vs H2=>sp (x::(vs++dvs)) H2 Q (E σ)
def zn2(C:Addr)(sp:Sp)(dvs:List V)(E:St->XK)(t:TA):TE:=fun σ H Q=>t σ H fun vs H1=>∀x dx,H1 x=none->H1 dx=none->dx≠x →
 sp (.ref x::(vs++dvs)) (upd (upd H1 dx (.own x)) x (.ins C dx [])) (fun v H2=>v=.non/\Q (.ref x) H2) (E σ)
section
variable{X:Cx}{CX:CXT}{k:Nat}{f C:Addr}{fd:FuncData}{ps:List Str}{sp:Sp}{dvs:List V}{ds:List Value}{E:St->XK}{x m:Str}{p pos apos:Pos}{e o:Expr}{es:List Expr}{ta:TE}{t:TA}
def zmP{pl:Sem Bool}(he:PE X o ta)(c:Cls X.K C)(hm:Meth X.K C m f)(F:FnOk X.prog X.w X.K X.mg X.base CX k f fd ps sp)(hr:Room k X.A)(hb:zcj X.K fd ps ds)(hd:Vals dvs ds)(hx:zc9 CX X E)(ha:PA X (e::es) t)
  (hst:starEach (e::es) X.env=(false,eval e X.env)::starEach es X.env) (hpl:(backTo pos (starEach es X.env)).any (·.1)=false)
  (ht:eval (.Call (.Attribute o m apos) (e::es) [] pos) X.env=(do
   let ov ← eval o X.env
   standAt apos.atName
   let (f,first) ← holding [ov] (getMethod ov m pl)
   callWith pos f first (backTo pos (starEach (e::es) X.env)) (backToKw pos (keywordEach [] X.env)))) :
  PE X (.Call (.Attribute o m apos) (e::es) [] pos) (zgL C m sp dvs E ta t):=by
 intro pins s σ H Q I h;refine PySem.W.methodCall_KW (pl:=pl) (thn (he pins s σ H _ I h) fun u s1 ⟨x,H1,I1,rx,a,dx,fs,ex,ea,l,q⟩=>?_) ht;subst ex;obtain rfl:u=Value.ref a:=rx;refine zfR I1 ea c hm l ?_;refine ycO (first:=[.ref a]) (h₀:=X.base) I.ok.mod.kin hm.kp (thn (ha pos pins s1 σ H1 _ I1 q) fun us s2 ⟨vs,H2,I2,r,q2⟩=>⟨I2.kIn,?_⟩) hst hpl;exact zgb (us:=.ref a::us) (vs:=.ref a::vs) F hr hb hd hx I2 (.cons rfl r) q2
def zkU{pl:Sem Bool}(he:PE X o ta)(c:Cls X.K C)(hm:Meth X.K C m f)(F:FnOk X.prog X.w X.K X.mg X.base CX k f fd ps sp)(hr:Room k X.A)(hb:zcj X.K fd ps ds)(hd:Vals dvs ds)(hx:zc9 CX X E)
  (ht:eval (.Call (.Attribute o m apos) [] [] pos) X.env=(do
   let ov ← eval o X.env
   standAt apos.atName
   let (f,first) ← holding [ov] (getMethod ov m pl)
   callWith pos f first (backTo pos (starEach [] X.env)) (backToKw pos (keywordEach [] X.env)))) :
  PE X (.Call (.Attribute o m apos) [] [] pos) (zgL C m sp dvs E ta zuO):=by
 intro pins s σ H Q I h;refine PySem.W.methodCall_KW (pl:=pl) (thn (he pins s σ H _ I h) fun u s1 ⟨x,H1,I1,rx,a,dx,fs,ex,ea,l,q⟩=>?_) ht;subst ex;obtain rfl:u=Value.ref a:=rx;refine zfR I1 ea c hm l ?_;exact PySem.W.callWith_K0 (first:=[.ref a]) I1.kIn hm.kp (zgb (us:=[.ref a]) (vs:=[.ref a]) F hr hb hd hx I1 (.cons rfl .nil) q)
def zky{pins:Z3}{σ:St}{H:Hp}{s:Shared}{Q:VK}{us:List Value}{vs:List V}(M:Mk X.K C f)(F:FnOk X.prog X.w X.K X.mg X.base CX k f fd ps sp)(hr:Room (k+1) X.A)(hb:zcj X.K fd ps ds)(hd:Vals dvs ds)
  (hx:zc9 CX X E) (I:Inv X pins σ H s) (r:Vals vs us)
  (h:∀x dx,H x=none->H dx=none->dx≠x->sp (.ref x::(vs++dvs)) (upd (upd H dx (.own x)) x (.ins C dx [])) (fun v H2=>v=.non/\Q (.ref x) H2) (E σ)) :
  wpAny (model X.prog X.w) X.A (call (.ref C) us) (EP X pins σ Q) X.xe s:=by
 have hq:=h (s.heap.objs.size+1) s.heap.objs.size (I.hok.fresh (yco _)) (I.hok.fresh (yam _)) (yaB (yb3 _));have I2:=Inv.made (C:=C) I;have r2:Vals (V.ref (s.heap.objs.size+1)::(vs++dvs)) (Value.ref (s.heap.objs.size+1)::(us++ds)):=.cons rfl (r.append hd)
 have hl:(Value.ref (s.heap.objs.size+1)::us++ds).length=ps.length:=by
  have e:=r2.length;rw [F.len _ _ _ _ hq] at e;exact e.symm
 refine wpAny_call (zm9 (f:=f) I.kIn M.makes M.init (ybS.mp M.fn) (codeAny_mono (F.run _ X.stack _ _ ⟨Value.ref (s.heap.objs.size+1)::us,[]⟩ (Value.ref (s.heap.objs.size+1)::(us++ds)) _ _ (E σ) (hr.make C us [])
  (I2.env0.make C us []) (hb _ (Value.ref (s.heap.objs.size+1)::us) I2.kIn hl) r2 hq) fun r s' hq'=>?_))
 cases r with
 | error e=>exact hx pins σ _ _ e s' I2 hq'
 | ok fl =>
  cases fl with
  | ret u =>
   obtain ⟨v,H',I3,rv,ev,q3⟩:=I2.after hq';subst ev;exact ⟨rv,⟨V.ref (s.heap.objs.size+1),H',I3,rfl,q3⟩⟩
  | next=>exact False.elim hq'
  | brk=>exact False.elim hq'
  | cont=>exact False.elim hq'
def ziF(M:Mk X.K C f)(F:FnOk X.prog X.w X.K X.mg X.base CX k f fd ps sp)(hr:Room (k+1) X.A)(hg:Gl X x)(hm:X.mg x=some (.ref C))(hb:zcj X.K fd ps ds)(hd:Vals dvs ds)(hx:zc9 CX X E)
  (ha:PA X (e::es) t) (hdb:(x == ("__debug__":Str))=false) (he:starEach (e::es) X.env=(false,eval e X.env)::starEach es X.env) (hpl:(backTo pos (starEach es X.env)).any (·.1)=false) :
  PE X (.Call (.Name x p) (e::es) [] pos) (zn2 C sp dvs E t):=by
 intro pins s σ H Q I h;refine ybT (zd8 I hg hm ?_ hdb);refine ycO (h₀:=X.base) I.ok.mod.kin M.kp (thn (ha pos pins s σ H _ I h) fun us s1 ⟨vs,H1,I1,r,q⟩=>⟨I1.kIn,?_⟩) he hpl;exact zky M F hr hb hd hx I1 r q
end
section
variable{cl:Cf}{E:St->XK}{fs:List Fe}{fo:Fe}{G:List D->Sto->Out D}{σ:St}{H:Hp}{Q:VK}{n:Nat}{c m:Str}{ρ:Env}
theorem zdX:∀{fs:List Fe} {S S1:Sto} {ds:List D},zak fs ρ S=.ok ds S1->ds.length=fs.length
 | [],S,S1,ds,h=>by cases h;rfl
 | f::fs,S,S1,ds,h=>by
  unfold zak at h
  cases h1:f ρ S with
  | bad=>rw [h1] at h;cases h
  | exc c S2=>rw [h1] at h;cases h
  | ok d S2 =>
   rw [h1] at h;dsimp only [Out.bind] at h
   cases h2:zak fs ρ S2 with
   | bad=>rw [h2] at h;cases h
   | exc c S3=>rw [h2] at h;cases h
   | ok es S3=>rw [h2] at h;cases h;rw [yai,yai,zdX h2]
def zlb{B:Base}{w:Wd}{S:Sto}{v:V}{d:D}(R:Rel cl B σ w ρ S)(hv:Shd cl w v d)(h:zcZ c m d S=true):∃a dx fs,v=.ref a/\w.H a=some (.ins (cl c) dx fs)/\fs.lookup m=none:=by
 unfold zcZ at h
 cases d with
 | ref n =>
  dsimp only at h
  cases hS:S[n]? with
  | none=>rw [hS] at h;cases h
  | some ob =>
   rw [hS] at h;dsimp only at h;rw [yab] at h;obtain ⟨a,dx,fs,rfl,_,_,hH,hF⟩:=zhA R hv hS;have e:=yat h.1;subst e;exact ⟨a,dx,fs,rfl,hH,hF.miss (by simpa using h.2)⟩
 | _=>cases h
def zsP(q:tE cl E (zbK c m G fo fs) σ H Q)(hn:fs.length+1=n):zgL (cl c) m (zgO cl n false G) [] E (tE cl E fo) (tAs cl E fs) σ H Q:=by
 obtain ⟨B,w,ρ,S,rfl,R,q⟩:=q;refine ⟨B,w,ρ,S,rfl,R,?_⟩;unfold zbK at q
 cases hfo:fo ρ S with
 | bad=>rwa [hfo] at q
 | exc c S1=>rwa [hfo] at q
 | ok d S0 =>
 rw [hfo] at q;intro v w0 R0 F0 h0;dsimp only [Out.bind] at q
 cases hok:zcZ c m d S0 with
 | false=>rw [hok] at q;exact q.elim
 | true =>
 rw [hok,if_pos rfl] at q;obtain ⟨a,dx,fs',rfl,hH,hm⟩:=zlb R0 h0 hok;refine ⟨a,dx,fs',rfl,hH,hm,B,w0,ρ,S0,rfl,R0,?_⟩
 cases hf:zak fs ρ S0 with
 | bad=>rwa [hf] at q
 | exc c S1=>rw [hf] at q;exact fun w1 R1 F1=>q w1 R1 (F0.trans F1)
 | ok ds S1 =>
  rw [hf] at q;intro vs w1 R1 F1 h1;dsimp only at q;refine ⟨?_,w1.base,w1.inn,d::ds,S1,rfl,R1.wd.enter,?_,?_⟩
  ·rw [ya5,yai,h1.length,zdX hf];exact hn
  ·rw [ya5];exact .cons ((h0.up F1).up (zcv w1)) (h1.up (zcv w1))
  cases hg:G (d::ds) S1 with
  | bad=>rwa [hg] at q
  | exc c S2 =>
   rw [hg] at q;intro w2 W2 F2;obtain ⟨R3,F3⟩:=R1.leave W2 F2;exact q (w1.back w2) R3 (F0.trans (F1.trans F3))
  | ok r S2 =>
   rw [hg] at q;intro v w2 W2 F2 r2;obtain ⟨R3,F3⟩:=R1.leave W2 F2;exact q v (w1.back w2) R3 (F0.trans (F1.trans F3)) (Shd.up (zdf W2) r2)
def zsO(q:tN cl E (zbK c m G fo fs) σ H Q)(hn:fs.length+1=n):zgL (cl c) m (zgO cl n true G) [] E (tE cl E fo) (tAs cl E fs) σ H Q:=by
 obtain ⟨B,w,ρ,S,rfl,R,q⟩:=q;refine ⟨B,w,ρ,S,rfl,R,?_⟩;unfold zbK at q
 cases hfo:fo ρ S with
 | bad=>rwa [hfo] at q
 | exc c S1=>rwa [hfo] at q
 | ok d S0 =>
 rw [hfo] at q;intro v w0 R0 F0 h0;dsimp only [Out.bind] at q
 cases hok:zcZ c m d S0 with
 | false=>rw [hok] at q;exact q.elim
 | true =>
 rw [hok,if_pos rfl] at q;obtain ⟨a,dx,fs',rfl,hH,hm⟩:=zlb R0 h0 hok;refine ⟨a,dx,fs',rfl,hH,hm,B,w0,ρ,S0,rfl,R0,?_⟩
 cases hf:zak fs ρ S0 with
 | bad=>rwa [hf] at q
 | exc c S1=>rw [hf] at q;exact fun w1 R1 F1=>q w1 R1 (F0.trans F1)
 | ok ds S1 =>
  rw [hf] at q;intro vs w1 R1 F1 h1;dsimp only at q;refine ⟨?_,w1.base,w1.inn,d::ds,S1,rfl,R1.wd.enter,?_,?_⟩
  ·rw [ya5,yai,h1.length,zdX hf];exact hn
  ·rw [ya5];exact .cons ((h0.up F1).up (zcv w1)) (h1.up (zcv w1))
  cases hg:G (d::ds) S1 with
  | bad=>rwa [hg] at q
  | exc c S2 =>
   rw [hg] at q;intro w2 W2 F2;obtain ⟨R3,F3⟩:=R1.leave W2 F2;exact q (w1.back w2) R3 (F0.trans (F1.trans F3))
  | ok r S2 =>
   rw [hg] at q;intro v w2 W2 F2 r2;obtain ⟨R3,F3⟩:=R1.leave W2 F2;obtain ⟨a,o,i,rfl,k1,k2,t⟩:=r2;have hfr:w1.base.Fr a=none:=(W2.own a _ k1).elim (fun z=>by cases z) fun z=>z
   have k3:(w1.back w2).ow a=some .far:=by
    show (if (w1.base.Fr a).isSome=true then w1.ow a else Root.out (w2.ow a))=_;rw [hfr,k1];rfl
   have hb:B.Fr a=none:=by
    cases z:B.Fr a with
    | none=>rfl
    | some u=>rw [zdH R1.wd z] at hfr;cases hfr
   have hd:=zhZ (w:=w1.back w2) (a:=a) (by rw [k3];exact yaL _);have:=q a o ((w1.back w2).del a) (R3.del k3 hb) (F0.trans (F1.trans (F3.trans hd))) (if_pos rfl) ((t.up (zdf W2)).up hd);rwa [zj6 (w:=w1.back w2) k2] at this
def zxf{dds:List D}{dvs:List V}(hdv:∀w,Shds cl w dvs dds)(q:tE cl E (eMk c dds G fs) σ H Q)(hn:fs.length+dds.length+1=n):zn2 (cl c) (zgO cl n false G) dvs E (tAs cl E fs) σ H Q:=by
 obtain ⟨B,w,ρ,S,rfl,R,q⟩:=q;refine ⟨B,w,ρ,S,rfl,R,?_⟩;unfold eMk at q
 cases hf:zak fs ρ S with
 | bad=>rwa [hf] at q
 | exc c S1=>rwa [hf] at q
 | ok ds S1 =>
  rw [hf] at q;intro vs w1 R1 F1 h1;dsimp only [Out.bind] at q;intro x dx hx hdx ne;obtain ⟨R2,F2⟩:=R1.made (c:=c) hx hdx ne
  have hmu:(w1.addO x dx (cl c) S1.length).mu[S1.length]?=some x:=by
   show (w1.mu++[x])[S1.length]?=some x;rw [yau (by rw [R1.wd.len];exact yam _),R1.wd.len,ybJ];rfl
  refine ⟨?_,(w1.addO x dx (cl c) S1.length).base,(w1.addO x dx (cl c) S1.length).inn,.ref S1.length::(ds++dds),S1++[⟨c,[]⟩],rfl,R2.wd.enter,?_,?_⟩
  ·rw [yai,yal,h1.length,zdX hf,(hdv w1).length];exact hn
  ·exact .cons (.ref hmu) (((h1.up F2).up (zcv _)).append (hdv _))
  cases hg:G (.ref S1.length::(ds++dds)) (S1++[⟨c,[]⟩]) with
  | bad=>rwa [hg] at q
  | exc c S2 =>
   rw [hg] at q;intro w2 W2 F3;obtain ⟨R3,F4⟩:=R2.leave W2 F3;exact q ((w1.addO x dx _ S1.length).back w2) R3 (F1.trans (F2.trans F4))
  | ok r S2 =>
   rw [hg] at q;intro v w2 W2 F3 r2
   cases r with
   | non =>
    obtain ⟨R3,F4⟩:=R2.leave W2 F3;refine ⟨by cases r2;rfl,q (.ref x) ((w1.addO x dx _ S1.length).back w2) R3 (F1.trans (F2.trans F4)) (.ref (F4.mu _ _ hmu))⟩
   | _=>exact q.elim
end
end S2
namespace L2
open PySem PySem.Spec PyProof.Rows
section
variable{X:Cx}
def zwe(ns:List Int):Nat:=argBest (fun i j=>decide (ns.getD i 0<ns.getD j 0)) (ns.length-1)
def zy7(ns:List Int):Int:=ns.getD (zwe ns) 0
end
end L2
namespace S2
open PySem PySem.Spec PyProof.Rows L2
def zum:Operator->Option (Int->Int->Int) | .Add=>some (·+·) | .Sub=>some (· - ·) | _=>none
def zr3(i:Nat)(g:Int->Int->Int)(fe:Fe):Fs:=fun ρ S=>match ρ[i]? with
 | some (some (false,.int a))=>(match fe ρ S with
  | .ok (.int b) S1=>.nx (ρ.set i (some (false,.int (g a b)))) S1
  | .ok _ _=>.bad
  | .exc c S1=>.ex c ρ S1
  | .bad=>.bad)
 | _=>.bad
def lrD:D->Option D | .int n=>if decide (0<=n/\n<=1000) then some (.lst ((List.range n.toNat).map fun (i:Nat)=>D.int (i:Int))) else none | _=>none
section
variable{cl:Cf}{X:Cx}{E:St->XK}{e:Expr}{fe f:Fe}{pos:Pos}{own:Bool}
def zrE{i:Nat}{x:Str}{op:Operator}{g:Int->Int->Int}{p:Pos}(hop:zum op=some g)(hN:X.N.Nodup)(hi:X.N[i]?=some x)(hx:Loc X.env.scope x)(he:PE X e (tE cl E fe))(hf:X.fn x=true\/X.env.scope.names.lookup x=some .local):PS X (.AugAssign (.Name x p) op e pos) (tS cl E own (zr3 i g fe)):=by
 have main:∀ti:TIp,PIp X op ti->(∀a b H Q,Q (.int (g a b)) H->ti (.int a) (.int b) H Q)->PS X (.AugAssign (.Name x p) op e pos) (tS cl E own (zr3 i g fe)):=by
  intro ti ho hti;refine PS.imp (zse hN hi hx he ho hf) ?_;rintro De σ H ⟨B,w,ρ,S,rfl,R,q⟩;unfold zr3 at q;split at q
  ·rename_i a ha;obtain ⟨v,ev,rv⟩:=R.slots i false _ ha;have rv':Shd cl w v (.int a):=rv;cases rv';refine ⟨_,ev,B,w,ρ,S,rfl,R,?_⟩
   cases hfe:fe ρ S with
   | bad=>rwa [hfe] at q
   | exc c S1=>rw [hfe] at q;exact fun w' R' F'=>q σ w' R' F'
   | ok d S1 =>
    rw [hfe] at q;intro y w1 R1 F1 h1
    cases d with
    | int b =>
     cases h1;exact hti a b _ _ (q _ w1 (R1.put (.int _)) F1)
    | _=>exact q.elim
  ·exact q.elim
 cases op<;>simp [zum] at hop<;>subst hop
 ·exact main zxa zth fun a b H Q q=>⟨a,b,rfl,rfl,q⟩
 ·exact main zw9 ztg fun a b H Q q=>⟨a,b,rfl,rfl,q⟩
theorem zhg{w:Wd}:∀l:List Nat,Shds cl w (l.map fun (i:Nat)=>V.int (i:Int)) (l.map fun (i:Nat)=>D.int (i:Int))
 | []=>.nil
 | a::l=>.cons (.int _) (zhg l)
def zjU:bootBuiltins "list" = some (.type "list"):=by decide +kernel
def zvd{p p2 pos2:Pos}(hc:X.calm=true)(hg:Gl X "list")(hm:X.mg "list" = none)(hg2:Gl X "range")(hm2:X.mg "range" = none)(he:PE X e (tE cl E f))(hs:starEach [e] X.env=[(false,eval e X.env)]) :
  PE X (.Call (.Name "list" p) [.Call (.Name "range" p2) [e] [] pos2] [] pos) (tN cl E (eUn lrD f)):=by
 refine PE.imp (zeW (zgA hc) hg hm zjU (zcL (zsj hg2 hm2 (zb4 he zeM hs) hs) zeX)) ?_;rintro σ H Q ⟨B,w,ρ,S,rfl,R,q⟩;refine ⟨B,w,ρ,S,rfl,R,?_⟩;unfold eUn at q
 cases hf:f ρ S with
 | bad=>rw [hf] at q;exact q.elim
 | exc c S1=>rw [hf] at q;simp only [zak,hf,Out.bind];exact q
 | ok d S1 =>
  rw [hf] at q;simp only [zak,hf,Out.bind];intro vs w1 R1 F1 sh;dsimp only [Out.bind] at q
  cases hl:lrD d with
  | none=>rw [hl] at q;exact q.elim
  | some r =>
   rw [hl] at q;unfold lrD at hl;split at hl
   ·rename_i n;split at hl
    ·rename_i hz;cases hl;have hz':=yat hz
     cases sh with
     | cons h1 hn =>
      cases hn;cases h1;refine ⟨n,rfl,hz'.1,hz'.2,fun pr hpr=>⟨pr,n.toNat,rfl,?_,by omega,fun l hl=>?_⟩⟩
      ·rw [show ((n.toNat:Nat):Int)=n by omega];exact zaR
      ·exact q l _ (w1.add pr (.rng 0 n)) (R1.grow (zaA hpr _)) (F1.trans (zaA hpr _).fut) hl (.lst (zhg _))
    ·cases hl
   ·cases hl
def zmX:OpR X (compareOp .Is) (fun x y H Q=>∃i j,x=.bl i/\y=.bl j/\Q (.bl (decide (i=j))) H):=by
 intro pins s σ H x y v u Q I rx ry h;obtain ⟨i,j,rfl,rfl,q⟩:=h;cases rx;cases ry;refine wpAny_is_plain (by rfl) ?_;refine ⟨.bl (decide (i=j)),H,I,?_,q⟩;show _=Value.bool _;congr 1
 cases i<;>cases j<;>rfl
def zuh:D->D->Option D | .bl a,.bl b=>some (.bl (decide (a=b))) | _,_=>none
def zsG:OpD X cl (compareOp .Is) zuh:=by
 intro pins s σ H x y v u Q I rx ry h;obtain ⟨w,d,e,r,rfl,hx,hy,hg,q⟩:=h;unfold zuh at hg;split at hg
 ·cases hg;obtain rfl:=hx.blI;obtain rfl:=hy.blI;exact zmX pins s σ w.H _ _ v u Q I rx ry ⟨_,_,rfl,rfl,q _ w (Grow.refl _) (.bl _)⟩
 ·cases hg
def zsN:List D->Option D
 | [.lst l]=>(zdu l).bind fun ns=>if ns.isEmpty then none else some (.int (zy7 ns))
 | ds=>zy8 ds
end
end S2
namespace S2
open PySem PySem.Spec PyProof.Rows L2
structure FnI where
 ar:Nat
 own:Bool
 run:List D->Sto->Out D
structure ObE where
 cur:Str
 fk:Str->Str->Bool
 df:Str->Bool
 mt:Str->Option (Str×FnI)
 mks:Str->Option (List D×FnI)
structure Genv where
 con:Str->Option D
 fn:Str->Option FnI
 blt:Str->Bool
 exc:Str->Bool
 und:Str->Str->Bool
 isx:Str->Str->Option Bool
 ob:ObE
 ds:Str->Bool
abbrev bmV:List Value:=[.type "ValueError",.type "Exception",.type "BaseException",.type "object"]
structure GOk(cl:Cf)(G:Genv)(P:Program)(wo:PySem.World)(K:PySem.W.Frag)(mg:Z6)(base:Heap)(k:Nat):Prop where
 con:∀x d,G.con x=some d->∃v u,mg x=some u/\za2 v u/\∀w,Shd cl w v d
 fn:∀x fi,G.fn x=some fi->∃f fd ps,mg x=some (.ref f)/\PySem.W.keepIn K (.ref f)=true/\zcj K fd ps []/\FnOk P wo K mg base (CXE P wo) k f fd ps (zgO cl fi.ar fi.own fi.run)
 blt:∀x,G.blt x=true->mg x=none
 exc:∀c,G.exc c=true->mg c=some (.ref (cl c))/\PySem.W.excIn K (cl c) bmV "ValueError.__new__" = true
 und:∀c C,G.und c C=true->L2.znX K (cl c) (cl C)
 isx:∀c C b,G.isx c C=some b->PySem.W.ExcCls K (cl c)/\PySem.W.kitOne K (.ref (cl c)) (ztD cl C)=some b
 fk:∀c f,G.ob.fk c f=true->zmc cl c f
 mt:∀m c fi,G.ob.mt m=some (c,fi)->∃f fd ps,Cls K (cl c)/\Meth K (cl c) m f/\zcj K fd ps []/\FnOk P wo K mg base (CXE P wo) k f fd ps (zgO cl fi.ar fi.own fi.run)
 mks:∀c dds fi,G.ob.mks c=some (dds,fi)->∃f fd ps dvs ds k',k'+1<=k/\mg c=some (.ref (cl c))/\Mk K (cl c) f/\zcj K fd ps []/\zcj K fd ps ds/\Vals dvs ds/\(∀w,Shds cl w dvs dds)/\FnOk P wo K mg base (CXE P wo) k' f fd ps (zgO cl fi.ar false fi.run)
abbrev Names:=List (Str×NameKind)
structure Gx(cl:Cf)(G:Genv)(k:Nat)(X:Cx)(nm:Names)(N:List Str)(E:St->XK):Prop where
 gok:GOk cl G X.prog X.w X.K X.mg X.base k
 room:Room k X.A
 calm:X.calm=true
 pass:zc9 (CXE X.prog X.w) X E
 eN:X.N=N
 kk:X.K=cl.K
 pp:X.prog=cl.P
 ww:X.w=cl.wo
 nd:N.Nodup
 vis:∀x kd,nm.lookup x=some kd->∃kd',X.env.scope.names.lookup x=some kd'/\(kd'=kd\/(kd=.free/\kd'=.cell))
 fnx:∀x,nm.lookup x=some .local->X.env.scope.names.lookup x=some .local
def idx:List Str->Str->Option Nat
 | [],_=>none
 | y::l,x=>if y=x then some 0 else (idx l x).map (·+1)
theorem zfc:∀{N:List Str} {x:Str} {i:Nat},idx N x=some i->N[i]?=some x
 | y::l,x,i,h=>by
  unfold idx at h;split at h
  ·rename_i e;cases h;rw [e];rfl
  ·cases hr:idx l x with
   | none=>rw [hr] at h;cases h
   | some j=>rw [hr] at h;cases h;simpa using zfc hr
def zg7(x:Str):Bool:=!(x == ("__debug__":Str))&&!(x == ("__classdict__":Str))&&!decide (x = "__name__")
def zeY{x:Str}(h:zg7 x=true):(x == ("__debug__":Str))=false/\(x == ("__classdict__":Str))=false/\x ≠ "__name__":=by
 unfold zg7 at h;simp only [yab,ybo,ybQ] at h;exact ⟨h.1.1,h.1.2,h.2⟩
def zvV:Option NameKind->Bool | some .local=>true | some .cell=>true | some .free=>true | _=>false
def zb3(nm:Names)(N:List Str)(x:Str):Option Nat:=if zvV (nm.lookup x)&&zg7 x then idx N x else none
def zcb(nm:Names)(x:Str):Bool:=decide (nm.lookup x=some .globalImplicit)&&zg7 x
section
variable{cl:Cf}{G:Genv}{k:Nat}{X:Cx}{nm:Names}{N:List Str}{E:St->XK}
def Gx.slot(g:Gx cl G k X nm N E){x:Str}{i:Nat}(h:zb3 nm N x=some i):X.N[i]?=some x/\Vis X.env.scope x/\(x == ("__debug__":Str))=false/\(x == ("__classdict__":Str))=false:=by
 unfold zb3 at h;split at h
 ·rename_i hv;rw [yab] at hv;obtain ⟨h1,h2,_⟩:=zeY hv.2;refine ⟨by rw [g.eN];exact zfc h,?_,h1,h2⟩
  cases hk:nm.lookup x with
  | none=>rw [hk] at hv;exact absurd hv.1 (by decide)
  | some kd =>
   obtain ⟨kd',e,z⟩:=g.vis x kd hk;rw [hk] at hv;unfold Vis;rw [e]
   rcases z with rfl | ⟨_,rfl⟩
   ·cases kd'<;>first | exact .inl rfl | exact .inr (.inl rfl) | exact .inr (.inr rfl) | exact absurd hv.1 (by decide)
   ·exact .inr (.inl rfl)
 ·cases h
def Gx.glob(g:Gx cl G k X nm N E){x:Str}(h:zcb nm x=true):Gl X x/\(x == ("__debug__":Str))=false/\x ≠ "__name__":=by
 unfold zcb at h;rw [yab] at h;obtain ⟨h1,_,h3⟩:=zeY h.2;obtain ⟨kd',e,z⟩:=g.vis x _ (yat h.1)
 rcases z with rfl | ⟨z,_⟩
 ·exact ⟨e,h1,h3⟩
 ·cases z
end
abbrev Rec:=Names->List Str->Expr->Option (Bool×Fe)
def okE:Expr->Bool | .Starred _ _=>false | .Set _ _ _=>false | _=>true
def zai{e:Expr}(h:okE e=true):zcm e=true:=by cases e<;>first | rfl | cases h
def zeZ{e:Expr}{op:CmpOp}(h:okE e=true):behindInMarks op e=false:=by cases e<;>first | rfl | cases h
def zgj{e:Expr}{env:PySem.Env}(h:okE e=true)(v:Value):foldedSetIterable e env v=pure v:=by cases e<;>first | rfl | cases h
def zbV:Expr->Bool | .IfExp _ _ _ _=>false | _=>true
def zbt(cl:Cf)(G:Genv)(k:Nat)(rc:Rec):Prop:=∀(X:Cx) (nm:Names) (N:List Str) (E:St->XK),Gx cl G k X nm N E->∀(e:Expr) (o:Bool) (f:Fe),rc nm N e=some (o,f) →
 (o=true->PE X e (tN cl E f))/\PE X e (tE cl E f)/\(zbV e=true->PT X e (tTr cl E f))/\okE e=true
def shE(rc:Rec)(nm:Names)(N:List Str)(e:Expr):Option Fe:=(rc nm N e).map (·.2)
def opE(rc:Rec)(nm:Names)(N:List Str)(e:Expr):Option Fe:=match e with
 | .Name x _=>(match zb3 nm N x with | some i=>some (zag i) | none=>shE rc nm N e)
 | _=>shE rc nm N e
def shL(rc:Rec)(nm:Names)(N:List Str):List Expr->Option (List Fe)
 | []=>some []
 | e::es=>(shE rc nm N e).bind fun f=>(shL rc nm N es).bind fun fs=>some (f::fs)
def opL(rc:Rec)(nm:Names)(N:List Str):List Expr->Option (List Fe)
 | []=>some []
 | e::es=>(opE rc nm N e).bind fun f=>(opL rc nm N es).bind fun fs=>some (f::fs)
section
variable{cl:Cf}{G:Genv}{k:Nat}{rc:Rec}{X:Cx}{nm:Names}{N:List Str}{E:St->XK}
def zaF(hs:zbt cl G k rc)(g:Gx cl G k X nm N E){e:Expr}{f:Fe}(h:shE rc nm N e=some f):PE X e (tE cl E f)/\(zbV e=true->PT X e (tTr cl E f))/\okE e=true:=by
 unfold shE at h
 cases hr:rc nm N e with
 | none=>rw [hr] at h;cases h
 | some p =>
  obtain ⟨o,f'⟩:=p;rw [hr] at h;cases h;obtain ⟨_,h2,h3,h4⟩:=hs X nm N E g e o _ hr;exact ⟨h2,h3,h4⟩
def zb8(hs:zbt cl G k rc)(g:Gx cl G k X nm N E){e:Expr}{f:Fe}(h:opE rc nm N e=some f):PE X e (tH cl E f)/\okE e=true:=by
 unfold opE at h;split at h
 ·rename_i x pos;split at h
  ·rename_i i hi;cases h;obtain ⟨h1,h2,h3,h4⟩:=g.slot hi;exact ⟨zrY h1 h2 h3 h4,rfl⟩
  ·obtain ⟨h1,_,h3⟩:=zaF hs g h;exact ⟨zks h1,h3⟩
 ·obtain ⟨h1,_,h3⟩:=zaF hs g h;exact ⟨zks h1,h3⟩
theorem zeL(hs:zbt cl G k rc)(g:Gx cl G k X nm N E):∀{es:List Expr} {fs:List Fe},shL rc nm N es=some fs->PA X es (tAs cl E fs)/\es.all zcm=true/\fs.length=es.length
 | [],fs,h=>by cases h;exact ⟨zeM,rfl,rfl⟩
 | e::es,fs,h=>by
  unfold shL at h
  cases h1:shE rc nm N e with
  | none=>rw [h1] at h;cases h
  | some f =>
   rw [h1] at h
   cases h2:shL rc nm N es with
   | none=>rw [h2] at h;cases h
   | some fs' =>
    rw [h2] at h;cases h;obtain ⟨a1,_,a3⟩:=zaF hs g h1;obtain ⟨b1,b2,b3⟩:=zeL hs g h2;exact ⟨zb4 a1 b1 (za8 (zai a3)),by rw [ybH,zai a3,b2];rfl,by rw [yai,yai,b3]⟩
theorem zoh(hs:zbt cl G k rc)(g:Gx cl G k X nm N E):∀{es:List Expr} {fs:List Fe},opL rc nm N es=some fs->PA X es (tHs cl E fs)/\es.all zcm=true/\fs.length=es.length
 | [],fs,h=>by cases h;exact ⟨zn8,rfl,rfl⟩
 | e::es,fs,h=>by
  unfold opL at h
  cases h1:opE rc nm N e with
  | none=>rw [h1] at h;cases h
  | some f =>
   rw [h1] at h
   cases h2:opL rc nm N es with
   | none=>rw [h2] at h;cases h
   | some fs' =>
    rw [h2] at h;cases h;obtain ⟨a1,a3⟩:=zb8 hs g h1;obtain ⟨b1,b2,b3⟩:=zoh hs g h2;exact ⟨zkp a1 b1 (za8 (zai a3)),by rw [ybH,zai a3,b2];rfl,by rw [yai,yai,b3]⟩
end
def zyd:Const->Option D
 | .int i=>some (.int i)
 | .bool b=>some (.bl b)
 | .none=>some .non
 | .str x=>some (.str x)
 | _=>none
def zwd:Operator->Option (D->D->Option D)
 | .Add=>some zby | .Sub=>some zmd | .Mult=>some zgF | .Mod=>some zjZ | .FloorDiv=>some ztx | _=>none
noncomputable def zls:Expr->Bool | .Constant .none _ _=>true | _=>false
noncomputable def zlt:Expr->Bool | .Constant (.bool _) _ _=>true | _=>false
noncomputable def ltD:=zq0 fun i j=>decide (i<j)
noncomputable def leD:=zq0 fun i j=>decide (i<=j)
noncomputable def gtD:=zq0 fun i j=>decide (j<i)
noncomputable def geD:=zq0 fun i j=>decide (j<=i)
noncomputable def ztC:CmpOp->Expr->Option (D->D->Option D)
 | .Eq,_=>some eqD | .NotEq,_=>some neD | .Lt,_=>some ltD | .LtE,_=>some leD | .Gt,_=>some gtD | .GtE,_=>some geD | .In,_=>some inD | .NotIn,_=>some zm2
 | .Is,b=>if zls b then some znk else if zlt b then some zuh else none
 | .IsNot,b=>if zls b then some zk7 else if zlt b then some zm1 else none
noncomputable def zjV(rc:Rec)(nm:Names)(N:List Str)(op:BoolOp):List Expr->Option Fe
 | []=>none
 | [a]=>if zbV a then shE rc nm N a else none
 | a::b::r=>if zbV a then (shE rc nm N a).bind fun f=>(zjV rc nm N op (b::r)).bind fun h=>some (match op with | .And=>zeF f h | .Or=>eOr f h) else none
structure BI where
 g:List D->Option D
 nw:Bool
noncomputable def zl0(x:Str):Option BI :=
 if x = "len" then some ⟨zeA,false⟩
 else if x = "all" then some ⟨ztU,false⟩
 else if x = "sum" then some ⟨zqU,false⟩
 else if x = "tuple" then some ⟨zbv,false⟩
 else if x = "list" then some ⟨zjB,true⟩
 else if x = "max" then some ⟨zqZ,false⟩
 else none
noncomputable def zrj(x:Str):Option String:=if x = "int" then some "int" else if x = "bool" then some "bool" else if x = "tuple" then some "tuple" else if x = "str" then some "str" else if x = "list" then some "list" else none
noncomputable def zwb(G:Genv)(t:Str):Bool:=if t = "ValueError" then G.blt t else G.exc t
noncomputable def zqE(G:Genv)(rc:Rec)(nm:Names)(N:List Str)(x:Str)(args:List Expr):Option (Bool×Fe) :=
 if zcb nm x then
  match G.fn x with
  | some fi=>if args.length=fi.ar then (shL rc nm N args).bind fun fs=>some (fi.own,eFn fi.run fs) else none
  | none=>if G.blt x then
    (if x = "isinstance" then (match args with
     | [a,.Name t _]=>if zcb nm t&&G.blt t&&(zrj t).isSome then (zrj t).bind fun T=>(opE rc nm N a).bind fun f=>some (false,eUn (zes T) f)
      else if zcb nm t&&zwb G t then (opE rc nm N a).bind fun f=>some (false,eUn (zlq G.isx t) f) else none
     | _=>none)
    else match args with
     | []=>none
     | _::_=>(zl0 x).bind fun bi=>(opL rc nm N args).bind fun fs=>some (bi.nw,zau bi.g fs)) else none
 else none
noncomputable def zos:Expr->Bool | .Tuple _ _ _=>true | _=>false
noncomputable def zjE(G:Genv)(rc:Rec)(nm:Names)(N:List Str)(tg e:Expr):Option Fi:=match e with
 | .Call (.Name x p) args [] pos=>if x = "range" then (if zcb nm x&&G.blt x then (match args with
   | [a]=>(shE rc nm N a).bind fun f=>some (zdG f)
   | [a,b]=>(shE rc nm N a).bind fun f=>(shE rc nm N b).bind fun h=>some (zlJ f h)
   | [a,b,c]=>(shE rc nm N a).bind fun f=>(shE rc nm N b).bind fun h=>(shE rc nm N c).bind fun g=>some (zjM f h g)
   | _=>none) else none)
  else if x = "enumerate" then (if zcb nm x&&G.blt x&&zos tg then (match args with
   | [a]=>(shE rc nm N a).bind fun f=>some (zjN f)
   | _=>none) else none)
  else if x = "zip" then (if zcb nm x&&G.blt x&&zos tg then (match args with
   | [a,b]=>(shE rc nm N a).bind fun f=>(shE rc nm N b).bind fun h=>some (zox f h)
   | _=>none) else none)
  else (shE rc nm N e).map zay
 | _=>(shE rc nm N e).map zay
noncomputable def zu6:Expr->Option (Str×Expr×Pos×Pos) | .Call (.Name y p) [a] [] q=>some (y,a,p,q) | _=>none
noncomputable def spA:List Expr->Option (Str×Expr×Pos×Pos) | [e]=>zu6 e | _=>none
noncomputable def zrH{args:List Expr}{c:Str×Expr×Pos×Pos}(h:spA args=some c):args=[.Call (.Name c.1 c.2.2.1) [c.2.1] [] c.2.2.2]:=by
 match args,h with
 | [e],h =>
  have h':zu6 e=some c:=h;unfold zu6 at h';split at h'
  ·cases h';rfl
  ·cases h'
noncomputable def spG(G:Genv)(rc:Rec)(nm:Names)(N:List Str)(x:Str)(args:List Expr):Option (Bool×Fe):=(spA args).bind fun c =>
 if decide (x = "list")&&decide (c.1 = "range")&&zcb nm "list" && G.blt "list" && zcb nm "range" && G.blt "range" then (shE rc nm N c.2.1).map fun f=>(true,eUn lrD f)
 else none
section
variable{cl:Cf}{G:Genv}{k:Nat}{rc:Rec}{X:Cx}{nm:Names}{N:List Str}{E:St->XK}
theorem Gx.units(g:Gx cl G k X nm N E):X.A.units+64<cLine:=g.room.units
noncomputable def zoF{op:Operator}{gg:D->D->Option D}(h:zwd op=some gg):OpD X cl (binaryOp op) gg:=by
 cases op<;>simp [zwd] at h<;>subst h
 ·exact zsI
 ·exact zsB
 ·exact zsD
 ·exact zsE
 ·exact zsH
noncomputable def zfV(g:Gx cl G k X nm N E){op:CmpOp}{b:Expr}{gg:D->D->Option D}(h:ztC op b=some gg):OpD X cl (compareOp op) gg:=by
 cases op<;>simp only [ztC] at h
 ·cases h;exact zvA g.kk g.units
 ·cases h;exact zvy g.kk g.units
 ·cases h;exact zgk zvu
 ·cases h;exact zgk zvv
 ·cases h;exact zgk zvw
 ·cases h;exact zgk zvx
 ·split at h
  ·cases h;exact zsF
  ·split at h
   ·cases h;exact zsG
   ·cases h
 ·split at h
  ·cases h;exact zpQ
  ·split at h
   ·cases h;exact zpR
   ·cases h
 ·cases h;exact zvz g.kk g.units
 ·cases h;exact zsC g.kk g.units
theorem zlZ(hs:zbt cl G k rc)(g:Gx cl G k X nm N E){op:BoolOp}{pos:Pos}:∀{es:List Expr} {f:Fe},zjV rc nm N op es=some f->PE X (.BoolOp op es pos) (tE cl E f)/\PW X (.BoolOp op es pos) (tTr cl E f)
 | [],f,h=>by cases h
 | [a],f,h=>by
  unfold zjV at h;split at h
  ·rename_i ht;obtain ⟨h1,h2,_⟩:=zaF hs g h;refine ⟨zsl h1,?_⟩
   cases op with
   | And=>exact zpt (h2 ht)
   | Or=>exact zr8 (h2 ht)
  ·cases h
 | a::b::r,f,h=>by
  unfold zjV at h;split at h
  ·rename_i ht
   cases h1:shE rc nm N a with
   | none=>rw [h1] at h;cases h
   | some fa =>
    rw [h1] at h
    cases h2:zjV rc nm N op (b::r) with
    | none=>rw [h2] at h;cases h
    | some fb =>
     rw [h2] at h;obtain ⟨a1,a2,_⟩:=zaF hs g h1;obtain ⟨b1,b2⟩:=zlZ hs g (pos:=pos) h2
     cases op with
     | And=>cases h;exact ⟨zrZ a1 b1,zru (a2 ht) b2⟩
     | Or=>cases h;exact ⟨zvc a1 b1,zuX (a2 ht) b2⟩
  ·cases h
noncomputable def znT:bootBuiltins "all" = some (.builtin "all"):=by decide +kernel
noncomputable def zfX:bootBuiltins "tuple" = some (.type "tuple"):=by decide +kernel
noncomputable def zhs:bootBuiltins "list" = some (.type "list"):=by decide +kernel
noncomputable def znS:bootBuiltins "int" = some (.type "int"):=by decide +kernel
noncomputable def zlY:bootBuiltins "bool" = some (.type "bool"):=by decide +kernel
noncomputable def znR:bootBuiltins "max" = some (.builtin "max"):=by decide +kernel
noncomputable def zuk:bootBuiltins "min" = some (.builtin "min"):=by decide +kernel
noncomputable def zul:bootBuiltins "abs" = some (.builtin "abs"):=by decide +kernel
noncomputable def znQ:bootBuiltins "str" = some (.type "str"):=by decide +kernel
noncomputable def ztM(g:Gx cl G k X nm N E){x:Str}{bi:BI}{e:Expr}{es:List Expr}{fs:List Fe}{p pos:Pos}(h:zl0 x=some bi)(hg:zcb nm x=true)(hb:G.blt x=true)(ha:PA X (e::es) (tHs cl E fs))(hp:(e::es).all zcm=true) :
  (bi.nw=true->PE X (.Call (.Name x p) (e::es) [] pos) (tN cl E (zau bi.g fs)))/\PE X (.Call (.Name x p) (e::es) [] pos) (tE cl E (zau bi.g fs)):=by
 obtain ⟨g1,g2,g3⟩:=g.glob hg;have m:=g.gok.blt x hb;rw [ybH,yab] at hp;have st:=za8 (es:=es) (env:=X.env) hp.1;have pl:=zbj (pos:=pos) (env:=X.env) hp.2
 have D1:∀{id:String} {gg:List D->Option D},zih X cl (.builtin id) gg->bootBuiltins x=some (.builtin id)->PE X (.Call (.Name x p) (e::es) [] pos) (tE cl E (zau gg fs)):=fun hc hv =>
  PE.imp (zgi hc g1 m hv ha g3 g2 st pl) fun _ _ _ q=>zrr (fun _ _ _ z=>z) q
 have D2:∀{T:String} {gg:List D->Option D},zih X cl (.type T) gg->bootBuiltins x=some (.type T)->PE X (.Call (.Name x p) (e::es) [] pos) (tE cl E (zau gg fs)):=fun hc hv =>
  PE.imp (zeW hc g1 m hv ha g3 g2 st pl) fun _ _ _ q=>zrr (fun _ _ _ z=>z) q
 have N2:∀{T:String} {gg:List D->Option D},zt2 X cl (.type T) gg->bootBuiltins x=some (.type T)->PE X (.Call (.Name x p) (e::es) [] pos) (tN cl E (zau gg fs)):=fun hc hv =>
  PE.imp (zeW hc g1 m hv ha g3 g2 st pl) fun _ _ _ q=>zuV (fun _ _ _ z=>z) q
 unfold zl0 at h;split at h
 ·rename_i e';cases h;exact ⟨(fun z=>absurd z (by decide)),D1 (ztG g.kk) (by rw [e'];exact PySem.boot_len)⟩
 split at h
 ·rename_i e';cases h;exact ⟨(fun z=>absurd z (by decide)),D1 (ztH g.calm) (by rw [e'];exact znT)⟩
 split at h
 ·rename_i e';cases h;exact ⟨(fun z=>absurd z (by decide)),D1 (ztE g.calm) (by rw [e'];exact PyProof.Rows.boot_sum)⟩
 split at h
 ·rename_i e';cases h;exact ⟨(fun z=>absurd z (by decide)),D2 znN (by rw [e'];exact zfX)⟩
 split at h
 ·rename_i e';cases h;have n:=N2 zqx (by rw [e'];exact zhs);exact ⟨fun _=>n,zcS n⟩
 split at h
 ·rename_i e';cases h;exact ⟨(fun z=>absurd z (by decide)),D1 (ztF g.calm) (by rw [e'];exact znR)⟩
 ·cases h
noncomputable def zuE{t:Str}{T:String}(h:zrj t=some T):bootBuiltins t=some (.type T):=by
 unfold zrj at h;split at h
 ·rename_i e;cases h;rw [e];exact znS
 split at h
 ·rename_i e;cases h;rw [e];exact zlY
 split at h
 ·rename_i e;cases h;rw [e];exact zfX
 split at h
 ·rename_i e;cases h;rw [e];exact znQ
 split at h
 ·rename_i e;cases h;rw [e];exact zhs
 ·cases h
noncomputable def zqD(hs:zbt cl G k rc)(g:Gx cl G k X nm N E){x:Str}{args:List Expr}{o:Bool}{f:Fe}{p pos:Pos}(h:zqE G rc nm N x args=some (o,f)) :
  (o=true->PE X (.Call (.Name x p) args [] pos) (tN cl E f))/\PE X (.Call (.Name x p) args [] pos) (tE cl E f):=by
 unfold zqE at h;split at h
 ·rename_i hg;obtain ⟨g1,g2,g3⟩:=g.glob hg;split at h
  ·rename_i fi hfi;split at h
   ·rename_i hl;obtain ⟨fa,fd,ps,m1,m2,m3,m4⟩:=g.gok.fn x fi hfi
    cases h1:shL rc nm N args with
    | none=>rw [h1] at h;cases h
    | some fs =>
     rw [h1] at h;cases h;obtain ⟨a1,a2,a3⟩:=zeL hs g h1;have hlen:fs.length=fi.ar:=a3.trans hl
     have main:PE X (.Call (.Name x p) args [] pos) (zgM (zgO cl fi.ar fi.own fi.run) [] E (tAs cl E fs)):=by
      cases args with
      | nil =>
       cases h1;refine PE.imp (zkX m4 g.room g1 m1 m2 m3 .nil g.pass g2) ?_;rintro σ H Q ⟨B,w,ρ,S,rfl,R,q⟩;exact q [] w R (Fut.refl _) .nil
      | cons e es =>
       rw [ybH,yab] at a2;exact zmV m4 g.room g1 m1 m2 m3 .nil g.pass a1 g2 (za8 a2.1) (zbj a2.2)
     cases ho:fi.own with
     | false =>
      rw [ho] at main;exact ⟨(fun z=>by cases z),PE.imp main fun _ _ _ q=>ztK q hlen⟩
     | true =>
      rw [ho] at main;have n:PE X (.Call (.Name x p) args [] pos) (tN cl E (eFn fi.run fs)):=PE.imp main fun _ _ _ q=>ztJ q hlen
      exact ⟨fun _=>n,zcS n⟩
   ·cases h
  ·split at h
   ·rename_i hb;split at h
    ·rename_i hx;subst hx;split at h
     ·rename_i a t p2;split at h
      ·rename_i ht;rw [yab,yab] at ht;replace ht:=ht.1
       cases hT:zrj t with
       | none=>rw [hT] at h;cases h
       | some T =>
        rw [hT] at h
        cases h1:opE rc nm N a with
        | none=>rw [h1] at h;cases h
        | some fa =>
         rw [h1] at h;cases h;obtain ⟨t1,t2,t3⟩:=g.glob ht.1;obtain ⟨a1,a2⟩:=zb8 hs g h1;exact ⟨(fun z=>by cases z),zpj g1 (g.gok.blt _ hb) t1 (g.gok.blt _ ht.2) (zuE hT) t3 t2 (zai a2) a1⟩
      ·split at h
       ·rename_i ht;rw [yab] at ht
        cases h1:opE rc nm N a with
        | none=>rw [h1] at h;cases h
        | some fa =>
         rw [h1] at h;cases h;obtain ⟨t1,t2,t3⟩:=g.glob ht.1;obtain ⟨a1,a2⟩:=zb8 hs g h1;refine ⟨(fun z=>by cases z),?_⟩
         by_cases hv:t = "ValueError"
         ·subst hv
          have ht2:G.blt "ValueError" = true:=by simpa [zwb] using ht.2
          exact zn9 (vC:=.ty "ValueError") g1 (g.gok.blt _ hb) (zkY t1 (g.gok.blt _ ht2) zjT rfl t3 t2) (fun u r=>by rw [show u=Value.type "ValueError" from r];rfl) (fun c b hc=>g.gok.isx c _ b hc) (zai a2) a1
         ·have ht2:G.exc t=true:=by simpa [zwb,hv] using ht.2
          exact zn9 (vC:=.ref (cl t)) g1 (g.gok.blt _ hb) (zkV t1 (g.gok.exc t ht2).1 rfl t2) (fun u r=>by rw [show u=Value.ref (cl t) from r];unfold ztD;rw [if_neg hv]) (fun c b hc=>g.gok.isx c _ b hc) (zai a2) a1
       ·cases h
     ·cases h
    ·split at h
     ·cases h
     ·rename_i e es
      cases h2:zl0 x with
      | none=>rw [h2] at h;cases h
      | some bi =>
       rw [h2] at h
       cases h1:opL rc nm N (e::es) with
       | none=>rw [h1] at h;cases h
       | some fs =>
        rw [h1] at h;cases h;obtain ⟨a1,a2,_⟩:=zoh hs g h1;exact ztM g h2 hg hb a1 a2
   ·cases h
 ·cases h
noncomputable def zlp(hs:zbt cl G k rc)(g:Gx cl G k X nm N E){e tg:Expr}{fi:Fi}(h:zjE G rc nm N tg e=some fi):PI X tg e (tI cl E fi)/\okE e=true:=by
 have gen:∀{e:Expr},(shE rc nm N e).map zay=some fi->PI X tg e (tI cl E fi)/\okE e=true:=fun {e} h=>by
  cases h1:shE rc nm N e with
  | none=>rw [h1] at h;cases h
  | some f =>
   rw [h1] at h;cases h;obtain ⟨a1,_,a3⟩:=zaF hs g h1;exact ⟨zrL g.kk a1,a3⟩
 unfold zjE at h;split at h
 ·rename_i x p args pos;split at h
  ·rename_i hx;subst hx;split at h
   ·rename_i hb;rw [yab] at hb;obtain ⟨g1,_,_⟩:=g.glob hb.1;have m:=g.gok.blt _ hb.2;split at h
    ·rename_i a
     cases h1:shE rc nm N a with
     | none=>rw [h1] at h;cases h
     | some f =>
      rw [h1] at h;cases h;obtain ⟨a1,_,a3⟩:=zaF hs g h1;exact ⟨zpc g1 m (zb4 a1 zeM (za8 (zai a3))) (za8 (zai a3)),rfl⟩
    ·rename_i a b
     cases h1:shE rc nm N a with
     | none=>rw [h1] at h;cases h
     | some f =>
      rw [h1] at h
      cases h2:shE rc nm N b with
      | none=>rw [h2] at h;cases h
      | some f2 =>
       rw [h2] at h;cases h;obtain ⟨a1,_,a3⟩:=zaF hs g h1;obtain ⟨b1,_,b3⟩:=zaF hs g h2;have s1:=za8 (es:=[b]) (env:=X.env) (zai a3);have s2:=za8 (es:=[]) (env:=X.env) (zai b3);exact ⟨zpb g1 m (zb4 a1 (zb4 b1 zeM s2) s1) (by rw [s1,s2];rfl) s2,rfl⟩
    ·rename_i a b c
     cases h1:shE rc nm N a with
     | none=>rw [h1] at h;cases h
     | some f =>
      rw [h1] at h
      cases h2:shE rc nm N b with
      | none=>rw [h2] at h;cases h
      | some f2 =>
       rw [h2] at h
       cases h3:shE rc nm N c with
       | none=>rw [h3] at h;cases h
       | some f3 =>
        rw [h3] at h;cases h;obtain ⟨a1,_,a3⟩:=zaF hs g h1;obtain ⟨b1,_,b3⟩:=zaF hs g h2;obtain ⟨c1,_,c3⟩:=zaF hs g h3;have s1:=za8 (es:=[b,c]) (env:=X.env) (zai a3);have s2:=za8 (es:=[c]) (env:=X.env) (zai b3);have s3:=za8 (es:=[]) (env:=X.env) (zai c3);exact ⟨zpa g1 m (zb4 a1 (zb4 b1 (zb4 c1 zeM s3) s2) s1) s1 (zbj (by simp [zai b3,zai c3])),rfl⟩
    ·cases h
   ·cases h
  split at h
  ·rename_i hx;subst hx;split at h
   ·rename_i hb;rw [yab,yab] at hb;obtain ⟨g1,_,_⟩:=g.glob hb.1.1;have m:=g.gok.blt _ hb.1.2;split at h
    ·rename_i a
     cases h1:shE rc nm N a with
     | none=>rw [h1] at h;cases h
     | some f =>
      rw [h1] at h;cases h;obtain ⟨a1,_,a3⟩:=zaF hs g h1
      cases tg with
      | Tuple es kk tp=>exact ⟨zpd g1 m (zb4 a1 zeM (za8 (zai a3))) (za8 (zai a3)),rfl⟩
      | _=>cases hb.2
    ·cases h
   ·cases h
  split at h
  ·rename_i hx;subst hx;split at h
   ·rename_i hb;rw [yab,yab] at hb;obtain ⟨g1,_,_⟩:=g.glob hb.1.1;have m:=g.gok.blt _ hb.1.2;split at h
    ·rename_i a b
     cases h1:shE rc nm N a with
     | none=>rw [h1] at h;cases h
     | some f =>
      rw [h1] at h
      cases h2:shE rc nm N b with
      | none=>rw [h2] at h;cases h
      | some f2 =>
       rw [h2] at h;cases h;obtain ⟨a1,_,a3⟩:=zaF hs g h1;obtain ⟨b1,_,b3⟩:=zaF hs g h2;have s1:=za8 (es:=[b]) (env:=X.env) (zai a3);have s2:=za8 (es:=[]) (env:=X.env) (zai b3)
       cases tg with
       | Tuple es kk tp=>exact ⟨zrJ g1 m (zb4 a1 (zb4 b1 zeM s2) s1) s1 (zbj (by simp [zai b3])),rfl⟩
       | _=>cases hb.2
    ·cases h
   ·cases h
  ·exact gen h
 ·exact gen h
noncomputable def zu5(hs:zbt cl G k rc)(g:Gx cl G k X nm N E){x:Str}{args:List Expr}{p pos:Pos}{o:Bool}{f:Fe}(h:spG G rc nm N x args=some (o,f)):(o=true->PE X (.Call (.Name x p) args [] pos) (tN cl E f))/\PE X (.Call (.Name x p) args [] pos) (tE cl E f):=by
 unfold spG at h
 cases hc:spA args with
 | none=>rw [hc] at h;cases h
 | some c =>
 rw [hc] at h;obtain rfl:=zrH hc;obtain ⟨y,a,p2,pos2⟩:=c;dsimp only [Option.bind] at h ⊢;clear hc;split at h
 ·rename_i hb;simp only [yab,ybz] at hb;obtain ⟨⟨⟨⟨⟨rfl,rfl⟩,b1⟩,b2⟩,b3⟩,b4⟩:=hb;obtain ⟨g1,_,_⟩:=g.glob b1;obtain ⟨g2,_,_⟩:=g.glob b3
  cases h1:shE rc nm N a with
  | none=>rw [h1] at h;cases h
  | some fa =>
   rw [h1] at h;cases h;obtain ⟨a1,_,a3⟩:=zaF hs g h1;have n:=zvd (p:=p) (p2:=p2) (pos:=pos) (pos2:=pos2) g.calm g1 (g.gok.blt _ b2) g2 (g.gok.blt _ b4) a1 (za8 (zai a3));exact ⟨fun _=>n,zcS n⟩
 ·cases h
noncomputable def zob:Expr->Bool | .Name _ _=>true | .Call (.Name _ _) (_::_) _ _=>true | .Attribute (.Name _ _) _ _=>true | _=>false
noncomputable def zpW(G:Genv)(rc:Rec)(nm:Names)(N:List Str)(o:Expr)(m:Str)(ap cp:Pos)(args:List Expr)(kws:List Keyword):Option (Bool×Fe) :=
 if kws.isEmpty&&zob o&&(ap.endLine == cp.line)&&decide (args.length<30) then (G.ob.mt m).bind fun c=>if args.length+1=c.2.ar then (shE rc nm N o).bind fun fo=>(shL rc nm N args).bind fun fs=>some (c.2.own,zbK c.1 m c.2.run fo fs) else none else none
noncomputable def mkG(G:Genv)(rc:Rec)(nm:Names)(N:List Str)(x:Str)(args:List Expr):Option (Bool×Fe) :=
 if zcb nm x&&!args.isEmpty then (G.ob.mks x).bind fun c=>(shL rc nm N args).bind fun fs =>
  if args.length+1=c.2.ar then some (false,eMk x [] c.2.run fs) else if args.length+c.1.length+1=c.2.ar then some (false,eMk x c.1 c.2.run fs) else none
 else none
noncomputable def zgo:Expr->Bool | .Name _ _=>true | _=>false
noncomputable def zv5(G:Genv)(rc:Rec)(nm:Names)(N:List Str)(o:Expr)(f:Str):Option (Bool×Fe):=if zgo o&&!G.ob.df f&&G.ob.fk G.ob.cur f then (shE rc nm N o).map fun fo=>(false,zeE G.ob.cur f fo) else none
noncomputable def zwf:Expr->Option (Expr×Str×Pos) | .Attribute o m p=>some (o,m,p) | _=>none
noncomputable def zl2{e:Expr}{x:Expr×Str×Pos}(h:zwf e=some x):e=.Attribute x.1 x.2.1 x.2.2:=by cases e<;>first | (cases h;done) | (cases h;rfl)
noncomputable def nmF:Expr->Option (Str×Pos) | .Name x p=>some (x,p) | _=>none
noncomputable def ziM{e:Expr}{x:Str×Pos}(h:nmF e=some x):e=.Name x.1 x.2:=by cases e<;>first | (cases h;done) | (cases h;rfl)
noncomputable def zot:List CmpOp->Bool | [.NotIn]=>true | _=>false
noncomputable def zxc:List Expr->Option Expr | [a]=>some a | _=>none
noncomputable def zvB(G:Genv)(rc:Rec)(nm:Names)(N:List Str)(a:Expr)(ops:List CmpOp)(bs:List Expr):Option (Bool×Fe) :=
 if zot ops then (zxc bs).bind fun b=>(zwf b).bind fun t=>if zgo t.1&&G.ob.df t.2.1&&G.ob.fk G.ob.cur t.2.1 then (shE rc nm N a).bind fun fa=>(shE rc nm N t.1).bind fun fo=>some (false,znC G.ob.cur t.2.1 fa fo) else none else none
noncomputable def zv2(G:Genv)(rc:Rec)(nm:Names)(N:List Str)(a i:Expr):Option (Bool×Fe) :=
 (zwf a).bind fun t=>if zgo t.1&&G.ob.df t.2.1&&G.ob.fk G.ob.cur t.2.1 then (nmF i).bind fun x=>(zb3 nm N x.1).bind fun j=>(shE rc nm N t.1).bind fun fo=>some (false,zh7 G.ob.cur t.2.1 fo j) else none
noncomputable def Gx.same(g:Gx cl G k X nm N E):Same' cl X:=⟨g.kk,g.pp,g.ww⟩
noncomputable def Gx.u16(g:Gx cl G k X nm N E):X.A.units+16<cLine:=Nat.lt_of_le_of_lt (Nat.add_le_add_left (by decide) _) g.units
noncomputable def zaB{α β:Type}{o:Option α}{f:α->Option β}{b:β}(h:o.bind f=some b):∃a,o=some a/\f a=some b:=by
 cases o with
 | none=>cases h
 | some a=>exact ⟨a,rfl,h⟩
noncomputable def zto(hs:zbt cl G k rc)(g:Gx cl G k X nm N E){o:Expr}{f:Str}{pos:Pos}{w:Bool}{fe:Fe}(h:zv5 G rc nm N o f=some (w,fe)):w=false/\PE X (.Attribute o f pos) (tE cl E fe):=by
 unfold zv5 at h;split at h
 ·rename_i hc;rw [yab,yab] at hc
  cases h1:shE rc nm N o with
  | none=>rw [h1] at h;cases h
  | some fo =>
   rw [h1] at h;cases h;refine ⟨rfl,zrW (g.gok.fk _ _ hc.2) g.kk (zaF hs g h1).1 ?_⟩
   cases o<;>first | rfl | cases hc.1.1
 ·cases h
noncomputable def zsK(hs:zbt cl G k rc)(g:Gx cl G k X nm N E){a:Expr}{ops:List CmpOp}{bs:List Expr}{pos:Pos}{w:Bool}{fe:Fe}(h:zvB G rc nm N a ops bs=some (w,fe)):w=false/\PE X (.Compare a ops bs pos) (tE cl E fe)/\PT X (.Compare a ops bs pos) (tTr cl E fe):=by
 unfold zvB at h;split at h
 ·rename_i hn
  have eo:ops=[.NotIn]:=by
   unfold zot at hn;split at hn
   ·rfl
   ·cases hn
  subst eo;obtain ⟨b,h1,hz⟩:=zaB h;obtain ⟨t,h2,hy⟩:=zaB hz
  have eb:bs=[b]:=by
   unfold zxc at h1;split at h1
   ·cases h1;rfl
   ·cases h1
  have e2:=zl2 h2;clear h hz h1 h2;subst eb;subst e2;obtain ⟨o,f,ap⟩:=t;dsimp only at hy ⊢;split at hy
  ·rename_i hc;rw [yab,yab] at hc;obtain ⟨fa,h3,hy⟩:=zaB hy;obtain ⟨fo,h4,hy⟩:=zaB hy;cases hy
   have hb:attributeBase o f X.env (eval o X.env)=eval o X.env:=by cases o<;>first | rfl | cases hc.1.1
   exact ⟨rfl,zrT g.u16 g.same (g.gok.fk _ _ hc.2) (zaF hs g h3).1 (zaF hs g h4).1 hb rfl,zrx g.u16 g.same (g.gok.fk _ _ hc.2) (zaF hs g h3).1 (zaF hs g h4).1 hb rfl⟩
  ·cases hy
 ·cases h
noncomputable def ztk(hs:zbt cl G k rc)(g:Gx cl G k X nm N E){a i:Expr}{pos:Pos}{w:Bool}{fe:Fe}(h:zv2 G rc nm N a i=some (w,fe)):w=false/\PE X (.Subscript a i pos) (tE cl E fe):=by
 unfold zv2 at h;obtain ⟨t,h2,hz⟩:=zaB h;have e2:=zl2 h2;clear h h2;subst e2;obtain ⟨o,f,ap⟩:=t;dsimp only at hz ⊢;split at hz
 ·rename_i hc;rw [yab,yab] at hc;obtain ⟨x,h3,hz⟩:=zaB hz;obtain ⟨j,h4,hz⟩:=zaB hz;obtain ⟨fo,h5,hz⟩:=zaB hz;cases hz;have e3:=ziM h3;clear h3;subst e3;obtain ⟨s1,s2,s3,s4⟩:=g.slot h4;refine ⟨rfl,zpk s1 s2 s3 s4 g.u16 g.same (g.gok.fk _ _ hc.2) (zaF hs g h5).1 ?_ (fun _ _=>rfl)⟩
  cases o<;>first | rfl | cases hc.1.1
 ·cases hz
noncomputable def zzO{pos:Pos}{env:PySem.Env}{args:List Expr}(hp:args.all zcm=true)(hl:args.length<30):methodCallForm (args.length+0) (backTo pos (starEach args env)) (backToKw pos (keywordEach [] env))=true:=by
 have h:=zbj (pos:=pos) (env:=env) hp;unfold methodCallForm
 have h1:(backTo pos (starEach args env)).all (!·.1)=true:=by
  rw [List.all_eq_not_any_not];simpa using h
 rw [h1];show (true&&true&&decide (args.length+0+0<30))=true;rw [yaM (by omega)];rfl
noncomputable def zla{o:Expr}{m:Str}{ap pos:Pos}{env:PySem.Env}{args:List Expr}(hb:attributeBase o m env (eval o env)=eval o env)(hf:methodCallForm (args.length+0) (backTo pos (starEach args env)) (backToKw pos (keywordEach [] env))=true)(hp:(ap.endLine == pos.line)=true) :
  eval (.Call (.Attribute o m ap) args [] pos) env=(do
   let ov ← eval o env
   standAt ap.atName
   let (f,first) ← holding [ov] (getMethod ov m (do return (← importBound o env).getD true))
   callWith pos f first (backTo pos (starEach args env)) (backToKw pos (keywordEach [] env))):=by
 show (do
  let ov ← attributeBase o m env (eval o env)
  standAt ap.atName
  methodCall o m ap pos env ov (args.length+0) (backTo pos (starEach args env)) (backToKw pos (keywordEach [] env)))=_
 rw [hb]
 have e:∀ov,methodCall o m ap pos env ov (args.length+0) (backTo pos (starEach args env)) (backToKw pos (keywordEach [] env))=(do
   let (f,first) ← holding [ov] (getMethod ov m (do return (← importBound o env).getD true))
   callWith pos f first (backTo pos (starEach args env)) (backToKw pos (keywordEach [] env))):=fun ov=>by
  unfold methodCall calleeOf methodCallPos;rw [hf,hp];rfl
 simp only [e]
noncomputable def zpV(hs:zbt cl G k rc)(g:Gx cl G k X nm N E){o:Expr}{m:Str}{args:List Expr}{kws:List Keyword}{ap pos:Pos}{w:Bool}{fe:Fe}(h:zpW G rc nm N o m ap pos args kws=some (w,fe)):(w=true->PE X (.Call (.Attribute o m ap) args kws pos) (tN cl E fe))/\PE X (.Call (.Attribute o m ap) args kws pos) (tE cl E fe):=by
 unfold zpW at h;split at h
 ·rename_i hc;simp only [yab,ybz] at hc;obtain ⟨⟨⟨z1,z2⟩,z3⟩,z4⟩:=hc;obtain rfl:=ybv.mp z1;obtain ⟨⟨c,fi⟩,h1,h⟩:=zaB h;dsimp only at h;split at h
  ·rename_i hl;obtain ⟨fo,h2,h⟩:=zaB h;obtain ⟨fs,h3,h⟩:=zaB h;cases h;obtain ⟨f,fd,ps,c1,c2,c3,c4⟩:=g.gok.mt m c fi h1;obtain ⟨a1,a2,a3⟩:=zeL hs g h3
   have hlen:fs.length+1=fi.ar:=by rw [a3];exact hl
   have hb:attributeBase o m X.env (eval o X.env)=eval o X.env:=by
    unfold zob at z2
    split at z2<;>first | rfl | cases z2
   have ht:=zla (ap:=ap) hb (zzO (pos:=pos) a2 z4) z3
   have main:PE X (.Call (.Attribute o m ap) args [] pos) (zgL (cl c) m (zgO cl fi.ar fi.own fi.run) [] E (tE cl E fo) (tAs cl E fs)):=by
    cases args with
    | nil =>
     cases h3;refine PE.imp (zkU (zaF hs g h2).1 c1 c2 c4 g.room c3 .nil g.pass ht) ?_;rintro σ H Q ⟨B,w,ρ,S,rfl,R,q⟩;refine ⟨B,w,ρ,S,rfl,R,?_⟩
     cases hfo:fo ρ S with
     | bad=>rwa [hfo] at q
     | exc c S1=>rwa [hfo] at q
     | ok d S1 =>
      rw [hfo] at q;intro v w1 R1 F1 sh;obtain ⟨a,dx,fs,e1,e2,e3,B',w',ρ',S',e4,R',q⟩:=q v w1 R1 F1 sh;refine ⟨a,dx,fs,e1,e2,e3,?_⟩;have:=q [] w' R' (Fut.refl _) .nil;rwa [e4] at this
    | cons e es =>
     rw [ybH,yab] at a2;exact zmP (zaF hs g h2).1 c1 c2 c4 g.room c3 .nil g.pass a1 (za8 a2.1) (zbj a2.2) ht
   cases ho:fi.own with
   | false =>
    rw [ho] at main;exact ⟨(fun z=>by cases z),PE.imp main fun _ _ _ q=>zsP q hlen⟩
   | true =>
    rw [ho] at main;have n:=PE.imp main fun _ _ _ q=>zsO q hlen
    exact ⟨fun _=>n,zcS n⟩
  ·cases h
 ·cases h
noncomputable def zvD(hs:zbt cl G k rc)(g:Gx cl G k X nm N E){x:Str}{args:List Expr}{p pos:Pos}{w:Bool}{fe:Fe}(h:mkG G rc nm N x args=some (w,fe)):w=false/\PE X (.Call (.Name x p) args [] pos) (tE cl E fe):=by
 unfold mkG at h;split at h
 ·rename_i hc;rw [yab] at hc;obtain ⟨⟨dds,fi⟩,h1,h⟩:=zaB h;obtain ⟨fs,h2,h⟩:=zaB h;dsimp only at h;obtain ⟨f,fd,ps,dvs,ds,k',hk,mC,M,B0,BD,vd,sd,F⟩:=g.gok.mks x dds fi h1;obtain ⟨a1,a2,a3⟩:=zeL hs g h2;obtain ⟨g1,g2,g3⟩:=g.glob hc.1
  cases args with
  | nil=>cases hc.2
  | cons e es =>
   rw [ybH,yab] at a2;have hr:Room (k'+1) X.A:=g.room.mono hk;split at h
   ·rename_i hl;cases h;exact ⟨rfl,PE.imp (ziF M F hr g1 mC B0 .nil g.pass a1 g2 (za8 a2.1) (zbj a2.2)) fun _ _ _ q=>zxf (dds:=[]) (fun _=>.nil) q (by rw [a3];exact hl)⟩
   ·split at h
    ·rename_i hl;cases h;exact ⟨rfl,PE.imp (ziF M F hr g1 mC BD vd g.pass a1 g2 (za8 a2.1) (zbj a2.2)) fun _ _ _ q=>zxf sd q (by rw [a3];exact hl)⟩
    ·cases h
 ·cases h
end
end S2
namespace S2
open PySem PySem.Spec PyProof.Rows L2
noncomputable def zid:D->Option Key | .int i=>some (.inl i) | .str x=>some (.inr x) | _=>none
noncomputable def zch:List D->Option (List Key)
 | []=>some []
 | d::l=>(zid d).bind fun k=>(zch l).bind fun ks=>some (k::ks)
noncomputable def zbe:D->Option (List Key) | .tup l=>zch l | _=>none
noncomputable def znV(k:Key):zid (zsW k)=some k:=by cases k<;>rfl
theorem zhB:∀ks:List Key,zch (ks.map zsW)=some ks
 | []=>rfl
 | k::ks=>by
  show (zid (zsW k)).bind _=_;rw [znV];show (zch (ks.map zsW)).bind _=_;rw [zhB ks];rfl
noncomputable def zcG(ks:List Key):zbe (zmh ks)=some ks:=zhB ks
noncomputable def zeq:List (D×D)->List Key->Option D
 | [],_=>none
 | (q,d)::r,k=>if zbe q=some k then some d else zeq r k
noncomputable def zjr(ds:List (D×D))(k:List Key)(d:D):List (D×D) :=
 if (zeq ds k).isSome then ds.map (fun p=>if zbe p.1=some k then (p.1,d) else p) else ds++[(zmh k,d)]
section
variable{cl:Cf}{w:Wd}
theorem ShdT.val{k:List Key}:∀{kvs:List (List Key×V)} {ds:List (D×D)},ShdT cl w kvs ds->(zj4 kvs k=none/\zeq ds k=none)\/∃v d,zj4 kvs k=some v/\zeq ds k=some d/\Shd cl w v d
 | _,_,.nil=>.inl ⟨rfl,rfl⟩
 | _,_,.cons (k:=k') r t=>by
  by_cases e:k'=k
  ·subst e;refine .inr ⟨_,_,zf2 rfl,?_,r⟩;show (if zbe (zmh k')=some k' then _ else _)=_;rw [if_pos (zcG _)]
  ·have e2:¬ zbe (zmh k')=some k:=by rw [zcG];exact fun z=>e (by cases z;rfl)
   rw [zf3 e];show (_/\(if zbe (zmh k')=some k then _ else _)=none)\/∃v d,_/\(if zbe (zmh k')=some k then _ else _)=some d/\_;rw [if_neg e2];exact ShdT.val t
theorem ShdT.repl{k:List Key}{v:V}{d:D}(h:Shd cl w v d):∀{kvs:List (List Key×V)} {ds:List (D×D)},ShdT cl w kvs ds->ShdT cl w (kvs.map fun kv=>if kv.1=k then (kv.1,v) else kv) (ds.map fun p=>if zbe p.1=some k then (p.1,d) else p)
 | _,_,.nil=>.nil
 | _,_,.cons (k:=k') r t=>by
  rw [yaq,yaq]
  by_cases e:k'=k
  ·subst e;rw [if_pos rfl,if_pos (zcG _)];exact .cons h (ShdT.repl h t)
  ·have e2:¬ zbe (zmh k')=some k:=by rw [zcG];exact fun z=>e (by cases z;rfl)
   rw [if_neg e,if_neg e2];exact .cons r (ShdT.repl h t)
theorem ShdT.snoc{k:List Key}{v:V}{d:D}(h:Shd cl w v d):∀{kvs:List (List Key×V)} {ds:List (D×D)},ShdT cl w kvs ds->ShdT cl w (kvs++[(k,v)]) (ds++[(zmh k,d)])
 | _,_,.nil=>.cons h .nil
 | _,_,.cons r t=>.cons r (ShdT.snoc h t)
noncomputable def ShdT.put{k:List Key}{v:V}{d:D}(h:Shd cl w v d){kvs:List (List Key×V)}{ds:List (D×D)}(r:ShdT cl w kvs ds):ShdT cl w (zmf kvs k v) (zjr ds k d):=by
 unfold zmf zjr;rw [zf4]
 rcases r.val (k:=k) with ⟨e1,e2⟩ | ⟨v',d',e1,e2,_⟩
 ·rw [e1,e2];rw [if_neg (by simp),if_neg (by simp)];exact r.snoc h
 ·rw [e1,e2];rw [if_pos (show (some v').isSome=true from rfl),if_pos (show (some d').isSome=true from rfl)];exact r.repl h
theorem ShdT.len:∀{kvs:List (List Key×V)} {ds:List (D×D)},ShdT cl w kvs ds->kvs.length=ds.length
 | _,_,.nil=>rfl
 | _,_,.cons _ t=>by rw [yai,yai,ShdT.len t]
noncomputable def zpe{k:Key}{d:D}{v:V}(e:zid d=some k)(h:Shd cl w v d):v=kV k:=by
 cases h<;>first | (cases e;done) | (cases e;rfl)
theorem zgR:∀{l:List D} {ks:List Key} {xs:List V},zch l=some ks->Shds cl w xs l->xs=ks.map kV
 | [],ks,xs,e,h=>by cases e;cases h;rfl
 | d::l,ks,xs,e,h=>by
  cases h with
  | cons r t =>
   cases e1:zid d with
   | none=>rw [show zch (d::l)=(zid d).bind _ from rfl,e1] at e;cases e
   | some k =>
    rw [show zch (d::l)=(zid d).bind fun k=>(zch l).bind fun ks=>some (k::ks) from rfl,e1] at e
    cases e2:zch l with
    | none =>
     rw [show ((some k).bind fun k=>(zch l).bind fun ks=>some (k::ks))=(zch l).bind fun ks=>some (k::ks) from rfl,e2] at e;cases e
    | some ks' =>
     rw [show ((some k).bind fun k=>(zch l).bind fun ks=>some (k::ks))=(zch l).bind fun ks=>some (k::ks) from rfl,e2] at e;cases e;rw [zpe e1 r,zgR e2 t];rfl
noncomputable def ziA{k:List Key}{d:D}{v:V}(e:zbe d=some k)(h:Shd cl w v d):∃b,v=.ref b/\w.H b=some (.tup (k.map kV))/\w.ow b=none:=by
 cases h with
 | tup e1 e2 r=>exact ⟨_,rfl,by rw [e1,zgR e r],e2⟩
 | non=>cases e
 | bl=>cases e
 | int=>cases e
 | str=>cases e
 | lst=>cases e
 | dicK=>cases e
 | dicT=>cases e
 | ref=>cases e
 | scr=>cases e
 | scrK=>cases e
 | exc=>cases e
noncomputable def znm:D->Option (List (D×D)) | .dic ((.exc x,.non)::ds)=>if x = "" then some ds else none | _=>none
noncomputable def znl{d:D}{ds:List (D×D)}(h:znm d=some ds):d=zd1 ds:=by
 unfold znm at h;split at h
 ·split at h
  ·rename_i e;cases h;subst e;rfl
  ·cases h
 ·cases h
noncomputable def zgP(i:Nat)(ρ:Env):Option (Bool×List (D×D)):=match ρ[i]? with | some (some (o,d))=>(znm d).map fun ds=>(o,ds) | _=>none
noncomputable def ziy{i:Nat}{ρ:Env}{o:Bool}{ds:List (D×D)}(h:zgP i ρ=some (o,ds)):ρ[i]?=some (some (o,zd1 ds)):=by
 unfold zgP at h;split at h
 ·rename_i o' d e
  cases hd:znm d with
  | none=>rw [hd] at h;cases h
  | some x=>rw [hd] at h;cases h;rw [e,znl hd]
 ·cases h
noncomputable def Rel.dct{B:Base}{σ:St}{ρ:Env}{S:Sto}{i:Nat}{o:Bool}{ds:List (D×D)}(R:Rel cl B σ w ρ S)(h:ρ[i]?=some (some (o,zd1 ds))):∃a kvs,σ[i]?=some (some (.ref a))/\(o=true->w.ow a=some (.slot i))/\w.H a=some (.dT kvs)/\ShdT cl w kvs ds:=by
 obtain ⟨v,e1,r⟩:=R.slots i o _ h
 cases o with
 | false =>
  have r':Shd cl w v (.dic ((.exc "",.non)::ds)):=r
  cases r' with
  | dicK _ _ z=>cases z
  | dicT e _ t=>exact ⟨_,_,e1,(fun z=>nomatch z),e,t⟩
 | true =>
  obtain ⟨a,o,rfl,h1,h2,t⟩:=r;have t':Top cl w o (.dic ((.exc "",.non)::ds)):=t
  cases t' with
  | dicK z=>cases z
  | dicT t=>exact ⟨a,_,e1,fun _=>h1,h2,t⟩
end
noncomputable def zlK:Fe:=fun _ S=>.ok (zd1 []) S
noncomputable def zfz(i:Nat)(f g:Fe):Fe:=fun ρ S=>match zgP i ρ with
 | some p=>(f ρ S).bind fun k S1=>(g ρ S1).bind fun z S2=>(match zbe k with | some ks=>.ok ((zeq p.2 ks).getD z) S2 | none=>.bad)
 | none=>.bad
noncomputable def zhI(i:Nat)(fk fe:Fe):Fs:=fun ρ S=>match zgP i ρ with
 | some (true,ds)=>(match fe ρ S with
  | .ok d S1=>(match fk ρ S1 with
   | .ok k S2=>(match zbe k with
    | some ks=>if small ds.length then .nx (ρ.set i (some (true,zd1 (zjr ds ks d)))) S2 else .bad
    | none=>.bad)
   | .exc c S2=>.ex c ρ S2 | .bad=>.bad)
  | .exc c S1=>.ex c ρ S1 | .bad=>.bad)
 | _=>.bad
section
variable{X:Cx}{cl:Cf}{E:St->XK}{own:Bool}{a b e:Expr}{f g fe fk:Fe}{pos pos':Pos}{i:Nat}{x:Str}{ap cp:Pos}
noncomputable def zhG:PE X (.Dict [] [] pos) (tN cl E zlK):=PE.imp zmR fun σ H Q ⟨B,w,ρ,S,e,R,q⟩=>by
 subst e;intro p hp;exact q p (.dT []) w R (Fut.refl _) hp (.dicT .nil)
noncomputable def zpl(hu:X.A.units+1<cLine)(hN:X.N[i]?=some x)(hv:Vis X.env.scope x)(hd:(x == ("__debug__":Str))=false)(hcd:(x == ("__classdict__":Str))=false)(hf:PE X a (tE cl E f))(hg:PE X b (tE cl E g))(m:M2 X (.Name x pos') "get" ap a b cp) :
  PE X (.Call (.Attribute (.Name x pos') "get" ap) [a,b] [] cp) (tE cl E (zfz i f g)):=by
 refine PE.imp (zmS hu (zcn hN hv hd hcd) hf hg m) ?_;rintro σ H Q ⟨B,w,ρ,S,rfl,R,q⟩;unfold zfz at q
 cases hs:zgP i ρ with
 | none=>rw [hs] at q;exact q.elim
 | some p =>
  obtain ⟨o,ds⟩:=p;rw [hs] at q;have hρ:=ziy hs;obtain ⟨ad,kvs,e1,h1,h2,t⟩:=R.dct hρ;refine ⟨_,e1,ad,rfl,⟨kvs,.inl h2⟩,B,w,ρ,S,rfl,R,?_⟩
  cases hfv:f ρ S with
  | bad=>rwa [hfv] at q
  | exc c S1=>rwa [hfv] at q
  | ok k S1 =>
   rw [hfv] at q;intro y w1 R1 F1 sy;refine ⟨B,w1,ρ,S1,rfl,R1,?_⟩
   have q1:match ((g ρ S1).bind fun z S2=>(match zbe k with | some ks=>Out.ok ((zeq ds ks).getD z) S2 | none=>.bad)) with
    | .ok d S'=>∀v w',Rel cl B σ w' ρ S'->Fut w w'->Shd cl w' v d->Q v w'.H
    | .exc c S'=>∀w',Rel cl B σ w' ρ S'->Fut w w'->E σ (.ref (cl c)) none w'.H
    | .bad=>False:=q
   cases hgv:g ρ S1 with
   | bad=>rwa [hgv] at q1
   | exc c S2=>rw [hgv] at q1;exact fun w2 R2 F2=>q1 w2 R2 (F1.trans F2)
   | ok z S2 =>
    rw [hgv] at q1;intro zv w2 R2 F2 sz
    have q2:match (match zbe k with | some ks=>Out.ok ((zeq ds ks).getD z) S2 | none=>.bad) with
     | .ok d S'=>∀v w',Rel cl B σ w' ρ S'->Fut w w'->Shd cl w' v d->Q v w'.H
     | .exc c S'=>∀w',Rel cl B σ w' ρ S'->Fut w w'->E σ (.ref (cl c)) none w'.H
     | .bad=>False:=q1
    cases hk:zbe k with
    | none=>rw [hk] at q2;exact q2.elim
    | some ks =>
     rw [hk] at q2;dsimp only at q2;obtain ⟨bb,rfl,hb1,hb2⟩:=ziA hk (sy.up F2);obtain ⟨ad',kvs',e1',_,h2',t'⟩:=R2.dct hρ;rw [e1] at e1';cases e1';refine ⟨_,zt1.t h2' hb1,?_⟩
     rcases t'.val (k:=ks) with ⟨u1,u2⟩ | ⟨v',d',u1,u2,u3⟩
     ·rw [u1];rw [u2] at q2;exact q2 zv w2 R2 (F1.trans F2) sz
     ·rw [u1];rw [u2] at q2;exact q2 v' w2 R2 (F1.trans F2) u3
noncomputable def zo2(hu:X.A.units+1<cLine)(hN:X.N[i]?=some x)(hv:Vis X.env.scope x)(hd:(x == ("__debug__":Str))=false)(hcd:(x == ("__classdict__":Str))=false)(hk:PE X a (tE cl E fk))(he:PE X e (tE cl E fe))(sw:swapsWith e (some (.Subscript (.Name x pos') a ap)) pos.line X.env=pure false) :
  PS X (.Assign [.Subscript (.Name x pos') a ap] e pos) (tS cl E own (zhI i fk fe)):=by
 refine PS.imp (zpz hu (zcn hN hv hd hcd) hk he sw) ?_;rintro De σ H ⟨B,w,ρ,S,rfl,R,q⟩;unfold zhI at q
 cases hs:zgP i ρ with
 | none=>rw [hs] at q;exact q.elim
 | some p =>
  obtain ⟨o,ds⟩:=p
  cases o with
  | false=>rw [hs] at q;exact q.elim
  | true =>
   rw [hs] at q;have hρ:=ziy hs;refine ⟨B,w,ρ,S,rfl,R,?_⟩
   cases hev:fe ρ S with
   | bad=>rwa [hev] at q
   | exc c S1=>rw [hev] at q;exact fun w' R' F'=>q σ w' R' F'
   | ok d S1 =>
    rw [hev] at q;intro v w1 R1 F1 sv;obtain ⟨ad,kvs,e1,_,_,_⟩:=R1.dct hρ;refine ⟨_,e1,B,w1,ρ,S1,rfl,R1,?_⟩;dsimp only at q
    cases hkv:fk ρ S1 with
    | bad=>rwa [hkv] at q
    | exc c S2=>rw [hkv] at q;exact fun w' R' F'=>q σ w' R' (F1.trans F')
    | ok k S2 =>
     rw [hkv] at q;intro y w2 R2 F2 sy;dsimp only at q
     cases hkk:zbe k with
     | none=>rw [hkk] at q;exact q.elim
     | some ks =>
      rw [hkk] at q;dsimp only at q;split at q
      ·rename_i hsm;obtain ⟨bb,rfl,hb1,hb2⟩:=ziA hkk sy;obtain ⟨ad',kvs',e1',ho,h2',t'⟩:=R2.dct hρ;rw [e1] at e1';cases e1';refine ⟨ad,_,rfl,zt0.t h2' hb1 (by rw [t'.len];exact zix hsm),?_⟩;have tt:Top cl w2 (.dT (zmf kvs' ks v)) (zd1 (zjr ds ks d)):=.dicT (t'.put (sv.up F2));have R3:=R2.mut (d0:=.non) e1 (ho rfl) tt;exact q σ _ R3 ((F1.trans F2).trans (zdA (by rw [ho rfl];exact yaL _)))
      ·exact q.elim
end
end S2
namespace S2
open PySem PySem.Spec PyProof.Rows L2
noncomputable def zsM:Expr->Option Str | .Name x _=>some x | _=>none
noncomputable def zvW(df:Bool):Option NameKind->Bool | some .local=>true | some .cell=>df | _=>false
noncomputable def tgI(df:Bool)(nm:Names)(N:List Str)(n:Nat)(x:Str):Option Nat:=if zvW df (nm.lookup x) then (idx N x).bind fun i=>if i<n then some i else none else none
noncomputable def zqT(df:Bool)(nm:Names)(N:List Str)(n:Nat):List Expr->Option (List Nat)
 | []=>some []
 | .Name x _::es=>(tgI df nm N n x).bind fun i=>(zqT df nm N n es).bind fun is=>some (i::is)
 | _::_=>none
noncomputable def tgG(df:Bool)(nm:Names)(N:List Str)(n:Nat):Expr->Option Tg
 | .Name x _=>(tgI df nm N n x).map .one
 | .Tuple es _ _=>(zqT df nm N n es).map .tup
 | _=>none
structure Sto'(X:Cx)(nm:Names)(df:Bool):Prop where
 fn:df=true->∀x,nm.lookup x=some .cell->X.fn x=true
section
variable{cl:Cf}{G:Genv}{k:Nat}{X:Cx}{nm:Names}{N:List Str}{E:St->XK}{df:Bool}{n:Nat}
noncomputable def zfC(g:Gx cl G k X nm N E)(sd:Sto' X nm df){x:Str}{i:Nat}(h:tgI df nm N n x=some i):i<n/\X.N.Nodup/\X.N[i]?=some x/\Loc X.env.scope x/\(X.fn x=true\/X.env.scope.names.lookup x=some .local):=by
 unfold tgI at h;split at h
 ·rename_i hl
  cases hi:idx N x with
  | none=>rw [hi] at h;cases h
  | some j =>
   rw [hi] at h;dsimp only [Option.bind] at h;split at h
   ·rename_i hn;cases h;refine ⟨hn,by rw [g.eN];exact g.nd,by rw [g.eN];exact zfc hi,?_,?_⟩
    ·cases hk:nm.lookup x with
     | none=>rw [hk] at hl;cases hl
     | some kd =>
      obtain ⟨kd',e,z⟩:=g.vis x kd hk;rw [hk] at hl;unfold L2.Loc;rw [e]
      rcases z with rfl | ⟨rfl,_⟩
      ·cases kd'<;>first | exact .inl rfl | exact .inr rfl | cases hl
      ·cases hl
    ·cases hk:nm.lookup x with
     | none=>rw [hk] at hl;cases hl
     | some kd =>
      rw [hk] at hl
      cases kd<;>first | exact .inr (g.fnx x hk) | exact .inl (sd.fn hl x hk) | cases hl
   ·cases h
 ·cases h
theorem zj9(g:Gx cl G k X nm N E)(sd:Sto' X nm df):∀{es:List Expr} {is:List Nat},zqT df nm N n es=some is->PGs X es (tGs cl n is)/\(assignEach es X.env).length=is.length/\(assignEach es X.env).findIdx? (·.1)=none
 | [],is,h=>by cases h;exact ⟨zpf,rfl,rfl⟩
 | e::es,is,h=>by
  cases e with
  | Name x pos =>
   unfold zqT at h
   cases h1:tgI df nm N n x with
   | none=>rw [h1] at h;cases h
   | some i =>
    rw [h1] at h
    cases h2:zqT df nm N n es with
    | none=>rw [h2] at h;cases h
    | some is' =>
     rw [h2] at h;cases h;obtain ⟨a1,a2,a3,a4,a5⟩:=zfC g sd h1;obtain ⟨b1,b2,b3⟩:=zj9 g sd h2;refine ⟨zmr a1 a2 a3 a4 a5 b1,?_,?_⟩
     ·show (assignEach es X.env).length+1=_;rw [b2];rfl
     ·show ((false,assign (.Name x pos) X.env)::assignEach es X.env).findIdx? (·.1)=none;rw [List.findIdx?_cons];simp [b3]
  | _=>cases h
noncomputable def zoQ(g:Gx cl G k X nm N E)(sd:Sto' X nm df){tg:Expr}{t:Tg}(h:tgG df nm N n tg=some t):PG X tg (tG cl n t):=by
 unfold tgG at h;split at h
 ·rename_i x pos
  cases h1:tgI df nm N n x with
  | none=>rw [h1] at h;cases h
  | some i =>
   rw [h1] at h;cases h;obtain ⟨a1,a2,a3,a4,a5⟩:=zfC g sd h1;exact zrN a1 a2 a3 a4 a5
 ·rename_i es kk pos
  cases h1:zqT df nm N n es with
  | none=>rw [h1] at h;cases h
  | some is =>
   rw [h1] at h;cases h;obtain ⟨b1,b2,b3⟩:=zj9 g sd h1;exact zrM g.calm b1 b2 b3
 ·cases h
end
noncomputable def zbf:Expr->List Str
 | .Name x _=>[x]
 | .Tuple es _ _=>es.filterMap zsM
 | _=>[]
noncomputable def zbk(names:Names)(N:List Str):List (Str×Nat):=names.filterMap fun p=>if p.2=.free then (idx N p.1).map fun i=>(p.1,i) else none
noncomputable def zzH:Option NameKind->Bool | some .cell=>true | some .free=>true | _=>false
noncomputable def zlR(nm:Names)(scope:Scope)(xs:List Str)(caps:List (Str×Nat)):Bool :=
 decide (scope.kind=.function)&&decide ((scope.names.map (·.1)).Nodup)&&scope.names.all (fun y=>!decide (y.2=.local)||decide (scope.names.lookup y.1=some .local))
 && scope.names.all (fun y=>!decide (y.2=.free)||zzH (nm.lookup y.1))&&caps.all (fun p=>scope.names.all fun z=>!decide (z.1=p.1)||decide (z.2=.free))&&decide ((xs++caps.map (·.1)).Nodup)
noncomputable def znK(rc:Rec)(nm:Names)(N:List Str):List Expr->Option Fe
 | []=>some zdl
 | [c]=>if zbV c then shE rc nm N c else none
 | _=>none
noncomputable def zjP(G:Genv)(rc:Rec)(nm:Names)(N:List Str)(elt:Expr)(g:Comprehension)(scope:Scope):Option Fe :=
 if decide (g.is_async=0)&&zlR nm scope (zbf g.target) (zbk scope.names N) then
  (zjE G rc nm N g.target g.iter).bind fun it =>
  (tgG true scope.names (zbf g.target++(zbk scope.names N).map (·.1)) (zbf g.target).length g.target).bind fun t =>
  (znK rc scope.names (zbf g.target++(zbk scope.names N).map (·.1)) g.ifs).bind fun c =>
  (shE rc scope.names (zbf g.target++(zbk scope.names N).map (·.1)) elt).bind fun el =>
  some (zbX (zbf g.target).length t it c el ((zbk scope.names N).map (·.2)))
 else none
theorem zdw{scope:Scope}{env:PySem.Env}:∀{names:Names} {x:Str} {kd:NameKind},names.lookup x=some kd →
  ∃kd',(names.map fun (n,k)=>if (k == NameKind.free&&env.scope.kind == .function&&env.kindOf n == some .cell) then (n,NameKind.cell) else (n,k)).lookup x=some kd'/\(kd'=kd\/(kd=.free/\kd'=.cell))
 | [],_,_,h=>by cases h
 | (n,k0)::r,x,kd,h=>by
  rw [yay] at h;rw [yaq];dsimp only
  by_cases hc:(k0 == NameKind.free&&env.scope.kind == .function&&env.kindOf n == some .cell)=true
  ·rw [if_pos hc,yay]
   cases hx:x == n with
   | true =>
    rw [hx] at h;cases h;simp only [yab,ybS] at hc;exact ⟨_,rfl,.inr ⟨hc.1.1,rfl⟩⟩
   | false=>rw [hx] at h;exact zdw (scope:=scope) h
  ·rw [if_neg hc,yay]
   cases hx:x == n with
   | true=>rw [hx] at h;cases h;exact ⟨_,rfl,.inl rfl⟩
   | false=>rw [hx] at h;exact zdw (scope:=scope) h
section
variable{cl:Cf}{G:Genv}{k:Nat}{rc:Rec}{X:Cx}{nm:Names}{N:List Str}{E:St->XK}
noncomputable def zjO(g:Gx cl G k X nm N E){scope:Scope}{xs:List Str}(h:zlR nm scope xs (zbk scope.names N)=true):CompScopeG X.env.scope scope X.N xs (zbk scope.names N)/\(xs++(zbk scope.names N).map (·.1)).Nodup:=by
 unfold zlR at h;simp only [yab,ybk,ybz,ycI,ybo,ybQ] at h;obtain ⟨⟨⟨⟨⟨h1,h2⟩,h3⟩,h4⟩,h5⟩,h6⟩:=h
 have fr:∀y∈scope.names,y.2=.free->X.env.scope.names.lookup y.1=some .cell\/X.env.scope.names.lookup y.1=some .free:=fun y hy hf=>by
  rcases h4 y hy with z | z
  ·exact absurd hf z
  ·cases hk:nm.lookup y.1 with
   | none=>rw [hk] at z;cases z
   | some kd =>
    obtain ⟨kd',e,zz⟩:=g.vis y.1 kd hk;rw [hk] at z;rw [e]
    rcases zz with rfl | ⟨_,rfl⟩
    ·cases kd'<;>first | exact .inl rfl | exact .inr rfl | cases z
    ·exact .inl rfl
 refine ⟨⟨h2,h1,fun y hy hl=>(h3 y hy).elim (fun z=>absurd hl z) fun z=>z,fr,fun p hp=>?_,fun p hp z hz e=>(h5 p hp z hz).elim (fun w=>absurd e w) fun w=>w⟩,h6⟩;unfold zbk at hp;obtain ⟨q,hq,e⟩:=yca.mp hp;split at e
 ·rename_i hf
  cases hi:idx N q.1 with
  | none=>rw [hi] at e;cases e
  | some i =>
   rw [hi] at e;have e':(q.1,i)=p:=Option.some.inj e;subst e';refine ⟨by rw [g.eN];exact zfc hi,by rw [<-hf];exact hq,?_⟩
   rcases fr q hq hf with z | z<;>rw [z]<;>exact fun w=>by cases w
 ·cases e
noncomputable def zgq(g:Gx cl G k X nm N E){scope:Scope}{xs:List Str}(hn:(xs++(zbk scope.names N).map (·.1)).Nodup)(cl':List (Str×Addr))(C:Addr)(s:Shared)(H:Hp)(fp:List Addr) :
  Gx cl G k (zbh X xs (zbk scope.names N) scope cl' C s H fp) scope.names (xs++(zbk scope.names N).map (·.1)) noE where
 gok:=g.gok
 room:=g.room
 calm:=g.calm
 pass:=fun pins σ H s e s' I q=>by
  obtain ⟨a,cls,a0,H',B,_,_,_,_,_,_,_,_,_,z⟩:=q;exact z.elim
 eN:=rfl
 kk:=g.kk
 pp:=g.pp
 ww:=g.ww
 nd:=hn
 vis:=fun x kd h=>zdw (scope:=scope) h
 fnx:=fun x h=>lookup_relabel_local h
noncomputable def zqw(hs:zbt cl G k rc)(g:Gx cl G k X nm N noE){ifs:List Expr}{c:Fe}(h:znK rc nm N ifs=some c):PIf X ifs (tTr cl noE c):=by
 unfold znK at h;split at h
 ·cases h;intro pins s σ H Q I q;obtain ⟨B,w,ρ,S,rfl,R,q⟩:=q;exact zpE pins s σ w.H Q I (q w R (Fut.refl _))
 ·split at h
  ·rename_i c ht;obtain ⟨_,a2,_⟩:=zaF hs g h;exact zpD (a2 ht)
  ·cases h
 ·cases h
noncomputable def zfU(hs:zbt cl G k rc)(g:Gx cl G k X nm N E){elt:Expr}{gg:Comprehension}{scope:Scope}{f:Fe}(h:zjP G rc nm N elt gg scope=some f) :
  ∃it t c el,f=zbX (zbf gg.target).length t it c el ((zbk scope.names N).map (·.2))/\gg=⟨gg.target,gg.iter,gg.ifs,0⟩/\CompScopeG X.env.scope scope X.N (zbf gg.target) (zbk scope.names N)/\PI X gg.target gg.iter (tI cl E it)/\okE gg.iter=true ∧
   (∀cl' C s H fp,PG (zbh X (zbf gg.target) (zbk scope.names N) scope cl' C s H fp) gg.target (tG cl (zbf gg.target).length t)) ∧
   (∀cl' C s H fp,PIf (zbh X (zbf gg.target) (zbk scope.names N) scope cl' C s H fp) gg.ifs (tTr cl noE c)) ∧
   ∀cl' C s H fp,PE (zbh X (zbf gg.target) (zbk scope.names N) scope cl' C s H fp) elt (tE cl noE el):=by
 unfold zjP at h;split at h
 ·rename_i hc;rw [yab] at hc;obtain ⟨S,hn⟩:=zjO g hc.2
  cases h1:zjE G rc nm N gg.target gg.iter with
  | none=>rw [h1] at h;cases h
  | some it =>
   rw [h1] at h;dsimp only [Option.bind] at h
   cases h2:tgG true scope.names (zbf gg.target++(zbk scope.names N).map (·.1)) (zbf gg.target).length gg.target with
   | none=>rw [h2] at h;cases h
   | some t =>
    rw [h2] at h;dsimp only at h
    cases h3:znK rc scope.names (zbf gg.target++(zbk scope.names N).map (·.1)) gg.ifs with
    | none=>rw [h3] at h;cases h
    | some c =>
     rw [h3] at h;dsimp only at h
     cases h4:shE rc scope.names (zbf gg.target++(zbk scope.names N).map (·.1)) elt with
     | none=>rw [h4] at h;cases h
     | some el =>
      rw [h4] at h;cases h;obtain ⟨i1,i2⟩:=zlp hs g (tg:=gg.target) h1;refine ⟨it,t,c,el,rfl,?_,S,i1,i2,fun cl' C s H fp=>zoQ (zgq g hn cl' C s H fp) ⟨fun _ x hx=>yaM hx⟩ h2,fun cl' C s H fp=>zqw hs (zgq g hn cl' C s H fp) h3,fun cl' C s H fp=>(zaF hs (zgq g hn cl' C s H fp) h4).1⟩;have:=yat hc.1;cases gg;simp only at this;rw [this]
 ·cases h
noncomputable def zlP(hs:zbt cl G k rc)(g:Gx cl G k X nm N E){elt:Expr}{gg:Comprehension}{scope:Scope}{f:Fe}{pos:Pos}(h:zjP G rc nm N elt gg scope=some f):PE X (.ListComp elt [gg] scope pos) (tN cl E f):=by
 obtain ⟨it,t,c,el,rfl,eg,S,i1,i2,i3,i4,i5⟩:=zfU hs g h;rw [eg];exact PE.imp (zmT g.calm S i1 i3 i4 i5 (zgj i2)) fun _ _ _ q=>zoC q
end
noncomputable def zx8:Expr->Bool | .Slice _ _ _ _=>false | _=>true
noncomputable def zt7(rc:Rec)(nm:Names)(N:List Str):Option Expr->Option (Option Fe)
 | none=>some none
 | some e=>(opE rc nm N e).map some
noncomputable def zxe(m:Str):Option (List D->D->Option D):=if m = "count" then some zfT else if m = "index" then some zfO else none
noncomputable def zlO:∀(l:List D) (d r:D),zfT l d=some r->∃n,r=.int n:=by
 intro l d r h;unfold zfT at h;split at h
 ·cases h;exact ⟨_,rfl⟩
 ·cases h
noncomputable def zlx:∀(l:List D) (d r:D),zfO l d=some r->∃n,r=.int n:=by
 intro l d r h;unfold zfO at h;split at h
 ·cases h;exact ⟨_,rfl⟩
 ·cases h
noncomputable def unG(rc:Rec)(nm:Names)(N:List Str)(a:Expr):UnaryOp->Option (Bool×Fe)
 | .Not=>if zbV a then (shE rc nm N a).map fun f=>(false,eUn zez f) else none
 | .USub=>(opE rc nm N a).map fun f=>(false,eUn zmg f)
 | _=>none
noncomputable def ztB(rc:Rec)(nm:Names)(N:List Str)(a:Expr):List CmpOp->List Expr->Option (Bool×Fe)
 | [op],[b]=>(ztC op b).bind fun g=>(opE rc nm N a).bind fun f=>(opE rc nm N b).bind fun h=>some (false,zaf g f h)
 | [op,op'],[b,c]=>(ztC op b).bind fun g=>(ztC op' c).bind fun g'=>(opE rc nm N a).bind fun f=>(opE rc nm N b).bind fun h=>(opE rc nm N c).bind fun k=>some (false,zcU g g' f h k)
 | _,_=>none
noncomputable def zw5(rc:Rec)(nm:Names)(N:List Str)(a:Expr):Expr->Option (Bool×Fe)
 | .Slice lo hi none _=>(opE rc nm N a).bind fun f=>(zt7 rc nm N lo).bind fun l=>(zt7 rc nm N hi).bind fun u=>some (false,eSl f l u)
 | i=>if zx8 i then (opE rc nm N a).bind fun f=>(opE rc nm N i).bind fun h=>some (false,zaf ixD f h) else none
noncomputable def zye(rc:Rec)(nm:Names)(N:List Str)(x m:Str)(ap cp:Pos):List Expr->List Keyword->Option (Bool×Fe)
 | [a],[]=>if ap.endLine == cp.line then (zb3 nm N x).bind fun i=>(opE rc nm N a).bind fun f=>(zxe m).bind fun g=>some (false,eMt g i f) else none
 | [a,b],[]=>if decide (m = "get")&&(ap.endLine == cp.line) then (zb3 nm N x).bind fun i=>(shE rc nm N a).bind fun f=>(shE rc nm N b).bind fun h=>some (false,zfz i f h) else none
 | _,_=>none
noncomputable def zoE(G:Genv)(rc:Rec)(nm:Names)(N:List Str)(args:List Expr)(kws:List Keyword)(cp:Pos):Expr->Option (Bool×Fe)
 | .Attribute o m ap=>(match (nmF o).bind fun x=>zye rc nm N x.1 m ap cp args kws with | some p=>some p | none=>zpW G rc nm N o m ap cp args kws)
 | .Name x _=>if kws.isEmpty then (match mkG G rc nm N x args with | some p=>some p | none=>(match spG G rc nm N x args with | some p=>some p | none=>zqE G rc nm N x args)) else none
 | _=>none
noncomputable def lcG(G:Genv)(rc:Rec)(nm:Names)(N:List Str)(elt:Expr)(scope:Scope):List Comprehension->Option (Bool×Fe)
 | [g]=>(zjP G rc nm N elt g scope).map fun f=>(true,f)
 | _=>none
noncomputable def zh8(G:Genv)(rc:Rec):Rec:=fun nm N e=>match e with
 | .Constant c _ _=>(zyd c).map fun d=>(false,zae d)
 | .Name x _=>(match zb3 nm N x with
  | some i=>some (false,zac i)
  | none=>if zcb nm x then (G.con x).map fun d=>(false,zae d) else none)
 | .Tuple es _ _=>(shL rc nm N es).map fun fs=>(false,zbC fs)
 | .List es _=>(shL rc nm N es).map fun fs=>(true,zfn fs)
 | .BinOp a op b _=>if zqf a&&zte op then (opE rc nm N a).bind fun f=>(opE rc nm N b).bind fun h=>some (true,zaf zjv f h) else (zwd op).bind fun g=>(opE rc nm N a).bind fun f=>(opE rc nm N b).bind fun h=>some (false,zaf g f h)
 | .UnaryOp op a _=>unG rc nm N a op
 | .BoolOp op es _=>(zjV rc nm N op es).map fun f=>(false,f)
 | .Compare a ops bs _=>(match zvB G rc nm N a ops bs with | some p=>some p | none=>ztB rc nm N a ops bs)
 | .IfExp c a b _=>if zbV c then (shE rc nm N c).bind fun g=>(shE rc nm N a).bind fun f=>(shE rc nm N b).bind fun h=>some (false,eIf g f h) else none
 | .Subscript a i _=>(match zv2 G rc nm N a i with | some p=>some p | none=>zw5 rc nm N a i)
 | .Attribute o f _=>zv5 G rc nm N o f
 | .Call f args kws cp=>zoE G rc nm N args kws cp f
 | .ListComp elt gs scope _=>lcG G rc nm N elt scope gs
 | .Dict [] [] _=>some (true,zlK)
 | _=>none
noncomputable def zwa(G:Genv):Nat->Rec
 | 0=>fun _ _ _=>none
 | n+1=>zh8 G (zwa G n)
section
variable{cl:Cf}{G:Genv}{k:Nat}{rc:Rec}
noncomputable def znj{i:Expr}(h:zx8 i=true):zgE i:=by
 intro o j
 cases i<;>first | rfl | cases h
noncomputable def zaa{α β:Type}{o:Option α}{f:α->Option β}{b:β}(h:o.bind f=some b):∃a,o=some a/\f a=some b:=by
 cases o with
 | none=>cases h
 | some a=>exact ⟨a,rfl,h⟩
noncomputable def zaU{α β:Type}{o:Option α}{f:α->β}{b:β}(h:o.map f=some b):∃a,o=some a/\f a=b:=by
 cases o with
 | none=>cases h
 | some a=>exact ⟨a,rfl,Option.some.inj h⟩
noncomputable def ziH{X:Cx}{nm:Names}{N:List Str}{E:St->XK}(hs:zbt cl G k rc)(g:Gx cl G k X nm N E){o:Option Expr}{f:Option Fe}(h:zt7 rc nm N o=some f):PO X o (zt6 cl E f):=by
 unfold zt7 at h;split at h
 ·cases h;exact zpB
 ·obtain ⟨a,h1,rfl⟩:=zaU h;exact zpA (zb8 hs g h1).1
noncomputable def znH(hs:zbt cl G k rc):zbt cl G k (zh8 G rc):=by
 intro X nm N E g e o f h;unfold zh8 at h;split at h
 ·obtain ⟨d,h1,h2⟩:=zaU h;cases h2;rename_i c kk pos
  have p:PE X (.Constant c kk pos) (tE cl E (zae d)):=by
   cases c<;>simp [zyd] at h1<;>subst h1
   ·exact zkr zsn fun w=>.non
   ·exact zkr zvt fun w=>.bl _
   ·exact zkr zsq fun w=>.int _
   ·exact zkr zsi fun w=>.str _
  exact ⟨(fun z=>by cases z),p,fun _=>zbw p (fun _=>rfl),rfl⟩
 ·rename_i x pos;split at h
  ·rename_i i hi;cases h;obtain ⟨h1,h2,h3,h4⟩:=g.slot hi;have p:PE X (.Name x pos) (tE cl E (zac i)):=zrP h1 h2 h3 h4;exact ⟨(fun z=>by cases z),p,fun _=>zbw p (fun _=>rfl),rfl⟩
  ·split at h
   ·rename_i hg;obtain ⟨d,h1,h2⟩:=zaU h;cases h2;obtain ⟨g1,g2,g3⟩:=g.glob hg;obtain ⟨v,u,m,r,sh⟩:=g.gok.con x d h1;have p:PE X (.Name x pos) (tE cl E (zae d)):=zkr (zkV g1 m r g2) sh;exact ⟨(fun z=>by cases z),p,fun _=>zbw p (fun _=>rfl),rfl⟩
   ·cases h
 ·obtain ⟨fs,h1,h2⟩:=zaU h;cases h2;rename_i es kk pos;have p:PE X (.Tuple es kk pos) (tE cl E (zbC fs)):=zrQ (zeL hs g h1).1;exact ⟨(fun z=>by cases z),p,fun _=>zbw p (fun _=>rfl),rfl⟩
 ·obtain ⟨fs,h1,h2⟩:=zaU h;cases h2;rename_i es pos;have p:PE X (.List es pos) (tN cl E (zfn fs)):=zrV (zeL hs g h1).1;exact ⟨fun _=>p,zcS p,fun _=>zbw (zcS p) (fun _=>rfl),rfl⟩
 ·split at h
  ·rename_i a op b pos hm;obtain ⟨fa,h2,h⟩:=zaa h;obtain ⟨fb,h3,h⟩:=zaa h;cases h;rw [yab] at hm
   have ho:op=.Mult:=by cases op<;>first | rfl | cases hm.2
   subst ho;have p:PE X (.BinOp a .Mult b pos) (tN cl E (zaf zjv fa fb)):=zpi (zb8 hs g h2).1 (zb8 hs g h3).1;exact ⟨fun _=>p,zcS p,fun _=>zbw (zcS p) (fun _=>rfl),rfl⟩
  obtain ⟨gg,h1,h⟩:=zaa h;obtain ⟨fa,h2,h⟩:=zaa h;obtain ⟨fb,h3,h⟩:=zaa h;cases h;exact ⟨(fun z=>by cases z),zoa (zoF h1) (zb8 hs g h2).1 (zb8 hs g h3).1,fun _=>zbw (zoa (zoF h1) (zb8 hs g h2).1 (zb8 hs g h3).1) (fun _=>rfl),rfl⟩
 ·rename_i op a pos;unfold unG at h;split at h
  ·split at h
   ·rename_i ht;obtain ⟨fa,h1,h2⟩:=zaU h;cases h2;obtain ⟨a1,a2,_⟩:=zaF hs g h1;exact ⟨(fun z=>by cases z),zrS a1,fun _=>zrw (a2 ht),rfl⟩
   ·cases h
  ·obtain ⟨fa,h1,h2⟩:=zaU h;cases h2;have p:PE X (.UnaryOp .USub a pos) (tE cl E (eUn zmg fa)):=zvb zrh (zb8 hs g h1).1;exact ⟨(fun z=>by cases z),p,fun _=>zbw p (fun _=>rfl),rfl⟩
  ·cases h
 ·obtain ⟨fa,h1,h2⟩:=zaU h;cases h2;rename_i op es pos;obtain ⟨b1,b2⟩:=zlZ hs g (pos:=pos) h1;exact ⟨(fun z=>by cases z),b1,fun _=>b2.pt,rfl⟩
 ·rename_i a ops bs pos;split at h
  ·rename_i p hp;obtain ⟨w,fe⟩:=p;cases h;obtain ⟨rfl,n1,n2⟩:=zsK hs g (pos:=pos) hp;exact ⟨(fun z=>by cases z),n1,fun _=>n2,rfl⟩
  unfold ztB at h;split at h
  ·obtain ⟨gg,h1,h⟩:=zaa h;obtain ⟨fa,h2,h⟩:=zaa h;obtain ⟨fb,h3,h⟩:=zaa h;cases h;obtain ⟨a1,_⟩:=zb8 hs g h2;obtain ⟨b1,b2⟩:=zb8 hs g h3;exact ⟨(fun z=>by cases z),zrX (zfV g h1) a1 b1 (zeZ b2),fun _=>zry (zfV g h1) a1 b1 (zeZ b2),rfl⟩
  ·obtain ⟨gg,h1,h⟩:=zaa h;obtain ⟨gg',h1',h⟩:=zaa h;obtain ⟨fa,h2,h⟩:=zaa h;obtain ⟨fb,h3,h⟩:=zaa h;obtain ⟨fc,h4,h⟩:=zaa h;cases h;obtain ⟨a1,_⟩:=zb8 hs g h2;obtain ⟨b1,_⟩:=zb8 hs g h3;obtain ⟨c1,c2⟩:=zb8 hs g h4;have hm:∀{op op':CmpOp} {b c:Expr},okE c=true->lastMarks [op,op'] [b,c]=false:=fun h=>zeZ h
   exact ⟨(fun z=>by cases z),zmu (zfV g h1) (zfV g h1') a1 b1 c1 (hm c2),fun _=>zmo (zfV g h1) (zfV g h1') a1 b1 c1 (hm c2),rfl⟩
  ·cases h
 ·split at h
  ·rename_i c a b pos ht;obtain ⟨fc,h1,h⟩:=zaa h;obtain ⟨fa,h2,h⟩:=zaa h;obtain ⟨fb,h3,h⟩:=zaa h;cases h;obtain ⟨_,c2,_⟩:=zaF hs g h1;exact ⟨(fun z=>by cases z),zvf (c2 ht) (zaF hs g h2).1 (zaF hs g h3).1,(fun z=>by cases z),rfl⟩
  ·cases h
 ·rename_i a i pos;split at h
  ·rename_i p hp;obtain ⟨w,fe⟩:=p;cases h;obtain ⟨rfl,n1⟩:=ztk hs g (pos:=pos) hp;exact ⟨(fun z=>by cases z),n1,fun _=>zbw n1 (fun _=>rfl),rfl⟩
  unfold zw5 at h;split at h
  ·obtain ⟨fa,h1,h⟩:=zaa h;obtain ⟨fl,h2,h⟩:=zaa h;obtain ⟨fu,h3,h⟩:=zaa h;cases h;exact ⟨(fun z=>by cases z),zrR (zb8 hs g h1).1 (ziH hs g h2) (ziH hs g h3),fun _=>zbw (zrR (zb8 hs g h1).1 (ziH hs g h2) (ziH hs g h3)) (fun _=>rfl),rfl⟩
  ·split at h
   ·rename_i hix;obtain ⟨fa,h1,h⟩:=zaa h;obtain ⟨fb,h2,h⟩:=zaa h;cases h;have p:PE X (.Subscript a _ pos) (tE cl E (zaf ixD fa fb)):=zve (zvX g.kk) (zb8 hs g h1).1 (zb8 hs g h2).1 (znj hix);exact ⟨(fun z=>by cases z),p,fun _=>zbw p (fun _=>rfl),rfl⟩
   ·cases h
 ·rename_i o fl pos;obtain ⟨rfl,n1⟩:=zto hs g (pos:=pos) h;exact ⟨(fun z=>by cases z),n1,fun _=>zbw n1 (fun _=>rfl),rfl⟩
 ·rename_i fn args kws cp;unfold zoE at h;split at h
  ·rename_i o m ap;split at h
   rotate_left
   ·obtain ⟨a1,a2⟩:=zpV hs g (ap:=ap) (pos:=cp) h;exact ⟨a1,a2,fun _=>zbw a2 (fun _=>rfl),rfl⟩
   rename_i pp hpp;obtain ⟨⟨x,p⟩,e1,h2⟩:=zaa hpp;have e2:=ziM e1;have h3:=h;cases h3;clear hpp e1;subst e2;replace h:=h2;clear h2;dsimp only at h ⊢;unfold zye at h;split at h
   ·rename_i a;split at h
    ·rename_i hln;obtain ⟨i,h1,h⟩:=zaa h;obtain ⟨fa,h2,h⟩:=zaa h;obtain ⟨gg,h3,h⟩:=zaa h;cases h;obtain ⟨n1,n2,n3,n4⟩:=g.slot h1;obtain ⟨a1,a2⟩:=zb8 hs g h2
     have p:PE X (.Call (.Attribute (.Name x p) m ap) [a] [] cp) (tE cl E (eMt gg i fa)):=by
      unfold zxe at h3;split at h3
      ·rename_i em;cases h3;subst em;exact zrU PySem.F.slot_list_count PySem.F.type_list_count (zm8 g.kk g.units) zlO n1 n2 n3 n4 a1 (zai a2) hln
      ·split at h3
       ·rename_i em;cases h3;subst em;exact zrU PySem.F.slot_list_index PySem.F.type_list_index (zm7 g.kk g.units) zlx n1 n2 n3 n4 a1 (zai a2) hln
       ·cases h3
     exact ⟨(fun z=>by cases z),p,fun _=>zbw p (fun _=>rfl),rfl⟩
    ·cases h
   ·rename_i a b;split at h
    ·rename_i hc;rw [yab] at hc;have em:=yat hc.1;obtain ⟨i,h1,h⟩:=zaa h;obtain ⟨fa,h2,h⟩:=zaa h;obtain ⟨fb,h3,h⟩:=zaa h;cases h;subst em;obtain ⟨n1,n2,n3,n4⟩:=g.slot h1;obtain ⟨a1,a2,a3⟩:=zaF hs g h2;obtain ⟨b1,b2,b3⟩:=zaF hs g h3;have q:PE X (.Call (.Attribute (.Name x p) "get" ap) [a,b] [] cp) (tE cl E (zfz i fa fb)):=zpl (by have:=g.units;omega) n1 n2 n3 n4 a1 b1 ⟨rfl,zi0 (by simp [zai a3,zai b3]) (by simp),hc.2,by rw [za8 (zai a3),za8 (zai b3)];rfl⟩;exact ⟨(fun z=>by cases z),q,fun _=>zbw q (fun _=>rfl),rfl⟩
    ·cases h
   ·cases h
  ·rename_i x p;split at h
   ·rename_i hk
    have hk':kws=[]:=by simpa using hk
    subst hk';split at h
    ·rename_i pm hmk;obtain ⟨w,fe⟩:=pm;cases h;obtain ⟨rfl,n1⟩:=zvD hs g (p:=p) (pos:=cp) hmk;exact ⟨(fun z=>by cases z),n1,fun _=>zbw n1 (fun _=>rfl),rfl⟩
    split at h
    ·rename_i hsp;cases h;obtain ⟨a1,a2⟩:=zu5 hs g (p:=p) (pos:=cp) hsp;exact ⟨a1,a2,fun _=>zbw a2 (fun _=>rfl),rfl⟩
    ·obtain ⟨a1,a2⟩:=zqD hs g (p:=p) (pos:=cp) h;exact ⟨a1,a2,fun _=>zbw a2 (fun _=>rfl),rfl⟩
   ·cases h
  ·cases h
 ·rename_i elt gs scope pos;unfold lcG at h;split at h
  ·obtain ⟨fa,h1,h2⟩:=zaU h;cases h2;rename_i gg;have p:PE X (.ListComp elt [gg] scope pos) (tN cl E f):=zlP hs g h1;exact ⟨fun _=>p,zcS p,fun _=>zbw (zcS p) (fun _=>rfl),rfl⟩
  ·cases h
 ·rename_i pos;cases h;exact ⟨fun _=>zhG,zcS zhG,fun _=>zbw (zcS zhG) (fun _=>rfl),rfl⟩
 ·cases h
theorem zoA:∀n,zbt cl G k (zwa G n)
 | 0=>fun _ _ _ _ _ _ _ _ h=>by cases h
 | n+1=>znH (zoA n)
end
end S2
namespace S2
open PySem PySem.Spec PyProof.Rows L2
noncomputable def zl9(X:Cx)(E:St->XK):Prop:=∀(C:Addr) (pins:Z3) (σ:St) (H:Hp) (s:Shared) (e:Addr) (h':Heap) (vs:List Value),Inv X pins σ H s->Heap.MadeExcOf s.heap h' e (.ref C) vs->E σ (.ref C) none H->X.xe (.ref e) { s with heap:=h' }
noncomputable def zoU(C:Addr)(E:St->XK)(t:TA):TS:=fun _ σ H=>t σ H fun vs H1=>vs.length<=sizeLine/\E σ (.ref C) none H1
noncomputable def zkN{X:Cx}{x:Str}{C:Addr}{E:St->XK}{np cpos pos:Pos}{e:Expr}{es:List Expr}{t:TA}(hr:zl9 X E)(hc:X.calm=true)(hg:Gl X x)(hm:X.mg x=some (.ref C))
  (z:PySem.W.excIn X.K C bmV "ValueError.__new__" = true) (ha:PA X (e::es) t)
  (he:starEach (e::es) X.env=(false,eval e X.env)::starEach es X.env) (hpl:(backTo cpos (starEach es X.env)).any (·.1)=false) (hdb:(x == ("__debug__":Str))=false) :
  PS X (.Raise (some (.Call (.Name x np) (e::es) [] cpos)) none pos) (zoU C E t):=by
 intro pins s σ H D I h;obtain ⟨bm,N,nm,qn,bs,hd,sn,sub,ab,col,dd,c0,c1,c2,c3,c5,mN,o1,o2,o3,o4⟩:=zh4 I.mod.kin z
 refine wpAny_Raise_call_subU (C:=C) (nm:=nm) (q:=qn) (N:=N) (bs:=bs) (bm:=bm) (hdct:=hd) (sn:=sn) (sub:=sub) (ab:=ab) (col:=col) (dd:=dd) (k0:=c0) (k1:=c1) (k2:=c2) (k3:=c3) (k5:=c5)
  ybZ (by decide +kernel) ybZ (mN:=mN) (o4.hasType ybZ.hasBase) (I.ok.hd hc) (by rw [he];show (false||(backTo cpos (starEach es X.env)).any (·.1))=false;rw [hpl];rfl) o3 (zd8 I hg hm ⟨rfl,?_⟩ hdb)
 have go:=ha cpos pins s σ H _ I h;rw [he] at go ⊢;exact ycx (thn go fun us s2 ⟨vs,H2,I2,r2,q1,q2⟩=>⟨rfl,by rw [<-r2.length];exact q1,I2.bk _ _ o1,o2.keeps I2.bk,o4.keeps I2.bk,fun h' a mk=>hr C pins σ H2 s2 a h' us I2 mk q2⟩)
noncomputable def sRz(c:Str)(fs:List Fe):Fs:=fun ρ S=>match zak fs ρ S with | .ok ds S'=>if small ds.length then .ex c ρ S' else .bad | .exc x S'=>.ex x ρ S' | .bad=>.bad
noncomputable def zn1(X:Cx)(pins:Z3)(E:St->XK):Cx:={ X with pn:=X.pn++pins,xe:=fun e s'=>∃σ H1 s1,Inv X pins σ H1 s1/\CXE X.prog X.w X.stack H1 s1 (E σ) e s' }
section
variable{X:Cx}{pins:Z3}{σ:St}{H:Hp}{s:Shared}{E:St->XK}
noncomputable def zsz(ok:X.Ok):(zn1 X pins E).Ok :=
 ⟨ok.mod,ok.kind,ok.glob,ok.blt,ok.above,ok.inj,ok.has,ok.cab,ok.hd,ok.frames,ok.stk,ok.exf,ok.bs,ok.bsz,ok.noex,ok.exfs,ok.funs,ok.frf⟩
noncomputable def zmZ(ok:(zn1 X pins E).Ok):X.Ok :=
 ⟨ok.mod,ok.kind,ok.glob,ok.blt,ok.above,ok.inj,ok.has,ok.cab,ok.hd,ok.frames,ok.stk,ok.exf,ok.bs,ok.bsz,ok.noex,ok.exfs,ok.funs,ok.frf⟩
noncomputable def zqg(I:Inv X pins σ H s):Inv (zn1 X pins E) [] σ H s :=
 ⟨zsz I.ok,I.os,I.bare,I.base,I.loc,I.cell,I.free,I.freeC,fun p hp=>I.pin p (by simpa [zn1] using hp),I.hok,I.len⟩
noncomputable def zc1{pins':Z3}(I:Inv (zn1 X pins E) pins' σ H s):Inv X pins σ H s :=
 ⟨zmZ I.ok,I.os,I.bare,I.base,I.loc,I.cell,I.free,I.freeC,fun p hp=>I.pin p (ycw _ hp),I.hok,I.len⟩
noncomputable def zmp{De:Ends}{f:Flow}(h:SP (zn1 X pins E) [] De f s):SP X pins De f s:=by
 cases f with
 | next=>obtain ⟨σ',H',I,q⟩:=h;exact ⟨σ',H',zc1 I,q⟩
 | brk=>obtain ⟨σ',H',I,q⟩:=h;exact ⟨σ',H',zc1 I,q⟩
 | cont=>obtain ⟨σ',H',I,q⟩:=h;exact ⟨σ',H',zc1 I,q⟩
 | ret u=>obtain ⟨v,σ',H',I,r,q⟩:=h;exact ⟨v,σ',H',zc1 I,r,q⟩
end
noncomputable def zuJ(K:PySem.W.Frag)(C:Addr)(i:Nat)(th:TS)(De:Ends):St->XK:=fun σ cls _ H'=>∃C',cls=.ref C'/\znX K C' C/\∀a ob,H' a=none->ob.cls=.ref C'->th (De.goes i) (σ.set i (some (.ref a))) (upd H' a (.frz ob (.own a)))
noncomputable def zpw{X:Cx}{body:List Stmt}{b0:Stmt}{suite:List Stmt}{c n:Str}{C:Addr}{i:Nat}{bD:List Value}{iD:String}{tb:(St->XK)->TS}{th:TS}{np hpos pos:Pos}(hs:X.stack=X.env::X.outer)(hf:X.env.frame=some X.env.locals)(hN:X.N.Nodup)(hi:X.N[i]?=some n)
  (hk:X.env.scope.names.lookup n=some .local) (hg:Gl X c) (hm:X.mg c=some (.ref C)) (z:PySem.W.excIn X.K C bD iD=true) (hb:bD.contains (.type "BaseException")=true) (h1:∀pins E,PSs (zn1 X pins E) body (tb E)) (h2:∀a,PSs (X.inH a) (b0::suite) th) (hdb:(c == ("__debug__":Str))=false) :
  PS X (.Try body [.ExceptHandler (some (.Name c np)) (some n) (b0::suite) hpos] [] [] pos) (fun De σ H=>tb (zuJ X.K C i th De) De σ H):=by
 intro pins s σ H D I h
 have hfr:X.A.frames=some (X.env::X.outer):=by rw [<-hs];exact I.ok.frames
 refine wpAny_Try_except (ybs (h1 pins (zuJ X.K C i th D) [] s σ H D (zqg I) h) (fun f s1 q=>?_) fun e s1 q=>?_)
 ·have q':=zmp q
  cases f with
  | next=>exact ycF q'
  | ret v=>exact q'
  | brk=>exact q'
  | cont=>exact q'
 ·obtain ⟨σ1,H1,s2,I1,a,cls,a0,H',B,rfl,fl,c1,c2,c3,os,bare,un,hok,C',rfl,⟨⟨bC,iC,zC⟩,up⟩,q⟩:=q;have fl':=fl;rw [hs] at fl';refine wpAny_looks_onW hfr hf fl' fun h4 hd4 u4=>?_
  refine wpAny_landsW hd4 fun h5 fl5 u5=>?_
  rw [<-hs] at fl5;obtain ⟨I5,ob5,oc5,og5,_,_⟩:=zfW (s':=s1) I1 fl5 (u4.trans u5) c1 c2 c3 os bare un hok;refine wpAny_handleBy_cons (codeAny_handlers_test ?_) (by intro q;cases q);refine zd8 (I5.inH a) hg hm ?_ hdb;refine zgm I5.kIn zC z og5 oc5 hb up ?_;refine codeAny_handlers_suite_as ?_;refine lands_againW fl5 fun h6 fl6 u6=>?_
  obtain ⟨_,ob,oc,og,na,I6⟩:=zfW (s':=s1) I1 fl6 ((u4.trans u5).trans u6) c1 c2 c3 os bare un hok;refine zdJ (v:=.ref a) I6 hN hi (.inl hk) rfl (fun s7 I7=>?_) (.inr hk);exact ybs (h2 a pins s7 _ _ (D.goes i) (I7.inH a) (q a ob na oc)) (fun f s8 q8=>zo8 I.ok hN hi hk q8) fun _ _ z=>z.elim
noncomputable def zqV(und:Str->Str->Bool)(C:Str)(i j:Nat)(fb:Fs):Fs:=fun ρ S=>match fb ρ S with
 | .ex c ρ' S'=>if und c C&&decide (i<ρ'.length) then .nx ((ρ'.set j (some (false,.exc c))).set i none) S' else .bad
 | o=>o
noncomputable def Rel.clear{cl:Cf}{B:Base}{σ:St}{w:Wd}{ρ:Env}{S:Sto}(R:Rel cl B σ w ρ S)(i:Nat):Rel cl B (σ.set i none) w (ρ.set i none) S where
 wd:=R.wd
 len:=by rw [yaH,yaH];exact R.len
 slots:=fun j o e hj=>by
  by_cases hij:i=j
  ·subst hij
   have hlt:i<ρ.length:=by
    have:=(yag.mp hj).1;rwa [yaH] at this
   rw [yaA hlt] at hj;cases hj
  ·rw [yaP hij] at hj ⊢;exact R.slots j o e hj
section
variable{X:Cx}{cl:Cf}{E:St->XK}{own:Bool}
noncomputable def zmn{K:PySem.W.Frag}{und:Str->Str->Bool}{C:Str}{i j:Nat}{fb:Fs}(hij:i≠j)(hu:∀c,und c C=true->znX K (cl c) (cl C)){De:Ends}{σ:St}{H:Hp}(q:tS cl E own (zqV und C i j fb) De σ H) :
  tS cl (zuJ K (cl C) i (zoV (zuL i) (zjH j)) De) own fb De σ H:=by
 obtain ⟨B,w,ρ,S,rfl,R,q⟩:=q;refine ⟨B,w,ρ,S,rfl,R,?_⟩;unfold zqV at q;have hl:ρ.length=σ.length:=R.len.symm
 cases hf:fb ρ S with
 | nx ρ' S'=>rwa [hf] at q
 | bk ρ' S'=>rwa [hf] at q
 | ct ρ' S'=>rwa [hf] at q
 | rt d S'=>rwa [hf] at q
 | bad=>rwa [hf] at q
 | ex c ρ' S' =>
  rw [hf] at q;dsimp only at q
  cases hc:und c C&&decide (i<ρ'.length) with
  | false=>rw [hc,if_neg (by decide)] at q;exact q.elim
  | true =>
   rw [hc,if_pos rfl] at q;rw [yab] at hc;intro σ' w' R' F';refine ⟨cl c,rfl,hu c hc.1,fun a ob ha hob=>?_⟩;have g:=zaA (w:=w') ha (.frz ob (.own a));have sh:Shd cl (w'.add a (.frz ob (.own a))) (.ref a) (.exc c):=.exc zjY zfZ hob
   have hi':i<σ'.length:=by rw [R'.len];exact yat hc.2
   refine ⟨.ref a,yaA hi',?_⟩;have R2:=((R'.grow g).put (i:=j) sh).clear i;refine q _ (w'.add a (.frz ob (.own a))) ?_ (F'.trans g.fut)
   have e:((σ'.set i (some (V.ref a))).set j (some (.ref a))).set i none=(σ'.set j (some (V.ref a))).set i none:=by
    rw [List.set_comm _ _ hij,List.set_set]
   show Rel cl B (((σ'.set i (some (V.ref a))).set j (some (.ref a))).set i none) _ _ _;rw [e];exact R2
end
end S2
namespace S2
open PySem PySem.Spec PyProof.Rows L2
section
variable{cl:Cf}{B:Base}{σ:St}{w:Wd}{ρ:Env}{S:Sto}
end
noncomputable def tO(cl:Cf)(E:St->XK):Bool->Fe->TE | true,f=>tN cl E f | false,f=>tE cl E f
section
variable{X:Cx}{cl:Cf}{E:St->XK}{own:Bool}
end
noncomputable def zfa:Expr->Bool | .ListComp _ _ _ _=>true | .SetComp _ _ _ _=>true | .DictComp _ _ _ _ _=>true | _=>false
noncomputable def zeu{e:Expr}{t:Option Expr}{l:Nat}{env:PySem.Env}(h:zfa e=false):swapsWith e t l env=pure false:=by
 cases e<;>first | rfl | cases h
structure Gd(cl:Cf)(G:Genv)(k:Nat)(X:Cx)(nm:Names)(N:List Str)(E:St->XK)(full:Bool):Prop where
 gx:Gx cl G k X nm N E
 fn:∀x,X.fn x=true
 kind:X.env.scope.kind=.function
 sc:X.env.scope.names=nm
 own:full=true->PassesOwn (model X.prog X.w) X.A X.env X.xe
 raises:full=true->zl9 X E
 stk:X.stack=X.env::X.outer
 frm:X.env.frame=some X.env.locals
noncomputable def zcK:Nat->Names->List Str->Expr->List Nat
 | 0,_,_,_=>[]
 | n+1,nm,N,e =>
  let rc:=zcK n nm N
  let op:=fun (e:Expr)=>match e with | .Name _ _=>[] | e=>rc e
  match e with
  | .Name x _=>(zb3 nm N x).toList
  | .Tuple es _ _=>es.flatMap rc
  | .List es _=>es.flatMap rc
  | .BinOp a _ b _=>op a++op b
  | .UnaryOp _ a _=>rc a
  | .BoolOp _ es _=>es.flatMap rc
  | .Compare a _ bs _=>op a++bs.flatMap op
  | .IfExp c a b _=>rc c++rc a++rc b
  | .Subscript a (.Slice lo hi _ _) _=>op a++lo.toList.flatMap op++hi.toList.flatMap op
  | .Subscript a i _=>op a++op i
  | .Call (.Name f _) args [] _=>if (zl0 f).isSome||decide (f = "isinstance") then args.flatMap op else args.flatMap rc
  | .Call (.Attribute o _ _) args [] _=>op o++args.flatMap rc
  | .Dict _ _ _=>[]
  | .Attribute o _ _=>op o
  | .ListComp _ [g] scope _=>rc g.iter++(zbk scope.names N).map (·.2)
  | _=>[]
noncomputable def zga(t:Tg)(f:Fe):Fs:=fun ρ S=>match f ρ S with
 | .ok d S'=>(match t.put ρ d with | some ρ'=>.nx ρ' S' | none=>.bad)
 | .exc c S'=>.ex c ρ S'
 | .bad=>.bad
noncomputable def zx9:Expr->Bool | .Constant _ _ _=>true | _=>false
noncomputable def zzG:Expr->Bool | .Name _ _=>true | .Constant _ _ _=>true | .Subscript _ _ _=>true | .BinOp _ _ _ _=>true | _=>false
noncomputable def zqt:Expr->Option (List (Option Expr)×List Expr×Pos) | .Dict ks vs p=>some (ks,vs,p) | _=>none
noncomputable def znF{e:Expr}{x:List (Option Expr)×List Expr×Pos}(h:zqt e=some x):e=.Dict x.1 x.2.1 x.2.2:=by cases e<;>first | (cases h;done) | (cases h;rfl)
noncomputable def zhX(e:Expr):Bool:=match zqt e with | some x=>x.1.isEmpty&&x.2.1.isEmpty | none=>false
noncomputable def znG{e:Expr}(h:zhX e=true):∃p,e=.Dict [] [] p:=by
 unfold zhX at h
 cases h1:zqt e with
 | none=>rw [h1] at h;cases h
 | some x =>
  rw [h1] at h;dsimp only at h;rw [yab,ybv,ybv] at h;exact ⟨_,by rw [znF h1,h.1,h.2]⟩
noncomputable def zoi{α:Type}:List α->Option α | [a]=>some a | _=>none
noncomputable def zfJ{α:Type}{l:List α}{a:α}(h:zoi l=some a):l=[a]:=by
 cases l with
 | nil=>cases h
 | cons b t=>cases t with
  | nil=>cases h;rfl
  | cons _ _=>cases h
noncomputable def ze2:Expr->Option (Str×Pos) | .Name x p=>some (x,p) | _=>none
noncomputable def zco{e:Expr}{x:Str×Pos}(h:ze2 e=some x):e=.Name x.1 x.2:=by cases e<;>first | (cases h;done) | (cases h;rfl)
noncomputable def zqF:Expr->Option (Expr×List Expr×List Keyword×Pos) | .Call f a k p=>some (f,a,k,p) | _=>none
noncomputable def zi9{e:Expr}{x:Expr×List Expr×List Keyword×Pos}(h:zqF e=some x):e=.Call x.1 x.2.1 x.2.2.1 x.2.2.2:=by cases e<;>first | (cases h;done) | (cases h;rfl)
noncomputable def zq1:Expr->Option (Expr×Str×Pos) | .Attribute o m p=>some (o,m,p) | _=>none
noncomputable def zic{e:Expr}{x:Expr×Str×Pos}(h:zq1 e=some x):e=.Attribute x.1 x.2.1 x.2.2:=by cases e<;>first | (cases h;done) | (cases h;rfl)
noncomputable def zyf:Stmt->Option (List Expr×Expr×Pos) | .Assign t e p=>some (t,e,p) | _=>none
noncomputable def zqJ{e:Stmt}{x:List Expr×Expr×Pos}(h:zyf e=some x):e=.Assign x.1 x.2.1 x.2.2:=by cases e<;>first | (cases h;done) | (cases h;rfl)
noncomputable def zqS:Expr->Option (List Expr×Nat×Pos) | .Tuple es k p=>some (es,k,p) | _=>none
noncomputable def zoO{e:Expr}{x:List Expr×Nat×Pos}(h:zqS e=some x):e=.Tuple x.1 x.2.1 x.2.2:=by cases e<;>first | (cases h;done) | (cases h;rfl)
noncomputable def zw6:Expr->Option (Expr×Expr×Pos) | .Subscript a i p=>some (a,i,p) | _=>none
noncomputable def zoW{e:Expr}{x:Expr×Expr×Pos}(h:zw6 e=some x):e=.Subscript x.1 x.2.1 x.2.2:=by cases e<;>first | (cases h;done) | (cases h;rfl)
noncomputable def lcE:Expr->Option (Expr×List Comprehension×Scope×Pos) | .ListComp elt gs scope p=>some (elt,gs,scope,p) | _=>none
noncomputable def zsQ{e:Expr}{x:Expr×List Comprehension×Scope×Pos}(h:lcE e=some x):e=.ListComp x.1 x.2.1 x.2.2.1 x.2.2.2:=by cases e<;>first | (cases h;done) | (cases h;rfl)
noncomputable def zwk(G:Genv)(rc:Rec)(nm:Names)(N:List Str)(x:Str)(e:Expr):Option Fs :=
 (tgI true nm N N.length x).bind fun i=>match lcE e with
  | some c=>(zoi c.2.1).bind fun g=>(zjP G rc nm N c.1 g c.2.2.1).bind fun f=>some (zaG i true f)
  | none=>if zfa e then none else (rc nm N e).bind fun p=>some (zaG i p.1 p.2)
noncomputable def zwj(rc:Rec)(nm:Names)(N:List Str)(t:List Expr×Nat×Pos)(e:Expr):Option Fs:=match zqS e with
 | some _=>none
 | none=>(tgG true nm N N.length (.Tuple t.1 t.2.1 t.2.2)).bind fun t=>(shE rc nm N e).bind fun f=>some (zga t f)
noncomputable def zwn(G:Genv)(rc:Rec)(nm:Names)(N:List Str)(o:Expr)(f:Str)(e:Expr):Option Fs :=
 (nmF o).bind fun x=>if zhX e then (if G.ob.df f&&G.ob.fk G.ob.cur f then (zb3 nm N x.1).map fun i=>zjo G.ob.cur f i else none) else (if G.ob.df f||!G.ob.fk G.ob.cur f then none else (shE rc nm N o).bind fun fo=>(shE rc nm N e).bind fun fe=>some (zf9 G.ob.cur f fo fe))
noncomputable def zwl(G:Genv)(rc:Rec)(nm:Names)(N:List Str)(o:Expr)(f:Str)(ix e:Expr):Option Fs :=
 if zgo o&&G.ob.df f&&!zfa e&&G.ob.fk G.ob.cur f then (nmF ix).bind fun x=>(zb3 nm N x.1).bind fun i=>(shE rc nm N o).bind fun fo=>(shE rc nm N e).bind fun fe=>some (zhJ G.ob.cur f fo i fe) else none
noncomputable def zwm(rc:Rec)(nm:Names)(N:List Str)(x:Str)(ix e:Expr):Option Fs :=
 if zzG ix&&!zfa e then (zb3 nm N x).bind fun i=>(opE rc nm N ix).bind fun fi=>(shE rc nm N e).bind fun f=>some (zku i fi f) else none
noncomputable def zwo(rc:Rec)(nm:Names)(N:List Str)(x:Str)(ix e:Expr):Option Fs :=
 if !zfa e then (zb3 nm N x).bind fun i=>(shE rc nm N ix).bind fun k=>(shE rc nm N e).bind fun f=>some (zhI i k f) else none
noncomputable def ztT(G:Genv)(rc:Rec)(nm:Names)(N:List Str)(q:Expr×Expr×Pos)(e:Expr):Option Fs:=match zq1 q.1 with
 | some a=>zwl G rc nm N a.1 a.2.1 q.2.1 e
 | none=>(ze2 q.1).bind fun x=>if G.ds x.1 then zwo rc nm N x.1 q.2.1 e else zwm rc nm N x.1 q.2.1 e
noncomputable def zuo(G:Genv)(rc:Rec)(nm:Names)(N:List Str)(tg e:Expr):Option Fs:=match ze2 tg with
 | some x=>zwk G rc nm N x.1 e
 | none=>match zqS tg with
  | some t=>zwj rc nm N t e
  | none=>match zq1 tg with
   | some a=>zwn G rc nm N a.1 a.2.1 e
   | none=>(zw6 tg).bind fun q=>ztT G rc nm N q e
structure Mc where
 x:Str
 px:Pos
 m:Str
 ap:Pos
 a:Expr
 cp:Pos
noncomputable def zm6(e:Expr):Option Mc:=(zqF e).bind fun c=>if c.2.2.1.isEmpty then (zq1 c.1).bind fun t=>(ze2 t.1).bind fun x=>(zoi c.2.1).bind fun a=>some ⟨x.1,x.2,t.2.1,t.2.2,a,c.2.2.2⟩ else none
noncomputable def zqr(G:Genv)(rc:Rec)(nm:Names)(N:List Str)(e:Expr):Option Fs:=match zm6 e with
 | some c=>if decide (c.m = "append")&&(c.ap.endLine == c.cp.line) then (zb3 nm N c.x).bind fun i=>(shE rc nm N c.a).bind fun f=>some (zhK i f)
  else if decide (c.m = "extend")&&(c.ap.endLine == c.cp.line) then (zb3 nm N c.x).bind fun i=>(opE rc nm N c.a).bind fun f=>some (zqW i f) else if zfa e then none else (shE rc nm N e).map zr2
 | none=>if zfa e then none else (shE rc nm N e).map zr2
noncomputable def zvj(rc:Rec)(nm:Names)(N:List Str)(own:Bool)(e:Expr):Option Fs:=match own with
 | true=>(match e with
  | .Name x _=>(zb3 nm N x).map zhH
  | e=>(rc nm N e).bind fun p=>if p.1 then some (za3 p.2) else none)
 | false=>(shE rc nm N e).map za3
noncomputable def rzG(G:Genv)(rc:Rec)(nm:Names)(N:List Str)(full:Bool)(a b:Option Expr):Option Fs:=if b.isNone then a.bind fun e=>(zqF e).bind fun c=>(ze2 c.1).bind fun x=>if c.2.2.1.isEmpty&&!c.2.1.isEmpty&&full&&zcb nm x.1&&G.exc x.1 then (shL rc nm N c.2.1).bind fun fs=>some (sRz x.1 fs) else none else none
noncomputable def zw1(G:Genv)(rs:Bool->List Stmt->Option Fs)(nm:Names)(N:List Str)(body:List Stmt):ExceptHandler->Option Fs
 | .ExceptHandler t n b _=>t.bind fun te=>(ze2 te).bind fun C=>n.bind fun nn=>(zoi b).bind fun st=>(zyf st).bind fun as=>(zoi as.1).bind fun tg=>(ze2 tg).bind fun m=>(ze2 as.2.1).bind fun n' =>
  if zcb nm C.1&&G.exc C.1&&decide (nn=n'.1)&&decide (nm.lookup nn=some .local)&&zg7 nn then (idx N nn).bind fun i=>(tgI true nm N N.length m.1).bind fun j=>if i=j then none else (rs false body).bind fun b=>some (zqV G.und C.1 i j b) else none
noncomputable def zuI(G:Genv)(rs:Bool->List Stmt->Option Fs)(nm:Names)(N:List Str)(body:List Stmt)(hs:List ExceptHandler)(es fs:List Stmt):Option Fs:=if es.isEmpty&&fs.isEmpty then (zoi hs).bind fun h=>zw1 G rs nm N body h else none
noncomputable def stG(G:Genv)(rc:Rec)(rs:Bool->List Stmt->Option Fs)(nm:Names)(N:List Str)(own full:Bool)(st:Stmt):Option Fs:=match st with
 | .Pass _=>some sNx
 | .Break _=>some sBk
 | .Assign ts e _=>(zoi ts).bind fun tg=>zuo G rc nm N tg e
 | .Expr e _=>zqr G rc nm N e
 | .AugAssign tg op e _=>(ze2 tg).bind fun x=>(zum op).bind fun gg=>(tgI true nm N N.length x.1).bind fun i=>(shE rc nm N e).bind fun f=>some (zr3 i gg f)
 | .Return o _=>(match o with | some e=>zvj rc nm N own e | none=>if own then none else some zmv)
 | .If c a b _=>if zbV c then (shE rc nm N c).bind fun f=>(rs full a).bind fun g=>(rs full b).bind fun h=>some (sIf f g h) else none
 | .For tg it body el _=>if full&&el.isEmpty then (zjE G rc nm N tg it).bind fun i=>(tgG true nm N N.length tg).bind fun t=>(rs full body).bind fun b=>some (zfq t i b) else none
 | .Raise a b _=>rzG G rc nm N full a b
 | .Try body hs es fs _=>zuI G rs nm N body hs es fs
 | _=>none
end S2
namespace S2
open PySem PySem.Spec PyProof.Rows L2
noncomputable def zpC(n:Nat)(own:Bool)(nm:Names)(N:List Str):Stmt->List Nat
 | .Assign [_] e _=>zcK n nm N e
 | .Expr (.Call (.Attribute _ _ _) args [] _) _=>args.flatMap (zcK n nm N)
 | .Expr e _=>zcK n nm N e
 | .Return (some (.Name x p)) _=>if own then [] else zcK n nm N (.Name x p)
 | .Return (some e) _=>zcK n nm N e
 | .If c _ _ _=>zcK n nm N c
 | .For _ it _ _ _=>zcK n nm N it
 | .While c _ _ _=>zcK n nm N c
 | _=>[]
noncomputable def blk(ds:Stmt->Option Fs):List Stmt->Option Fs
 | []=>some sNx
 | s::r=>(ds s).bind fun f=>(blk ds r).bind fun g=>some (zah f g)
noncomputable def znI(G:Genv)(own:Bool):Nat->Bool->Names->List Str->Stmt->Option Fs
 | 0,_,_,_,_=>none
 | n+1,full,nm,N,st=>(stG G (zwa G n) (fun fl b=>blk (znI G own n fl nm N) b) nm N own full st).map (sFz (zpC n own nm N st))
section
variable{cl:Cf}{G:Genv}{k:Nat}{rc:Rec}{X:Cx}{nm:Names}{N:List Str}{E:St->XK}{own full:Bool}
noncomputable def Gd.sto(g:Gd cl G k X nm N E full):Sto' X nm true:=⟨fun _ x _=>g.fn x⟩
noncomputable def zjl{elt:Expr}{gs:List Comprehension}{scope:Scope}{p px:Pos}{x:Str}{l:Nat}{env:PySem.Env}:∃b,swapsWith (.ListComp elt gs scope p) (some (.Name x px)) l env=pure b:=⟨_,rfl⟩
noncomputable def zl5{n:Nat}{t:Tg}{f:Fe}{De:Ends}{σ:St}{H:Hp}(q:tS cl E own (zga t f) De σ H):zoV (tE cl E f) (tG cl n t) De σ H:=by
 obtain ⟨B,w,ρ,S,rfl,R,q⟩:=q;refine ⟨B,w,ρ,S,rfl,R,?_⟩;unfold zga at q
 cases hf:f ρ S with
 | bad=>rwa [hf] at q
 | exc c S1=>rw [hf] at q;exact fun w' R' F'=>q σ w' R' F'
 | ok d S1 =>
  rw [hf] at q;intro v w' R' F' h';dsimp only at q
  cases hp:t.put ρ d with
  | none=>rw [hp] at q;exact q.elim
  | some ρ'=>rw [hp] at q;exact ⟨B,w',ρ,S1,d,ρ',rfl,R',h',hp,fun σ' _ _ R2=>q σ' w' R2 F'⟩
noncomputable def znL(hs:zbt cl G k rc)(g:Gd cl G k X nm N E full){elt:Expr}{gg:Comprehension}{scope:Scope}{x:Str}{i:Nat}{f:Fe}{p px pos:Pos}(hi:tgI true nm N N.length x=some i)(h:zjP G rc nm N elt gg scope=some f) :
  PS X (.Assign [.Name x px] (.ListComp elt [gg] scope p) pos) (tS cl E own (zaG i true f)):=by
 obtain ⟨a1,a2,a3,a4,a5⟩:=zfC g.gx g.sto hi;obtain ⟨b,hb⟩:=zjl (elt:=elt) (gs:=[gg]) (scope:=scope) (p:=p) (px:=px) (x:=x) (l:=pos.line) (env:=X.env)
 cases b with
 | false=>exact zkl a2 a3 a4 (zlP hs g.gx h) hb a5
 | true =>
  obtain ⟨it,t,c,el,rfl,eg,S,i1,i2,i3,i4,i5⟩:=zfU hs g.gx h;rw [eg] at hb ⊢;refine PS.imp (zmH g.gx.calm S a2 a3 a4 i1 i3 i4 i5 hb a5 (zgj i2)) ?_;intro De σ H q;exact zoC (ztS q)
noncomputable def zn3{a i e:Expr}{p:Pos}{l:Nat}{env:PySem.Env}:swapsWithSole [.Subscript a i p] e l env=pure false:=by cases e<;>rfl
noncomputable def zn5{a i e:Expr}{p:Pos}{env:PySem.Env}:swappedStores [.Subscript a i p] e env=pure none:=by cases e<;>rfl
noncomputable def zrt{es:List Expr}{kk l:Nat}{p:Pos}{e:Expr}{env:PySem.Env}:swapsWithSole [.Tuple es kk p] e l env=pure false:=by cases e<;>rfl
noncomputable def zrv{es:List Expr}{kk:Nat}{p:Pos}{e:Expr}{env:PySem.Env}(h:zqS e=none):swappedStores [.Tuple es kk p] e env=pure none:=by cases e<;>first | rfl | cases h
noncomputable def zn4{o e:Expr}{f:Str}{p:Pos}{l:Nat}{env:PySem.Env}:swapsWith e (some (.Attribute o f p)) l env=pure false:=by cases e<;>rfl
noncomputable def zqK(hs:zbt cl G k rc)(g:Gd cl G k X nm N E full){e:Expr}{x:Str}{px:Pos}{f:Fs}{pos:Pos}(h:zwk G rc nm N x e=some f):PS X (.Assign [.Name x px] e pos) (tS cl E own f):=by
 unfold zwk at h;obtain ⟨i,h1,h⟩:=zaa h
 cases hl:lcE e with
 | some c =>
  rw [hl] at h;obtain ⟨gg,h2,h⟩:=zaa h;obtain ⟨fe,h3,h⟩:=zaa h;cases h;rw [zsQ hl,zfJ h2];exact znL hs g h1 h3
 | none =>
  rw [hl] at h;dsimp only at h;split at h
  ·cases h
  ·rename_i hc;obtain ⟨⟨o,fe⟩,h2,h⟩:=zaa h;cases h;obtain ⟨a1,a2,a3,a4,a5⟩:=zfC g.gx g.sto h1;obtain ⟨b1,b2,_,_⟩:=hs X nm N E g.gx _ o fe h2;have sw:=zeu (t:=some (.Name x px)) (l:=pos.line) (env:=X.env) (by simpa using hc)
   cases o with
   | false=>exact zrF a2 a3 a4 b2 sw a5
   | true=>exact zkl a2 a3 a4 (b1 rfl) sw a5
noncomputable def zqI(hs:zbt cl G k rc)(g:Gd cl G k X nm N E full){e:Expr}{t:List Expr×Nat×Pos}{f:Fs}{pos:Pos}(h:zwj rc nm N t e=some f):PS X (.Assign [.Tuple t.1 t.2.1 t.2.2] e pos) (tS cl E own f):=by
 have tupCase:swappedStores [.Tuple t.1 t.2.1 t.2.2] e X.env=pure none->((tgG true nm N N.length (.Tuple t.1 t.2.1 t.2.2)).bind fun t=>(shE rc nm N e).bind fun f=>some (zga t f))=some f->PS X (.Assign [.Tuple t.1 t.2.1 t.2.2] e pos) (tS cl E own f):=by
  intro sw2 h;obtain ⟨t',h1,h⟩:=zaa h;obtain ⟨fe,h2,h⟩:=zaa h;cases h;exact PS.imp (zkO (zaF hs g.gx h2).1 (zoQ g.gx g.sto h1) zrt sw2 rfl) fun _ _ _ q=>zl5 q
 unfold zwj at h
 cases hv:zqS e with
 | none =>
  rw [hv] at h;exact tupCase (zrv hv) h
 | some v=>rw [hv] at h;cases h
noncomputable def zqN(hs:zbt cl G k rc)(g:Gd cl G k X nm N E full){o e:Expr}{fl:Str}{ap:Pos}{f:Fs}{pos:Pos}(h:zwn G rc nm N o fl e=some f):PS X (.Assign [.Attribute o fl ap] e pos) (tS cl E own f):=by
 unfold zwn at h;obtain ⟨x,h1,hz⟩:=zaa h;have e1:=ziM h1;clear h h1;subst e1;split at hz
 ·rename_i hd;split at hz
  ·rename_i hf;rw [yab] at hf;obtain ⟨i,h1,hz⟩:=zaU hz;subst hz;obtain ⟨s1,s2,s3,s4⟩:=g.gx.slot h1;obtain ⟨p,rfl⟩:=znG hd;exact zo6 s1 s2 s3 s4 g.gx.same (g.gx.gok.fk _ _ hf.2) zn4
  ·cases hz
 ·split at hz
  ·cases hz
  ·rename_i hf;rw [Bool.not_eq_true,Bool.or_eq_false_iff,Bool.not_eq_false'] at hf;obtain ⟨fo,h2,hz⟩:=zaa hz;obtain ⟨fe,h3,hz⟩:=zaa hz;cases hz;exact zo5 g.gx.same (g.gx.gok.fk _ _ hf.2) (zaF hs g.gx h2).1 (zaF hs g.gx h3).1 zn4
noncomputable def zqL(hs:zbt cl G k rc)(g:Gd cl G k X nm N E full){o ix e:Expr}{fl:Str}{ap p3:Pos}{f:Fs}{pos:Pos}(h:zwl G rc nm N o fl ix e=some f):PS X (.Assign [.Subscript (.Attribute o fl ap) ix p3] e pos) (tS cl E own f):=by
 unfold zwl at h;split at h
 ·rename_i hc;rw [yab,yab,yab,ybo] at hc;obtain ⟨x,h1,hz⟩:=zaa h;have e1:=ziM h1;clear h h1;subst e1;obtain ⟨i,h1,hz⟩:=zaa hz;obtain ⟨fo,h2,hz⟩:=zaa hz;obtain ⟨fe,h3,hz⟩:=zaa hz;cases hz;obtain ⟨s1,s2,s3,s4⟩:=g.gx.slot h1;refine zo3 s1 s2 s3 s4 g.gx.u16 g.gx.same (g.gx.gok.fk _ _ hc.2) (zaF hs g.gx h2).1 ?_ (zaF hs g.gx h3).1 zn3 zn5 ?_
  ·cases o<;>first | rfl | cases hc.1.1.1
  ·intro _;rfl
 ·cases h
noncomputable def zqM(hs:zbt cl G k rc)(g:Gd cl G k X nm N E full){ix e:Expr}{x:Str}{px p3:Pos}{f:Fs}{pos:Pos}(h:zwm rc nm N x ix e=some f):PS X (.Assign [.Subscript (.Name x px) ix p3] e pos) (tS cl E own f):=by
 unfold zwm at h;split at h
 ·rename_i hx;rw [yab,ybo] at hx;obtain ⟨i,h1,h⟩:=zaa h;obtain ⟨fi,h2,h⟩:=zaa h;obtain ⟨fe,h3,h⟩:=zaa h;cases h;obtain ⟨s1,s2,s3,s4⟩:=g.gx.slot h1;obtain ⟨b1,_⟩:=zb8 hs g.gx h2;obtain ⟨a1,_,_⟩:=zaF hs g.gx h3;refine zoY s1 s2 s3 s4 a1 b1 zn3 zn5 ?_
  cases ix<;>first | (intro _;rfl) | cases hx.1
 ·cases h
noncomputable def zqO(hs:zbt cl G k rc)(g:Gd cl G k X nm N E full){ix e:Expr}{x:Str}{px p3:Pos}{f:Fs}{pos:Pos}(h:zwo rc nm N x ix e=some f):PS X (.Assign [.Subscript (.Name x px) ix p3] e pos) (tS cl E own f):=by
 unfold zwo at h;split at h
 ·rename_i hx;rw [ybo] at hx;obtain ⟨i,h1,h⟩:=zaa h;obtain ⟨fi,h2,h⟩:=zaa h;obtain ⟨fe,h3,h⟩:=zaa h;cases h;obtain ⟨s1,s2,s3,s4⟩:=g.gx.slot h1;exact zo2 (by have:=g.gx.units;omega) s1 s2 s3 s4 (zaF hs g.gx h2).1 (zaF hs g.gx h3).1 (zeu hx)
 ·cases h
noncomputable def ztR(hs:zbt cl G k rc)(g:Gd cl G k X nm N E full){tg e:Expr}{f:Fs}{pos:Pos}(h:zuo G rc nm N tg e=some f):PS X (.Assign [tg] e pos) (tS cl E own f):=by
 unfold zuo at h
 cases h1:ze2 tg with
 | some x=>rw [h1] at h;rw [zco h1];exact zqK hs g h
 | none =>
  rw [h1] at h
  cases h2:zqS tg with
  | some t=>rw [h2] at h;rw [zoO h2];exact zqI hs g h
  | none =>
   rw [h2] at h
   cases h3:zq1 tg with
   | some a=>rw [h3] at h;rw [zic h3];exact zqN hs g h
   | none =>
    rw [h3] at h;obtain ⟨q,h4,h⟩:=zaa h;rw [zoW h4];unfold ztT at h
    cases h5:zq1 q.1 with
    | some a=>rw [h5] at h;rw [zic h5];exact zqL hs g h
    | none =>
     rw [h5] at h;obtain ⟨x,h6,h⟩:=zaa h;rw [zco h6];split at h
     ·exact zqO hs g h
     ·exact zqM hs g h
noncomputable def zm5{e:Expr}{c:Mc}(h:zm6 e=some c):e=.Call (.Attribute (.Name c.x c.px) c.m c.ap) [c.a] [] c.cp:=by
 unfold zm6 at h;obtain ⟨c1,h1,h⟩:=zaa h;split at h
 ·rename_i hk;obtain ⟨t,h2,h⟩:=zaa h;obtain ⟨x,h3,h⟩:=zaa h;obtain ⟨a,h4,h⟩:=zaa h;cases h;rw [zi9 h1,zic h2,zco h3,zfJ h4,ybv.mp hk]
 ·cases h
noncomputable def zqq(hs:zbt cl G k rc)(g:Gd cl G k X nm N E full){e:Expr}{f:Fs}{pos:Pos}(h:zqr G rc nm N e=some f):PS X (.Expr e pos) (tS cl E own f):=by
 unfold zqr at h
 cases hc:zm6 e with
 | some c =>
  obtain ⟨x,px,m,ap,a,cp⟩:=c;obtain rfl:=zm5 hc;rw [hc] at h;dsimp only at h;split at h
  ·rename_i hm;rw [yab] at hm;have em:=yat hm.1;subst em;obtain ⟨i,h1,h⟩:=zaa h;obtain ⟨fe,h2,h⟩:=zaa h;cases h;obtain ⟨s1,s2,s3,s4⟩:=g.gx.slot h1;obtain ⟨a1,_,a3⟩:=zaF hs g.gx h2;exact zrG s1 s2 s3 s4 a1 (zai a3) hm.2
  split at h
  ·rename_i hm;rw [yab] at hm;have em:=yat hm.1;subst em;obtain ⟨i,h1,h⟩:=zaa h;obtain ⟨fe,h2,h⟩:=zaa h;cases h;obtain ⟨s1,s2,s3,s4⟩:=g.gx.slot h1;obtain ⟨a1,a3⟩:=zb8 hs g.gx h2;exact zrC s1 s2 s3 s4 a1 (zai a3) hm.2
  split at h
  ·cases h
  ·rename_i hc;obtain ⟨fe,h2,h⟩:=zaU h;subst h;exact zn6 (zaF hs g.gx h2).1 (zeu (by simpa using hc))
 | none =>
  rw [hc] at h;dsimp only at h;split at h
  ·cases h
  ·rename_i hc;obtain ⟨fe,h2,h⟩:=zaU h;subst h;exact zn6 (zaF hs g.gx h2).1 (zeu (by simpa using hc))
noncomputable def zr4(hs:zbt cl G k rc)(g:Gd cl G k X nm N E full){e:Expr}{f:Fs}{pos:Pos}(h:zvj rc nm N own e=some f):PS X (.Return (some e) pos) (tS cl E own f):=by
 unfold zvj at h;split at h
 ·split at h
  ·obtain ⟨i,h1,h⟩:=zaU h;subst h;obtain ⟨s1,s2,s3,s4⟩:=g.gx.slot h1;exact zoZ s1 s2 s3 s4
  ·obtain ⟨⟨o,fe⟩,h1,h⟩:=zaa h;dsimp only at h;split at h
   ·rename_i ho;cases h;exact zo0 ((hs X nm N E g.gx _ o fe h1).1 ho)
   ·cases h
 ·obtain ⟨fe,h2,h⟩:=zaU h;subst h;exact zrz (zaF hs g.gx h2).1
noncomputable def zrl(g:Gd cl G k X nm N E full)(pins:Z3)(E':St->XK):Gd cl G k (zn1 X pins E') nm N E' false where
 gx:=⟨g.gx.gok,g.gx.room,g.gx.calm,fun pins' σ H s e s' I q=>⟨σ,H,s,zc1 I,q⟩,g.gx.eN,g.gx.kk,g.gx.pp,g.gx.ww,g.gx.nd,g.gx.vis,g.gx.fnx⟩
 fn:=g.fn
 kind:=g.kind
 sc:=g.sc
 own:=fun z=>by cases z
 raises:=fun z=>by cases z
 stk:=g.stk
 frm:=g.frm
noncomputable def zu2(hs:zbt cl G k rc){rs:Bool->List Stmt->Option Fs}(hr:∀(fl:Bool) (X:Cx) (E:St->XK),Gd cl G k X nm N E fl->∀b f,rs fl b=some f->PSs X b (tS cl E own f))(g:Gd cl G k X nm N E full){st:Stmt}{f:Fs}(h:stG G rc rs nm N own full st=some f):PS X st (tS cl E own f):=by
 cases st with
 | Pass p=>cases h;exact zo4
 | Break p=>cases h;exact zrD
 | Assign ts e p =>
  obtain ⟨tg,h1,h⟩:=zaa (show ((zoi ts).bind fun tg=>zuo G rc nm N tg e)=some f from h);obtain rfl:=zfJ h1;exact ztR hs g h
 | Expr e p=>exact zqq hs g h
 | AugAssign tg op e p =>
  obtain ⟨x,h1,hz⟩:=zaa (show ((ze2 tg).bind fun x=>(zum op).bind fun gg=>(tgI true nm N N.length x.1).bind fun i=>(shE rc nm N e).bind fun f=>some (zr3 i gg f))=some f from h);obtain ⟨gg,h2,hz⟩:=zaa hz;obtain ⟨i,h3,hz⟩:=zaa hz;obtain ⟨fe,h4,hz⟩:=zaa hz;cases hz;rw [zco h1];obtain ⟨_,a2,a3,a4,a5⟩:=zfC g.gx g.sto h3;exact zrE h2 a2 a3 a4 (zaF hs g.gx h4).1 a5
 | Return o p =>
  cases o with
  | some e=>exact zr4 hs g h
  | none =>
   have h':(if own then none else some zmv)=some f:=h;split at h'
   ·cases h'
   ·rename_i ho;cases h'
    have:own=false:=by simpa using ho
    subst this;exact zo1
 | If c a b p =>
  have h':(if zbV c then (shE rc nm N c).bind fun f=>(rs full a).bind fun g=>(rs full b).bind fun h=>some (sIf f g h) else none)=some f:=h;split at h'
  ·rename_i ht;obtain ⟨fc,h1,h⟩:=zaa h';obtain ⟨fa,h2,h⟩:=zaa h;obtain ⟨fb,h3,h⟩:=zaa h;cases h;exact zu3 ((zaF hs g.gx h1).2.1 ht) (hr full X E g a fa h2) (hr full X E g b fb h3)
  ·cases h'
 | For tg it body el p =>
  have h':(if full&&el.isEmpty then (zjE G rc nm N tg it).bind fun i=>(tgG true nm N N.length tg).bind fun t=>(rs full body).bind fun b=>some (zfq t i b) else none)=some f:=h;split at h'
  ·rename_i hf;rw [yab] at hf;obtain rfl:=ybv.mp hf.2;obtain ⟨it,h1,h⟩:=zaa h';obtain ⟨t,h2,h⟩:=zaa h;obtain ⟨fb,h3,h⟩:=zaa h;cases h;obtain ⟨i1,i2⟩:=zlp hs g.gx (tg:=_) h1;exact zrB (g.own hf.1) g.gx.calm i1 (zoQ g.gx g.sto h2) (hr full X E g _ fb h3) (zgj i2)
  ·cases h'
 | Raise ea eb p =>
  have h':rzG G rc nm N full ea eb=some f:=h;unfold rzG at h';split at h'
  ·rename_i hb;obtain rfl:=Option.isNone_iff_eq_none.mp hb;obtain ⟨e0,e1,hz⟩:=zaa h';obtain ⟨c0,h1,hy⟩:=zaa hz;obtain ⟨⟨c,p⟩,h2,hx⟩:=zaa hy;have e2:=zi9 h1;obtain ⟨fn,args,kws,cp⟩:=c0;have e3:fn=.Name c p:=zco h2;clear h h' hz hy h1 h2;subst e1;subst e2;subst e3;dsimp only at hx ⊢;split at hx
   ·rename_i hf;simp only [yab] at hf;obtain ⟨⟨⟨⟨k0,a0⟩,f0⟩,g0⟩,x0⟩:=hf;obtain rfl:=ybv.mp k0
    cases args with
    | nil=>cases a0
    | cons e es =>
    obtain ⟨fs,h1,h⟩:=zaa hx;cases h;obtain ⟨g1,g2,_⟩:=g.gx.glob g0;obtain ⟨m,z⟩:=g.gx.gok.exc c x0;obtain ⟨a1,a2,_⟩:=zeL hs g.gx h1;rw [ybH,yab] at a2;refine PS.imp (zkN (g.raises f0) g.gx.calm g1 m z a1 (za8 a2.1) (zbj a2.2) g2) ?_;rintro De σ H ⟨B,w,ρ,S,rfl,R,q⟩;refine ⟨B,w,ρ,S,rfl,R,?_⟩;unfold sRz at q
    cases hv:zak fs ρ S with
    | bad=>rwa [hv] at q
    | exc c S1=>rw [hv] at q;exact fun w' R' F'=>q σ w' R' F'
    | ok ds S1 =>
     rw [hv] at q;dsimp only at q
     cases hz:small ds.length with
     | false=>rw [hz,if_neg (by decide)] at q;exact q.elim
     | true =>
      rw [hz,if_pos rfl] at q;exact fun vs w' R' F' sh=>⟨by rw [sh.length];exact za9 hz,q σ w' R' F'⟩
   ·cases hx
  ·cases h'
 | Try body hs' es' fs' p =>
  have h':zuI G rs nm N body hs' es' fs'=some f:=h;unfold zuI at h';split at h'
  ·rename_i he;rw [yab] at he;obtain rfl:=ybv.mp he.1;obtain rfl:=ybv.mp he.2;obtain ⟨hd,h1,hz⟩:=zaa h';have e1:=zfJ h1;clear h h' h1;subst e1;obtain ⟨ty,nn,bb,hp⟩:=hd;unfold zw1 at hz;obtain ⟨te,e2,hz⟩:=zaa hz;obtain ⟨⟨C,np⟩,h2,hz⟩:=zaa hz;obtain ⟨n,e3,hz⟩:=zaa hz;obtain ⟨st,h3,hz⟩:=zaa hz;obtain ⟨⟨ts,v,ap⟩,h4,hz⟩:=zaa hz;obtain ⟨tg,h5,hz⟩:=zaa hz;obtain ⟨⟨m,mp⟩,h6,hz⟩:=zaa hz;obtain ⟨⟨n',n'p⟩,h7,h⟩:=zaa hz;rw [e2,e3,zco h2,zfJ h3,zqJ h4];dsimp only at h5 h7 h ⊢;rw [zfJ h5,zco h6,zco h7];dsimp only;split at h
   ·rename_i hc;simp only [yab,ybz] at hc;obtain ⟨⟨⟨⟨c1,c2⟩,c3⟩,c4⟩,c5⟩:=hc;subst c3;obtain ⟨i,h1,h⟩:=zaa h;obtain ⟨j,h2,h⟩:=zaa h;split at h
    ·cases h
    ·rename_i hij;obtain ⟨fb,h3,h⟩:=zaa h;cases h;obtain ⟨g1,g2,_⟩:=g.gx.glob c1;obtain ⟨mC,zC⟩:=g.gx.gok.exc C c2;obtain ⟨o1,o2,_⟩:=zeY c5
     have hnl:X.env.scope.names.lookup n=some .local:=by rw [g.sc];exact c4
     have hNi:X.N[i]?=some n:=by rw [g.gx.eN];exact zfc h1
     obtain ⟨_,a2,a3,a4,a5⟩:=zfC g.gx g.sto h2;refine PS.imp (zpw (tb:=fun E'=>tS cl E' own fb) g.stk g.frm (by rw [g.gx.eN];exact g.gx.nd) hNi hnl g1 mC zC (by decide +kernel) (fun pins E'=>hr false _ E' (zrl g pins E') _ fb h3) (fun a=>zpu (zkL (X:=X.inH a) a2 a3 a4 (zcn (X:=X.inH a) hNi (.inl hnl) o1 o2) rfl a5)) g2) ?_;intro De σ H q;exact zmn hij (fun c hc'=>g.gx.gok.und c C hc') q
   ·cases h
  ·cases h'
 | _=>cases h
theorem zja{ds:Stmt->Option Fs}(hd:∀st f,ds st=some f->PS X st (tS cl E own f)):∀{b:List Stmt} {f:Fs},blk ds b=some f->PSs X b (tS cl E own f)
 | [],f,h=>by cases h;exact zrA
 | s::r,f,h=>by
  unfold blk at h;obtain ⟨f1,h1,h⟩:=zaa h;obtain ⟨f2,h2,h⟩:=zaa h;cases h;exact zo7 (hd s f1 h1) (zja hd h2)
theorem zgw:∀(n:Nat) (fl:Bool) (X:Cx) (E:St->XK),Gd cl G k X nm N E fl->∀st f,znI G own n fl nm N st=some f->PS X st (tS cl E own f)
 | 0,_,_,_,_,_,_,h=>by cases h
 | n+1,fl,X,E,g,st,f,h=>by
  unfold znI at h;obtain ⟨f1,h1,h⟩:=zaU h;subst h;exact zu4 _ (zu2 (zoA n) (fun fl X E g b f hb=>zja (fun st f hst=>zgw n fl X E g st f hst) hb) g h1)
end
noncomputable def zbD(nN:Nat)(own:Bool)(fs:Fs)(ds:List D)(S:Sto):Out D:=match fs (ds.map (fun d=>some (false,d))++List.replicate (nN-ds.length) none) S with
 | .rt d S'=>.ok d S'
 | .nx _ S'=>if own then .bad else .ok .non S'
 | .ex c _ S'=>.exc c S'
 | _=>.bad
noncomputable def zan(G:Genv)(own:Bool)(N:List Str)(st:Stmt):Option Fs:=blk (znI G own 40 true (zad st).names N) (zbs st)
noncomputable def znu{P:Program}{wo:PySem.World}{K:PySem.W.Frag}{mg:Z6}{base:Heap}{cl:Cf}{G:Genv}{k:Nat}{x qual:Str}{st:Stmt}{f:Addr}{fd:FuncData}{N ps:List Str}{own:Bool}{fs:Fs}(F:Fun K x qual st f fd)(S:FnScope N ps (zad st))(hG:GOk cl G P wo K mg base k)
  (hk:K=cl.K) (hP:P=cl.P) (hW:wo=cl.wo) (hd:zan G own N st=some fs):FnOk P wo K mg base (CXE P wo) (k+1) f fd ps (zgO cl ps.length own (zbD N.length own fs)):=by
 obtain ⟨oc,od,kV,doc,pm,an,cdv,ct,osl,rfl,lk,hcd⟩:=F.ex;refine ztn lk hcd S (fun vs H Q E h=>h.1) fun A outer s H vs Q E hr hsp=>?_
 refine ⟨tS cl (fun _=>E) own fs,?_,?_⟩
 ·have g:Gd cl G k (zlM (CXE P wo) P wo K mg base N qual (zad st) f cdv A outer s H E) (zad st).names N (fun _=>E) true :=
   ⟨⟨hG,hr,rfl,fun pins σ H1 s1 e s' I q=>zss pins σ H1 s1 e s' I q,rfl,hk,hP,hW,S.nd,fun x kd h=>⟨kd,h,.inl rfl⟩,fun x h=>h⟩,fun _=>rfl,S.kind,rfl,fun _=>PassesOwn.leaving,fun _ C pins σ H1 s1 e h' vs I mk q=>zkH C pins σ H1 s1 e h' vs I mk q,rfl,rfl⟩
  exact zja (fun st f hst=>zgw 40 true _ _ g st f hst) hd
 ·obtain ⟨hl,B,w,ds,S0,rfl,W,sh,q⟩:=hsp;have hdl:ds.length=vs.length:=sh.length.symm;refine ⟨B,w,ds.map (fun d=>some (false,d))++List.replicate (N.length-ds.length) none,S0,rfl,⟨W,?_,fun i o d hi=>?_⟩,?_⟩
  ·unfold L2.zeK;rw [yal,yal,yaf,yaf,yaE,yaE,hdl]
  ·by_cases hlt:i<ds.length
   ·rw [yaz (by rw [yaf];exact hlt),yao] at hi
    cases hdi:ds[i]? with
    | none=>rw [hdi] at hi;cases hi
    | some d' =>
     rw [hdi] at hi;cases hi;obtain ⟨v,e1,e2⟩:=sh.at hdi;refine ⟨v,?_,e2⟩;unfold L2.zeK;rw [yaz (by rw [yaf];omega),yao,e1];rfl
   ·rw [yau (by rw [yaf];omega),ya7] at hi
    split at hi<;>cases hi
  ·unfold zbD at q
   cases hf:fs (ds.map (fun d=>some (false,d))++List.replicate (N.length-ds.length) none) S0 with
   | bad=>rwa [hf] at q
   | bk _ _=>rw [hf] at q;exact q.elim
   | ct _ _=>rw [hf] at q;exact q.elim
   | rt d S'=>rwa [hf] at q
   | ex c ρ' S'=>rw [hf] at q;exact fun σ' w' R' F'=>q w' R'.wd F'
   | nx ρ' S' =>
    rw [hf] at q;dsimp only at q
    cases own with
    | true=>exact q.elim
    | false=>exact fun σ' w' R' F'=>q .non w' R'.wd F' .non
structure FunD(K:PySem.W.Frag)(x qual:Str)(st:Stmt)(f:Addr)(fd:FuncData)(items:Array Value):Prop where
 ex:∃(oc:Value) (od:Option Addr) (T:Addr) (o:Obj) (n:Nat) (kV doc pm:Value) (an:Option Addr) (cdv ct:Value) (osl:Array (Option Value)),
  fd=PySem.W.fnOf x qual (zbB st) (zbs st) (zad st) (.ref T) kV doc pm an cdv ct/\K.lookup f=some ⟨oc,od,.func fd,osl⟩/\PySem.W.codeIn K cdv qual=true/\K.lookup T=some o/\o.data=.seq items n
noncomputable def inC(j:Nat):Stmt->Stmt | .ClassDef _ _ _ b ..=>b.getD j (.Pass ⟨0,0,0,0⟩) | s=>s
noncomputable def ztm{P:Program}{wo:PySem.World}{K:PySem.W.Frag}{mg:Z6}{base:Heap}{cl:Cf}{G:Genv}{k:Nat}{x qual:Str}{st:Stmt}{f:Addr}{fd:FuncData}{N ps:List Str}{own:Bool}{fs:Fs}{items:Array Value}(F:FunD K x qual st f fd items)(S:FnScope N ps (zad st))(hG:GOk cl G P wo K mg base k)
  (hk:K=cl.K) (hP:P=cl.P) (hW:wo=cl.wo) (hd:zan G own N st=some fs):FnOk P wo K mg base (CXE P wo) (k+1) f fd ps (zgO cl ps.length own (zbD N.length own fs)):=by
 obtain ⟨oc,od,T,o,n,kV,doc,pm,an,cdv,ct,osl,rfl,lk,hcd,_⟩:=F.ex;refine ztn lk hcd S (fun vs H Q E h=>h.1) fun A outer s H vs Q E hr hsp=>?_
 refine ⟨tS cl (fun _=>E) own fs,?_,?_⟩
 ·have g:Gd cl G k (zlM (CXE P wo) P wo K mg base N qual (zad st) f cdv A outer s H E) (zad st).names N (fun _=>E) true :=
   ⟨⟨hG,hr,rfl,fun pins σ H1 s1 e s' I q=>zss pins σ H1 s1 e s' I q,rfl,hk,hP,hW,S.nd,fun x kd h=>⟨kd,h,.inl rfl⟩,fun x h=>h⟩,fun _=>rfl,S.kind,rfl,fun _=>PassesOwn.leaving,fun _ C pins σ H1 s1 e h' vs I mk q=>zkH C pins σ H1 s1 e h' vs I mk q,rfl,rfl⟩
  exact zja (fun st f hst=>zgw 40 true _ _ g st f hst) hd
 ·obtain ⟨hl,B,w,ds,S0,rfl,W,sh,q⟩:=hsp;have hdl:ds.length=vs.length:=sh.length.symm;refine ⟨B,w,ds.map (fun d=>some (false,d))++List.replicate (N.length-ds.length) none,S0,rfl,⟨W,?_,fun i o d hi=>?_⟩,?_⟩
  ·unfold L2.zeK;rw [yal,yal,yaf,yaf,yaE,yaE,hdl]
  ·by_cases hlt:i<ds.length
   ·rw [yaz (by rw [yaf];exact hlt),yao] at hi
    cases hdi:ds[i]? with
    | none=>rw [hdi] at hi;cases hi
    | some d' =>
     rw [hdi] at hi;cases hi;obtain ⟨v,e1,e2⟩:=sh.at hdi;refine ⟨v,?_,e2⟩;unfold L2.zeK;rw [yaz (by rw [yaf];omega),yao,e1];rfl
   ·rw [yau (by rw [yaf];omega),ya7] at hi
    split at hi<;>cases hi
  ·unfold zbD at q
   cases hf:fs (ds.map (fun d=>some (false,d))++List.replicate (N.length-ds.length) none) S0 with
   | bad=>rwa [hf] at q
   | bk _ _=>rw [hf] at q;exact q.elim
   | ct _ _=>rw [hf] at q;exact q.elim
   | rt d S'=>rwa [hf] at q
   | ex c ρ' S'=>rw [hf] at q;exact fun σ' w' R' F'=>q w' R'.wd F'
   | nx ρ' S' =>
    rw [hf] at q;dsimp only at q
    cases own with
    | true=>exact q.elim
    | false=>exact fun σ' w' R' F'=>q .non w' R'.wd F' .non
end S2
namespace S2
open PySem PySem.Spec PyProof.Rows L2
structure Tab where
 con:List (Str×D)
 blt:List Str
 exc:List Str
 und:List (Str×Str)
 rz:List Str
 fk:List (Str×Str)
 df:List Str
 ds:List Str
noncomputable def zug(rz exc:List Str)(c C:Str):Option Bool:=if rz.contains c then (if C = "ValueError" then some true else if exc.contains C then some (decide (C=c)||decide (C = "FloorError")) else none) else none
noncomputable def zrf(l:List (Str×Str))(c C:Str):Bool:=l.contains (c,C)
structure Fn3 where
 cur:Str
 fs:List (Str×FnI)
 ms:List (Str×Str×FnI)
 ks:List (Str×List D×FnI)
noncomputable def Gn(T:Tab)(F:Fn3):Genv:=⟨fun x=>T.con.lookup x,fun x=>F.fs.lookup x,fun x=>T.blt.contains x,fun x=>T.exc.contains x,zrf T.und,zug T.rz T.exc,⟨F.cur,zrf T.fk,fun f=>T.df.contains f,fun m=>F.ms.lookup m,fun c=>F.ks.lookup c⟩,fun x=>T.ds.contains x⟩
noncomputable def Fn3.fn(F:Fn3)(x:Str)(fi:FnI):Fn3:=⟨F.cur,(x,fi)::F.fs,F.ms,F.ks⟩
noncomputable def Fn3.mt(F:Fn3)(m c:Str)(fi:FnI):Fn3:=⟨F.cur,F.fs,(m,c,fi)::F.ms,F.ks⟩
noncomputable def Fn3.cls(F:Fn3)(c:Str)(dds:List D)(fi:FnI):Fn3:=⟨F.cur,F.fs,F.ms,(c,dds,fi)::F.ks⟩
noncomputable def Fn3.at(F:Fn3)(c:Str):Fn3:=⟨c,F.fs,F.ms,F.ks⟩
section
variable{cl:Cf}{T:Tab}{P:Program}{wo:PySem.World}{K:PySem.W.Frag}{mg:Z6}{base:Heap}{k:Nat}{fs:Fn3}
noncomputable def zcp{α:Type}{x y:Str}{a:α}{l:List (Str×α)}{b:α}(h:((x,a)::l).lookup y=some b):(y=x/\b=a)\/l.lookup y=some b:=by
 rw [yay] at h
 cases e:y == x with
 | true=>rw [e] at h;cases h;exact .inl ⟨eq_of_beq e,rfl⟩
 | false=>rw [e] at h;exact .inr h
noncomputable def zfg{α:Type}{p:α->Prop}:∀x∈([]:List α),p x:=fun _ h=>nomatch h
noncomputable def zam{α:Type}{p:α->Prop}{a:α}{l:List α}(h:p a)(t:∀x∈l,p x):∀x∈a::l,p x:=fun x hx=>(yav.mp hx).elim (fun e=>e ▸ h) (t x)
theorem zhb{α:Type}{x:Str}{a:α}:∀{l:List (Str×α)},l.lookup x=some a->(x,a)∈l
 | [],h=>by cases h
 | (y,b)::l,h=>by
  rcases zcp h with ⟨rfl,rfl⟩ | h
  ·exact yax
  ·exact yap _ (zhb h)
noncomputable def ztZ(K:PySem.W.Frag)(cl:Cf)(exc:List Str)(c:Str):Prop:=PySem.W.ExcCls K (cl c)/\PySem.W.kitOne K (.ref (cl c)) (.type "ValueError")=some true/\∀C∈exc,PySem.W.kitOne K (.ref (cl c)) (.ref (cl C))=some (decide (C=c)||decide (C = "FloorError"))
noncomputable def zzK(hc:∀p∈T.con,∃v u,mg p.1=some u/\za2 v u/\∀w,Shd cl w v p.2)(hb:∀x∈T.blt,mg x=none)(he:∀c∈T.exc,mg c=some (.ref (cl c))/\PySem.W.excIn K (cl c) bmV "ValueError.__new__" = true)(hu:∀p∈T.und,L2.znX K (cl p.1) (cl p.2))(hx:∀c∈T.rz,ztZ K cl T.exc c)(hfk:∀p∈T.fk,Cls cl.K (cl p.1)/\zdv cl.K (cl p.1) p.2):GOk cl (Gn T ⟨"",[],[],[]⟩) P wo K mg base 0 where
 fk:=fun c f h=>hfk (c,f) (by simpa using (show T.fk.contains (c,f)=true from h))
 mt:=fun m c fi h=>by cases h
 mks:=fun c dds fi h=>by cases h
 con:=fun x d h=>hc (x,d) (zhb h)
 fn:=fun x fi h=>by cases h
 blt:=fun x h=>hb x (by simpa using (show T.blt.contains x=true from h))
 exc:=fun c h=>he c (by simpa using (show T.exc.contains c=true from h))
 und:=fun c C h=>hu (c,C) (by simpa using (show T.und.contains (c,C)=true from h))
 isx:=fun c C b h=>by
  have h':zug T.rz T.exc c C=some b:=h;unfold zug at h';split at h'
  ·rename_i hc;obtain ⟨x1,x2,x3⟩:=hx c (by simpa using hc);refine ⟨x1,?_⟩;unfold ztD;split at h'
   ·rename_i hC;cases h';rw [if_pos hC];exact x2
   ·rename_i hC;rw [if_neg hC];split at h'
    ·rename_i hm;cases h';exact x3 C (by simpa using hm)
    ·cases h'
  ·cases h'
noncomputable def GOk.add{x:Str}{fi:FnI}{f:Addr}{fd:FuncData}{ps:List Str}(g:GOk cl (Gn T fs) P wo K mg base k)(m:mg x=some (.ref f))(kp:PySem.W.keepIn K (.ref f)=true)(b:zcj K fd ps [])(F:FnOk P wo K mg base (CXE P wo) (k+1) f fd ps (zgO cl fi.ar fi.own fi.run)) :
  GOk cl (Gn T (fs.fn x fi)) P wo K mg base (k+1) where
 con:=g.con
 fn:=fun y fj h=>by
  rcases zcp h with ⟨rfl,rfl⟩ | h
  ·exact ⟨f,fd,ps,m,kp,b,F⟩
  ·obtain ⟨f',fd',ps',h1,h2,h3,h4⟩:=g.fn y fj h;exact ⟨f',fd',ps',h1,h2,h3,h4.mono (yco _)⟩
 blt:=g.blt
 exc:=g.exc
 und:=g.und
 isx:=g.isx
 fk:=g.fk
 mt:=fun m c fi h=>by
  obtain ⟨f',fd',ps',h1,h2,h3,h4⟩:=g.mt m c fi h;exact ⟨f',fd',ps',h1,h2,h3,h4.mono (yco _)⟩
 mks:=fun c dds fi h=>by
  obtain ⟨f',fd',ps',dvs,ds,k',hk,z⟩:=g.mks c dds fi h;exact ⟨f',fd',ps',dvs,ds,k',Nat.le_succ_of_le hk,z⟩
theorem GOk.at(g:GOk cl (Gn T fs) P wo K mg base k)(c:Str):GOk cl (Gn T (fs.at c)) P wo K mg base k:=⟨g.con,g.fn,g.blt,g.exc,g.und,g.isx,g.fk,g.mt,g.mks⟩
noncomputable def GOk.up{k':Nat}(g:GOk cl (Gn T fs) P wo K mg base k)(hk:k<=k'):GOk cl (Gn T fs) P wo K mg base k' where
 con:=g.con
 fn:=fun y fj h=>by
  obtain ⟨f',fd',ps',h1,h2,h3,h4⟩:=g.fn y fj h;exact ⟨f',fd',ps',h1,h2,h3,h4.mono hk⟩
 blt:=g.blt
 exc:=g.exc
 und:=g.und
 isx:=g.isx
 fk:=g.fk
 mt:=fun m c fi h=>by
  obtain ⟨f',fd',ps',h1,h2,h3,h4⟩:=g.mt m c fi h;exact ⟨f',fd',ps',h1,h2,h3,h4.mono hk⟩
 mks:=fun c dds fi h=>by
  obtain ⟨f',fd',ps',dvs,ds,j,hj,z⟩:=g.mks c dds fi h;exact ⟨f',fd',ps',dvs,ds,j,yaj hj hk,z⟩
noncomputable def GOk.addM{m c:Str}{fi:FnI}{f:Addr}{fd:FuncData}{ps:List Str}(g:GOk cl (Gn T fs) P wo K mg base k)(cc:Cls K (cl c))(hm:Meth K (cl c) m f)(b:zcj K fd ps [])(F:FnOk P wo K mg base (CXE P wo) k f fd ps (zgO cl fi.ar fi.own fi.run)) :
  GOk cl (Gn T (fs.mt m c fi)) P wo K mg base k where
 con:=g.con
 fn:=g.fn
 blt:=g.blt
 exc:=g.exc
 und:=g.und
 isx:=g.isx
 fk:=g.fk
 mt:=fun m' c' fi' h=>by
  rcases zcp h with ⟨rfl,e⟩ | h
  ·cases e;exact ⟨f,fd,ps,cc,hm,b,F⟩
  ·exact g.mt m' c' fi' h
 mks:=g.mks
noncomputable def GOk.addK{c:Str}{dds:List D}{fi:FnI}{f:Addr}{fd:FuncData}{ps:List Str}{dvs:List V}{ds:List Value}{k':Nat}(g:GOk cl (Gn T fs) P wo K mg base k)(hk:k'+1<=k)(hm:mg c=some (.ref (cl c)))(M:Mk K (cl c) f)(b0:zcj K fd ps [])(bD:zcj K fd ps ds)(vd:Vals dvs ds)(sd:∀w,Shds cl w dvs dds)(F:FnOk P wo K mg base (CXE P wo) k' f fd ps (zgO cl fi.ar false fi.run)) :
  GOk cl (Gn T (fs.cls c dds fi)) P wo K mg base k where
 con:=g.con
 fn:=g.fn
 blt:=g.blt
 exc:=g.exc
 und:=g.und
 isx:=g.isx
 fk:=g.fk
 mt:=g.mt
 mks:=fun c' dds' fi' h=>by
  rcases zcp h with ⟨rfl,e⟩ | h
  ·cases e;exact ⟨f,fd,ps,dvs,ds,k',hk,hm,M,b0,bD,vd,sd,F⟩
  ·exact g.mks c' dds' fi' h
noncomputable def zmC(nN:Nat)(own:Bool)(body:(List D->Sto->Out D)->Fs):Nat->List D->Sto->Out D
 | 0=>fun _ _=>.bad
 | n+1=>zbD nN own (body (zmC nN own body n))
noncomputable def zn7{n:Nat}{own:Bool}{vs:List V}{H:Hp}{Q:VK}{E:XK}(h:zgO cl n own (fun _ _=>.bad) vs H Q E):False:=by
 obtain ⟨_,B,w,ds,S,_,_,_,q⟩:=h;exact q
theorem GOk.addR{m c qual:Str}{st:Stmt}{f:Addr}{fd:FuncData}{N ps:List Str}{own:Bool}{body:(List D->Sto->Out D)->Fs}(g:GOk cl (Gn T fs) P wo K mg base k)(U:Fun K m qual st f fd)(S:FnScope N ps (zad st))(hK:K=cl.K)(hP:P=cl.P)(hW:wo=cl.wo)(cc:Cls K (cl c))(hm:Meth K (cl c) m f)(b:zcj K fd ps [])
  (hd:∀r,zan (Gn T ((fs.mt m c ⟨ps.length,own,r⟩).at c)) own N st=some (body r)):∀n,GOk cl (Gn T (fs.mt m c ⟨ps.length,own,zmC N.length own body n⟩)) P wo K mg base (k+n)
 | 0=>g.addM cc hm b ⟨fun vs H Q E h=>(zn7 h).elim,fun A outer s H args us vs Q E hr he hb hv h=>(zn7 h).elim⟩
 | n+1=>(g.up (Nat.le_add_right k (n+1))).addM cc hm b (znu U S ((g.addR U S hK hP hW cc hm b hd n).at c) hK hP hW (hd _))
noncomputable def zlS{C:Addr}{b:List Value}{i:String}(x:PySem.W.excIn K C b i=true):(PySem.W.clsIn K C).isSome=true/\PySem.W.typeIn K (.ref C)=some (.type "type"):=by
 unfold PySem.W.excIn at x;split at x
 ·rename_i d cd sl e;refine ⟨?_,?_⟩
  ·unfold PySem.W.clsIn;rw [e];rfl
  ·show (K.lookup C).map (·.cls)=_;rw [e];rfl
 ·cases x
noncomputable def zf5{C:Addr}{el:Value}{ed:Option Addr}{ec:ClassData}{es:Array (Option Value)}{m:List Value}{v:Value}(lk:K.lookup C=some ⟨el,ed,.cls ec,es⟩)(mr:ec.mro=.ref C::m):PySem.W.subIn K (.ref C) v=some ((Value.ref C::m).contains v):=by
 show PySem.W.mroIn K C v=_;unfold PySem.W.mroIn PySem.W.clsIn;rw [lk];show (if ec.mro.isEmpty then none else some (ec.mro.contains v))=_;rw [mr];rfl
noncomputable def zkF{a b:Addr}(h:a≠b):(Value.ref a == Value.ref b)=false:=Bool.eq_false_iff.mpr fun z=>h (Value.ref.inj (ybS.mp z))
noncomputable def zpY{C F:Addr}{el:Value}{ed:Option Addr}{ec:ClassData}{es:Array (Option Value)}(lk:K.lookup C=some ⟨el,ed,.cls ec,es⟩)(mr:ec.mro=.ref C::.ref F::bmV):PySem.W.kitOne K (.ref C) (.type "ValueError")=some true:=by
 have h1:PySem.W.kitMeta "ValueError" = true:=by decide +kernel
 have h0:(Value.ref C == Value.type "ValueError")=false:=by with_unfolding_all rfl
 unfold PySem.W.kitOne PySem.W.kitCls;simp only [h0,h1,zf5 lk mr];simp
noncomputable def zpZ{C D F:Addr}{el:Value}{ed:Option Addr}{ec:ClassData}{es:Array (Option Value)}{b:List Value}{i:String}(lk:K.lookup C=some ⟨el,ed,.cls ec,es⟩)(mr:ec.mro=.ref C::.ref F::bmV)(x:PySem.W.excIn K D b i=true):PySem.W.kitOne K (.ref C) (.ref D)=some (decide (D=C)||decide (D=F)):=by
 by_cases h:D=C
 ·subst h;unfold PySem.W.kitOne;rw [if_pos (ybG _)];simp
 ·obtain ⟨h1,h2⟩:=zlS x;have h0:=zkF (fun z=>h z.symm:C≠D);unfold PySem.W.kitOne PySem.W.kitCls;simp only [h0,h1,h2,zf5 lk mr];have e1:(Value.ref D == Value.ref C)=false:=zkF h;simp only [ycg,e1,ycX,yaW,ybX,ybG,Bool.and_self,yb4,h,decide_false]
  by_cases h4:D=F
  ·subst h4;simp
  ·have e2:(Value.ref D == Value.ref F)=false:=zkF h4;simp only [e2,ycX,h4,decide_false,Option.some.injEq]
   with_unfolding_all rfl
noncomputable def zpU{c:ClassData}{C F:Addr}{m:List Value}(h:c.mro=.ref C::.ref F::m):c.mro.contains (.ref F)=true:=by
 rw [h,ycg,ycg,ybG,Bool.true_or,Bool.or_true]
noncomputable def zoG{L:List (Str×Addr)}:∀{C:Str},C∈L.map (·.1)->∃a,L.lookup C=some a/\(C,a)∈L:=by
 induction L with
 | nil=>intro C h;simp at h
 | cons p L ih =>
  intro C h;rw [yay]
  cases e:C == p.1 with
  | true=>exact ⟨p.2,rfl,by rw [eq_of_beq e];exact yax⟩
  | false =>
   have:C∈L.map (·.1):=by
    rw [yaq,yav] at h
    rcases h with h | h
    ·rw [h] at e;simp at e
    ·exact h
   obtain ⟨a,h1,h2⟩:=ih this;exact ⟨a,h1,yap _ h2⟩
theorem zkm:∀{L:List (Str×Addr)},(L.map (·.2)).Nodup->∀{C c:Str} {a:Addr},(C,a)∈L->(c,a)∈L->C=c
 | [],_,_,_,_,h,_=>by simp at h
 | p::L,nd,C,c,a,h,h'=>by
  rw [yaq,ybg] at nd;rw [yav] at h h'
  rcases h with h | h<;>rcases h' with h' | h'
  ·rw [<-h'] at h;exact (Prod.mk.inj h).1
  ·exact absurd (yaw.mpr ⟨_,h',by rw [<-h]⟩) nd.1
  ·exact absurd (yaw.mpr ⟨_,h,by rw [<-h']⟩) nd.1
  ·exact zkm nd.2 h h'
noncomputable def ztV{L:List (Str×Addr)}(nd:(L.map (·.2)).Nodup){C c:Str}(hC:C∈L.map (·.1))(hc:c∈L.map (·.1)):(L.lookup C).getD 0=(L.lookup c).getD 0↔C=c:=by
 obtain ⟨a,h1,h2⟩:=zoG hC;obtain ⟨b,h3,h4⟩:=zoG hc;rw [h1,h3];constructor
 ·intro e;have:a=b:=e;subst this;exact zkm nd h2 h4
 ·rintro rfl;rw [h1] at h3;cases h3;rfl
noncomputable def ztd{c:Str}{cl:Cf}{exc:List Str}{F:Addr}{el:Value}{ed:Option Addr}{ec:ClassData}{es:Array (Option Value)}
  (lk:K.lookup (cl c)=some ⟨el,ed,.cls ec,es⟩) (mr:ec.mro=.ref (cl c)::.ref F::bmV) (hF:cl "FloorError" = F)
  (ga:PySem.W.findIn K (.ref (cl c)) "__getattribute__" = some (some (.builtin "BaseException.__getattribute__"))) (gt:PySem.W.findIn K (.ref (cl c)) "__getattr__" = some none) (cc:PySem.W.findIn K (.ref (cl c)) "__class__" = some (some (.builtin "object.__class__")))
  (hx:∀C∈exc,PySem.W.excIn K (cl C) bmV "ValueError.__new__" = true) (hi:∀C∈exc,(cl C=cl c↔C=c)/\(cl C=cl "FloorError" ↔ C = "FloorError")):ztZ K cl exc c:=by
 refine ⟨⟨ga,gt,cc,?_,?_,_,_,_,_,lk⟩,zpY lk mr,fun C hC=>?_⟩
 ·rw [zf5 lk mr];simp
 ·rw [zf5 lk mr];simp
 ·rw [zpZ lk mr (hx C hC)];obtain ⟨i1,i2⟩:=hi C hC;rw [hF] at i2;simp only [i1,i2]
end
noncomputable def zmq(K:PySem.W.Frag):Sp:=fun vs H Q _=>∃(a:Addr) (ns:List Int),vs=[.ref a]/\ns.length<=63/\zup H/\SqL K H a (ns.map V.int)/\∀H',Q (.bl true) H'
noncomputable def zsR{cl:Cf}{run:List D->Sto->Out D}(hr:∀l:List Int,l.length<=63->∃S,run [.scr l] []=.ok (.bl true) S):∀vs H Q E,zmq cl.K vs H Q E->zgO cl 1 false run vs H Q E:=by
 rintro vs H Q E ⟨a,ns,rfl,hl,hO,hS,q⟩;refine ⟨rfl,⟨fun _=>none,fun _=>none⟩,⟨H,fun _=>none,[]⟩,[.scr ns],[],rfl,⟨(fun a o h=>by cases h),(fun a r h=>by cases h),rfl,(fun n ob h=>by simp at h)⟩,.cons ?_ .nil,?_⟩
 ·rcases hS with (hS | ⟨o,hS⟩) | hS
  ·rcases hO a with z | ⟨o,xs,z⟩
   ·rw [hS] at z;cases z
   ·rw [hS] at z;cases z
  ·exact .scr hS rfl
  ·exact .scrK fun H=>.inr hS
 ·obtain ⟨S',e⟩:=hr ns hl;rw [e];intro v w' _ _ r;have r':Shd cl w' v (.bl true):=r;cases r';exact q _
end S2
namespace S2
open PySem PySem.Spec PyProof.Rows L2
noncomputable abbrev Rn:=List D->Sto->Out D
noncomputable def zme(n1 n2 n3:Nat)(b1 b2 b3:Rn->Rn->Rn->Fs):Nat->Rn×Rn×Rn
 | 0=>(fun _ _=>.bad,fun _ _=>.bad,fun _ _=>.bad)
 | n+1=>(zbD n1 false (b1 (zme n1 n2 n3 b1 b2 b3 n).1 (zme n1 n2 n3 b1 b2 b3 n).2.1 (zme n1 n2 n3 b1 b2 b3 n).2.2),zbD n2 false (b2 (zme n1 n2 n3 b1 b2 b3 n).1 (zme n1 n2 n3 b1 b2 b3 n).2.1 (zme n1 n2 n3 b1 b2 b3 n).2.2),zbD n3 false (b3 (zme n1 n2 n3 b1 b2 b3 n).1 (zme n1 n2 n3 b1 b2 b3 n).2.1 (zme n1 n2 n3 b1 b2 b3 n).2.2))
section
variable{cl:Cf}{T:Tab}{P:Program}{wo:PySem.World}{K:PySem.W.Frag}{mg:Z6}{base:Heap}{k:Nat}{fs:Fn3}
end
end S2
namespace S2
open PySem PySem.Spec PyProof.Rows L2
structure FnT(K:PySem.W.Frag)(x q:Str)(st:Stmt)(f:Addr):Prop where
 ex:∃(oc:Value) (od:Option Addr) (kV dc pm:Value) (an:Option Addr) (cd ct:Value) (sl:Array (Option Value)),K.lookup f=some ⟨oc,od,.func (PySem.W.fnOf x q (zbB st) (zbs st) (zad st) .none kV dc pm an cd ct),sl⟩/\PySem.W.codeIn K cd q=true/\PySem.W.keepIn K (.ref f)=true/\PySem.W.isFn K (.ref f)=true
structure GFn(K:PySem.W.Frag)(x:Str)(st:Stmt):Prop where
 ex:∃f,PySem.W.nsIn K mainGlobals x=some (some (.ref f))/\FnT K x x st f
structure MFn(K:PySem.W.Frag)(C:Addr)(m q:Str)(st:Stmt):Prop where
 ex:∃f,PySem.W.findIn K (.ref C) m=some (some (.ref f))/\FnT K m q st f
noncomputable def BB(x q:Str)(st:Stmt)(ps:List Str):Prop:=∀(kV doc pm:Value) (an:Option Addr) (cdv ct:Value) (us:List Value),us.length=ps.length->bindArgs (PySem.W.fnOf x q (zbB st) (zbs st) (zad st) .none kV doc pm an cdv ct) ⟨us,[]⟩=pure (ps.zip us)
noncomputable def bb0{p:List Value->Prop}(h:p []):∀us:List Value,us.length=0->p us:=fun us e=>by rw [ybu e];exact h
noncomputable def bbS{n:Nat}{p:List Value->Prop}(h:∀a:Value,∀us:List Value,us.length=n->p (a::us)):∀us:List Value,us.length=n+1->p us:=fun us e=>by
 cases us with
 | nil=>cases e
 | cons a us=>exact h a us (Nat.succ.inj e)
noncomputable def bb1{p:List Value->Prop}(h:∀a0:Value,p [a0]):∀us:List Value,us.length=1->p us:=bbS fun a0=>bb0 (h a0)
noncomputable def bb2{p:List Value->Prop}(h:∀a0 a1:Value,p [a0,a1]):∀us:List Value,us.length=2->p us:=bbS fun a0=>bbS fun a1=>bb0 (h a0 a1)
noncomputable def bb3{p:List Value->Prop}(h:∀a0 a1 a2:Value,p [a0,a1,a2]):∀us:List Value,us.length=3->p us:=bbS fun a0=>bbS fun a1=>bbS fun a2=>bb0 (h a0 a1 a2)
noncomputable def bb4{p:List Value->Prop}(h:∀a0 a1 a2 a3:Value,p [a0,a1,a2,a3]):∀us:List Value,us.length=4->p us:=bbS fun a0=>bbS fun a1=>bbS fun a2=>bbS fun a3=>bb0 (h a0 a1 a2 a3)
noncomputable def bb5{p:List Value->Prop}(h:∀a0 a1 a2 a3 a4:Value,p [a0,a1,a2,a3,a4]):∀us:List Value,us.length=5->p us:=bbS fun a0=>bbS fun a1=>bbS fun a2=>bbS fun a3=>bbS fun a4=>bb0 (h a0 a1 a2 a3 a4)
noncomputable def bb6{p:List Value->Prop}(h:∀a0 a1 a2 a3 a4 a5:Value,p [a0,a1,a2,a3,a4,a5]):∀us:List Value,us.length=6->p us:=bbS fun a0=>bbS fun a1=>bbS fun a2=>bbS fun a3=>bbS fun a4=>bbS fun a5=>bb0 (h a0 a1 a2 a3 a4 a5)
section
variable{cl:Cf}{T:Tab}{P:Program}{wo:PySem.World}{K:PySem.W.Frag}{mg:Z6}{base:Heap}{k:Nat}{fs:Fn3}
noncomputable def FnT.un{x q:Str}{st:Stmt}{f:Addr}{ps:List Str}(p:FnT K x q st f)(b:BB x q st ps):∃fd,Fun K x q st f fd/\zcj K fd ps []/\PySem.W.keepIn K (.ref f)=true/\PySem.W.isFn K (.ref f)=true:=by
 obtain ⟨oc,od,kV,dc,pm,an,cd,ct,sl,l,c,kp,i⟩:=p.ex;have U:=zou (st:=st) l c kp;exact ⟨_,U,U.binds b,kp,i⟩
noncomputable def GOk.addG{x:Str}{st:Stmt}{N ps:List Str}{own:Bool}{f_:Fs}{h:Heap}(g:GOk cl (Gn T fs) P wo K mg base k)(X:K.In h)(G:h.Ns mainGlobals mg)(p:GFn K x st)(S:FnScope N ps (zad st))(hK:K=cl.K)(hP:P=cl.P)(hW:wo=cl.wo)(b:BB x x st ps)(hd:zan (Gn T fs) own N st=some f_) :
  GOk cl (Gn T (fs.fn x ⟨ps.length,own,zbD N.length own f_⟩)) P wo K mg base (k+1):=by
 obtain ⟨f,a,p⟩:=p.ex;obtain ⟨fd,U,B,kp,_⟩:=p.un b;exact GOk.add g (ya9 X G a) kp B (znu U S g hK hP hW hd)
noncomputable def GOk.addMG{m c q:Str}{st:Stmt}{N ps:List Str}{own:Bool}{f_:Fs}(g:GOk cl (Gn T fs) P wo K mg base k)(cc:Cls K (cl c))(p:MFn K (cl c) m q st)(S:FnScope N ps (zad st))(hK:K=cl.K)(hP:P=cl.P)(hW:wo=cl.wo)(b:BB m q st ps)(hd:zan (Gn T (fs.at c)) own N st=some f_) :
  GOk cl (Gn T (fs.mt m c ⟨ps.length,own,zbD N.length own f_⟩)) P wo K mg base (k+1):=by
 obtain ⟨f,a,p⟩:=p.ex;obtain ⟨fd,U,B,kp,i⟩:=p.un b;exact GOk.addM (g.up (yco _)) cc ⟨a,i,kp⟩ B (znu U S (g.at c) hK hP hW hd)
noncomputable def GOk.addRG{m c q:Str}{st:Stmt}{N ps:List Str}{own:Bool}{body:(List D->Sto->Out D)->Fs}(g:GOk cl (Gn T fs) P wo K mg base k)(cc:Cls K (cl c))(p:MFn K (cl c) m q st)(S:FnScope N ps (zad st))(hK:K=cl.K)(hP:P=cl.P)(hW:wo=cl.wo)(b:BB m q st ps)
  (hd:∀r,zan (Gn T ((fs.mt m c ⟨ps.length,own,r⟩).at c)) own N st=some (body r)) (n:Nat):GOk cl (Gn T (fs.mt m c ⟨ps.length,own,zmC N.length own body n⟩)) P wo K mg base (k+n):=by
 obtain ⟨f,a,p⟩:=p.ex;obtain ⟨fd,U,B,kp,i⟩:=p.un b;exact GOk.addR g U S hK hP hW cc ⟨a,i,kp⟩ B hd n
end
end S2
namespace S2
open PySem
open L2 hiding D
noncomputable def zbW:Fs :=
  (zah (sFz [] (za3 (zeF (eUn (zes "tuple") (zag 0)) (zcU leD leD (zag 1) (zau zeA [(zag 0)]) (zag 2)))))
  sNx)
noncomputable def zaT:List S2.D->Sto->Out S2.D:=zbD 3 false zbW
noncomputable def zfi:Fs :=
  (zah (sFz [] (zaG 1 false (eIf (zaf gtD (zau zeA [(zag 0)]) (zae (.int 0))) (zau zeA [(zaf ixD (zag 0) (zae (.int 0)))]) (zae (.int 0)))))
  (zah (sFz [1] (za3 (zbC [(zau zeA [(zag 0)]),(zac 1)])))
  sNx))
noncomputable def zaM:List S2.D->Sto->Out S2.D:=zbD 2 false zfi
noncomputable def zbZ:Fs :=
  (zah (sFz [3,4] (zhK 2 (zbC [(zac 3),(zac 4)]))) sNx)
noncomputable def zcQ:Fs :=
  (zah (sFz [] (zfq (.one 4) (zdG (zaf ixD (zag 1) (zae (.int 1)))) zbZ)) sNx)
noncomputable def zdB:Fs :=
  (zah (sFz [0] (zaG 1 false (eFn zaM [(zac 0)])))
  (zah (sFz [] (zaG 2 true (zfn [])))
  (zah (sFz [] (zfq (.one 3) (zdG (zaf ixD (zag 1) (zae (.int 0)))) zcQ))
  (zah (sFz [] (zhH 2))
  sNx))))
noncomputable def zbq:List S2.D->Sto->Out S2.D:=zbD 5 true zdB
noncomputable def zdC:Fs :=
  (zah (sFz [] (za3 (zaf ixD (zaf ixD (zag 0) (zaf ixD (zag 1) (zae (.int 0)))) (zaf ixD (zag 1) (zae (.int 1))))))
  sNx)
noncomputable def zaS:List S2.D->Sto->Out S2.D:=zbD 2 false zdC
noncomputable def zgt:Fs :=
  (zah (sFz [0,1] (sIf (zaf neD (zaf ixD (eFn zaM [(zac 0)]) (zae (.int 1))) (zaf ixD (eFn zaM [(zac 1)]) (zae (.int 1)))) (zah (sFz [] (sRz "Unlike" [(zae (.str "the floors have not as many columns"))])) sNx) sNx))
  (zah (sFz [] (za3 (zaf zby (zag 0) (zag 1))))
  sNx))
noncomputable def zdx:List S2.D->Sto->Out S2.D:=zbD 2 false zgt
noncomputable def zfh:Fs :=
  (zah (sFz [] (za3 (eSl (zag 0) (some (zau zqZ [(zag 1),(zae (.int 0))])) (some (zau zqZ [(zaf zby (zag 1) (zag 2)),(zae (.int 0))])))))
  sNx)
noncomputable def zcC:List S2.D->Sto->Out S2.D:=zbD 3 false zfh
noncomputable def zlH:Fs :=
  (zah (sFz [0,1,3,4,2] (za3 (zau zbv [(zbX 1 (.one 0) (zay (eFn zcC [(zac 0),(zac 1),(zac 3)])) zdl (eFn zcC [(zac 0),(zac 2),(zac 1)]) [4,2])])))
  sNx)
noncomputable def zcX:List S2.D->Sto->Out S2.D:=zbD 5 false zlH
noncomputable def zcd:Fs :=
  (zah (sFz [] (sIf (zaf ltD (zag 1) (zau zeA [(zag 0)])) (zah (sFz [] (za3 (zaf ixD (zag 0) (zag 1)))) sNx) sNx))
  (zah (sFz [] (sIf (zaf eqD (zag 0) (zfn [])) (zah (sFz [] (za3 (zae (.int 0)))) sNx) sNx))
  (zah (sFz [] (za3 (zaf zby (zaf zgF (zaf ixD (zag 0) (zaf zjZ (zag 1) (zau zeA [(zag 0)]))) (zae (.int 31))) (zag 1))))
  sNx)))
noncomputable def zbG:List S2.D->Sto->Out S2.D:=zbD 2 false zcd
noncomputable def zdE:Fs :=
  (zah (sFz [0,1] (zaG 3 false (zaf zjZ (zaf zgF (zaf zby (eFn zbG [(zac 0),(zac 1)]) (zaf zgF (zae (.int 6151)) (zaf zby (zag 1) (zae (.int 1))))) (zae (.int 40692))) (zae (.int 2147483399)))))
  (zah (sFz [] (za3 (zaf zjZ (zaf zjZ (zaf zby (zaf zgF (zag 3) (zag 3)) (zaf ztx (zag 3) (zae (.int 31)))) (zae (.int 2147483629))) (zag 2))))
  sNx))
noncomputable def zaD:List S2.D->Sto->Out S2.D:=zbD 4 false zdE
noncomputable def zbl:Fs :=
  (zah (sFz [1,3,5,0] (zaG 6 false (zau zbv [(zbX 1 (.one 0) (zdG (zae (.int 4))) zdl (eFn zaD [(zac 4),(zaf zby (zaf zby (zaf zby (zag 1) (zaf zgF (zae (.int 4)) (zag 3))) (zae (.int 2))) (zag 0)),(zac 2)]) [1,3,5,0])]))) (zah (sFz [0] (sIf (zaf eqD (eFn zaD [(zac 0),(zaf zby (zaf zby (zag 1) (zae (.int 60))) (zag 5)),(zae (.int 3))]) (zae (.int 0))) (zah (sFz [] (zaG 6 false (zbC [(zaf ixD (zag 6) (zae (.int 0))),(zaf ixD (zag 6) (zae (.int 1))),(zaf ixD (zag 6) (zae (.int 0))),(zaf ixD (zag 6) (zae (.int 1)))]))) sNx) sNx)) (zah (sFz [] (sIf (zaf zm2 (zag 6) (zag 4)) (zah (sFz [6] (zhK 4 (zac 6))) sNx) sNx)) sNx)))
noncomputable def zc5:Fs :=
  (zah (sFz [0,1] (zaG 3 false (zaf zby (zae (.int 2)) (eFn zaD [(zac 0),(zac 1),(zae (.int 2))]))))
  (zah (sFz [] (zaG 4 true (zfn [])))
  (zah (sFz [0,2] (zfq (.one 5) (zdG (zaf zby (zae (.int 1)) (eFn zaD [(zac 0),(zaf zby (zag 1) (zae (.int 1))),(zac 2)]))) zbl))
  (zah (sFz [] (za3 (zau zbv [(zag 4)])))
  sNx))))
noncomputable def zcl:List S2.D->Sto->Out S2.D:=zbD 7 false zc5
noncomputable def zbm:Fs :=
  (zah (sFz [0] (zaG 10 false (eFn zaD [(zac 0),(zaf zby (zaf zby (zag 1) (zaf zgF (zae (.int 7)) (zag 7))) (zag 9)),(zaf zgF (zau zeA [(zag 2)]) (zag 5))]))) (zah (sFz [10] (zhK 8 (eIf (zaf ltD (zag 10) (zau zeA [(zag 2)])) (zac 10) (zae .non)))) sNx))
noncomputable def zcz:Fs :=
  (zah (sFz [] (zaG 8 true (zfn []))) (zah (sFz [4] (zfq (.one 9) (zdG (zac 4)) zbm)) (zah (sFz [] (zhK 6 (zau zbv [(zag 8)]))) sNx)))
noncomputable def zc6:Fs :=
  (zah (sFz [] (zaG 6 true (zfn [])))
  (zah (sFz [3] (zfq (.one 7) (zdG (zac 3)) zcz))
  (zah (sFz [] (za3 (zau zbv [(zag 6)])))
  sNx)))
noncomputable def zaI:List S2.D->Sto->Out S2.D:=zbD 11 false zc6
noncomputable def zdj:Fs :=
  (zah (sFz [] (za3 (zeF (eUn (zes "int") (zag 0)) (eUn zez (eUn (zes "bool") (zag 0))))))
  sNx)
noncomputable def za0:List S2.D->Sto->Out S2.D:=zbD 1 false zdj
noncomputable def zcs:Fs :=
  (zah (sFz [1] (za3 (zeF (eFn za0 [(zac 1)]) (zcU leD ltD (zae (.int 0)) (zag 1) (zau zeA [(zag 0)])))))
  sNx)
noncomputable def zaP:List S2.D->Sto->Out S2.D:=zbD 2 false zcs
noncomputable def zdD:Fs :=
  (zah (sFz [1] (sIf (eOr (eUn zez (eFn zaT [(zac 1),(zae (.int 2)),(zae (.int 2))])) (eOr (eUn zez (eFn za0 [(zaf ixD (zag 1) (zae (.int 0)))])) (eUn zez (eFn za0 [(zaf ixD (zag 1) (zae (.int 1)))])))) (zah (sFz [] (za3 (zae (.bl false)))) sNx) sNx))
  (zah (sFz [0] (zaG 2 false (eFn zaM [(zac 0)])))
  (zah (sFz [] (za3 (zeF (zcU leD ltD (zae (.int 0)) (zaf ixD (zag 1) (zae (.int 0))) (zaf ixD (zag 2) (zae (.int 0)))) (zcU leD ltD (zae (.int 0)) (zaf ixD (zag 1) (zae (.int 1))) (zaf ixD (zag 2) (zae (.int 1)))))))
  sNx)))
noncomputable def zbF:List S2.D->Sto->Out S2.D:=zbD 3 false zdD
noncomputable def zc4:Fs :=
  (zah (sFz [1,2,0,1,2] (sIf (eOr (eUn zez (eFn zbF [(zac 1),(zac 2)])) (eUn zez (eFn zaP [(zac 0),(eFn zaS [(zac 1),(zac 2)])]))) (zah (sFz [] (za3 (zae .non))) sNx) sNx))
  (zah (sFz [1,2] (za3 (zaf ixD (zaf ixD (zag 0) (eFn zaS [(zac 1),(zac 2)])) (zag 3))))
  sNx))
noncomputable def zaC:List S2.D->Sto->Out S2.D:=zbD 4 false zc4
noncomputable def zcw:Fs :=
  (zah (sFz [] (zaG 3 false (zbC [(zaf ixD (zag 2) (zae (.int 0))),(zaf zby (zaf ixD (zag 2) (zae (.int 1))) (zae (.int 1)))])))
  (zah (sFz [0,1,2,0,1,3] (za3 (zbC [(eFn zaC [(zac 0),(zac 1),(zac 2),(zae (.int 1))]),(eFn zaC [(zac 0),(zac 1),(zac 3),(zae (.int 3))])])))
  sNx))
noncomputable def zbM:List S2.D->Sto->Out S2.D:=zbD 4 false zcw
noncomputable def zcc:Fs :=
  (zah (sFz [] (zaG 3 false (zbC [(zaf zby (zaf ixD (zag 2) (zae (.int 0))) (zae (.int 1))),(zaf ixD (zag 2) (zae (.int 1)))])))
  (zah (sFz [0,1,2,0,1,3] (za3 (zbC [(eFn zaC [(zac 0),(zac 1),(zac 2),(zae (.int 2))]),(eFn zaC [(zac 0),(zac 1),(zac 3),(zae (.int 0))])])))
  sNx))
noncomputable def zbz:List S2.D->Sto->Out S2.D:=zbD 4 false zcc
noncomputable def zef:Fs :=
  (zah (sFz [] (za3 (zeF (zaf zm2 (zae .non) (zag 0)) (zaf neD (zaf ixD (zag 0) (zae (.int 0))) (zaf ixD (zag 0) (zae (.int 1)))))))
  sNx)
noncomputable def zcD:List S2.D->Sto->Out S2.D:=zbD 1 false zef
noncomputable def zdI:Fs :=
  (zah (sFz [0,1,3] (sIf (eFn zcD [(eFn zbM [(zac 0),(zac 1),(zac 3)])]) (zah (sFz [3] (zhK 2 (zbC [(zac 3),(zae (.str "east"))]))) sNx) sNx)) (zah (sFz [0,1,3] (sIf (eFn zcD [(eFn zbz [(zac 0),(zac 1),(zac 3)])]) (zah (sFz [3] (zhK 2 (zbC [(zac 3),(zae (.str "south"))]))) sNx) sNx)) sNx))
noncomputable def zfj:Fs :=
  (zah (sFz [] (zaG 2 true (zfn [])))
  (zah (sFz [1] (zfq (.one 3) (zay (eFn zbq [(zac 1)])) zdI))
  (zah (sFz [] (zhH 2))
  sNx)))
noncomputable def zdO:List S2.D->Sto->Out S2.D:=zbD 4 true zfj
noncomputable def zdk:Fs :=
  (zah (sFz [1,1,0] (sIf (eUn zez (zau ztU [(zbX 1 (.one 0) (zay (eFn zbq [(zac 1)])) zdl (eFn zaP [(zac 2),(eFn zaS [(zac 1),(zac 0)])]) [1,0])])) (zah (sFz [] (za3 (zae (.bl false)))) sNx) sNx))
  (zah (sFz [0,1] (za3 (zaf eqD (zau zeA [(eFn zdO [(zac 0),(zac 1)])]) (zae (.int 0)))))
  sNx))
noncomputable def zav:List S2.D->Sto->Out S2.D:=zbD 2 false zdk
noncomputable def zcM:Fs :=
  (zah (sFz [2,1,3,0] (za3 (zau zbv [(zbX 1 (.one 0) (zay (zac 2)) zdl (eFn zaC [(zac 3),(zac 1),(zac 0),(zac 2)]) [1,3,0])])))
  sNx)
noncomputable def zaq:List S2.D->Sto->Out S2.D:=zbD 4 false zcM
noncomputable def zee:Fs :=
  (zah (sFz [1] (zaG 2 false (eFn zaM [(zac 1)])))
  (zah (sFz [] (zaG 3 true (zbX 1 (.one 0) (zdG (zaf ixD (zag 2) (zae (.int 1)))) zdl (zbC [(zae (.int 0)),(zac 0)]) [])))
  (zah (sFz [2] (zaG 4 true (zbX 1 (.one 0) (zdG (zaf ixD (zag 2) (zae (.int 0)))) zdl (zbC [(zac 0),(zaf zmd (zaf ixD (zag 1) (zae (.int 1))) (zae (.int 1)))]) [2])))
  (zah (sFz [2] (zaG 5 true (zbX 1 (.one 0) (zdG (zaf ixD (zag 2) (zae (.int 1)))) zdl (zbC [(zaf zmd (zaf ixD (zag 1) (zae (.int 0))) (zae (.int 1))),(zac 0)]) [2])))
  (zah (sFz [] (zaG 6 true (zbX 1 (.one 0) (zdG (zaf ixD (zag 2) (zae (.int 0)))) zdl (zbC [(zac 0),(zae (.int 0))]) [])))
  (zah (sFz [0,1,3,0,1,4,0,1,5,0,1,6] (za3 (zbC [(eFn zaq [(zac 0),(zac 1),(zac 3),(zae (.int 0))]),(eFn zaq [(zac 0),(zac 1),(zac 4),(zae (.int 1))]),(eFn zaq [(zac 0),(zac 1),(zac 5),(zae (.int 2))]),(eFn zaq [(zac 0),(zac 1),(zac 6),(zae (.int 3))])])))
  sNx))))))
noncomputable def zaw:List S2.D->Sto->Out S2.D:=zbD 7 false zee
noncomputable def zcA:Fs :=
  (zah (sFz [] (zqW 3 (zau zjB [(zag 4)]))) sNx)
noncomputable def zbP:Fs :=
  (zah (sFz [10] (zaG 12 false (zaf inD (zag 7) (zbC [(zae .non),(zac 10)])))) (zah (sFz [] (sIf (zeF (zaf gtD (zaf zjZ (zag 6) (zag 2)) (zae (.int 0))) (zaf neD (zaf ixD (zaf ixD (zag 0) (zaf ixD (zag 9) (eUn zmg (zae (.int 1))))) (zae (.int 1))) (zaf ixD (zag 11) (zae (.int 3))))) (zah (sFz [] (zaG 12 false (zae (.bl false)))) sNx) sNx)) (zah (sFz [] (sIf (zeF (zaf geD (zag 6) (zag 2)) (zaf neD (zaf ixD (zaf ixD (zag 0) (zaf ixD (zag 9) (zaf zmd (zag 6) (zag 2)))) (zae (.int 2))) (zaf ixD (zag 11) (zae (.int 0))))) (zah (sFz [] (zaG 12 false (zae (.bl false)))) sNx) sNx)) (zah (sFz [12] (sIf (zac 12) (zah (sFz [10] (zhK 8 (zaf zby (zag 9) (zbC [(zac 10)])))) sNx) sNx)) sNx))))
noncomputable def zbO:Fs :=
  (zah (sFz [0] (zfq (.tup [10,11]) (zjN (zac 0)) zbP)) sNx)
noncomputable def zbN:Fs :=
  (zah (sFz [] (zaG 8 true (zfn []))) (zah (sFz [5] (zfq (.one 9) (zay (zac 5)) zbO)) (zah (sFz [8] (zaG 5 false (zac 8))) sNx)))
noncomputable def zc7:Fs :=
  (zah (sFz [] (zaG 2 false (zau zeA [(zaf ixD (zag 1) (zae (.int 0)))])))
  (zah (sFz [] (zaG 3 true (zfn [])))
  (zah (sFz [1] (zfq (.one 4) (zay (zac 1)) zcA))
  (zah (sFz [] (zaG 5 true (zfn [(zbC [])])))
  (zah (sFz [3] (zfq (.tup [6,7]) (zjN (zac 3)) zbN))
  (zah (sFz [5] (za3 (zac 5)))
  sNx))))))
noncomputable def zaQ:List S2.D->Sto->Out S2.D:=zbD 13 false zc7
noncomputable def zce:Fs :=
  (zah (sFz [1,1,0] (za3 (zau zbv [(zbX 1 (.one 0) (zjM (zae (.int 0)) (zau zeA [(zag 0)]) (zac 1)) zdl (zau zbv [(eSl (zag 2) (some (zag 0)) (some (zaf zby (zag 0) (zag 1))))]) [1,0])])))
  sNx)
noncomputable def zaE:List S2.D->Sto->Out S2.D:=zbD 2 false zce
noncomputable def zh3:Fs :=
  (zah (sFz [] (za3 (zaf zgF (zbC [(zaf zgF (zbC [(zae .non)]) (zag 1))]) (zag 0))))
  sNx)
noncomputable def zb5:List S2.D->Sto->Out S2.D:=zbD 2 false zh3
noncomputable def zh2:Fs :=
  (zah (sFz [] (za3 (eOr (zaf znk (zag 0) (zae .non)) (zaf eqD (zag 0) (zag 1)))))
  sNx)
noncomputable def zeU:List S2.D->Sto->Out S2.D:=zbD 2 false zh2
noncomputable def zcg:Fs :=
  (zah (sFz [1] (zf9 "Ways" "tiles" (zac 0) (zac 1)))
  (zah (sFz [2,2] (zf9 "Ways" "ground" (zac 0) (zbX 1 (.one 0) (zay (eFn zbq [(zac 2)])) zdl (eFn zaS [(zac 1),(zac 0)]) [2])))
  (zah (sFz [2] (zf9 "Ways" "size" (zac 0) (eFn zaM [(zac 2)])))
  (zah (sFz [3] (zf9 "Ways" "is_round" (zac 0) (zac 3)))
  (zah (sFz [] (zjo "Ways" "known" 0))
  sNx)))))
noncomputable def za6:List S2.D->Sto->Out S2.D:=zbD 4 false zcg
noncomputable def zbJ:Fs :=
  (zah (sFz [] (za3 (zaf zgF (zbC [(zae .non)]) (zaf zby (zaf ixD (zeE "Ways" "size" (zac 0)) (zae (.int 1))) (zae (.int 2))))))
  sNx)
noncomputable def zbb:List S2.D->Sto->Out S2.D:=zbD 1 false zbJ
noncomputable def zcf:Fs :=
  (zah (sFz [] (za3 (zaf eqD (zaf zjZ (zaf zby (zag 1) (zae (.int 1))) (zaf ixD (zeE "Ways" "size" (zac 0)) (zae (.int 1)))) (zae (.int 0)))))
  sNx)
noncomputable def zaO:List S2.D->Sto->Out S2.D:=zbD 2 false zcf
noncomputable def zaW:Fs :=
  (zah (sFz [] (za3 (eIf (zaf eqD (zaf zjZ (zag 1) (zaf ixD (zeE "Ways" "size" (zac 0)) (zae (.int 1)))) (zae (.int 0))) (zaf ixD (zag 3) (zae (.int 3))) (zaf ixD (zag 2) (eUn zmg (zae (.int 1)))))))
  sNx)
noncomputable def zap:List S2.D->Sto->Out S2.D:=zbD 4 false zaW
noncomputable def zbA:Fs :=
  (zah (sFz [1] (zaG 4 false (zbK "Ways" "ends_row" zaO (zac 0) [(zac 1)])))
  (zah (sFz [] (zaG 5 false (zaf geD (zaf zby (zag 1) (zaf ixD (zeE "Ways" "size" (zac 0)) (zae (.int 1)))) (zau zeA [(zeE "Ways" "ground" (zac 0))]))))
  (zah (sFz [4] (zaG 6 false (eIf (zac 4) (zae .non) (zaf ixD (zag 3) (zae (.int 1))))))
  (zah (sFz [5] (zaG 7 false (eIf (zac 5) (zae .non) (zaf ixD (zag 3) (zae (.int 2))))))
  (zah (sFz [4,1,2,3] (zaG 8 false (eIf (zeF (zeE "Ways" "is_round" (zac 0)) (eUn zez (zac 4))) (zbK "Ways" "colour_round" zap (zac 0) [(zac 1),(zac 2),(zac 3)]) (zae .non))))
  (zah (sFz [6,7,8] (za3 (zaf zby (zaf zby (zbC [(zac 6)]) (eSl (zag 2) (some (zae (.int 2))) (some (eUn zmg (zae (.int 1)))))) (zbC [(zac 7),(zac 8)]))))
  sNx))))))
noncomputable def za4:List S2.D->Sto->Out S2.D:=zbD 9 false zbA
noncomputable def za5:Fs :=
  (zah (sFz [] (zaG 2 false (zaf ixD (zeE "Ways" "ground" (zac 0)) (zag 1))))
  (zah (sFz [] (sIf (zaf znk (zag 2) (zae .non)) (zah (sFz [] (za3 (eUn lrD (zau zeA [(zeE "Ways" "tiles" (zac 0))])))) sNx) sNx))
  (zah (sFz [2,2] (za3 (eIf (eFn zaP [(zeE "Ways" "tiles" (zac 0)),(zac 2)]) (zfn [(zac 2)]) (zfn []))))
  sNx)))
noncomputable def zaK:List S2.D->Sto->Out S2.D:=zbD 3 false za5
noncomputable def zbc:Fs :=
  (zah (sFz [1] (sIf (eOr (eUn zez (zeE "Ways" "is_round" (zac 0))) (eUn zez (zbK "Ways" "ends_row" zaO (zac 0) [(zac 1)]))) (zah (sFz [] (za3 (zae (.bl true)))) sNx) sNx))
  (zah (sFz [1,2,3] (za3 (zaf eqD (zaf ixD (zag 3) (zae (.int 1))) (zbK "Ways" "colour_round" zap (zac 0) [(zac 1),(zac 2),(zac 3)]))))
  sNx))
noncomputable def zaN:List S2.D->Sto->Out S2.D:=zbD 4 false zbc
noncomputable def zdF:Fs :=
  (zah (sFz [] (sIf (eOr (eUn zez (eFn zeU [(zaf ixD (zag 2) (zae (.int 0))),(zaf ixD (zag 3) (zae (.int 3)))])) (eUn zez (eFn zeU [(zaf ixD (zag 2) (zae (.int 1))),(zaf ixD (zag 3) (zae (.int 0)))]))) (zah (sFz [] (za3 (zae (.bl false)))) sNx) sNx))
  (zah (sFz [1,2,3] (za3 (zbK "Ways" "fits_round" zaN (zac 0) [(zac 1),(zac 2),(zac 3)])))
  sNx))
noncomputable def zcJ:List S2.D->Sto->Out S2.D:=zbD 4 false zdF
noncomputable def zaZ:Fs :=
  (zah (sFz [] (zaG 5 false (zaf ixD (zeE "Ways" "tiles" (zac 0)) (zag 4)))) (zah (sFz [1,2,5] (sIf (zbK "Ways" "fits" zcJ (zac 0) [(zac 1),(zac 2),(zac 5)]) (zah (sFz [4,1,2,5] (zhK 3 (zbC [(zac 4),(zbK "Ways" "seam_behind" za4 (zac 0) [(zac 1),(zac 2),(zac 5)])]))) sNx) sNx)) sNx))
noncomputable def zcx:Fs :=
  (zah (sFz [] (zaG 3 true (zfn [])))
  (zah (sFz [1] (zfq (.one 4) (zay (zbK "Ways" "numbers_for" zaK (zac 0) [(zac 1)])) zaZ))
  (zah (sFz [] (zhH 3))
  sNx)))
noncomputable def zbi:List S2.D->Sto->Out S2.D:=zbD 6 true zcx
noncomputable def zaj(rec_:List S2.D->Sto->Out S2.D):Fs :=
  (zah (sFz [] (sIf (zaf eqD (zag 1) (zau zeA [(zeE "Ways" "ground" (zac 0))])) (zah (sFz [] (za3 (zae (.int 1)))) sNx) sNx))
  (zah (sFz [1,2] (zaG 3 false (zbC [(zac 1),(zac 2)])))
  (zah (sFz [] (sIf (znC "Ways" "known" (zac 3) (zac 0)) (zah (sFz [1,2,0,1] (zhJ "Ways" "known" (zac 0) 3 (zau zqU [(zbX 1 (.one 0) (zay (zbK "Ways" "choices" zbi (zac 0) [(zac 1),(zac 2)])) zdl (zbK "Ways" "count_from" rec_ (zac 1) [(zaf zby (zag 2) (zae (.int 1))),(zaf ixD (zag 0) (zae (.int 1)))]) [0,1])]))) sNx) sNx))
  (zah (sFz [] (za3 (zh7 "Ways" "known" (zac 0) 3)))
  sNx))))
noncomputable def zbH:List S2.D->Sto->Out S2.D:=zmC 4 false zaj 40
noncomputable def zbS:Fs :=
  (zah (sFz [] (za3 (zbK "Ways" "count_from" zbH (zac 0) [(zae (.int 0)),(zbK "Ways" "first_seam" zbb (zac 0) [])])))
  sNx)
noncomputable def zbo:List S2.D->Sto->Out S2.D:=zbD 1 false zbS
noncomputable def zcN:Fs :=
  (zah (sFz [0,1] (za3 (zbK "Ways" "count_all" zbo (eMk "Ways" [(.bl false)] za6 [(zac 0),(zac 1)]) [])))
  sNx)
noncomputable def zba:List S2.D->Sto->Out S2.D:=zbD 2 false zcN
noncomputable def zlI:Fs :=
  (zah (sFz [1] (za3 (eIf (eOr (zaf znk (zag 0) (zae .non)) (zaf eqD (zag 0) (zag 2))) (zae (.int 0)) (zac 1))))
  sNx)
noncomputable def zkI:List S2.D->Sto->Out S2.D:=zbD 3 false zlI
noncomputable def zet(rec_least_from:List S2.D->Sto->Out S2.D):Fs :=
  (zah (sFz [5] (zaG 6 false (zbK "Mends" "least_from" rec_least_from (zac 0) [(zaf zby (zag 1) (zae (.int 1))),(zac 5)]))) (zah (sFz [] (sIf (zaf zk7 (zag 6) (zae .non)) (zah (sFz [4] (zaG 7 false (zaf zby (eFn zkI [(zaf ixD (zeE "Mends" "laid" (zac 0)) (zag 1)),(zaf ixD (zeE "Mends" "weights" (zac 0)) (zag 1)),(zac 4)]) (zaf ixD (zag 6) (zae (.int 0)))))) (zah (sFz [7,4,5] (zhK 3 (zbC [(zac 7),(zaf ixD (zag 6) (zae (.int 1))),(zac 4),(zac 5)]))) sNx)) sNx)) sNx))
noncomputable def zfw(rec_offers rec_least_by_offers rec_least_from:List S2.D->Sto->Out S2.D):Fs :=
  (zah (sFz [] (zaG 3 true (zfn [])))
  (zah (sFz [1,2] (zfq (.tup [4,5]) (zay (zbK "Ways" "choices" zbi (zeE "Mends" "ways" (zac 0)) [(zac 1),(zac 2)])) (zet rec_least_from)))
  (zah (sFz [3] (za3 (zac 3)))
  sNx)))
noncomputable def zcO(rec_offers rec_least_by_offers rec_least_from:List S2.D->Sto->Out S2.D):Fs :=
  (zah (sFz [1,2] (zaG 3 false (zbK "Mends" "offers" rec_offers (zac 0) [(zac 1),(zac 2)])))
  (zah (sFz [] (sIf (zaf eqD (zau zeA [(zag 3)]) (zae (.int 0))) (zah (sFz [] (za3 (zae .non))) sNx) sNx))
  (zah (sFz [3] (zaG 4 false (zau zsN [(zbX 1 (.one 0) (zay (zac 3)) zdl (zaf ixD (zag 0) (zae (.int 0))) [])])))
  (zah (sFz [4,3,4] (za3 (zbC [(zac 4),(zau zqU [(zbX 1 (.one 0) (zay (zac 3)) (zaf eqD (zaf ixD (zag 0) (zae (.int 0))) (zag 1)) (zaf ixD (zag 0) (zae (.int 1))) [4])])])))
  sNx))))
noncomputable def zdW(rec_offers rec_least_by_offers rec_least_from:List S2.D->Sto->Out S2.D):Fs :=
  (zah (sFz [] (sIf (zaf eqD (zag 1) (zau zeA [(zeE "Mends" "laid" (zac 0))])) (zah (sFz [] (za3 (zbC [(zae (.int 0)),(zae (.int 1))]))) sNx) sNx))
  (zah (sFz [1,2] (zaG 3 false (zbC [(zac 1),(zac 2)])))
  (zah (sFz [] (sIf (znC "Mends" "known" (zac 3) (zac 0)) (zah (sFz [1,2] (zhJ "Mends" "known" (zac 0) 3 (zbK "Mends" "least_by_offers" rec_least_by_offers (zac 0) [(zac 1),(zac 2)]))) sNx) sNx))
  (zah (sFz [] (za3 (zh7 "Mends" "known" (zac 0) 3)))
  sNx))))
noncomputable def zeD:Fs :=
  (zah (sFz [0,1] (sIf (zaf neD (zaf ixD (eFn zaM [(zac 0)]) (zae (.int 0))) (zaf ixD (eFn zaM [(zac 1)]) (zae (.int 0)))) (zah (sFz [] (sRz "Unlike" [(zae (.str "the floors have not as many rows"))])) sNx) sNx))
  (zah (sFz [0,1] (za3 (zau zbv [(zbX 2 (.tup [0,1]) (zox (zac 0) (zac 1)) zdl (zaf zby (zag 0) (zag 1)) [])])))
  sNx))
noncomputable def zcH:List S2.D->Sto->Out S2.D:=zbD 2 false zeD
end S2
namespace S2
open PySem
open L2 hiding D
noncomputable def Fo.seq(b:Fs):Fo->Fo | .nx ρ' S'=>b ρ' S' | o=>o
noncomputable def zue(a b:Fs)(ρ:Env):Out D->Fo | .ok d S'=>(match isB d with | some true=>a ρ S' | some false=>b ρ S' | none=>.bad) | .exc x S'=>.ex x ρ S' | .bad=>.bad
noncomputable def zvT(i:Nat)(o:Bool)(ρ:Env):Out D->Fo | .ok d S'=>.nx (ρ.set i (some (o,d))) S' | .exc c S'=>.ex c ρ S' | .bad=>.bad
noncomputable def zvR(ρ:Env):Out D->Fo | .ok _ S'=>.nx ρ S' | .exc c S'=>.ex c ρ S' | .bad=>.bad
noncomputable def zvP(ρ:Env):Out D->Fo | .ok d S'=>.rt d S' | .exc c S'=>.ex c ρ S' | .bad=>.bad
noncomputable def zs7(S:Sto):Option (Option (Bool×D))->Fo | some (some (true,d))=>.rt d S | _=>.bad
noncomputable def zni(i:Nat)(ρ:Env)(l:List D):Out D->Fo
 | .ok d S'=>if small l.length then .nx (ρ.set i (some (true,.lst (l++[d])))) S' else .bad
 | .exc c S'=>.ex c ρ S' | .bad=>.bad
noncomputable def zx7(i:Nat)(f:Fe)(ρ:Env)(S:Sto):Option (Option (Bool×D))->Fo | some (some (true,.lst l))=>zni i ρ l (f ρ S) | _=>.bad
noncomputable def zp9(i:Nat)(ρ:Env)(l:List D):Out D->Fo
 | .ok (.lst k) S'=>if small (l.length+k.length) then .nx (ρ.set i (some (true,.lst (l++k)))) S' else .bad
 | .ok _ _=>.bad
 | .exc c S'=>.ex c ρ S' | .bad=>.bad
noncomputable def zx4(i:Nat)(f:Fe)(ρ:Env)(S:Sto):Option (Option (Bool×D))->Fo | some (some (true,.lst l))=>zp9 i ρ l (f ρ S) | _=>.bad
noncomputable def zvQ(S:Sto):Option Env->Fo | some ρ'=>.nx ρ' S | none=>.bad
noncomputable def zqe(t:Tg)(ρ:Env):Out D->Fo | .ok d S'=>zvQ S' (t.put ρ d) | .exc c S'=>.ex c ρ S' | .bad=>.bad
noncomputable def zx2(t:Tg)(a:Fs)(ρ:Env):Out (List D)->Fo | .ok ds S'=>zgs t a ds ρ S' | .exc c S'=>.ex c ρ S' | .bad=>.bad
noncomputable def zxV(S:Sto):Option (Option (Bool×D))->Out D | some (some (false,d))=>.ok d S | _=>.bad
noncomputable def zx6(S:Sto):Option (Option (Bool×D))->Out D | some (some (_,d))=>.ok d S | _=>.bad
noncomputable def kUn(u:D->Option D):Out D->Out D | .ok a S=>Out.of (u a) S | .exc c S=>.exc c S | .bad=>.bad
noncomputable def zlm(u:D->D->Option D)(a:D):Out D->Out D | .ok b S=>Out.of (u a b) S | .exc c S=>.exc c S | .bad=>.bad
noncomputable def zvS(u:D->D->Option D)(g:Fe)(ρ:Env):Out D->Out D | .ok a S=>zlm u a (g ρ S) | .exc c S=>.exc c S | .bad=>.bad
noncomputable def kIf(f g:Fe)(ρ:Env):Out D->Out D | .ok d S1=>(match isB d with | some true=>f ρ S1 | some false=>g ρ S1 | none=>.bad) | .exc c S=>.exc c S | .bad=>.bad
noncomputable def zvU(g:Fe)(ρ:Env):Out D->Out D | .ok d S1=>(match isB d with | some true=>g ρ S1 | some false=>.ok (.bl false) S1 | none=>.bad) | .exc c S=>.exc c S | .bad=>.bad
noncomputable def kOr(g:Fe)(ρ:Env):Out D->Out D | .ok d S1=>(match isB d with | some true=>.ok (.bl true) S1 | some false=>g ρ S1 | none=>.bad) | .exc c S=>.exc c S | .bad=>.bad
noncomputable def zhd(d:D):Out (List D)->Out (List D) | .ok ds S=>.ok (d::ds) S | .exc c S=>.exc c S | .bad=>.bad
noncomputable def zqb(fs:List Fe)(ρ:Env):Out D->Out (List D) | .ok d S=>zhd d (zak fs ρ S) | .exc c S=>.exc c S | .bad=>.bad
noncomputable def zxW:Out (List D)->Out D | .ok ds S=>if small ds.length then .ok (.tup ds) S else .bad | .exc c S=>.exc c S | .bad=>.bad
noncomputable def zxZ:Out (List D)->Out D | .ok ds S=>if small ds.length then .ok (.lst ds) S else .bad | .exc c S=>.exc c S | .bad=>.bad
noncomputable def zqd(u:List D->Option D):Out (List D)->Out D | .ok ds S=>Out.of (u ds) S | .exc c S=>.exc c S | .bad=>.bad
noncomputable def kFn(r:List D->Sto->Out D):Out (List D)->Out D | .ok ds S=>r ds S | .exc c S=>.exc c S | .bad=>.bad
noncomputable def ze8(v:D->D->Option D)(b:D):Out D->Out D | .ok c S=>Out.of (v b c) S | .exc c S=>.exc c S | .bad=>.bad
noncomputable def ze7(v:D->D->Option D)(h:Fe)(ρ:Env)(b:D)(S:Sto):Option D->Out D | some d=>(match isB d with | some true=>ze8 v b (h ρ S) | some false=>.ok (.bl false) S | none=>.bad) | none=>.bad
noncomputable def zgn(u v:D->D->Option D)(h:Fe)(ρ:Env)(a:D):Out D->Out D | .ok b S=>ze7 v h ρ b S (u a b) | .exc c S=>.exc c S | .bad=>.bad
noncomputable def zom(u v:D->D->Option D)(g h:Fe)(ρ:Env):Out D->Out D | .ok a S=>zgn u v h ρ a (g ρ S) | .exc c S=>.exc c S | .bad=>.bad
noncomputable def zx0:Out D->Out (Option Int) | .ok (.int i) S=>.ok (some i) S | .ok _ _=>.bad | .exc c S=>.exc c S | .bad=>.bad
noncomputable def zt9(d:D)(l:Option Int):Out (Option Int)->Out D | .ok u S=>Out.of (slD d l u) S | .exc c S=>.exc c S | .bad=>.bad
noncomputable def zua(d:D)(u:Option Fe)(ρ:Env):Out (Option Int)->Out D | .ok l S=>zt9 d l (zcV u ρ S) | .exc c S=>.exc c S | .bad=>.bad
noncomputable def kSl(l u:Option Fe)(ρ:Env):Out D->Out D | .ok d S=>zua d u ρ (zcV l ρ S) | .exc c S=>.exc c S | .bad=>.bad
noncomputable def zlk:Out D->Out (List D) | .ok (.lst l) S=>.ok l S | .ok (.tup l) S=>.ok l S | .ok _ _=>.bad | .exc c S=>.exc c S | .bad=>.bad
noncomputable def zqa:Out (List D)->Out (List D) | .ok [.lst l] S=>.ok (zcy l) S | .ok [.tup l] S=>.ok (zcy l) S | .ok _ _=>.bad | .exc c S=>.exc c S | .bad=>.bad
noncomputable def zs3:Out (List D)->Out (List D) | .ok ds S1=>(match ds with | [x,y]=>(match zrO x,zrO y with | some l,some k=>.ok (zfB l k) S1 | _,_=>.bad) | _=>.bad) | .exc c S=>.exc c S | .bad=>.bad
noncomputable def zs6:Out (List D)->Out (List D) | .ok ds S1=>(match ds with | [.int j]=>if -1000000<=j/\j<=1000000 then .ok (zaH 0 j) S1 else .bad | _=>.bad) | .exc c S=>.exc c S | .bad=>.bad
noncomputable def zs5:Out (List D)->Out (List D) | .ok ds S1=>(match ds with | [.int i,.int j]=>if (-1000000<=i/\i<=1000000)/\-1000000<=j/\j<=1000000 then .ok (zaH i j) S1 else .bad | _=>.bad) | .exc c S=>.exc c S | .bad=>.bad
noncomputable def zs4:Out (List D)->Out (List D) | .ok ds S1=>(match ds with | [.int i,.int j,.int c]=>if i=0/\0<=j/\j<=1000/\1<=c/\c<=1000 then .ok (zdN j c) S1 else .bad | _=>.bad) | .exc c S=>.exc c S | .bad=>.bad
noncomputable def zll:Out (List D)->Out D | .ok ys S2=>if small ys.length then .ok (.lst ys) S2 else .bad | _=>.bad
noncomputable def zqc(tg:Tg)(c elt:Fe)(ρ0:Env):Out (List D)->Out D | .ok ds S1=>zll (zbL tg c elt ρ0 ds S1) | .exc c S=>.exc c S | .bad=>.bad
noncomputable def zx5:Option (Option (Bool×D))->Option (Bool×D) | some (some (false,d))=>some (false,d) | _=>none
noncomputable def zuf(ρ:Env)(i:Nat):Option (Option (Bool×D))->Env | some (some (true,d))=>ρ.set i (some (false,d)) | _=>ρ
noncomputable def zub(own:Bool):Fo->Out D | .rt d S'=>.ok d S' | .nx _ S'=>if own then .bad else .ok .non S' | .ex c _ S'=>.exc c S' | _=>.bad
noncomputable def kRz(c:Str)(ρ:Env):Out (List D)->Fo | .ok ds S'=>if small ds.length then .ex c ρ S' else .bad | .exc x S'=>.ex x ρ S' | .bad=>.bad
noncomputable def zuc(u:List D->D->Option D)(l:List D):Out D->Out D | .ok d S=>Out.of (u l d) S | .exc c S=>.exc c S | .bad=>.bad
noncomputable def kMt(u:List D->D->Option D)(f:Fe)(ρ:Env)(S:Sto):Option (Option (Bool×D))->Out D | some (some (_,.lst l))=>zuc u l (f ρ S) | _=>.bad
section
variable{ρ:Env}{S:Sto}{f g h k c:Fe}{a b:Fs}
@[simp] noncomputable def zyJ{u:List D->D->Option D}{i:Nat}:eMt u i f ρ S=kMt u f ρ S ρ[i]?:=by
 show (match ρ[i]? with | some (some (_,.lst l))=>(f ρ S).bind fun d S1=>Out.of (u l d) S1 | _=>.bad)=_
 cases ρ[i]? with
 | none=>rfl
 | some o=>cases o with
  | none=>rfl
  | some p =>
   obtain ⟨b,d⟩:=p
   cases d with
   | lst l=>show ((f ρ S).bind fun d S1=>Out.of (u l d) S1)=zuc u l (f ρ S);cases f ρ S<;>rfl
   | _=>rfl
@[simp] noncomputable def zz3{u:List D->D->Option D}{o:Bool}{l:List D}:kMt u f ρ S (some (some (o,.lst l)))=zuc u l (f ρ S):=(rfl)
@[simp] noncomputable def zzk{u:List D->D->Option D}{l:List D}{d:D}:zuc u l (.ok d S)=Out.of (u l d) S:=(rfl)
@[simp] noncomputable def zq4:zah a b ρ S=(a ρ S).seq b:=by
 show (match a ρ S with | .nx ρ' S'=>b ρ' S' | o=>o)=_
 cases a ρ S<;>rfl
@[simp] noncomputable def zxr:(Fo.nx ρ S).seq b=b ρ S:=(rfl)
@[simp] noncomputable def zsX{d:D}:(Fo.rt d S).seq b=.rt d S:=(rfl)
@[simp] noncomputable def zxq:(Fo.bk ρ S).seq b=.bk ρ S:=(rfl)
@[simp] noncomputable def zxp:(Fo.ct ρ S).seq b=.ct ρ S:=(rfl)
@[simp] noncomputable def zxo{x:Str}:(Fo.ex x ρ S).seq b=.ex x ρ S:=(rfl)
@[simp] noncomputable def zxn:Fo.bad.seq b=.bad:=(rfl)
@[simp] noncomputable def zuC:zlK ρ S=.ok (zd1 []) S:=(rfl)
noncomputable def zkn{i:Nat}{o:Bool}{ds:List (D×D)}(h:ρ[i]?=some (some (o,zd1 ds))):zgP i ρ=some (o,ds):=by
 unfold zgP;rw [h];rfl
noncomputable def ztl{i:Nat}{o:Bool}{ds:List (D×D)}{f g:Fe}{k z:D}{ks:List Key}{S1 S2:Sto}(h:ρ[i]?=some (some (o,zd1 ds)))(hf:f ρ S=.ok k S1)(hk:zbe k=some ks)(hg:g ρ S1=.ok z S2):zfz i f g ρ S=.ok ((zeq ds ks).getD z) S2:=by
 unfold zfz;rw [zkn h];dsimp only;rw [hf];dsimp only [Out.bind];rw [hg];dsimp only [Out.bind];rw [hk]
noncomputable def zsa{i:Nat}{ds:List (D×D)}{fk fe:Fe}{k d:D}{ks:List Key}{S1 S2:Sto}(h:ρ[i]?=some (some (true,zd1 ds)))(he:fe ρ S=.ok d S1)(hf:fk ρ S1=.ok k S2)(hk:zbe k=some ks)(hl:ds.length<=100000):zhI i fk fe ρ S=.nx (ρ.set i (some (true,zd1 (zjr ds ks d)))) S2:=by
 unfold zhI;rw [zkn h];dsimp only;rw [he];dsimp only;rw [hf];dsimp only;rw [hk];dsimp only;rw [if_pos (show small ds.length=true from yaM hl)]
@[simp] noncomputable def zuw{is:List Nat}:sFz is a ρ S=a (frz is ρ) S:=(rfl)
@[simp] noncomputable def zq9:frz [] ρ=ρ:=(rfl)
@[simp] noncomputable def zq8{i:Nat}{is:List Nat}:frz (i::is) ρ=frz is (frz1 ρ i):=(rfl)
@[simp] noncomputable def zuA(i:Nat):frz1 ρ i=zuf ρ i ρ[i]?:=(rfl)
@[simp] noncomputable def zxF{i:Nat}{d:D}:zuf ρ i (some (some (true,d)))=ρ.set i (some (false,d)):=(rfl)
@[simp] noncomputable def zs1{i:Nat}{d:D}:zuf ρ i (some (some (false,d)))=ρ:=(rfl)
@[simp] noncomputable def zxE{i:Nat}:zuf ρ i (some none)=ρ:=(rfl)
@[simp] noncomputable def zyp:sNx ρ S=.nx ρ S:=(rfl)
@[simp] noncomputable def zyr:sBk ρ S=.bk ρ S:=(rfl)
@[simp] noncomputable def zww{i:Nat}{o:Bool}:zaG i o f ρ S=zvT i o ρ (f ρ S):=(rfl)
@[simp] noncomputable def zxQ{i:Nat}{o:Bool}{d:D}:zvT i o ρ (.ok d S)=.nx (ρ.set i (some (o,d))) S:=(rfl)
@[simp] noncomputable def zxP{i:Nat}{o:Bool}{x:Str}:zvT i o ρ (.exc x S)=.ex x ρ S:=(rfl)
@[simp] noncomputable def zwv:zr2 f ρ S=zvR ρ (f ρ S):=(rfl)
@[simp] noncomputable def zxJ{d:D}:zvR ρ (.ok d S)=.nx ρ S:=(rfl)
@[simp] noncomputable def zxI{x:Str}:zvR ρ (.exc x S)=.ex x ρ S:=(rfl)
@[simp] noncomputable def zq5:za3 f ρ S=zvP ρ (f ρ S):=(rfl)
@[simp] noncomputable def zs0{d:D}:zvP ρ (.ok d S)=.rt d S:=(rfl)
@[simp] noncomputable def zxx{x:Str}:zvP ρ (.exc x S)=.ex x ρ S:=(rfl)
@[simp] noncomputable def zuu:zmv ρ S=.rt .non S:=(rfl)
@[simp] noncomputable def zut{i:Nat}:zhH i ρ S=zs7 S ρ[i]?:=(rfl)
@[simp] noncomputable def zxw{d:D}:zs7 S (some (some (true,d)))=.rt d S:=(rfl)
@[simp] noncomputable def zyq:sIf c a b ρ S=zue a b ρ (c ρ S):=(rfl)
@[simp] noncomputable def zxD:zue a b ρ (.ok (.bl true) S)=a ρ S:=(rfl)
@[simp] noncomputable def zxC:zue a b ρ (.ok (.bl false) S)=b ρ S:=(rfl)
@[simp] noncomputable def zxB{x:Str}:zue a b ρ (.exc x S)=.ex x ρ S:=(rfl)
@[simp] noncomputable def zwx{i:Nat}:zhK i f ρ S=zx7 i f ρ S ρ[i]?:=(rfl)
@[simp] noncomputable def zzF{i:Nat}{l:List D}:zx7 i f ρ S (some (some (true,.lst l)))=zni i ρ l (f ρ S):=(rfl)
@[simp] noncomputable def zxS{i:Nat}{l:List D}{d:D}:zni i ρ l (.ok d S)=if small l.length then .nx (ρ.set i (some (true,.lst (l++[d])))) S else .bad:=(rfl)
@[simp] noncomputable def zxR{i:Nat}{l:List D}{x:Str}:zni i ρ l (.exc x S)=.ex x ρ S:=(rfl)
@[simp] noncomputable def zwu{i:Nat}:zqW i f ρ S=zx4 i f ρ S ρ[i]?:=(rfl)
@[simp] noncomputable def zzx{i:Nat}{l:List D}:zx4 i f ρ S (some (some (true,.lst l)))=zp9 i ρ l (f ρ S):=(rfl)
@[simp] noncomputable def zxH{i:Nat}{l k:List D}:zp9 i ρ l (.ok (.lst k) S)=if small (l.length+k.length) then .nx (ρ.set i (some (true,.lst (l++k)))) S else .bad:=(rfl)
@[simp] noncomputable def zuy{t:Tg}:zga t f ρ S=zqe t ρ (f ρ S):=by
 unfold zga zqe
 cases f ρ S with
 | ok d S'=>dsimp only;cases t.put ρ d<;>rfl
 | exc c S'=>rfl
 | bad=>rfl
@[simp] noncomputable def zxO{t:Tg}{d:D}:zqe t ρ (.ok d S)=zvQ S (t.put ρ d):=(rfl)
@[simp] noncomputable def zzg{ρ':Env}:zvQ S (some ρ')=.nx ρ' S:=(rfl)
@[simp] noncomputable def zwt{t:Tg}{it:Fi}:zfq t it a ρ S=zx2 t a ρ (it ρ S):=(rfl)
@[simp] noncomputable def zzt{t:Tg}{ds:List D}:zx2 t a ρ (.ok ds S)=zgs t a ds ρ S:=(rfl)
@[simp] noncomputable def zyo{x:Str}{fs:List Fe}:sRz x fs ρ S=kRz x ρ (zak fs ρ S):=(rfl)
@[simp] noncomputable def zz2{x:Str}{ds:List D}:kRz x ρ (.ok ds S)=if small ds.length then .ex x ρ S else .bad:=(rfl)
@[simp] noncomputable def zwD{i:Nat}{d:D}:(Tg.one i).put ρ d=some (ρ.set i (some (false,d))):=(rfl)
@[simp] noncomputable def zwA{is:List Nat}{ds:List D}:(Tg.tup is).put ρ (.tup ds)=zel is ds ρ:=(rfl)
@[simp] noncomputable def zwC{i:Nat}{is:List Nat}{d:D}{ds:List D}:zel (i::is) (d::ds) ρ=zel is ds (ρ.set i (some (false,d))):=(rfl)
@[simp] noncomputable def zwB:zel [] [] ρ=some ρ:=(rfl)
@[simp] noncomputable def zra{i:Nat}:zac i ρ S=zxV S ρ[i]?:=(rfl)
@[simp] noncomputable def zvG{d:D}:zxV S (some (some (false,d)))=.ok d S:=(rfl)
@[simp] noncomputable def zrc{i:Nat}:zag i ρ S=zx6 S ρ[i]?:=(rfl)
@[simp] noncomputable def zvM{o:Bool}{d:D}:zx6 S (some (some (o,d)))=.ok d S:=(rfl)
@[simp] noncomputable def zrb{d:D}:zae d ρ S=.ok d S:=(rfl)
@[simp] noncomputable def zyG{u:D->Option D}:eUn u f ρ S=kUn u (f ρ S):=by
 unfold eUn;cases f ρ S<;>rfl
@[simp] noncomputable def zzb{u:D->Option D}{d:D}:kUn u (.ok d S)=Out.of (u d) S:=(rfl)
@[simp] noncomputable def zza{u:D->Option D}{x:Str}:kUn u (.exc x S)=.exc x S:=(rfl)
@[simp] noncomputable def zwX{u:D->D->Option D}:zaf u f g ρ S=zvS u g ρ (f ρ S):=by
 unfold zaf
 cases f ρ S with
 | ok a S1=>show ((g ρ S1).bind fun b S2=>Out.of (u a b) S2)=zlm u a (g ρ S1);cases g ρ S1<;>rfl
 | exc c S=>rfl
 | bad=>rfl
@[simp] noncomputable def zxN{u:D->D->Option D}{d:D}:zvS u g ρ (.ok d S)=zlm u d (g ρ S):=(rfl)
@[simp] noncomputable def zxM{u:D->D->Option D}{x:Str}:zvS u g ρ (.exc x S)=.exc x S:=(rfl)
@[simp] noncomputable def zxL{u:D->D->Option D}{d e:D}:zlm u d (.ok e S)=Out.of (u d e) S:=(rfl)
@[simp] noncomputable def zxK{u:D->D->Option D}{d:D}{x:Str}:zlm u d (.exc x S)=.exc x S:=(rfl)
@[simp] noncomputable def zyL:eIf c f g ρ S=kIf f g ρ (c ρ S):=by
 unfold eIf;cases c ρ S<;>rfl
@[simp] noncomputable def zzr:kIf f g ρ (.ok (.bl true) S)=f ρ S:=(rfl)
@[simp] noncomputable def zzq:kIf f g ρ (.ok (.bl false) S)=g ρ S:=(rfl)
@[simp] noncomputable def zwY:zeF f g ρ S=zvU g ρ (f ρ S):=by
 unfold zeF;cases f ρ S<;>rfl
@[simp] noncomputable def zxU:zvU g ρ (.ok (.bl true) S)=g ρ S:=(rfl)
@[simp] noncomputable def zxT:zvU g ρ (.ok (.bl false) S)=.ok (.bl false) S:=(rfl)
@[simp] noncomputable def zyI:eOr f g ρ S=kOr g ρ (f ρ S):=by
 unfold eOr;cases f ρ S<;>rfl
@[simp] noncomputable def zzi:kOr g ρ (.ok (.bl true) S)=.ok (.bl true) S:=(rfl)
@[simp] noncomputable def zzh:kOr g ρ (.ok (.bl false) S)=g ρ S:=(rfl)
@[simp] noncomputable def zoL:zak [] ρ S=.ok [] S:=(rfl)
@[simp] noncomputable def zoM{fs:List Fe}:zak (f::fs) ρ S=zqb fs ρ (f ρ S):=by
 show ((f ρ S).bind fun d S1=>(zak fs ρ S1).bind fun ds S2=>.ok (d::ds) S2)=_
 cases f ρ S with
 | ok a S1=>show ((zak fs ρ S1).bind fun ds S2=>.ok (a::ds) S2)=zhd a (zak fs ρ S1);cases zak fs ρ S1<;>rfl
 | exc c S=>rfl
 | bad=>rfl
@[simp] noncomputable def zp3{fs:List Fe}{d:D}:zqb fs ρ (.ok d S)=zhd d (zak fs ρ S):=(rfl)
@[simp] noncomputable def zvJ{fs:List Fe}{x:Str}:zqb fs ρ (.exc x S)=.exc x S:=(rfl)
@[simp] noncomputable def zp2{d:D}{ds:List D}:zhd d (.ok ds S)=.ok (d::ds) S:=(rfl)
@[simp] noncomputable def zvI{d:D}{x:Str}:zhd d (.exc x S)=.exc x S:=(rfl)
@[simp] noncomputable def zwS{fs:List Fe}:zbC fs ρ S=zxW (zak fs ρ S):=by
 unfold zbC;cases zak fs ρ S<;>rfl
@[simp] noncomputable def zzc{ds:List D}:zxW (.ok ds S)=if small ds.length then .ok (.tup ds) S else .bad:=(rfl)
@[simp] noncomputable def zwU{fs:List Fe}:zfn fs ρ S=zxZ (zak fs ρ S):=by
 unfold zfn;cases zak fs ρ S<;>rfl
@[simp] noncomputable def zzm{ds:List D}:zxZ (.ok ds S)=if small ds.length then .ok (.lst ds) S else .bad:=(rfl)
@[simp] noncomputable def zoN{u:List D->Option D}{fs:List Fe}:zau u fs ρ S=zqd u (zak fs ρ S):=by
 unfold zau;cases zak fs ρ S<;>rfl
@[simp] noncomputable def zp5{u:List D->Option D}{ds:List D}:zqd u (.ok ds S)=Out.of (u ds) S:=(rfl)
@[simp] noncomputable def zvL{u:List D->Option D}{x:Str}:zqd u (.exc x S)=.exc x S:=(rfl)
@[simp] noncomputable def zyM{r:List D->Sto->Out D}{fs:List Fe}:eFn r fs ρ S=kFn r (zak fs ρ S):=by
 unfold eFn;cases zak fs ρ S<;>rfl
@[simp] noncomputable def zzv{r:List D->Sto->Out D}{ds:List D}:kFn r (.ok ds S)=r ds S:=(rfl)
@[simp] noncomputable def zzu{r:List D->Sto->Out D}{x:Str}:kFn r (.exc x S)=.exc x S:=(rfl)
@[simp] noncomputable def zt5{u v:D->D->Option D}:zcU u v f g h ρ S=zom u v g h ρ (f ρ S):=by
 show ((f ρ S).bind fun a S1=>(g ρ S1).bind fun b S2=>match (u a b).bind isB with
  | some true=>(h ρ S2).bind fun c S3=>Out.of (v b c) S3
  | some false=>.ok (.bl false) S2
  | none=>.bad)=_
 cases f ρ S with
 | ok a S1 =>
  show ((g ρ S1).bind fun b S2=>match (u a b).bind isB with
   | some true=>(h ρ S2).bind fun c S3=>Out.of (v b c) S3
   | some false=>.ok (.bl false) S2
   | none=>.bad)=zgn u v h ρ a (g ρ S1)
  cases g ρ S1 with
  | ok b S2 =>
   show (match (u a b).bind isB with
    | some true=>(h ρ S2).bind fun c S3=>Out.of (v b c) S3
    | some false=>.ok (.bl false) S2
    | none=>.bad)=ze7 v h ρ b S2 (u a b)
   cases hu:u a b with
   | none=>rfl
   | some d =>
    show (match isB d with
     | some true=>(h ρ S2).bind fun c S3=>Out.of (v b c) S3
     | some false=>.ok (.bl false) S2
     | none=>.bad)=(match isB d with | some true=>ze8 v b (h ρ S2) | some false=>.ok (.bl false) S2 | none=>.bad)
    cases hb:isB d with
    | none=>rfl
    | some x=>cases x with
     | true=>show ((h ρ S2).bind fun c S3=>Out.of (v b c) S3)=ze8 v b (h ρ S2);cases h ρ S2<;>rfl
     | false=>rfl
  | exc c S=>rfl
  | bad=>rfl
 | exc c S=>rfl
 | bad=>rfl
@[simp] noncomputable def zzE{u v:D->D->Option D}{d:D}:zom u v g h ρ (.ok d S)=zgn u v h ρ d (g ρ S):=(rfl)
@[simp] noncomputable def zzD{u v:D->D->Option D}{d e:D}:zgn u v h ρ d (.ok e S)=ze7 v h ρ e S (u d e):=(rfl)
@[simp] noncomputable def zzC{v:D->D->Option D}{e:D}:ze7 v h ρ e S (some (.bl true))=ze8 v e (h ρ S):=(rfl)
@[simp] noncomputable def zzB{v:D->D->Option D}{e:D}:ze7 v h ρ e S (some (.bl false))=.ok (.bl false) S:=(rfl)
@[simp] noncomputable def zzA{v:D->D->Option D}{d e:D}:ze8 v e (.ok d S)=Out.of (v e d) S:=(rfl)
@[simp] noncomputable def zt4:zcV none ρ S=.ok none S:=(rfl)
@[simp] noncomputable def zt3:zcV (some f) ρ S=zx0 (f ρ S):=by
 show ((f ρ S).bind fun d S1=>match d with | .int i=>.ok (some i) S1 | _=>.bad)=_
 cases f ρ S with
 | ok d S'=>cases d<;>rfl
 | exc c S'=>rfl
 | bad=>rfl
@[simp] noncomputable def zzp{i:Int}:zx0 (.ok (.int i) S)=.ok (some i) S:=(rfl)
@[simp] noncomputable def zyH{l u:Option Fe}:eSl f l u ρ S=kSl l u ρ (f ρ S):=by
 unfold eSl
 cases f ρ S with
 | ok d S1 =>
  show ((zcV l ρ S1).bind fun l S2=>(zcV u ρ S2).bind fun u S3=>Out.of (slD d l u) S3)=zua d u ρ (zcV l ρ S1)
  cases zcV l ρ S1 with
  | ok l S2=>show ((zcV u ρ S2).bind fun u S3=>Out.of (slD d l u) S3)=zt9 d l (zcV u ρ S2);cases zcV u ρ S2<;>rfl
  | exc c S=>rfl
  | bad=>rfl
 | exc c S=>rfl
 | bad=>rfl
@[simp] noncomputable def zz1{l u:Option Fe}{d:D}:kSl l u ρ (.ok d S)=zua d u ρ (zcV l ρ S):=(rfl)
@[simp] noncomputable def zze{u:Option Fe}{d:D}{l:Option Int}:zua d u ρ (.ok l S)=zt9 d l (zcV u ρ S):=(rfl)
@[simp] noncomputable def zzd{d:D}{l u:Option Int}:zt9 d l (.ok u S)=Out.of (slD d l u) S:=(rfl)
@[simp] noncomputable def zuz:zay f ρ S=zlk (f ρ S):=by
 show ((f ρ S).bind fun d S1=>match d with | .lst l=>.ok l S1 | .tup l=>.ok l S1 | _=>.bad)=_
 cases f ρ S with
 | ok d S'=>cases d<;>rfl
 | exc c S'=>rfl
 | bad=>rfl
@[simp] noncomputable def zzo{l:List D}:zlk (.ok (.lst l) S)=.ok l S:=(rfl)
@[simp] noncomputable def zzn{l:List D}:zlk (.ok (.tup l) S)=.ok l S:=(rfl)
@[simp] noncomputable def zwR:zjN f ρ S=zqa (zak [f] ρ S):=by
 show ((zak [f] ρ S).bind fun ds S1=>match ds with | [.lst l]=>.ok (zcy l) S1 | [.tup l]=>.ok (zcy l) S1 | _=>.bad)=_
 cases zak [f] ρ S with
 | ok ds S' =>
  cases ds with
  | nil=>rfl
  | cons d ds=>cases ds with
   | nil=>cases d<;>rfl
   | cons e ds=>cases d<;>rfl
 | exc c S'=>rfl
 | bad=>rfl
@[simp] noncomputable def zzz{l:List D}:zqa (.ok [.lst l] S)=.ok (zcy l) S:=(rfl)
@[simp] noncomputable def zzy{l:List D}:zqa (.ok [.tup l] S)=.ok (zcy l) S:=(rfl)
@[simp] noncomputable def zyj:zox f g ρ S=zs3 (zak [f,g] ρ S):=by
 unfold zox;cases zak [f,g] ρ S<;>rfl
@[simp] noncomputable def zxj{l k:List D}:zs3 (.ok [.tup l,.tup k] S)=.ok (zfB l k) S:=(rfl)
@[simp] noncomputable def zxi{l k:List D}:zs3 (.ok [.lst l,.tup k] S)=.ok (zfB l k) S:=(rfl)
@[simp] noncomputable def zxh{l k:List D}:zs3 (.ok [.tup l,.lst k] S)=.ok (zfB l k) S:=(rfl)
@[simp] noncomputable def zxg{l k:List D}:zs3 (.ok [.lst l,.lst k] S)=.ok (zfB l k) S:=(rfl)
@[simp] noncomputable def zwz:zdG f ρ S=zs6 (zak [f] ρ S):=by
 unfold zdG;cases zak [f] ρ S<;>rfl
@[simp] noncomputable def zxv{j:Int}:zs6 (.ok [.int j] S)=if -1000000<=j/\j<=1000000 then .ok (zaH 0 j) S else .bad:=(rfl)
@[simp] noncomputable def zwy:zlJ f g ρ S=zs5 (zak [f,g] ρ S):=by
 unfold zlJ;cases zak [f,g] ρ S<;>rfl
@[simp] noncomputable def zxu{i j:Int}:zs5 (.ok [.int i,.int j] S)=if (-1000000<=i/\i<=1000000)/\-1000000<=j/\j<=1000000 then .ok (zaH i j) S else .bad:=(rfl)
@[simp] noncomputable def zq6:zjM f g h ρ S=zs4 (zak [f,g,h] ρ S):=by
 unfold zjM;cases zak [f,g,h] ρ S<;>rfl
@[simp] noncomputable def zsZ{i j m:Int}:zs4 (.ok [.int i,.int j,.int m] S)=if i=0/\0<=j/\j<=1000/\1<=m/\m<=1000 then .ok (zdN j m) S else .bad:=(rfl)
@[simp] noncomputable def zrd{n:Nat}{t:Tg}{it:Fi}{caps:List Nat}:zbX n t it c f caps ρ S=zqc t c f (zbT n caps ρ) (it ρ S):=by
 unfold zbX
 cases it ρ S with
 | ok ds S' =>
  simp only [Out.bind,zqc]
  cases zbL t c f (zbT n caps ρ) ds S'<;>rfl
 | exc c S'=>rfl
 | bad=>rfl
@[simp] noncomputable def zs2{t:Tg}{ρ0:Env}{ds:List D}:zqc t c f ρ0 (.ok ds S)=zll (zbL t c f ρ0 ds S):=(rfl)
@[simp] noncomputable def zp4{ys:List D}:zll (.ok ys S)=if small ys.length then .ok (.lst ys) S else .bad:=(rfl)
@[simp] noncomputable def zyk:zdl ρ S=.ok (.bl true) S:=(rfl)
@[simp] noncomputable def zj5{n:Nat}{caps:List Nat}:zbT n caps ρ=List.replicate n none++caps.map (ztI ρ):=(rfl)
@[simp] noncomputable def zre{i:Nat}:ztI ρ i=zx5 ρ[i]?:=(rfl)
@[simp] noncomputable def zvK{d:D}:zx5 (some (some (false,d)))=some (false,d):=(rfl)
noncomputable def zat{n:Nat}{own:Bool}{fs:Fs}{ds:List D}:zbD n own fs ds S=zub own (fs (ds.map (fun d=>some (false,d))++List.replicate (n-ds.length) none) S):=(rfl)
@[simp] noncomputable def zsY{own:Bool}{d:D}:zub own (.rt d S)=.ok d S:=(rfl)
@[simp] noncomputable def zxt:zub false (.nx ρ S)=.ok .non S:=(rfl)
@[simp] noncomputable def zxs{own:Bool}{x:Str}:zub own (.ex x ρ S)=.exc x S:=(rfl)
@[simp] noncomputable def zyE{b:Bool}:isB (.bl b)=some b:=(rfl)
@[simp] noncomputable def zys{b:Bool}:zez (.bl b)=some (.bl (!b)):=(rfl)
@[simp] noncomputable def zyt{i:Int}:zmg (.int i)=some (.int (-i)):=(rfl)
@[simp] noncomputable def zw0{i j:Int}:zby (.int i) (.int j)=some (.int (i+j)):=(rfl)
@[simp] noncomputable def zn0{x y:List D}:zby (.tup x) (.tup y)=if small (x.length+y.length) then some (.tup (x++y)) else none:=(rfl)
@[simp] noncomputable def zwZ{x y:List D}:zby (.lst x) (.lst y)=if small (x.length+y.length) then some (.lst (x++y)) else none:=(rfl)
@[simp] noncomputable def zyl{i j:Int}:zmd (.int i) (.int j)=some (.int (i-j)):=(rfl)
@[simp] noncomputable def zyv{i j:Int}:zgF (.int i) (.int j)=if zcr i||zcr j then some (.int (i*j)) else none:=(rfl)
@[simp] noncomputable def zyw{i j:Int}:zjZ (.int i) (.int j)=if 0<j then some (.int (i % j)) else none:=(rfl)
@[simp] noncomputable def zyN{i j:Int}:ztx (.int i) (.int j)=if 0<j/\j<1073741824 then some (.int (i / j)) else none:=(rfl)
@[simp] noncomputable def zzW{i j:Int}:ltD (.int i) (.int j)=some (.bl (decide (i<j))):=(rfl)
@[simp] noncomputable def zzX{i j:Int}:leD (.int i) (.int j)=some (.bl (decide (i<=j))):=(rfl)
@[simp] noncomputable def zzY{i j:Int}:gtD (.int i) (.int j)=some (.bl (decide (j<i))):=(rfl)
@[simp] noncomputable def zzZ{i j:Int}:geD (.int i) (.int j)=some (.bl (decide (j<=i))):=(rfl)
@[simp] noncomputable def zyA{l:List D}{i:Int}:ixD (.lst l) (.int i)=atI l i:=(rfl)
@[simp] noncomputable def zyy{l:List D}{i:Int}:ixD (.tup l) (.int i)=atI l i:=(rfl)
@[simp] noncomputable def zyz{l:List Int}{i:Int}:ixD (.scr l) (.int i)=(atI l i).map D.int:=(rfl)
@[simp] noncomputable def zwQ{l:List D}:zeA [.lst l]=some (.int l.length):=(rfl)
@[simp] noncomputable def zq7{l:List D}:zeA [.tup l]=some (.int l.length):=(rfl)
@[simp] noncomputable def zwP{l:List Int}:zeA [.scr l]=some (.int l.length):=(rfl)
@[simp] noncomputable def zq3{l:List D}:zbv [.lst l]=some (.tup l):=(rfl)
@[simp] noncomputable def zwr{l:List D}:zbv [.tup l]=some (.tup l):=(rfl)
@[simp] noncomputable def zwO{l:List D}:zjB [.lst l]=some (.lst l):=(rfl)
@[simp] noncomputable def zwN{l:List D}:zjB [.tup l]=some (.lst l):=(rfl)
@[simp] noncomputable def zyC{d:D}:znk d .non=some (.bl (zc0 d)):=(rfl)
@[simp] noncomputable def zwE{d:D}:zk7 d .non=some (.bl (!zc0 d)):=(rfl)
@[simp] noncomputable def zwK:zc0 .non=true:=(rfl)
@[simp] noncomputable def zwJ{i:Int}:zc0 (.int i)=false:=(rfl)
@[simp] noncomputable def zwI{l:List D}:zc0 (.tup l)=false:=(rfl)
@[simp] noncomputable def zym{l:List D}{x y:Option Int}:slD (.tup l) x y=some (.tup (zgH l x y)):=(rfl)
@[simp] noncomputable def zyn{l:List D}{x y:Option Int}:slD (.lst l) x y=some (.lst (zgH l x y)):=(rfl)
@[simp] noncomputable def zwF{x y:Bool}:zm1 (.bl x) (.bl y)=some (.bl (!decide (x=y))):=(rfl)
@[simp] noncomputable def zyx{i j:Int}:zqZ [.int i,.int j]=some (.int (if j > i then j else i)):=(rfl)
@[simp] noncomputable def zwM{i j:Int}:zsN [.int i,.int j]=some (.int (if j<i then j else i)):=(rfl)
@[simp] noncomputable def zhE{n:Nat}:small n=decide (n<=100000):=(rfl)
noncomputable def zbQ{α:Type}(xs:List α)(j:Nat):atI xs (j:Int)=xs[j]?:=by
 unfold atI ixN
 by_cases h:j<xs.length
 ·simp [h]
 ·simp [h]
@[simp] noncomputable def zun{α:Type}(xs:List α):atI xs 0=xs[0]?:=zbQ xs 0
@[simp] noncomputable def zwh{α:Type}(xs:List α):atI xs 1=xs[1]?:=zbQ xs 1
@[simp] noncomputable def zwg{α:Type}(xs:List α):atI xs 2=xs[2]?:=zbQ xs 2
@[simp] noncomputable def ztQ{α:Type}(xs:List α):atI xs 3=xs[3]?:=zbQ xs 3
noncomputable def zeH{α:Type}{xs:List α}{i:Int}(h:0<=i):atI xs i=xs[i.toNat]?:=by
 obtain ⟨n,rfl⟩:=ybR h;exact zbQ xs n
end
noncomputable def zcq{tg:Tg}{body:Fs}{ds:List D}{S:Sto}(Iv:Nat->Env->Prop)(step:∀k d ρ,ds[k]?=some d->Iv k ρ->∃ρ1 ρ2,tg.put ρ d=some ρ1/\body ρ1 S=.nx ρ2 S/\Iv (k+1) ρ2){ρ:Env}(h0:Iv 0 ρ):∃ρ',zgs tg body ds ρ S=.nx ρ' S/\Iv ds.length ρ':=by
 have go:∀(n:Nat) (es:List D) (k:Nat) (ρ:Env),es.length=n->ds.drop k=es->k+n=ds.length->Iv k ρ->∃ρ',zgs tg body es ρ S=.nx ρ' S/\Iv ds.length ρ':=by
  intro n
  induction n with
  | zero =>
   intro es k ρ hl he hk hi;obtain rfl:es=[]:=ybu hl;exact ⟨ρ,rfl,by rw [show ds.length=k by omega];exact hi⟩
  | succ n ih =>
   intro es k ρ hl he hk hi
   cases es with
   | nil=>cases hl
   | cons d es =>
    have hd:ds[k]?=some d:=by
     have:=congrArg (fun l=>l[0]?) he;rw [ybh] at this;simpa using this
    obtain ⟨ρ1,ρ2,e1,e2,hi2⟩:=step k d ρ hd hi;obtain ⟨ρ',e3,e4⟩:=ih es (k+1) ρ2 (by simpa using hl) (by rw [<-List.drop_drop,he];rfl) (by omega) hi2;refine ⟨ρ',?_,e4⟩;unfold zgs;rw [e1];dsimp only;rw [e2];exact e3
 exact go ds.length ds 0 ρ rfl (by simp) (by omega) h0
theorem zhq{tg:Tg}{c elt:Fe}{ρ0:Env}{S:Sto}{g:D->D}{p:D->Bool}:∀{ds:List D},(∀d∈ds,∃ρ1,tg.put ρ0 d=some ρ1/\c ρ1 S=.ok (.bl (p d)) S/\(p d=true->elt ρ1 S=.ok (g d) S))->zbL tg c elt ρ0 ds S=.ok ((ds.filter p).map g) S
 | [],_=>rfl
 | d::ds,h=>by
  obtain ⟨ρ1,e1,e2,e3⟩:=h d yax;have ih:=zhq (ds:=ds) fun x hx=>h x (yap _ hx)
  unfold zbL;rw [e1];dsimp only;rw [e2]
  cases hp:p d with
  | true=>simp [e3 hp,ih,hp]
  | false=>simp [ih,hp]
noncomputable def zaY{tg:Tg}{elt:Fe}{ρ0:Env}{S:Sto}{g:D->D}{ds:List D}(h:∀d∈ds,∃ρ1,tg.put ρ0 d=some ρ1/\elt ρ1 S=.ok (g d) S):zbL tg zdl elt ρ0 ds S=.ok (ds.map g) S:=by
 have:=zhq (c:=zdl) (p:=fun _=>true) (tg:=tg) (elt:=elt) (ρ0:=ρ0) (S:=S) (g:=g) (ds:=ds) fun d hd=>by
  obtain ⟨ρ1,e1,e2⟩:=h d hd;exact ⟨ρ1,e1,rfl,fun _=>e2⟩
 rw [this,List.filter_eq_self.mpr (fun _ _=>rfl)]
mutual
noncomputable def D.pl:D->Bool
 | .non=>true
 | .int _=>true
 | .str _=>true
 | .tup l=>D.pls l
 | .lst l=>D.pls l
 | _=>false
noncomputable def D.pls:List D->Bool
 | []=>true
 | d::l=>d.pl&&D.pls l
end
theorem D.pls_iff:∀{l:List D},D.pls l=true↔∀d∈l,d.pl=true
 | []=>by simp [D.pls]
 | d::l=>by simp [D.pls,D.pls_iff (l:=l)]
mutual
theorem zi1:∀(d e:D),d.pl=true->e.pl=true->(d.py.eqv e.py=true↔d=e)
 | .non,e,_,h=>by cases e<;>simp [D.py,PyData.eqv,D.pl] at h ⊢
 | .int i,e,_,h=>by cases e<;>simp [D.py,PyData.eqv,D.pl] at h ⊢
 | .str x,e,_,h=>by cases e<;>simp [D.py,PyData.eqv,D.pl] at h ⊢
 | .tup l,e,hd,h=>by
  cases e with
  | tup k =>
   simp only [D.py,PyData.eqv,D.pl] at hd h ⊢;rw [zh5 l k hd h];simp
  | _=>simp [D.py,PyData.eqv,D.pl] at h ⊢
 | .lst l,e,hd,h=>by
  cases e with
  | lst k =>
   simp only [D.py,PyData.eqv,D.pl] at hd h ⊢;rw [zh5 l k hd h];simp
  | _=>simp [D.py,PyData.eqv,D.pl] at h ⊢
 | .bl _,_,hd,_=>by simp [D.pl] at hd
 | .dic _,_,hd,_=>by simp [D.pl] at hd
 | .ref _,_,hd,_=>by simp [D.pl] at hd
 | .exc _,_,hd,_=>by simp [D.pl] at hd
 | .scr _,_,hd,_=>by simp [D.pl] at hd
theorem zh5:∀(l k:List D),D.pls l=true->D.pls k=true->(PyData.eqvAll (D.pys l) (D.pys k)=true↔l=k)
 | [],[],_,_=>by simp [D.pys,PyData.eqvAll]
 | [],_::_,_,_=>by simp [D.pys,PyData.eqvAll]
 | _::_,[],_,_=>by simp [D.pys,PyData.eqvAll]
 | d::l,e::k,h1,h2=>by
  simp only [D.pls,yab] at h1 h2;simp only [D.pys,PyData.eqvAll,yab,List.cons.injEq];rw [zi1 d e h1.1 h2.1,zh5 l k h1.2 h2.2]
end
end S2
namespace S2
open PySem
open L2 hiding D
@[simp] noncomputable def zqo{n:Nat}{i:Int}:D.fit n (.int i)=true:=by cases n<;>rfl
@[simp] noncomputable def zv7{n:Nat}:D.fit n .non=true:=by cases n<;>rfl
@[simp] noncomputable def zv6{n:Nat}{l:List D}:D.fit (n+1) (.tup l)=D.fits n l:=(rfl)
@[simp] noncomputable def zv8{n:Nat}{l:List D}:D.fit (n+1) (.lst l)=D.fits n l:=(rfl)
@[simp] noncomputable def zui{n:Nat}:D.fits n []=true:=by cases n<;>rfl
@[simp] noncomputable def ztp{n:Nat}{d:D}{l:List D}:D.fits n (d::l)=(d.fit n&&D.fits n l):=by cases n<;>rfl
@[simp] noncomputable def zyF{i j:Int}:eqD (.int i) (.int j)=some (.bl (decide (i=j))):=by
 unfold eqD zfs;simp [D.py,PyData.eqv]
 cases h:(i == j)<;>simp_all
@[simp] noncomputable def zyu{i j:Int}:neD (.int i) (.int j)=some (.bl (!decide (i=j))):=by
 unfold neD zfs;simp [D.py,PyData.eqv]
 cases h:(i == j)<;>simp_all
noncomputable def zfS{l:List Int}:eqD (.scr l) (.lst [])=some (.bl (decide (l=[]))):=by
 cases l with
 | nil=>rfl
 | cons a l=>simp [eqD,D.fit,D.fits,zfs,D.py,D.pys,PyData.eqv,PyData.eqvAll]
noncomputable def zjR(l:List Int)(k:Int):Int:=if k<l.length then l.getD k.toNat 0 else if l=[] then 0 else l.getD (k % l.length).toNat 0*31+k
noncomputable def zb7(l:List Int)(k:Int)(many:Int):Int :=
 let d:=(zjR l k+6151*(k+1))*40692 % 2147483399
 (d*d+d / 31) % 2147483629 % many
noncomputable def zb6(l:List Int)(k:Int){many:Int}(h:0<many):0<=zb7 l k many/\zb7 l k many<many:=⟨Int.emod_nonneg _ (by omega),ycP _ h⟩
@[simp] noncomputable def zyc:zcr 31=true:=by decide
@[simp] noncomputable def zuj:zcr 6151=true:=by decide
@[simp] noncomputable def ztr:zcr 40692=true:=by decide
noncomputable def ztq{i:Int}(h0:-(2 ^ 64)<i)(h:i<2 ^ 64):zcr i=true:=by unfold zcr;simp;omega
noncomputable def zmA{l:List Int}{k:Int}{S:Sto}(hk:0<=k):zbG [.scr l,.int k] S=.ok (.int (zjR l k)) S:=by
 unfold zjR
 by_cases h:k<l.length
 ·have hx:l[k.toNat]?=some l[k.toNat]:=yac (by omega);rw [if_pos h,yae,hx];simp [zbG,zat,zcd,h,zeH hk,hx]
 ·by_cases h0:l=[]
  ·subst h0;simp [zbG,zat,zcd,zfS,show ¬ k<0 by omega]
  ·have hl:0<l.length:=by cases l with | nil=>exact absurd rfl h0 | cons _ _=>simp
   have hm0:0<=k % (l.length:Int):=Int.emod_nonneg _ (by omega);have hm1:k % (l.length:Int)<l.length:=ycP _ (by omega);have hx:l[(k % (l.length:Int)).toNat]?=some (l[(k % (l.length:Int)).toNat]'(by omega)):=yac (by omega);rw [if_neg h,if_neg h0,yae,hx];simp [zbG,zat,zcd,h,h0,zfS,zeH hm0,hx,hl]
noncomputable def zck{l:List Int}{k many:Int}{S:Sto}(hk:0<=k)(hm:0<many):zaD [.scr l,.int k,.int many] S=.ok (.int (zb7 l k many)) S:=by
 unfold zb7;have h0:0<=(zjR l k+6151*(k+1))*40692 % 2147483399:=Int.emod_nonneg _ (by omega);have h1:(zjR l k+6151*(k+1))*40692 % 2147483399<2147483399:=ycP _ (by omega);have hf:zcr ((zjR l k+6151*(k+1))*40692 % 2147483399)=true:=ztq (by omega) (by omega);simp [zaD,zat,zdE,zmA hk,hf,hm]
noncomputable def zab(t:List Int):D:=.tup (t.map D.int)
noncomputable def znn{t u:List Int}:t.map D.int=u.map D.int↔t=u:=by
 constructor
 ·intro h
  induction t generalizing u with
  | nil=>cases u with | nil=>rfl | cons _ _=>cases h
  | cons a t ih=>cases u with
   | nil=>cases h
   | cons b u =>
    simp only [yaq,List.cons.injEq,D.int.injEq] at h;rw [h.1,ih h.2]
 ·rintro rfl;rfl
noncomputable def zir{t u:List Int}:zab t=zab u↔t=u:=by unfold zab;rw [D.tup.injEq];exact znn
noncomputable def zmJ{t:List Int}:D.pls (t.map D.int)=true:=by rw [D.pls_iff];intro d hd;obtain ⟨i,_,rfl⟩:=yaw.mp hd;rfl
noncomputable def zgh{t:List Int}:(zab t).pl=true:=zmJ
noncomputable def zlE{n:Nat}{t:List Int}:D.fits n (t.map D.int)=true:=by rw [D.fits_iff];intro d hd;obtain ⟨i,_,rfl⟩:=yaw.mp hd;exact zqo
noncomputable def zeC{n:Nat}{t:List Int}:(zab t).fit (n+1)=true:=zlE
theorem zok{d:D}:∀{l:List D},d.pl=true->D.pls l=true->(zhC d l=true↔d∈l)
 | [],_,_=>by simp [zhC]
 | e::l,h,hl=>by
  simp only [D.pls,yab] at hl;have ih:=zok (d:=d) (l:=l) h hl.2;have e1:=zi1 e d hl.1 h;unfold zhC;simp only [List.any_cons,ycI,yav];unfold zhC at ih;rw [ih];unfold zfs;rw [e1]
  constructor<;>(intro z;rcases z with z | z<;>simp [z])
noncomputable def zg9{t:List Int}{ts:Z2}:zm2 (zab t) (.lst (ts.map zab))=some (.bl (!decide (t∈ts))):=by
 have f1:(zab t).fit 8=true:=zeC
 have f2:D.fits 8 (ts.map zab)=true:=by rw [D.fits_iff];intro d hd;obtain ⟨i,_,rfl⟩:=yaw.mp hd;exact zeC
 have p2:D.pls (ts.map zab)=true:=by rw [D.pls_iff];intro d hd;obtain ⟨i,_,rfl⟩:=yaw.mp hd;exact zgh
 have m:=zok (d:=zab t) zgh p2
 have:(zab t∈ts.map zab)↔t∈ts:=by
  rw [yaw];constructor
  ·rintro ⟨u,hu,e⟩;rw [<-zir.mp e];exact hu
  ·intro h;exact ⟨t,h,rfl⟩
 rw [this] at m;unfold zm2;simp only [zf8,f1,f2,Bool.and_self,yb4,Option.some.injEq,D.bl.injEq];congr 1
 by_cases h:t∈ts
 ·rw [m.mpr h];simp [h]
 ·cases hm:zhC (zab t) (ts.map zab)
  ·simp [h]
  ·exact absurd (m.mp hm) h
structure Tiles(most:Int)(ts:Z2):Prop where
 ne:1<=ts.length
 le:(ts.length:Int)<=most
 four:∀t∈ts,t.length=4
 col:∀t∈ts,∀c∈t,0<=c/\c<3
 nd:ts.Nodup
noncomputable def zcW{hi:Int}{k:Nat}{d:D}(h:(zaH 0 hi)[k]?=some d):d=.int k/\(k:Int)<hi:=by
 unfold zaH at h;rw [yao] at h
 cases hr:(List.range (hi-0).toNat)[k]? with
 | none=>rw [hr] at h;cases h
 | some j =>
  rw [hr] at h;obtain ⟨h1,h2⟩:=yag.mp hr;simp at h1 h2;subst h2;simp at h;exact ⟨h.symm,by omega⟩
@[simp] noncomputable def zkG{hi:Int}:(zaH 0 hi).length=hi.toNat:=by unfold zaH;simp
end S2
namespace S2
open PySem
open L2 hiding D
noncomputable def zr6:zaH 0 4=[.int 0,.int 1,.int 2,.int 3]:=by rfl
@[simp] noncomputable def zzQ:zcr 4=true:=by decide
@[simp] noncomputable def zzP:zcr 7=true:=by decide
noncomputable def zoP{l:List Int}{at' most col k:Int}{S:Sto}{ts:Z2}{y:Option (Bool×D)}(ha:0<=at')(hk:0<=k)(hc:0<col)(hc3:col<=3)(hn:ts.length<=1000) :
  ∃t y',t.length=4/\(∀c∈t,0<=c/\c<3)/\zbl [some (false,.scr l),some (false,.int at'),some (false,.int most),some (false,.int col),some (true,.lst (ts.map zab)),some (false,.int k),y] S
   = .nx [some (false,.scr l),some (false,.int at'),some (false,.int most),some (false,.int col),some (true,.lst ((if t∈ts then ts else ts++[t]).map zab)),some (false,.int k),y'] S:=by
 have hcomp:∀ρ0:Env,ρ0=[none,some (false,.int at'),some (false,.int col),some (false,.int k),some (false,.scr l)]->zbL (.one 0) zdl (eFn zaD [(zac 4),(zaf zby (zaf zby (zaf zby (zag 1) (zaf zgF (zae (.int 4)) (zag 3))) (zae (.int 2))) (zag 0)),(zac 2)]) ρ0 (zaH 0 4) S
   = .ok ([zb7 l (at'+4*k+2+0) col,zb7 l (at'+4*k+2+1) col,zb7 l (at'+4*k+2+2) col,zb7 l (at'+4*k+2+3) col].map D.int) S:=by
  rintro _ rfl;rw [zr6,zaY (g:=fun d=>match d with | .int i=>.int (zb7 l (at'+4*k+2+i) col) | _=>.non)]
  ·rfl
  ·intro d hd;simp only [yav,yaJ,ybU] at hd
   rcases hd with rfl | rfl | rfl | rfl<;>exact ⟨_,rfl,by simp;rw [zck (by omega) hc]⟩
 have b0:=zb6 l (at'+4*k+2+0) hc;have b1:=zb6 l (at'+4*k+2+1) hc;have b2:=zb6 l (at'+4*k+2+2) hc;have b3:=zb6 l (at'+4*k+2+3) hc;generalize zb7 l (at'+4*k+2+0) col=p0 at *;generalize zb7 l (at'+4*k+2+1) col=p1 at *;generalize zb7 l (at'+4*k+2+2) col=p2 at *;generalize zb7 l (at'+4*k+2+3) col=p3 at *
 have fin:∀t:List Int,(zah (sFz [] (sIf (zaf zm2 (zag 6) (zag 4)) (zah (sFz [6] (zhK 4 (zac 6))) sNx) sNx)) sNx) [some (false,.scr l),some (false,.int at'),some (false,.int most),some (false,.int col),some (true,.lst (ts.map zab)),some (false,.int k),some (false,zab t)] S
   = .nx [some (false,.scr l),some (false,.int at'),some (false,.int most),some (false,.int col),some (true,.lst ((if t∈ts then ts else ts++[t]).map zab)),some (false,.int k),some (false,zab t)] S:=by
  intro t
  by_cases h:t∈ts
  ·simp [zg9,h]
  ·simp [zg9,h,show ts.length<=100000 by omega]
 by_cases h3:zb7 l (at'+60+k) 3=0
 ·refine ⟨[p0,p1,p0,p1],some (false,zab [p0,p1,p0,p1]),rfl,by simp;omega,?_⟩;rw [<-fin];simp [zbl,hcomp,zck (show 0<=at'+60+k by omega) (show (0:Int)<3 by omega),h3];rfl
 ·refine ⟨[p0,p1,p2,p3],some (false,zab [p0,p1,p2,p3]),rfl,by simp;omega,?_⟩;rw [<-fin];simp [zbl,hcomp,zck (show 0<=at'+60+k by omega) (show (0:Int)<3 by omega),h3];rfl
noncomputable def zkv{l:List Int}{at' most:Int}{S:Sto}(ha:0<=at')(hm:0<most)(hm2:most<=100):∃ts,Tiles most ts/\zcl [.scr l,.int at',.int most] S=.ok (.tup (ts.map zab)) S:=by
 have b:=zb6 l at' (many:=2) (by omega);have n:=zb6 l (at'+1) hm;have p1:=zck (l:=l) (S:=S) ha (show (0:Int)<2 by omega);have p2:=zck (l:=l) (S:=S) (show 0<=at'+1 by omega) hm;generalize zb7 l at' 2=c at *;generalize zb7 l (at'+1) most=m at *
 obtain ⟨ρ',e,ts,x,y,rfl,h1,h2,h3,h4,h5⟩:=zcq (tg:=.one 5) (body:=zbl) (ds:=zaH 0 (1+m)) (S:=S) (fun k ρ=>∃ts x y,ρ=[some (false,.scr l),some (false,.int at'),some (false,.int most),some (false,.int (2+c)),some (true,.lst (ts.map zab)),x,y]/\ts.length<=k/\(0<k->1<=ts.length)/\(∀t∈ts,t.length=4)/\(∀t∈ts,∀c∈t,0<=c/\c<3)/\ts.Nodup) (by
   rintro k d ρ hd ⟨ts,x,y,rfl,h1,h2,h3,h4,h5⟩;obtain ⟨rfl,hk⟩:=zcW hd;obtain ⟨t,y',a1,a2,a3⟩:=zoP (l:=l) (at':=at') (most:=most) (col:=2+c) (k:=k) (S:=S) (ts:=ts) (y:=y) ha (by omega) (by omega) (by omega) (by omega);refine ⟨_,_,rfl,a3,_,_,_,rfl,?_,?_,?_,?_,?_⟩
   ·split<;>(try simp)<;>omega
   ·intro _;split
    ·rename_i h;exact List.length_pos_of_mem h
    ·simp
   ·intro u hu;split at hu
    ·exact h3 u hu
    ·rw [ybM,yaQ] at hu
     rcases hu with hu | rfl
     ·exact h3 u hu
     ·exact a1
   ·intro u hu;split at hu
    ·exact h4 u hu
    ·rw [ybM,yaQ] at hu
     rcases hu with hu | rfl
     ·exact h4 u hu
     ·exact a2
   ·split
    ·exact h5
    ·rename_i h;rw [List.nodup_append];refine ⟨h5,by simp,?_⟩
     intro a ha b hb;rw [yaQ] at hb;subst hb;rintro rfl;exact h ha)
  (ρ:=[some (false,.scr l),some (false,.int at'),some (false,.int most),some (false,.int (2+c)),some (true,.lst []),none,none]) ⟨[],none,none,rfl,by simp,by simp,by simp,by simp,by simp⟩
 rw [zkG] at h1 h2;refine ⟨ts,⟨h2 (by omega),by omega,h3,h4,h5⟩,?_⟩;simp [zcl,zat,zc5,p1,p2,show -1000000<=1+m/\1+m<=1000000 by omega,e]
end S2
namespace S2
open PySem
open L2 hiding D
noncomputable def oD:Option Int->D | none=>.non | some i=>.int i
noncomputable def zcB(c:Nat)(g:Nat->Option Int):List D:=(List.range c).map fun j=>oD (g j)
noncomputable def zfr(c:Nat)(g:Nat->Option Int):D:=.tup (zcB c g)
noncomputable def zbg(r c:Nat)(g:Z1):List D:=(List.range r).map fun i=>zfr c (g i)
noncomputable def flr(r c:Nat)(g:Z1):D:=.tup (zbg r c g)
@[simp] noncomputable def zew{c:Nat}{g:Nat->Option Int}:(zcB c g).length=c:=by simp [zcB]
@[simp] noncomputable def zdh{r c:Nat}{g:Z1}:(zbg r c g).length=r:=by simp [zbg]
noncomputable def zex{c j:Nat}{g:Nat->Option Int}(h:j<c):(zcB c g)[j]?=some (oD (g j)):=by simp [zcB,h]
noncomputable def zdU{r c i:Nat}{g:Z1}(h:i<r):(zbg r c g)[i]?=some (zfr c (g i)):=by simp [zbg,h]
@[simp] noncomputable def zvi{c j:Nat}{g:Nat->Option Int}(h:j<(zcB c g).length):(zcB c g)[j]=oD (g j):=by simp [zcB]
@[simp] noncomputable def zv4{r c i:Nat}{g:Z1}(h:i<(zbg r c g).length):(zbg r c g)[i]=zfr c (g i):=by simp [zbg]
noncomputable def zkD{k:Nat}{g:Nat->Option Int}:zcB (k+1) g=zcB k g++[oD (g k)]:=by simp [zcB,ybC]
noncomputable def zlD{k c:Nat}{g:Z1}:zbg (k+1) c g=zbg k c g++[zfr c (g k)]:=by simp [zbg,ybC]
noncomputable def zm0(l:List Int)(at' n m:Int)(i j:Nat):Option Int:=if zb7 l (at'+7*i+j) (n*m)<n then some (zb7 l (at'+7*i+j) (n*m)) else none
noncomputable def znw{l:List Int}{at' m:Int}{ts:List D}{r c:Nat}{i:Nat}{S:Sto}{A B Mm:Option (Bool×D)}{y:Option (Bool×D)}{z:Option (Bool×D)}(ha:0<=at')(hp:0<(ts.length:Int)*m)(hm:zcr m=true)(hc:c<=1000) :
  ∃y' z',zgs (.one 9) zbm (zaH 0 c) [some (false,.scr l),some (false,.int at'),some (false,.tup ts),A,B,some (false,.int m),Mm,some (false,.int i),some (true,.lst []),y,z] S
   = .nx [some (false,.scr l),some (false,.int at'),some (false,.tup ts),A,B,some (false,.int m),Mm,some (false,.int i),some (true,.lst (zcB c (zm0 l at' ts.length m i))),y',z'] S:=by
 obtain ⟨ρ',e,y',z',rfl⟩:=zcq (tg:=.one 9) (body:=zbm) (ds:=zaH 0 c) (S:=S) (fun k ρ=>∃y z,ρ=[some (false,.scr l),some (false,.int at'),some (false,.tup ts),A,B,some (false,.int m),Mm,some (false,.int i),some (true,.lst (zcB k (zm0 l at' ts.length m i))),y,z]) (by
  rintro k d ρ hd ⟨y,z,rfl⟩;obtain ⟨rfl,hk⟩:=zcW hd;have p:=zck (l:=l) (S:=S) (show 0<=at'+7*(i:Int)+(k:Int) by omega) hp;have pn:=zb6 l (at'+7*(i:Int)+(k:Int)) hp;refine ⟨_,_,rfl,?_,some (false,.int k),some (false,.int (zb7 l (at'+7*i+k) (ts.length*m))),rfl⟩
  ·rw [zkD]
   by_cases h:zb7 l (at'+7*(i:Int)+(k:Int)) (ts.length*m)<ts.length
   ·simp [zbm,p,hm,h,zm0,oD,show k<=100000 by omega]
   ·simp [zbm,p,hm,h,zm0,oD,show k<=100000 by omega])
  (ρ:=[some (false,.scr l),some (false,.int at'),some (false,.tup ts),A,B,some (false,.int m),Mm,some (false,.int i),some (true,.lst []),y,z]) ⟨y,z,rfl⟩
 exact ⟨y',z',by simpa using e⟩
noncomputable def zkz{l:List Int}{at' m:Int}{ts:List D}{r c:Int}{S:Sto}(ha:0<=at')(hp:0<(ts.length:Int)*m)(hm:zcr m=true)(hr:0<=r)(hr2:r<=1000)(hc:0<=c)(hc2:c<=1000) :
  zaI [.scr l,.int at',.tup ts,.int r,.int c,.int m] S=.ok (flr r.toNat c.toNat (zm0 l at' ts.length m)) S:=by
 obtain ⟨r,rfl⟩:=ybR hr;obtain ⟨c,rfl⟩:=ybR hc
 obtain ⟨ρ',e,x1,x2,x3,x4,rfl⟩:=zcq (tg:=.one 7) (body:=zcz) (ds:=zaH 0 r) (S:=S) (fun k ρ=>∃x1 x2 x3 x4,ρ=[some (false,.scr l),some (false,.int at'),some (false,.tup ts),some (false,.int r),some (false,.int c),some (false,.int m),some (true,.lst (zbg k c (zm0 l at' ts.length m))),x1,x2,x3,x4]) (by
  rintro k d ρ hd ⟨x1,x2,x3,x4,rfl⟩;obtain ⟨rfl,hk⟩:=zcW hd;obtain ⟨y',z',e⟩:=znw (l:=l) (at':=at') (m:=m) (ts:=ts) (r:=r) (c:=c) (i:=k) (S:=S) (A:=some (false,.int r)) (B:=some (false,.int c)) (Mm:=some (true,.lst (zbg k c (zm0 l at' ts.length m)))) (y:=x3) (z:=x4) ha hp hm (by omega);refine ⟨_,_,rfl,?_,some (false,.int k),some (true,.lst (zcB c (zm0 l at' ts.length m k))),y',z',rfl⟩
  ·rw [zlD]
   simp [zcz,e,zfr,show -1000000<=(c:Int)/\(c:Int)<=1000000 by omega,show k<=100000 by omega])
  (ρ:=[some (false,.scr l),some (false,.int at'),some (false,.tup ts),some (false,.int r),some (false,.int c),some (false,.int m),some (true,.lst []),none,none,none,none]) ⟨none,none,none,none,rfl⟩
 simp at e;simp [zaI,zat,zc6,e,flr,show -1000000<=(r:Int)/\(r:Int)<=1000000 by omega]
end S2
namespace S2
open PySem
open L2 hiding D
noncomputable abbrev plD(i j:Nat):D:=.tup [.int i,.int j]
noncomputable def zer(r c:Nat):List D:=(List.range r).flatMap fun i=>(List.range c).map fun j=>plD i j
noncomputable def zg1{k c:Nat}:zer (k+1) c=zer k c++(List.range c).map fun j=>plD k j:=by simp [zer,ybC]
noncomputable def zeV{r c:Nat}{d:D}(h:d∈zer r c):∃i j,i<r/\j<c/\d=plD i j:=by
 simp only [zer,ybw,yaC,yaw] at h;obtain ⟨i,hi,j,hj,e⟩:=h;exact ⟨i,j,hi,hj,e.symm⟩
noncomputable def zod{r c i j:Nat}(hi:i<r)(hj:j<c):plD i j∈zer r c:=by
 simp only [zer,ybw,yaC,yaw];exact ⟨i,hi,j,hj,rfl⟩
noncomputable def zgg{r c:Nat}:(zer r c).length=r*c:=by
 induction r with
 | zero=>simp [zer]
 | succ k ih=>rw [zg1,yal,ih];simp [ybV]
noncomputable def zbn{r c:Nat}{g:Z1}{S:Sto}(h:1<=r):zaM [flr r c g] S=.ok (.tup [.int r,.int c]) S:=by
 have e:=zdU (c:=c) (g:=g) (i:=0) (r:=r) (by omega);simp [zaM,zat,zfi,flr,e,zfr,show 0<r by omega]
noncomputable def zda{r c:Nat}{g:Z1}{S:Sto}(h:1<=r)(hr:r<=100)(hc:c<=100):zbq [flr r c g] S=.ok (.lst (zer r c)) S:=by
 have inner:∀(k:Nat) (y:Option (Bool×D)),k<r->∃y',zgs (.one 4) zbZ (zaH 0 c) [some (false,flr r c g),some (false,.tup [.int r,.int c]),some (true,.lst (zer k c)),some (false,.int k),y] S
   = .nx [some (false,flr r c g),some (false,.tup [.int r,.int c]),some (true,.lst (zer (k+1) c)),some (false,.int k),y'] S:=by
  intro k y hk
  obtain ⟨ρ',e,y',rfl⟩:=zcq (tg:=.one 4) (body:=zbZ) (ds:=zaH 0 c) (S:=S) (fun j ρ=>∃y,ρ=[some (false,flr r c g),some (false,.tup [.int r,.int c]),some (true,.lst (zer k c++(List.range j).map fun j=>plD k j)),some (false,.int k),y]) (by
   rintro j d ρ hd ⟨y,rfl⟩;obtain ⟨rfl,hj⟩:=zcW hd
   have hl:k*c+j<=100000:=by
    have:k*c<=100*100:=ya0 (by omega) (by omega);omega
   refine ⟨_,_,rfl,?_,some (false,.int j),rfl⟩
   simp [zbZ,ybC,zgg,hl])
   (ρ:=[some (false,flr r c g),some (false,.tup [.int r,.int c]),some (true,.lst (zer k c)),some (false,.int k),y]) ⟨y,by simp⟩
  refine ⟨y',?_⟩;rw [e,zg1];simp
 obtain ⟨ρ',e,x,y,rfl⟩:=zcq (tg:=.one 3) (body:=zcQ) (ds:=zaH 0 r) (S:=S) (fun k ρ=>∃x y,ρ=[some (false,flr r c g),some (false,.tup [.int r,.int c]),some (true,.lst (zer k c)),x,y]) (by
  rintro k d ρ hd ⟨x,y,rfl⟩;obtain ⟨rfl,hk⟩:=zcW hd;obtain ⟨y',e⟩:=inner k y (by omega);refine ⟨_,_,rfl,?_,some (false,.int k),y',rfl⟩
  simp [zcQ,e,show -1000000<=(c:Int)/\(c:Int)<=1000000 by omega])
  (ρ:=[some (false,flr r c g),some (false,.tup [.int r,.int c]),some (true,.lst []),none,none]) ⟨none,none,rfl⟩
 simp at e;simp [zbq,zat,zdB,zbn h,e,show -1000000<=(r:Int)/\(r:Int)<=1000000 by omega]
noncomputable def zd5{r c i j:Nat}{g:Z1}{S:Sto}(hi:i<r)(hj:j<c):zaS [flr r c g,plD i j] S=.ok (oD (g i j)) S:=by
 simp [zaS,zat,zdC,flr,plD,zbQ,zdU hi,zex hj,zfr]
noncomputable def zgT{l:List D}{a b:Int}{S:Sto}:zaT [.tup l,.int a,.int b] S=.ok (.bl (decide (a<=l.length/\(l.length:Int)<=b))) S:=by
 by_cases h1:a<=(l.length:Int)
 ·by_cases h2:(l.length:Int)<=b<;>simp [zaT,zat,zbW,zes,h1,h2]
 ·simp [zaT,zat,zbW,zes,h1]
noncomputable def zqG{α:Type}{xs:List α}{p:α->Bool}:zgC (xs.map fun x=>D.bl (p x))=some (xs.map p):=by
 induction xs with
 | nil=>rfl
 | cons x xs ih=>simp [zgC,ih]
theorem all_map{α:Type}{xs:List α}{p:α->Bool}:ztU [.lst (xs.map fun x=>D.bl (p x))]=some (.bl (xs.all p)):=by
 show Option.map _ (zgC _)=_;rw [zqG];simp [List.all_map]
end S2
namespace S2
open PySem
open L2 hiding D
@[simp] noncomputable def zzR{a b:Option Int}:eqD (oD a) (oD b)=some (.bl (decide (a=b))):=by
 cases a<;>cases b<;>simp [oD]
 ·rfl
 ·rfl
 ·rfl
@[simp] noncomputable def zxd{a:Option Int}:zc0 (oD a)=decide (a=none):=by cases a<;>simp [oD]
noncomputable def zeP{l:List D}{a k:Nat}{S:Sto}:zcC [.tup l,.int a,.int k] S=.ok (.tup ((l.drop a).take k)) S:=by
 have h1:¬ ((0:Int) > a):=by omega
 have h2:¬ ((0:Int) > (a:Int)+(k:Int)):=by omega
 have e:zgH l (some (a:Int)) (some ((a:Int)+(k:Int)))=(l.drop a).take k:=by
  unfold zgH;rw [show (a:Int)+(k:Int)=((a+k:Nat):Int) by omega,HT.zeN,HT.zeN]
  by_cases h:a<=l.length
  ·rw [ybD h]
   by_cases h':a+k<=l.length
   ·rw [ybD h',show a+k-a=k by omega]
   ·rw [Nat.min_eq_right (by omega),ybl (by simp),ybl (by simp;omega)]
  ·rw [List.drop_eq_nil_of_le (by omega),List.drop_eq_nil_of_le (by omega)];simp
 simp [zcC,zat,zfh,h1,h2,e]
noncomputable def zpn{c a k:Nat}{g:Nat->Option Int}:((zcB c g).drop a).take k=zcB (min k (c-a)) fun j=>g (a+j):=by
 apply ybA;intro i;rw [ych]
 by_cases h:i<k
 ·rw [if_pos h,ybh]
  by_cases h':a+i<c
  ·rw [zex h',zex (by omega)]
  ·rw [yaG (by simp;omega),yaG (by simp;omega)]
 ·rw [if_neg h,yaG (by simp;omega)]
noncomputable def zqm{r c a k:Nat}{g:Z1}:((zbg r c g).drop a).take k=zbg (min k (r-a)) c fun i=>g (a+i):=by
 apply ybA;intro i;rw [ych]
 by_cases h:i<k
 ·rw [if_pos h,ybh]
  by_cases h':a+i<r
  ·rw [zdU h',zdU (by omega)]
  ·rw [yaG (by simp;omega),yaG (by simp;omega)]
 ·rw [if_neg h,yaG (by simp;omega)]
noncomputable def zev{r c a b k m:Nat}{g:Z1}{S:Sto}(hr:r<=1000):zcX [flr r c g,.int a,.int b,.int k,.int m] S=.ok (flr (min k (r-a)) (min m (c-b)) fun i j=>g (a+i) (b+j)) S:=by
 have e:zbL (.one 0) zdl (eFn zcC [(zac 0),(zac 2),(zac 1)]) [none,some (false,.int m),some (false,.int b)] (zbg (min k (r-a)) c fun i=>g (a+i)) S=.ok (zbg (min k (r-a)) (min m (c-b)) fun i j=>g (a+i) (b+j)) S:=by
  rw [zaY (g:=fun d=>match d with | .tup l=>.tup ((l.drop b).take m) | _=>.non)]
  ·simp [zbg,zfr,zpn]
  ·intro d hd;simp only [zbg,yaw,yaC] at hd;obtain ⟨i,hi,rfl⟩:=hd;exact ⟨_,rfl,by simp [zfr,zeP]⟩
 have hl:min k (r-a)<=100000:=by omega
 simp [zcX,zat,zlH,flr,zeP,zqm,e,hl]
noncomputable def zlf(g:Z1):D->Bool | .tup [.int i,.int j]=>(g i.toNat j.toNat).isSome | _=>false
end S2
namespace S2
open PySem
open L2 hiding D
theorem zdg{tg:Tg}{body:Fs}{S:Sto}{α:Type}(mk:List D->α->Env)(g:D->List D)(N:Nat):∀{ds:List D},(∀d∈ds,∀(L:List D) (x:α),L.length+(g d).length<=N->∃ρ1 x',tg.put (mk L x) d=some ρ1/\body ρ1 S=.nx (mk (L++g d) x') S) →
  ∀(L0:List D) (x0:α),L0.length+(ds.flatMap g).length<=N->∃x',zgs tg body ds (mk L0 x0) S=.nx (mk (L0++ds.flatMap g) x') S
 | [],_,L0,x0,_=>⟨x0,by simp [zgs]⟩
 | d::ds,step,L0,x0,hN=>by
  rw [yaU,yal] at hN;obtain ⟨ρ1,x',e1,e2⟩:=step d yax L0 x0 (by omega);obtain ⟨x2,e3⟩:=zdg mk g N (ds:=ds) (fun d hd=>step d (yap _ hd)) (L0++g d) x' (by rw [yal];omega);refine ⟨x2,?_⟩;unfold zgs;rw [e1];dsimp only;rw [e2];dsimp only;rw [e3,yaU,ycR]
noncomputable def zts{d e:D}(h1:d.fit 9=true)(h2:e.fit 9=true):eqD d e=some (.bl (zfs d e)):=by unfold eqD;rw [h1,h2];rfl
theorem ziX{α:Type}{g:α->List D}{m:Nat}:∀{ds:List α},(∀d∈ds,(g d).length<=m)->(ds.flatMap g).length<=ds.length*m
 | [],_=>by simp
 | d::ds,h=>by
  have h1:=h d yax;have h2:=ziX (ds:=ds) fun d hd=>h d (yap _ hd)
  rw [yaU,yal,yai,ybV];omega
noncomputable def zhR{d:D}(h:d.pl=true)(f:d.fit 9=true):neD d d=some (.bl false):=by
 unfold neD zfs;rw [f,(zi1 d d h h).mpr rfl];rfl
end S2
namespace S2
open PySem
open L2 hiding D
structure TOk(ts:Z2):Prop where
 four:∀t∈ts,t.length=4
 le:ts.length<=100
noncomputable def zar(ts:Z2)(n:Int)(s:Nat):Int:=(ts.getD n.toNat []).getD s 0
noncomputable def zeJ{ts:Z2}(ht:TOk ts){n:Int}(h0:0<=n)(h1:n<ts.length):atI (ts.map zab) n=some (.tup ([zar ts n 0,zar ts n 1,zar ts n 2,zar ts n 3].map D.int)):=by
 rw [zeH h0,yao,yac (by omega)];have h4:=ht.four _ (ybt (show n.toNat<ts.length by omega))
 have e:ts.getD n.toNat []=ts[n.toNat]:=by rw [yae,yac (by omega)];rfl
 unfold zar;rw [e];generalize ts[n.toNat]=t at *
 match t,h4 with
 | [a,b,c,d],_=>rfl
noncomputable def zeO{i:Int}{S:Sto}:za0 [.int i] S=.ok (.bl true) S:=by simp [za0,zat,zdj,zes]
noncomputable def zhL{S:Sto}:za0 [.non] S=.ok (.bl false) S:=by simp [za0,zat,zdj,zes]
noncomputable def zcu{ts:List D}{o:Option Int}{S:Sto}(h:∀x,o=some x->0<=x/\x<ts.length):zaP [.tup ts,oD o] S=.ok (.bl o.isSome) S:=by
 cases o with
 | none=>simp [zaP,zat,zcs,oD,zhL]
 | some x=>obtain ⟨h0,h1⟩:=h x rfl;simp [zaP,zat,zcs,oD,zeO,h0,h1]
noncomputable def hp1:Fe:=zcU leD ltD (zae (.int 0)) (zaf ixD (zag 1) (zae (.int 0))) (zaf ixD (zag 2) (zae (.int 0)))
noncomputable def hp2:Fe:=zcU leD ltD (zae (.int 0)) (zaf ixD (zag 1) (zae (.int 1))) (zaf ixD (zag 2) (zae (.int 1)))
noncomputable def hpF:Fs:=(zah (sFz [1] (sIf (eOr (eUn zez (eFn zaT [(zac 1),(zae (.int 2)),(zae (.int 2))])) (eOr (eUn zez (eFn za0 [(zaf ixD (zag 1) (zae (.int 0)))])) (eUn zez (eFn za0 [(zaf ixD (zag 1) (zae (.int 1)))])))) (zah (sFz [] (za3 (zae (.bl false)))) sNx) sNx))
  (zah (sFz [0] (zaG 2 false (eFn zaM [(zac 0)]))) (zah (sFz [] (za3 (zeF hp1 hp2))) sNx)))
noncomputable def zti:zdD=hpF:=rfl
noncomputable def zdK{r c:Nat}{g:Z1}{i j:Int}{S:Sto}(h1:1<=r):zbF [flr r c g,.tup [.int i,.int j]] S=.ok (.bl (decide ((0<=i/\i<r)/\0<=j/\j<c))) S:=by
 have ht:zaT [.tup [.int i,.int j],.int 2,.int 2] S=.ok (.bl true) S:=by rw [zgT];simp
 have sz:=zbn (c:=c) (g:=g) (S:=S) h1
 have t1:∀x,hp1 [x,some (false,.tup [.int i,.int j]),some (false,.tup [.int r,.int c])] S=.ok (.bl (decide (0<=i/\i<r))) S:=fun x=>by
  by_cases a:0<=i<;>simp [hp1,a]
 have t2:∀x,hp2 [x,some (false,.tup [.int i,.int j]),some (false,.tup [.int r,.int c])] S=.ok (.bl (decide (0<=j/\j<c))) S:=fun x=>by
  by_cases a:0<=j<;>simp [hp2,a]
 rw [Bool.decide_and];generalize decide (0<=i/\i<r)=b1 at *;generalize decide (0<=j/\j<c)=b2 at *;generalize flr r c g=fl at *;simp only [zbF,zat,zti]
 cases b1<;>simp [hpF,ht,zeO,sz,t1,t2]
noncomputable def InT(ts:Z2)(g:Z1):Prop:=∀i j x,g i j=some x->0<=x/\x<ts.length
noncomputable def zaX(ts:Z2)(r c:Nat)(g:Z1)(i j s:Nat):Option Int:=if i<r/\j<c then (g i j).map fun x=>zar ts x s else none
noncomputable def zdL{ts:Z2}{r c:Nat}{g:Z1}{i j s:Nat}{S:Sto}(ht:TOk ts)(hg:InT ts g)(h1:1<=r)(hs:s<4):zaC [.tup (ts.map zab),flr r c g,plD i j,.int s] S=.ok (oD (zaX ts r c g i j s)) S:=by
 unfold zaX
 by_cases h:i<r/\j<c
 ·have hp:zbF [flr r c g,plD i j] S=.ok (.bl true) S:=by rw [zdK h1];congr 3;simp;omega
  have hn:=zd5 (g:=g) (S:=S) h.1 h.2;have hh:=zcu (ts:=ts.map zab) (o:=g i j) (S:=S) (fun x hx=>by simpa using hg i j x hx);rw [if_pos h]
  cases hx:g i j with
  | none =>
   rw [hx] at hn hh;simp only [oD] at hn hh;simp [zaC,zat,zc4,hp,hn,hh,oD]
  | some x =>
   obtain ⟨x0,x1⟩:=hg i j x hx;rw [hx] at hn hh;have e:=zeJ ht x0 x1
   have es:atI ([zar ts x 0,zar ts x 1,zar ts x 2,zar ts x 3].map D.int) (s:Int)=some (.int (zar ts x s)):=by
    rw [zbQ]
    match s,hs with
    | 0,_=>rfl
    | 1,_=>rfl
    | 2,_=>rfl
    | 3,_=>rfl
   simp only [oD] at hn hh;simp only [yaq,List.map_nil] at e es;simp [zaC,zat,zc4,hp,hn,hh,oD,e,es]
 ·have hp:zbF [flr r c g,plD i j] S=.ok (.bl false) S:=by rw [zdK h1];congr 3;simp;omega
  rw [if_neg h];simp [zaC,zat,zc4,hp,oD]
noncomputable def zmz{ts:Z2}{r c:Nat}{g:Z1}{i j:Nat}{S:Sto}(ht:TOk ts)(hg:InT ts g)(h1:1<=r):zbM [.tup (ts.map zab),flr r c g,plD i j] S=.ok (.tup [oD (zaX ts r c g i j 1),oD (zaX ts r c g i (j+1) 3)]) S:=by
 have e1:zaC [.tup (ts.map zab),flr r c g,.tup [.int i,.int j],.int 1] S=_:=zdL (i:=i) (j:=j) (s:=1) (S:=S) (c:=c) ht hg h1 (by omega);have e2:zaC [.tup (ts.map zab),flr r c g,.tup [.int i,.int ((j:Int)+1)],.int 3] S=_:=zdL (i:=i) (j:=j+1) (s:=3) (S:=S) (c:=c) ht hg h1 (by omega);simp [zbM,zat,zcw,plD,e1,e2]
noncomputable def zkw{ts:Z2}{r c:Nat}{g:Z1}{i j:Nat}{S:Sto}(ht:TOk ts)(hg:InT ts g)(h1:1<=r):zbz [.tup (ts.map zab),flr r c g,plD i j] S=.ok (.tup [oD (zaX ts r c g i j 2),oD (zaX ts r c g (i+1) j 0)]) S:=by
 have e1:zaC [.tup (ts.map zab),flr r c g,.tup [.int i,.int j],.int 2] S=_:=zdL (i:=i) (j:=j) (s:=2) (S:=S) (c:=c) ht hg h1 (by omega);have e2:zaC [.tup (ts.map zab),flr r c g,.tup [.int ((i:Int)+1),.int j],.int 0] S=_:=zdL (i:=i+1) (j:=j) (s:=0) (S:=S) (c:=c) ht hg h1 (by omega);simp [zbz,zat,zcc,plD,e1,e2]
noncomputable def cl2:Option Int->Option Int->Bool | some a,some b=>!decide (a=b) | _,_=>false
noncomputable def zgV{a b:Option Int}{S:Sto}:zcD [.tup [oD a,oD b]] S=.ok (.bl (cl2 a b)) S:=by
 cases a<;>cases b
 all_goals simp [zcD,zat,zef,oD,cl2,zm2,zf8,zhC,zfs,D.py,PyData.eqv]
noncomputable def clD(d:D)(s:Str):D:=.tup [d,.str s]
noncomputable def clG(ts:Z2)(r c:Nat)(g:Z1):D->List D
 | .tup [.int i,.int j]=>(if cl2 (zaX ts r c g i.toNat j.toNat 1) (zaX ts r c g i.toNat (j.toNat+1) 3) then [clD (.tup [.int i,.int j]) "east"] else [])++(if cl2 (zaX ts r c g i.toNat j.toNat 2) (zaX ts r c g (i.toNat+1) j.toNat 0) then [clD (.tup [.int i,.int j]) "south"] else [])
 | _=>[]
noncomputable def clL(ts:Z2)(r c:Nat)(g:Z1):List D:=(zer r c).flatMap (clG ts r c g)
noncomputable def zqz{ts:Z2}{r c:Nat}{g:Z1}{d:D}:(clG ts r c g d).length<=2:=by
 unfold clG;split
 ·rw [yal];split<;>split<;>simp
 ·simp
noncomputable def zqy{ts:Z2}{r c:Nat}{g:Z1}(hr:r<=100)(hc:c<=100):(clL ts r c g).length<=20000:=by
 refine yaj (ziX fun d _=>zqz) ?_;rw [zgg];have:r*c<=100*100:=ya0 hr hc;omega
noncomputable def zhM{ts:Z2}{r c:Nat}{g:Z1}{S:Sto}(ht:TOk ts)(hg:InT ts g)(h1:1<=r)(hr:r<=100)(hc:c<=100):zdO [.tup (ts.map zab),flr r c g] S=.ok (.lst (clL ts r c g)) S:=by
 obtain ⟨x',e⟩:=zdg (tg:=.one 3) (body:=zdI) (S:=S) (fun L (x:Option (Bool×D))=>[some (false,.tup (ts.map zab)),some (false,flr r c g),some (true,.lst L),x]) (clG ts r c g) 50000 (ds:=zer r c) (by
  intro d hd L x hL;obtain ⟨i,j,hi,hj,rfl⟩:=zeV hd;refine ⟨_,some (false,plD i j),rfl,?_⟩;have e1:=zmz (i:=i) (j:=j) (S:=S) (c:=c) ht hg h1;have e2:=zkw (i:=i) (j:=j) (S:=S) (c:=c) ht hg h1
  have hl:L.length<=100000:=by omega
  have hl1:L.length+1<=100000:=by omega
  simp only [plD] at e1 e2
  cases a1:cl2 (zaX ts r c g i j 1) (zaX ts r c g i (j+1) 3)<;>cases a2:cl2 (zaX ts r c g i j 2) (zaX ts r c g (i+1) j 0)<;>simp [zdI,plD,e1,e2,zgV,a1,a2,clG,clD,hl,hl1]) [] none (by have:=zqy (ts:=ts) (g:=g) hr hc;unfold clL at this;simp only [ybO];omega)
 simp at e;simp [zdO,zat,zfj,zda h1 hr hc,e,clL]
noncomputable def zjI(r c:Nat)(g:Z1):Bool:=decide (∀i,i<r->∀j,j<c->(g i j).isSome=true)
noncomputable def zkx{ts:Z2}{r c:Nat}{g:Z1}{S:Sto}(ht:TOk ts)(hg:InT ts g)(h1:1<=r)(hr:r<=100)(hc:c<=100):zav [.tup (ts.map zab),flr r c g] S=.ok (.bl (zjI r c g&&decide (clL ts r c g=[]))) S:=by
 have e:zbL (.one 0) zdl (eFn zaP [(zac 2),(eFn zaS [(zac 1),(zac 0)])]) [none,some (false,flr r c g),some (false,.tup (ts.map zab))] (zer r c) S=.ok ((zer r c).map fun d=>.bl (zlf g d)) S:=by
  rw [zaY];intro d hd;obtain ⟨i,j,hi,hj,rfl⟩:=zeV hd;exact ⟨_,rfl,by simp [zd5 hi hj,zcu (ts:=ts.map zab) (o:=g i j) (fun x hx=>by simpa using hg i j x hx),zlf]⟩
 have ea:(zer r c).all (zlf g)=zjI r c g:=by
  rw [ybc];unfold zjI;rw [ybk,ybb];constructor
  ·intro H i hi j hj;simpa [zlf] using H (plD i j) (zod hi hj)
  ·intro H d hd;obtain ⟨i,j,hi,hj,rfl⟩:=zeV hd;simpa [zlf] using H i hi j hj
 have hl:(zer r c).length<=100000:=by
  rw [zgg];have:r*c<=100*100:=ya0 hr hc;omega
 have hz:decide ((clL ts r c g).length=0)=decide (clL ts r c g=[]):=by rw [decide_eq_decide];exact List.length_eq_zero_iff
 cases hf:zjI r c g
 ·simp [zav,zat,zdk,zda h1 hr hc,e,hl,all_map,ea,hf]
 ·simp [zav,zat,zdk,zda h1 hr hc,e,hl,all_map,ea,hf,zhM ht hg h1 hr hc]
end S2
namespace S2
open PySem
open L2 hiding D
end S2
namespace S2
open PySem
open L2 hiding D
noncomputable def zjb{t:List Int}(h:t≠[]):atI (t.map D.int) (-1)=some (.int (t.getLastD 0)):=by
 have hl:0<t.length:=by cases t with | nil=>exact absurd rfl h | cons _ _=>simp
 have e:atI (t.map D.int) (-1)=(t.map D.int)[t.length-1]?:=by
  unfold atI ixN;rw [if_neg (by omega),if_pos (by rw [yaf];omega)];show (t.map D.int)[(-1+((t.map D.int).length:Int)).toNat]?=_;congr 1;rw [yaf];omega
 rw [e,yao,yac (by omega)];rw [ybK,yb2,yac (by omega)];rfl
noncomputable def zh1(ts:Z2)(c:Nat)(t:List Int)(n:Int):Bool:=decide ((0<t.length % c->zar ts (t.getLastD 0) 1=zar ts n 3)/\(c<=t.length->zar ts (t.getD (t.length-c) 0) 2=zar ts n 0))
noncomputable def InR(ts:Z2)(t:List Int):Prop:=∀x∈t,0<=x/\x<ts.length
noncomputable def zne{t:List Int}(h:t≠[]):t.getLastD 0∈t:=by
 cases t with
 | nil=>exact absurd rfl h
 | cons a t=>rw [List.getLastD_cons];exact List.getLastD_mem_cons
noncomputable def ziq{ts:Z2}(ht:TOk ts){x:Int}(h:0<=x/\x<ts.length):atI (ts.map zab) x=some (.tup [.int (zar ts x 0),.int (zar ts x 1),.int (zar ts x 2),.int (zar ts x 3)]):=zeJ ht h.1 h.2
end S2
namespace S2
open PySem
open L2 hiding D
noncomputable def ziT{t:List Int}{n:Int}{m:Nat}:(t++[n]).getD m 0=if m<t.length then t.getD m 0 else if m=t.length then n else 0:=by
 simp only [yae]
 by_cases h:m<t.length
 ·rw [yaz h,if_pos h]
 ·rw [yau (by omega),if_neg h]
  by_cases e:m=t.length
  ·subst e;simp
  ·rw [if_neg e,yaG (by simp;omega)];rfl
noncomputable def unI:D->Int | .int i=>i | _=>0
noncomputable def zio{t:List Int}:(t.map D.int).map unI=t:=by
 induction t with
 | nil=>rfl
 | cons a t ih=>simp only [yaq,ih];rfl
noncomputable def znB{ts:Z2}(ht:TOk ts){d:D}(h:d∈zcy (ts.map zab)):∃n:Nat,n<ts.length/\d=.tup [.int n,.tup [.int (zar ts n 0),.int (zar ts n 1),.int (zar ts n 2),.int (zar ts n 3)]]:=by
 obtain ⟨k,hk⟩:=List.getElem?_of_mem h;obtain ⟨y,e1,rfl⟩:=zdZ hk
 have hl:k<ts.length:=by
  have:=(yag.mp e1).1;simpa using this
 refine ⟨k,hl,?_⟩;have:=ziq ht (x:=(k:Int)) ⟨by omega,by omega⟩;rw [zbQ,e1] at this;rw [Option.some.inj this]
section
variable{ts:Z2}{c:Nat}{S:Sto}{s1 s3 s4:Option (Bool×D)}
end
end S2
namespace S2
open PySem
open L2 hiding D
noncomputable def zpp{c:Nat}:(List.replicate c [D.non]).flatten=zcB c fun _=>none:=by
 simp [zcB,oD,ycj,List.map_const']
noncomputable def zpq{r c:Nat}:(List.replicate r [D.tup (zcB c fun _=>none)]).flatten=zbg r c fun _ _=>none:=by
 simp [zbg,zfr,ycj,List.map_const']
noncomputable def zuH:D->List D | .tup l=>l | _=>[]
noncomputable def zgW{t:List Int}{r c:Nat}{S:Sto}(hl:t.length=r*c)(hc:1<=c)(hc2:c<=100)(hr:r<=100)(hrc:r*c<=1000):zaE [zab t,.int c] S=.ok (flr r c fun i j=>some (t.getD (i*c+j) 0)) S:=by
 have hn:(((r*c:Nat):Int)+(c:Int)-1) / (c:Int)=(r:Int):=by
  rw [Int.natCast_mul]
  have:((r:Int)*(c:Int)+(c:Int)-1)=((c:Int)-1)+(r:Int)*(c:Int):=by omega
  rw [this,Int.add_mul_ediv_right _ _ (by omega),Int.ediv_eq_zero_of_lt (by omega) (by omega)];omega
 have hR:zdN ((r*c:Nat):Int) (c:Int)=(List.range r).map fun i:Nat=>.int ((i*c:Nat):Int):=by
  unfold zdN;rw [hn];simp [Int.natCast_mul]
 have ec:zbL (.one 0) zdl (zau zbv [(eSl (zag 2) (some (zag 0)) (some (zaf zby (zag 0) (zag 1))))]) [none,some (false,.int c),some (false,zab t)] ((List.range r).map fun i:Nat=>.int ((i*c:Nat):Int)) S=.ok (zbg r c fun i j=>some (t.getD (i*c+j) 0)) S:=by
  have hmem:∀d∈(List.range r).map fun i:Nat=>D.int ((i*c:Nat):Int),∃ρ1,(Tg.one 0).put [none,some (false,.int c),some (false,zab t)] d=some ρ1/\zau zbv [(eSl (zag 2) (some (zag 0)) (some (zaf zby (zag 0) (zag 1))))] ρ1 S=.ok ((fun d=>match d with | .int i=>.tup (((t.map D.int).drop i.toNat).take c) | _=>.non) d) S:=by
   intro d hd;obtain ⟨i,hi,rfl⟩:=yaw.mp hd;rw [yaC] at hi;refine ⟨_,rfl,?_⟩
   have e:zgH (t.map D.int) (some ((i*c:Nat):Int)) (some (((i*c:Nat):Int)+(c:Int)))=((t.map D.int).drop (i*c)).take c:=by
    unfold zgH;rw [show ((i*c:Nat):Int)+(c:Int)=((i*c+c:Nat):Int) by omega,HT.zeN,HT.zeN,yaf,hl]
    have h1:i*c+c<=r*c:=by
     have:=ybx c (show i+1<=r by omega);rwa [ybV] at this
    rw [ybD h1,ybD (show i*c<=r*c by omega),show i*c+c-i*c=c by omega]
   have e2:(t.map D.int).drop (((i*c:Nat):Int)).toNat=(t.map D.int).drop (i*c):=by rw [yaZ]
   rw [<-e2] at e;generalize ((i*c:Nat):Int)=ic at *;simp [zab,e]
  rw [zaY hmem,yaX];congr 1;unfold zbg;refine yaD fun i hi=>?_
  rw [yaC] at hi;show D.tup (((t.map D.int).drop (((i*c:Nat):Int)).toNat).take c)=zfr c _;rw [yaZ];unfold zfr;congr 1
  have h1:i*c+c<=r*c:=by
   have:=ybx c (show i+1<=r by omega);rwa [ybV] at this
  apply ybA;intro j;rw [ych]
  by_cases hj:j<c
  ·rw [if_pos hj,ybh,zex hj,yao,yac (by omega)];simp [oD,yae,yac (show i*c+j<t.length by omega)]
  ·rw [if_neg hj,yaG (by simp;omega)]
 have hb:(0:Int)<=((r*c:Nat):Int)/\((r*c:Nat):Int)<=1000/\1<=(c:Int)/\(c:Int)<=1000:=by omega
 have hrl:r<=100000:=by omega
 rw [<-hR] at ec;generalize hrcI:((r*c:Nat):Int)=rcI at *
 have hlen:((t.map D.int).length:Int)=rcI:=by rw [yaf,hl];exact hrcI
 unfold zab at *;simp only [zaE,zat,zce,zq4,zuw,zq8,zq9,zuA,yaq,List.map_nil,yai,ybO,List.cons_append,ycd,ya5,List.replicate,List.getElem?_cons_succ,List.getElem?_cons_zero,zs1,zq5,zoN,zoM,zoL,zrd,zq6,zrb,zrc,zra,zvM,zvG,zp3,zp2,zp5,zq7,hlen,Out.of_some,zsZ,show (0:Int)=0 from rfl,true_and,if_pos hb,zs2,zj5,zre,zvK,ec,zp4,zhE,zdh,yaM hrl,yb4,zq3,zs0,zsX,zsY,ybJ];rfl
end S2
namespace S2
open PySem
open L2 hiding D
noncomputable def zdM{ts:Z2}{r c s n:Nat}{g:Z1}{pi pj:Nat->Nat}{S:Sto}(ht:TOk ts)(hg:InT ts g)(h1:1<=r)(hs:s<4)(hn:n<=1000) :
  zaq [.tup (ts.map zab),flr r c g,.lst ((List.range n).map fun k=>plD (pi k) (pj k)),.int s] S=.ok (.tup ((List.range n).map fun k=>oD (zaX ts r c g (pi k) (pj k) s))) S:=by
 have e:zbL (.one 0) zdl (eFn zaC [(zac 3),(zac 1),(zac 0),(zac 2)]) [none,some (false,flr r c g),some (false,.int s),some (false,.tup (ts.map zab))] ((List.range n).map fun k=>plD (pi k) (pj k)) S=.ok ((List.range n).map fun k=>oD (zaX ts r c g (pi k) (pj k) s)) S:=by
  rw [zaY (g:=fun d=>match d with | .tup [.int i,.int j]=>oD (zaX ts r c g i.toNat j.toNat s) | _=>.non)]
  ·simp [yaX,Function.comp_def]
  ·intro d hd;obtain ⟨k,_,rfl⟩:=yaw.mp hd;exact ⟨_,rfl,by simp [zdL ht hg h1 hs]⟩
 simp [zaq,zat,zcM,e,show n<=100000 by omega]
noncomputable def zge{n:Nat}{f:D->D}:(zaH 0 (n:Int)).map f=(List.range n).map fun k:Nat=>f (.int k):=by
 simp [zaH,yaX,Function.comp_def]
noncomputable def zkA{ts:Z2}{r c:Nat}{g:Z1}{S:Sto}(ht:TOk ts)(hg:InT ts g)(h1:1<=r)(hr:r<=100)(c1:1<=c)(hc:c<=100) :
  zaw [.tup (ts.map zab),flr r c g] S=.ok (.tup [.tup ((List.range c).map fun k=>oD (zaX ts r c g 0 k 0)),.tup ((List.range r).map fun k=>oD (zaX ts r c g k (c-1) 1)),.tup ((List.range c).map fun k=>oD (zaX ts r c g (r-1) k 2)),.tup ((List.range r).map fun k=>oD (zaX ts r c g k 0 3))]) S:=by
 have a0:=zdM (n:=c) (s:=0) (pi:=fun _=>0) (pj:=fun k=>k) (S:=S) (c:=c) ht hg h1 (by omega) (by omega);have a1:=zdM (n:=r) (s:=1) (pi:=fun k=>k) (pj:=fun _=>c-1) (S:=S) (c:=c) ht hg h1 (by omega) (by omega);have a2:=zdM (n:=c) (s:=2) (pi:=fun _=>r-1) (pj:=fun k=>k) (S:=S) (c:=c) ht hg h1 (by omega) (by omega);have a3:=zdM (n:=r) (s:=3) (pi:=fun k=>k) (pj:=fun _=>0) (S:=S) (c:=c) ht hg h1 (by omega) (by omega)
 have hcc:((c-1:Nat):Int)=(c:Int)-1:=by omega
 have hrr:((r-1:Nat):Int)=(r:Int)-1:=by omega
 have e0:zbL (.one 0) zdl (zbC [(zae (.int 0)),(zac 0)]) [none] (zaH 0 c) S=.ok ((List.range c).map fun k=>plD 0 k) S:=by
  rw [zaY (g:=fun d=>.tup [.int 0,d]),zge]
  ·rfl
  ·intro d _;exact ⟨_,rfl,by simp⟩
 have e1:zbL (.one 0) zdl (zbC [(zac 0),(zaf zmd (zaf ixD (zag 1) (zae (.int 1))) (zae (.int 1)))]) [none,some (false,.tup [.int r,.int c])] (zaH 0 r) S=.ok ((List.range r).map fun k=>plD k (c-1)) S:=by
  rw [zaY (g:=fun d=>.tup [d,.int ((c:Int)-1)]),zge]
  ·simp only [plD,hcc]
  ·intro d _;exact ⟨_,rfl,by simp⟩
 have e2:zbL (.one 0) zdl (zbC [(zaf zmd (zaf ixD (zag 1) (zae (.int 0))) (zae (.int 1))),(zac 0)]) [none,some (false,.tup [.int r,.int c])] (zaH 0 c) S=.ok ((List.range c).map fun k=>plD (r-1) k) S:=by
  rw [zaY (g:=fun d=>.tup [.int ((r:Int)-1),d]),zge]
  ·simp only [plD,hrr]
  ·intro d _;exact ⟨_,rfl,by simp⟩
 have e3:zbL (.one 0) zdl (zbC [(zac 0),(zae (.int 0))]) [none] (zaH 0 r) S=.ok ((List.range r).map fun k=>plD k 0) S:=by
  rw [zaY (g:=fun d=>.tup [d,.int 0]),zge]
  ·rfl
  ·intro d _;exact ⟨_,rfl,by simp⟩
 have b1:-1000000<=(r:Int)/\(r:Int)<=1000000:=by omega
 have b2:-1000000<=(c:Int)/\(c:Int)<=1000000:=by omega
 have l1:r<=100000:=by omega
 have l2:c<=100000:=by omega
 replace a0:zaq [.tup (ts.map zab),flr r c g,.lst ((List.range c).map fun k=>plD 0 k),.int 0] S=_:=a0;replace a1:zaq [.tup (ts.map zab),flr r c g,.lst ((List.range r).map fun k=>plD k (c-1)),.int 1] S=_:=a1;replace a2:zaq [.tup (ts.map zab),flr r c g,.lst ((List.range c).map fun k=>plD (r-1) k),.int 2] S=_:=a2;replace a3:zaq [.tup (ts.map zab),flr r c g,.lst ((List.range r).map fun k=>plD k 0),.int 3] S=_:=a3
 have q0:((List.range c).map fun k=>plD 0 k).length<=100000:=by simp;omega
 have q1:((List.range r).map fun k=>plD k (c-1)).length<=100000:=by simp;omega
 have q2:((List.range c).map fun k=>plD (r-1) k).length<=100000:=by simp;omega
 have q3:((List.range r).map fun k=>plD k 0).length<=100000:=by simp;omega
 generalize (List.range c).map (fun k=>plD 0 k)=P0 at *;generalize (List.range r).map (fun k=>plD k (c-1))=P1 at *;generalize (List.range c).map (fun k=>plD (r-1) k)=P2 at *;generalize (List.range r).map (fun k=>plD k 0)=P3 at *;simp [zaw,zat,zee,zbn h1,b1,b2,e0,e1,e2,e3,q0,q1,q2,q3,a0,a1,a2,a3]
end S2
namespace S2
open PySem
open L2 hiding D
noncomputable def zp6(i:Nat)(ρ:Env)(l:List D)(d:D):Out D->Fo
 | .ok (.int n) S2=>(match ixN l.length n with | some k=>.nx (ρ.set i (some (true,.lst (l.set k d)))) S2 | none=>.bad)
 | .ok _ _=>.bad
 | .exc c S2=>.ex c ρ S2 | .bad=>.bad
noncomputable def zng(i:Nat)(fi:Fe)(ρ:Env)(l:List D):Out D->Fo | .ok d S1=>zp6 i ρ l d (fi ρ S1) | .exc c S1=>.ex c ρ S1 | .bad=>.bad
noncomputable def zxX(i:Nat)(fi fe:Fe)(ρ:Env)(S:Sto):Option (Option (Bool×D))->Fo | some (some (true,.lst l))=>zng i fi ρ l (fe ρ S) | _=>.bad
noncomputable def zvO(und:Str->Str->Bool)(C:Str)(i j:Nat):Fo->Fo
 | .ex c ρ' S'=>if und c C&&decide (i<ρ'.length) then .nx ((ρ'.set j (some (false,.exc c))).set i none) S' else .bad
 | o=>o
section
variable{ρ:Env}{S:Sto}{f g:Fe}{a:Fs}
@[simp] noncomputable def zus{i:Nat}:zku i f g ρ S=zxX i f g ρ S ρ[i]?:=by
 unfold zku
 cases ρ[i]? with
 | none=>rfl
 | some o=>cases o with
  | none=>rfl
  | some p =>
   obtain ⟨b,d⟩:=p
   cases b with
   | false=>rfl
   | true=>cases d with
    | lst l =>
     show _=zng i f ρ l (g ρ S)
     cases g ρ S with
     | ok d S1 =>
      show _=zp6 i ρ l d (f ρ S1);dsimp only
      cases f ρ S1 with
      | ok d' S2=>cases d'<;>rfl
      | exc c S2=>rfl
      | bad=>rfl
     | exc c S1=>rfl
     | bad=>rfl
    | _=>rfl
@[simp] noncomputable def zzf{i:Nat}{l:List D}:zxX i f g ρ S (some (some (true,.lst l)))=zng i f ρ l (g ρ S):=(rfl)
@[simp] noncomputable def zxm{i:Nat}{l:List D}{d:D}:zng i f ρ l (.ok d S)=zp6 i ρ l d (f ρ S):=(rfl)
@[simp] noncomputable def zws{und:Str->Str->Bool}{C:Str}{i j:Nat}:zqV und C i j a ρ S=zvO und C i j (a ρ S):=(rfl)
@[simp] noncomputable def zxl{und:Str->Str->Bool}{C:Str}{i j:Nat}:zvO und C i j (.nx ρ S)=.nx ρ S:=(rfl)
@[simp] noncomputable def zxk{und:Str->Str->Bool}{C c:Str}{i j:Nat}:zvO und C i j (.ex c ρ S)=if und c C&&decide (i<ρ.length) then .nx ((ρ.set j (some (false,.exc c))).set i none) S else .bad:=(rfl)
@[simp] noncomputable def zyB{w:Str->Str->Option Bool}{C c:Str}:zlq w C (.exc c)=(w c C).map .bl:=(rfl)
@[simp] noncomputable def zwH{c:Str}:zc0 (.exc c)=false:=(rfl)
@[simp] noncomputable def zwG{l:List D}:zc0 (.lst l)=false:=(rfl)
@[simp] noncomputable def zwL{l:List D}{j:Int}:zjv (.lst l) (.int j)=if decide (0<=j/\j<=1000/\l.length<=1000) then some (.lst (List.replicate j.toNat l).flatten) else none:=(rfl)
end
noncomputable abbrev Gf:=Nat->Nat->Option Int
noncomputable def ov(g h:Gf):Gf:=fun i j=>(h i j).or (g i j)
noncomputable def un(g h:Gf):Gf:=fun i j=>if (h i j).isSome then none else g i j
end S2
namespace S2
open PySem
open L2 hiding D
noncomputable def zdT{r c:Nat}{g h:Z1}(e:∀i j,i<r->j<c->g i j=h i j):flr r c g=flr r c h:=by
 unfold flr zbg zfr zcB;congr 1;apply yaD;intro i hi;congr 1;apply yaD;intro j hj;rw [e i j (yaC.mp hi) (yaC.mp hj)]
end S2
namespace S2
open PySem
open L2 hiding D
end S2
namespace S2
open PySem
open L2 hiding D
noncomputable def zx3(c f:Str):Out D->Out D | .ok d S=>(match ziV c f d S with | some r=>.ok r S | none=>.bad) | .exc c S=>.exc c S | .bad=>.bad
noncomputable def ziQ(G:List D->Sto->Out D)(d:D):Out (List D)->Out D | .ok ds S=>G (d::ds) S | .exc c S=>.exc c S | .bad=>.bad
noncomputable def zs8(c m:Str)(G:List D->Sto->Out D)(fs:List Fe)(ρ:Env):Out D->Out D | .ok d S=>if zcZ c m d S then ziQ G d (zak fs ρ S) else .bad | .exc c S=>.exc c S | .bad=>.bad
noncomputable def zud(n:Nat):Out D->Out D | .ok r S=>(match r with | .non=>.ok (.ref n) S | _=>.bad) | .exc c S=>.exc c S | .bad=>.bad
noncomputable def kMk(c:Str)(dds:List D)(G:List D->Sto->Out D):Out (List D)->Out D | .ok ds S=>zud S.length (G (.ref S.length::(ds++dds)) (S++[⟨c,[]⟩])) | .exc c S=>.exc c S | .bad=>.bad
noncomputable def znh(c f:Str)(dk:D):Out D->Out D | .ok d S=>(match ziN dk,zgG c f d S with | some k,some (_,_,ds)=>.ok (.bl (zbr k ds).isNone) S | _,_=>.bad) | .exc c S=>.exc c S | .bad=>.bad
noncomputable def zxY(c f:Str)(fo:Fe)(ρ:Env):Out D->Out D | .ok d S=>znh c f d (fo ρ S) | .exc c S=>.exc c S | .bad=>.bad
noncomputable def zx1(c f:Str)(o:Option NK):Out D->Out D | .ok d S=>(match o,zgG c f d S with | some k,some (_,_,ds)=>(match zbr k ds with | some r=>.ok r S | none=>.bad) | _,_=>.bad) | .exc c S=>.exc c S | .bad=>.bad
section
variable{ρ:Env}{S:Sto}{f g h k:Fe}
@[simp] noncomputable def zwW{c x:Str}:zeE c x f ρ S=zx3 c x (f ρ S):=by unfold zeE;cases f ρ S<;>rfl
@[simp] noncomputable def zzw{c x:Str}{d:D}:zx3 c x (.ok d S)=(match ziV c x d S with | some r=>.ok r S | none=>.bad):=(rfl)
@[simp] noncomputable def zuB{c m:Str}{G:List D->Sto->Out D}{fs:List Fe}:zbK c m G f fs ρ S=zs8 c m G fs ρ (f ρ S):=by
 unfold zbK
 cases f ρ S with
 | ok d S1 =>
  show (if zcZ c m d S1 then (zak fs ρ S1).bind fun ds S2=>G (d::ds) S2 else .bad)=(if zcZ c m d S1 then ziQ G d (zak fs ρ S1) else .bad)
  cases zak fs ρ S1<;>rfl
 | exc c S=>rfl
 | bad=>rfl
@[simp] noncomputable def zxA{c m:Str}{G:List D->Sto->Out D}{fs:List Fe}{d:D}:zs8 c m G fs ρ (.ok d S)=if zcZ c m d S then ziQ G d (zak fs ρ S) else .bad:=(rfl)
@[simp] noncomputable def zvH{G:List D->Sto->Out D}{d:D}{ds:List D}:ziQ G d (.ok ds S)=G (d::ds) S:=(rfl)
@[simp] noncomputable def zyK{c:Str}{dds:List D}{G:List D->Sto->Out D}{fs:List Fe}:eMk c dds G fs ρ S=kMk c dds G (zak fs ρ S):=by
 unfold eMk
 cases zak fs ρ S with
 | ok ds S1 =>
  show ((G (.ref S1.length::(ds++dds)) (S1++[⟨c,[]⟩])).bind fun r S2=>match r with | .non=>.ok (.ref S1.length) S2 | _=>.bad)=zud S1.length (G (.ref S1.length::(ds++dds)) (S1++[⟨c,[]⟩]))
  cases G (.ref S1.length::(ds++dds)) (S1++[⟨c,[]⟩])<;>rfl
 | exc c S=>rfl
 | bad=>rfl
@[simp] noncomputable def zz4{c:Str}{dds:List D}{G:List D->Sto->Out D}{ds:List D}:kMk c dds G (.ok ds S)=zud S.length (G (.ref S.length::(ds++dds)) (S++[⟨c,[]⟩])):=(rfl)
@[simp] noncomputable def zzl{n:Nat}:zud n (.ok .non S)=.ok (.ref n) S:=(rfl)
@[simp] noncomputable def zwT{c x:Str}:znC c x f g ρ S=zxY c x g ρ (f ρ S):=by
 unfold znC
 cases f ρ S with
 | ok d S1 =>
  show ((g ρ S1).bind fun d' S2=>match ziN d,zgG c x d' S2 with | some k,some (_,_,ds)=>.ok (.bl (zbr k ds).isNone) S2 | _,_=>.bad)=znh c x d (g ρ S1)
  cases g ρ S1<;>rfl
 | exc c S=>rfl
 | bad=>rfl
@[simp] noncomputable def zzj{c x:Str}{d:D}:zxY c x g ρ (.ok d S)=znh c x d (g ρ S):=(rfl)
@[simp] noncomputable def zxz{c x:Str}{dk d:D}:znh c x dk (.ok d S)=(match ziN dk,zgG c x d S with | some k,some (_,_,ds)=>.ok (.bl (zbr k ds).isNone) S | _,_=>.bad):=(rfl)
@[simp] noncomputable def zwV{c x:Str}{i:Nat}:zh7 c x f i ρ S=zx1 c x (zj0 ρ i) (f ρ S):=by unfold zh7;cases f ρ S<;>rfl
@[simp] noncomputable def zzs{c x:Str}{d:D}{o:Option NK}:zx1 c x o (.ok d S)=(match o,zgG c x d S with | some k,some (_,_,ds)=>(match zbr k ds with | some r=>.ok r S | none=>.bad) | _,_=>.bad):=(rfl)
end
noncomputable def wOb(T Gd Sz:D)(b:Bool)(ds:List (D×D)):Ob:=⟨"Ways",[("tiles",false,T),("ground",false,Gd),("size",false,Sz),("is_round",false,.bl b),("known",true,.dic ds)]⟩
noncomputable def zsJ(o:Option Int):oDn o=oD o:=by cases o<;>rfl
structure WAt(S:Sto)(n:Nat)(ts:Z2)(gr:Z4)(r c:Nat)(b:Bool)(ds:List (D×D)):Prop where
 at_:S[n]?=some (wOb (.tup (ts.map zab)) (.lst (gr.map oD)) (.tup [.int r,.int c]) b ds)
section
variable{S:Sto}{n:Nat}{ts:Z2}{gr:Z4}{r c:Nat}{b:Bool}{ds:List (D×D)}
theorem WAt.tiles(h:WAt S n ts gr r c b ds):ziV "Ways" "tiles" (.ref n) S=some (.tup (ts.map zab)):=by
 unfold ziV;dsimp only;rw [h.at_];rfl
theorem WAt.ground(h:WAt S n ts gr r c b ds):ziV "Ways" "ground" (.ref n) S=some (.lst (gr.map oD)):=by
 unfold ziV;dsimp only;rw [h.at_];rfl
theorem WAt.size(h:WAt S n ts gr r c b ds):ziV "Ways" "size" (.ref n) S=some (.tup [.int r,.int c]):=by
 unfold ziV;dsimp only;rw [h.at_];rfl
noncomputable def WAt.round(h:WAt S n ts gr r c b ds):ziV "Ways" "is_round" (.ref n) S=some (.bl b):=by
 unfold ziV;dsimp only;rw [h.at_];rfl
theorem WAt.known(h:WAt S n ts gr r c b ds):zgG "Ways" "known" (.ref n) S=some (n,wOb (.tup (ts.map zab)) (.lst (gr.map oD)) (.tup [.int r,.int c]) b ds,ds):=by
 unfold zgG;dsimp only;rw [h.at_];rfl
noncomputable def WAt.meth(h:WAt S n ts gr r c b ds)(m:Str)(hm:(m == "tiles")=false/\(m == "ground")=false/\(m == "size")=false/\(m == "is_round")=false/\(m == "known")=false):zcZ "Ways" m (.ref n) S=true:=by
 unfold zcZ;dsimp only;rw [h.at_];obtain ⟨h1,h2,h3,h4,h5⟩:=hm;simp [wOb,yay,h1,h2,h3,h4,h5]
noncomputable def WAt.len(h:WAt S n ts gr r c b ds):n<S.length:=(yag.mp h.at_).1
noncomputable def WAt.put(h:WAt S n ts gr r c b ds)(ds':List (D×D)):WAt (S.set n (wOb (.tup (ts.map zab)) (.lst (gr.map oD)) (.tup [.int r,.int c]) b ds')) n ts gr r c b ds':=⟨by rw [yaA h.len]⟩
noncomputable def zbp(s:Z4):D:=.tup (s.map oD)
noncomputable def zmt{k:Int}{s:Z4}:ziN (.tup [.int k,zbp s])=some (k,s):=by
 have:zbp s=.tup (s.map oDn):=by unfold zbp;rw [show oDn=oD from funext zsJ]
 rw [this];exact zdR (k,s)
theorem ziW{α:Type}{a:α}:∀m:Nat,(List.replicate m [a]).flatten=List.replicate m a
 | 0=>rfl
 | m+1=>by rw [ya6,yby,ziW m,ya6];rfl
noncomputable def zfu(h:WAt S n ts gr r c b ds)(hc:c<=100):zbb [.ref n] S=.ok (zbp (List.replicate (c+2) none)) S:=by
 have e:zgF (.tup [.non]) (.int ((c:Int)+2))=some (zbp (List.replicate (c+2) none)):=by
  show (if _ then _ else _)=_;rw [if_pos (by simp;omega),show ((c:Int)+2).toNat=c+2 by omega,ziW];simp [zbp,oD]
 simp [zbb,zat,zbJ,h.size,e]
noncomputable def zej{k:Nat}(h:WAt S n ts gr r c b ds)(hc:1<=c):zaO [.ref n,.int k] S=.ok (.bl (decide ((k+1) % c=0))) S:=by
 have e:(((k:Int)+1) % (c:Int))=(((k+1) % c:Nat):Int):=by rw [Int.natCast_emod];rfl
 have e3:(((k:Int)+1) % (c:Int)=0)=((k+1) % c=0):=propext (by rw [e];omega);simp [zaO,zat,zcf,h.size,show 0<c from hc,e3]
noncomputable def crO(ts:Z2)(c k:Nat)(s:Z4)(x:Int):Option Int:=if k % c=0 then some (zar ts x 3) else (s.getLastD none)
noncomputable def zjW(ts:Z2)(L c:Nat)(b:Bool)(k:Nat)(s:Z4)(x:Int):List (Option Int) :=
 (if (k+1) % c=0 then none else some (zar ts x 1))::((s.drop 2).dropLast++[if L<=k+c then none else some (zar ts x 2),if b&&!decide ((k+1) % c=0) then crO ts c k s x else none])
noncomputable def tl(ts:Z2)(x:Int):D:=.tup [.int (zar ts x 0),.int (zar ts x 1),.int (zar ts x 2),.int (zar ts x 3)]
noncomputable def okO:Option Int->Int->Bool | none,_=>true | some a,y=>decide (a=y)
noncomputable def zjJ(ts:Z2)(c:Nat)(b:Bool)(k:Nat)(s:Z4)(x:Int):Bool :=
 okO (s.getD 0 none) (zar ts x 3)&&okO (s.getD 1 none) (zar ts x 0)&&(!b||!decide ((k+1) % c=0)||decide (some (zar ts x 1)=crO ts c k s x))
noncomputable def zgU{o:Option Int}{y:Int}:zeU [oD o,.int y] S=.ok (.bl (okO o y)) S:=by
 cases o<;>simp [zeU,zat,zh2,oD,okO]
noncomputable def zle{s:Z4}(h:s≠[]):atI (s.map oD) (-1)=some (oD (s.getLastD none)):=by
 have hl:0<s.length:=List.length_pos_iff.mpr h;unfold atI ixN;rw [yaf,if_neg (by omega),if_pos (by omega)];show (s.map oD)[(-1+(s.length:Int)).toNat]?=_;rw [show (-1+(s.length:Int)).toNat=s.length-1 by omega,yao,ybK,yb2,yac (by omega)];rfl
noncomputable def zcT{k:Nat}{s:Z4}{x:Int}(h:WAt S n ts gr r c b ds)(hc:1<=c)(hs:s.length=c+2):zap [.ref n,.int k,zbp s,tl ts x] S=.ok (oD (crO ts c k s x)) S:=by
 have e:((k:Int) % (c:Int))=((k % c:Nat):Int):=by rw [Int.natCast_emod]
 have e3:((k:Int) % (c:Int)=0)=(k % c=0):=propext (by rw [e];omega);have el:=zle (s:=s) (by rintro rfl;simp at hs)
 by_cases z:k % c=0
 ·simp [zap,zat,zaW,h.size,show 0<c from hc,e3,z,crO,tl,oD]
 ·simp [zap,zat,zaW,h.size,show 0<c from hc,e3,z,crO,zbp,el]
noncomputable def zqv{α:Type}{l:List α}(h:3<=l.length):zgH l (some 2) (some (-1))=(l.drop 2).dropLast:=by
 unfold zgH
 have e1:HT.sIx l.length 0 (some 2)=2:=by
  unfold HT.sIx;simp;omega
 have e2:HT.sIx l.length l.length (some (-1))=l.length-1:=by
  unfold HT.sIx;simp;omega
 rw [e1,e2,List.dropLast_eq_take,ybF];congr 1
noncomputable def sb6:Fe:=eIf (zac 4) (zae .non) (zaf ixD (zag 3) (zae (.int 1)))
noncomputable def sb7:Fe:=eIf (zac 5) (zae .non) (zaf ixD (zag 3) (zae (.int 2)))
noncomputable def sb8:Fe:=eIf (zeF (zeE "Ways" "is_round" (zac 0)) (eUn zez (zac 4))) (zbK "Ways" "colour_round" zap (zac 0) [(zac 1),(zac 2),(zac 3)]) (zae .non)
noncomputable def sbF:Fs:=(zah (sFz [1] (zaG 4 false (zbK "Ways" "ends_row" zaO (zac 0) [(zac 1)])))
  (zah (sFz [] (zaG 5 false (zaf geD (zaf zby (zag 1) (zaf ixD (zeE "Ways" "size" (zac 0)) (zae (.int 1)))) (zau zeA [(zeE "Ways" "ground" (zac 0))]))))
  (zah (sFz [4] (zaG 6 false sb6)) (zah (sFz [5] (zaG 7 false sb7)) (zah (sFz [4,1,2,3] (zaG 8 false sb8))
  (zah (sFz [6,7,8] (za3 (zaf zby (zaf zby (zbC [(zac 6)]) (eSl (zag 2) (some (zae (.int 2))) (some (eUn zmg (zae (.int 1)))))) (zbC [(zac 7),(zac 8)])))) sNx))))))
noncomputable def zr0:zbA=sbF:=rfl
noncomputable def zya{i j:Nat}{bb:Bool}{ρ:Env}{l:List D}{q:Int}{d:D}{S:Sto}(h1:ρ[i]?=some (some (false,.bl bb)))(h2:ρ[j]?=some (some (false,.tup l)))(h3:atI l q=some d):eIf (zac i) (zae .non) (zaf ixD (zag j) (zae (.int q))) ρ S=.ok (if bb then .non else d) S:=by
 cases bb<;>simp [h1,h2,h3]
noncomputable def zzI{k:Nat}{s:Z4}{x:Int}{bb:Bool}{ρ:Env}(h:WAt S n ts gr r c b ds)(hc:1<=c)(hs:s.length=c+2)(h0:ρ[0]?=some (some (false,.ref n)))(h1:ρ[1]?=some (some (false,.int k)))(h2:ρ[2]?=some (some (false,zbp s)))(h3:ρ[3]?=some (some (false,tl ts x)))(h4:ρ[4]?=some (some (false,.bl bb))) :
  sb8 ρ S=.ok (if b&&!bb then oD (crO ts c k s x) else .non) S:=by
 have e2:=zcT (k:=k) (s:=s) (x:=x) h hc hs;have m2:=h.meth "colour_round" (by decide +kernel);generalize tl ts x=tt at *;generalize zbp s=sd at *;cases b
 ·simp [sb8,h0,h.round]
 ·cases bb<;>simp [sb8,h0,h1,h2,h3,h4,h.round,m2,e2]
noncomputable def zeQ{k:Nat}{s:Z4}{x:Int}(h:WAt S n ts gr r c b ds)(hc:1<=c)(hc2:c<=100)(hs:s.length=c+2):za4 [.ref n,.int k,zbp s,tl ts x] S=.ok (zbp (zjW ts gr.length c b k s x)) S:=by
 have e1:=zej (k:=k) h hc;have m1:=h.meth "ends_row" (by decide +kernel);have eg:((gr.length:Int)<=(k:Int)+(c:Int))=(gr.length<=k+c):=propext (by omega)
 have ec:zgH (s.map oD) (some 2) (some (-1))=((s.drop 2).dropLast).map oD:=by
  rw [zqv (by rw [yaf];omega),List.map_dropLast,List.map_drop]
 have hl:((s.drop 2).dropLast).length<=100:=by rw [ycz,ybF,hs];omega
 have E6:=fun (ρ:Env) (h4:ρ[4]?=some (some (false,.bl (decide ((k+1) % c=0))))) (h3:ρ[3]?=some (some (false,tl ts x)))=>(show sb6 ρ S=_ from zya (S:=S) (i:=4) (j:=3) (q:=1) (d:=.int (zar ts x 1)) h4 h3 rfl)
 have E7:=fun (ρ:Env) (h4:ρ[5]?=some (some (false,.bl (decide (gr.length<=k+c))))) (h3:ρ[3]?=some (some (false,tl ts x)))=>(show sb7 ρ S=_ from zya (S:=S) (i:=5) (j:=3) (q:=2) (d:=.int (zar ts x 2)) h4 h3 rfl)
 have E8:=fun (ρ:Env)=>zzI (k:=k) (s:=s) (x:=x) (bb:=decide ((k+1) % c=0)) (ρ:=ρ) h hc hs
 have ef:zbp (zjW ts gr.length c b k s x)=.tup ([if decide ((k+1) % c=0) then .non else .int (zar ts x 1)]++((s.drop 2).dropLast).map oD++[if decide (gr.length<=k+c) then .non else .int (zar ts x 2),if b&&!decide ((k+1) % c=0) then oD (crO ts c k s x) else .non]):=by
  unfold zjW zbp
  by_cases z1:(k+1) % c=0<;>by_cases z2:gr.length<=k+c<;>cases b<;>simp [z1,z2,oD]
 rw [ef];clear ef;have hsd:zbp s=.tup (s.map oD):=rfl;rw [hsd] at E8 ⊢;generalize oD (crO ts c k s x)=cr at *;generalize ((s.drop 2).dropLast)=M at ec hl ⊢;generalize s.map oD=sd at *;generalize tl ts x=tt at *;generalize (if decide ((k+1) % c=0) then D.non else .int (zar ts x 1))=d6 at *;generalize (if decide (gr.length<=k+c) then D.non else .int (zar ts x 2))=d7 at *;generalize (if b&&!decide ((k+1) % c=0) then cr else .non)=d8 at *
 have l1:1+M.length<=100000:=by omega
 have l2:M.length+1+2<=100000:=by omega
 have l3:M.length+1+1+1<=100000:=by omega
 simp only [za4,zat,zr0];simp [sbF,h.size,h.ground,m1,e1,eg,E6,E7,E8,ec,l1,l2,l3]
end
end S2
namespace S2
open PySem
open L2 hiding D
noncomputable def ziI(ts:Z2):Option Int->List Int | none=>(List.range ts.length).map fun (i:Nat)=>(i:Int) | some x=>[x]
noncomputable def zpS{ts:Z2}{o:Option Int}(ho:∀x,o=some x->0<=x/\x<ts.length):∀x∈ziI ts o,0<=x/\x<ts.length:=by
 intro x hx
 cases o with
 | none =>
  obtain ⟨i,hi,rfl⟩:=yaw.mp hx;have:=yaC.mp hi;omega
 | some y=>rw [yaQ.mp hx];exact ho y rfl
section
variable{S:Sto}{n:Nat}{ts:Z2}{gr:Z4}{r c:Nat}{b:Bool}{ds:List (D×D)}
noncomputable def zeR{k:Nat}{o:Option Int}(h:WAt S n ts gr r c b ds)(ht:ts.length<=100)(hk:gr[k]?=some o)(ho:∀x,o=some x->0<=x/\x<ts.length):zaK [.ref n,.int k] S=.ok (.lst ((ziI ts o).map D.int)) S:=by
 have e1:atI (gr.map oD) (k:Int)=some (oD o):=by rw [zbQ,yao,hk];rfl
 have e2:=zcu (ts:=ts.map zab) (o:=o) (S:=S) (fun x hx=>by simpa using ho x hx)
 cases o with
 | none =>
  have e3:lrD (.int (ts.length:Int))=some (.lst (((List.range ts.length).map fun (i:Nat)=>(i:Int)).map D.int)):=by
   show (if decide (0<=(ts.length:Int)/\(ts.length:Int)<=1000)=true then _ else none)=_;rw [if_pos (yaM ⟨by omega,by omega⟩),yaZ,yaX];rfl
  simp [zaK,zat,za5,h.ground,h.tiles,e1,oD,e3,ziI]
 | some x =>
  simp only [oD] at e2;simp [zaK,zat,za5,h.ground,h.tiles,e1,oD,e2,ziI]
noncomputable def zmy{k:Nat}{s:Z4}{x:Int}(h:WAt S n ts gr r c b ds)(hc:1<=c)(hs:s.length=c+2):zcJ [.ref n,.int k,zbp s,tl ts x] S=.ok (.bl (zjJ ts c b k s x)) S:=by
 have e1:=zej (k:=k) h hc;have e2:=zcT (k:=k) (s:=s) (x:=x) h hc hs;have m1:=h.meth "ends_row" (by decide +kernel);have m2:=h.meth "colour_round" (by decide +kernel);have m3:=h.meth "fits_round" (by decide +kernel);have tlE:tl ts x=.tup [.int (zar ts x 0),.int (zar ts x 1),.int (zar ts x 2),.int (zar ts x 3)]:=rfl
 have e3:zaN [.ref n,.int k,zbp s,tl ts x] S=.ok (.bl (!b||!decide ((k+1) % c=0)||decide (some (zar ts x 1)=crO ts c k s x))) S:=by
  have eq:∀o:Option Int,eqD (.int (zar ts x 1)) (oD o)=some (.bl (decide (some (zar ts x 1)=o))):=by
   intro o
   cases o with
   | none=>rfl
   | some y=>simp [oD]
  rw [tlE] at e2 ⊢;generalize zbp s=sd at e2 ⊢;generalize crO ts c k s x=cr at e2 ⊢
  cases b with
  | false=>simp [zaN,zat,zbc,h.round]
  | true=>by_cases z:(k+1) % c=0<;>simp [zaN,zat,zbc,h.round,m1,m2,e1,e2,z,eq]
 have g0:(s.map oD)[0]?=some (oD (s.getD 0 none)):=by
  rw [yao,yae,yac (by omega)];rfl
 have g1:(s.map oD)[1]?=some (oD (s.getD 1 none)):=by
  rw [yao,yae,yac (by omega)];rfl
 have s0:=zgU (S:=S) (o:=s.getD 0 none) (y:=zar ts x 3);have s1:=zgU (S:=S) (o:=s.getD 1 none) (y:=zar ts x 0);unfold zjJ;generalize (!b||!decide ((k+1) % c=0)||decide (some (zar ts x 1)=crO ts c k s x))=rr at e3 ⊢;unfold zbp at e3 ⊢;generalize s.map oD=sd at e3 g0 g1 ⊢;generalize s.getD 0 none=q0 at g0 s0 ⊢;generalize s.getD 1 none=q1 at g1 s1 ⊢;rw [tlE] at e3 ⊢
 cases h0:okO q0 (zar ts x 3)<;>cases h1:okO q1 (zar ts x 0)<;>rw [h0] at s0<;>rw [h1] at s1 <;>
  simp [zcJ,zat,zdF,g0,g1,s0,s1,m3,e3]
noncomputable def chD(p:Int×List (Option Int)):D:=.tup [.int p.1,zbp p.2]
noncomputable def chs(ts:Z2)(gr:Z4)(c:Nat)(b:Bool)(k:Nat)(s:Z4):List (Int×List (Option Int)) :=
 ((ziI ts (gr.getD k none)).filter (zjJ ts c b k s)).map fun x=>(x,zjW ts gr.length c b k s x)
noncomputable def chG(ts:Z2)(L c:Nat)(b:Bool)(k:Nat)(s:Z4):D->List D
 | .int x=>if zjJ ts c b k s x then [chD (x,zjW ts L c b k s x)] else []
 | _=>[]
theorem zgz{L:Nat}{k:Nat}{s:Z4}:∀l:List Int,(l.map D.int).flatMap (chG ts L c b k s)=((l.filter (zjJ ts c b k s)).map fun x=>(x,zjW ts L c b k s x)).map chD
 | []=>rfl
 | x::l=>by
  rw [yaq,yaU,zgz l,ycu];show (if zjJ ts c b k s x then [chD (x,zjW ts L c b k s x)] else [])++_=_
  cases zjJ ts c b k s x<;>simp
noncomputable def zhN{k:Nat}{s:Z4}(h:WAt S n ts gr r c b ds)(ht:TOk ts)(hk:k<gr.length)(hg:∀o∈gr,∀x,o=some x->0<=x/\x<ts.length)(hc:1<=c)(hc2:c<=100)(hs:s.length=c+2) :
  zbi [.ref n,.int k,zbp s] S=.ok (.lst ((chs ts gr c b k s).map chD)) S:=by
 have hk':gr[k]?=some (gr.getD k none):=by rw [yae,yac hk];rfl
 have ho:=hg _ (ybL hk');have e1:=zeR h ht.le hk' ho;have m1:=h.meth "numbers_for" (by decide +kernel);have m2:=h.meth "fits" (by decide +kernel);have m3:=h.meth "seam_behind" (by decide +kernel);have hin:=zpS ho
 have hlen:(ziI ts (gr.getD k none)).length<=100:=by
  cases gr.getD k none with
  | none=>simp only [ziI,yaf,ybY];exact ht.le
  | some x=>simp [ziI]
 unfold chs;generalize ziI ts (gr.getD k none)=nums at e1 hin hlen ⊢
 have fl:((nums.map D.int).flatMap (chG ts gr.length c b k s)).length<=100:=by
  rw [zgz,yaf,yaf];exact yaj (ycr _ _) hlen
 obtain ⟨x',e⟩:=zdg (tg:=.one 4) (body:=zaZ) (S:=S) (fun L (x:Option (Bool×D)×Option (Bool×D))=>[some (false,.ref n),some (false,.int k),some (false,zbp s),some (true,.lst L),x.1,x.2]) (chG ts gr.length c b k s) 50000 (ds:=nums.map D.int) (by
  intro d hd L x hL;obtain ⟨y,hy,rfl⟩:=yaw.mp hd;obtain ⟨y0,y1⟩:=hin y hy;have et:=zeJ ht y0 y1;have et':atI (ts.map zab) y=some (tl ts y):=et;have ef:=zmy (k:=k) (s:=s) (x:=y) h hc hs;have eb:=zeQ (k:=k) (s:=s) (x:=y) h hc hc2 hs
  have hLs:L.length<=100000:=by omega
  refine ⟨_,(some (false,.int y),some (false,tl ts y)),rfl,?_⟩;show zaZ [some (false,.ref n),some (false,.int k),some (false,zbp s),some (true,.lst L),some (false,.int y),x.2] S=.nx [some (false,.ref n),some (false,.int k),some (false,zbp s),some (true,.lst (L++(if zjJ ts c b k s y then [chD (y,zjW ts gr.length c b k s y)] else []))),some (false,.int y),some (false,tl ts y)] S
  cases hf:zjJ ts c b k s y with
  | true =>
   rw [hf] at ef;simp [zaZ,h.tiles,et',m2,ef,m3,eb,chD,hLs]
  | false =>
   rw [hf] at ef
   simp [zaZ,h.tiles,et',m2,ef]) [] (none,none) (by simp only [ybO];omega)
 rw [zgz] at e;simp only [ycd] at e;generalize ((nums.filter (zjJ ts c b k s)).map fun x=>(x,zjW ts gr.length c b k s x)).map chD=res at e ⊢;simp [zbi,zat,zcx,m1,e1,e]
end
end S2
namespace S2
open PySem
open L2 hiding D
noncomputable def ziP(c x:Str)(i:Nat)(ρ:Env)(r:D):Out D->Fo
 | .bad=>.bad
 | .exc c S2=>.ex c ρ S2
 | .ok d S2=>(match zj0 ρ i,zgG c x d S2 with
   | some k,some (n,ob,ds)=>if (zbr k ds).isNone&&decide (ds.length<=1000000)&&zfK ob then .nx ρ (S2.set n (ob.put x true (.dic (ds++[(nkD k,r)])))) else .bad
   | _,_=>.bad)
noncomputable def zp7(c x:Str)(f:Fe)(i:Nat)(ρ:Env):Out D->Fo
 | .bad=>.bad
 | .exc c S2=>.ex c ρ S2
 | .ok r S1=>ziP c x i ρ r (f ρ S1)
@[simp] noncomputable def zuv{c x:Str}{f g:Fe}{i:Nat}{ρ:Env}{S:Sto}:zhJ c x f i g ρ S=zp7 c x f i ρ (g ρ S):=by
 unfold zhJ zp7
 cases g ρ S with
 | ok r S1=>dsimp only;unfold ziP;cases f ρ S1<;>rfl
 | exc c S=>rfl
 | bad=>rfl
@[simp] noncomputable def zxy{c x:Str}{f:Fe}{i:Nat}{ρ:Env}{S:Sto}{r:D}:zp7 c x f i ρ (.ok r S)=ziP c x i ρ r (f ρ S):=(rfl)
noncomputable def zp0{c x:Str}{i n:Nat}{ρ:Env}{S:Sto}{r d:D}{k:NK}{ob:Ob}{ds:List (D×D)}(hk:zj0 ρ i=some k)(hd:zgG c x d S=some (n,ob,ds))(h1:zbr k ds=none)(h2:ds.length<=1000000)(h3:zfK ob=true):ziP c x i ρ r (.ok d S)=.nx ρ (S.set n (ob.put x true (.dic (ds++[(nkD k,r)])))):=by
 show (match zj0 ρ i,zgG c x d S with | some k,some (n,ob,ds)=>_ | _,_=>_)=_;rw [hk,hd];show (if _ then _ else _)=_;rw [if_pos];rw [h1,h3,yaM h2];rfl
noncomputable def zdp(ts:Z2)(gr:Z4)(c:Nat)(b:Bool):Nat->Nat->List (Option Int)->Nat
 | 0,_,_=>1
 | m+1,k,s=>((chs ts gr c b k s).map fun p=>zdp ts gr c b m (k+1) p.2).sum
noncomputable def zdo(q:Nat):Nat->Nat
 | 0=>0
 | m+1=>1+q*zdo q m
theorem zd0{k:NK}{q d:D}:∀ds:List (D×D),zbr k (ds++[(q,d)])=(zbr k ds).or (if ziN q=some k then some d else none)
 | []=>by show (if _ then _ else _)=_;simp [zbr]
 | (q',d')::ds=>by
  show (if ziN q'=some k then some d' else zbr k (ds++[(q,d)]))=_;rw [zd0 ds];show _=(if ziN q'=some k then some d' else zbr k ds).or _
  split<;>simp
noncomputable def zuq(ts:Z2)(gr:Z4)(c:Nat)(b:Bool)(ds:List (D×D)):Prop:=∀(k:Nat) s d,zbr ((k:Int),s) ds=some d->d=.int (zdp ts gr c b (gr.length-k) k s)
noncomputable def zf7{S:Sto}{n:Nat}{ob:Ob}(h:S[n]?=some ob):S.set n ob=S:=by
 obtain ⟨hn,e⟩:=yag.mp h;apply ybA;intro i
 by_cases z:n=i
 ·subst z;rw [yaA hn,h]
 ·rw [yaP z]
noncomputable def zlV{ts:Z2}{gr:Z4}{c:Nat}{b:Bool}{k:Nat}{s:Z4}(h1:1<=ts.length):(chs ts gr c b k s).length<=ts.length:=by
 unfold chs;rw [yaf];refine yaj (ycr _ _) ?_
 cases gr.getD k none with
 | none=>simp [ziI]
 | some x=>simpa [ziI] using h1
noncomputable def zl1{ts:Z2}{L c:Nat}{b:Bool}{k:Nat}{s:Z4}{x:Int}(hc:1<=c)(hs:s.length=c+2):(zjW ts L c b k s x).length=c+2:=by
 unfold zjW;rw [yai,yal,ycz,ybF,hs];simp only [yai,ybO];omega
noncomputable def znM{ts:Z2}{gr:Z4}{c:Nat}{b:Bool}{k:Nat}{s:Z4}(hc:1<=c)(hs:s.length=c+2):∀p∈chs ts gr c b k s,p.2.length=c+2:=by
 intro p hp;obtain ⟨x,_,rfl⟩:=yaw.mp hp;exact zl1 hc hs
theorem zj2{α:Type}{f:α->Nat}{m:Nat}:∀{l:List α},(∀x∈l,f x<=m)->(l.map f).sum<=l.length*m
 | [],_=>by simp
 | x::l,h=>by
  have h1:=h x yax;have h2:=zj2 (l:=l) fun y hy=>h y (yap _ hy)
  rw [yaq,ybq,yai,Nat.add_mul];omega
theorem zj3{ts:Z2}{gr:Z4}{c:Nat}{b:Bool}(h1:1<=ts.length):∀m k s,zdp ts gr c b m k s<=ts.length ^ m
 | 0,_,_=>by simp [zdp]
 | m+1,k,s=>by
  unfold zdp;refine yaj (zj2 fun p _=>zj3 h1 m (k+1) p.2) ?_;rw [Nat.pow_succ,ybr];exact Nat.mul_le_mul_left _ (zlV h1)
structure CfOk(n:Nat)(ts:Z2)(gr:Z4)(r c:Nat)(b:Bool)(m:Nat)(rc:List D->Sto->Out D):Prop where
 run:∀(S:Sto) (ds:List (D×D)) (k:Nat) (s:Z4),WAt S n ts gr r c b ds->zuq ts gr c b ds->k+m=gr.length->s.length=c+2->ds.length+zdo ts.length m<=1000000 →
  ∃ds',rc [.ref n,.int k,zbp s] S=.ok (.int (zdp ts gr c b m k s)) (S.set n (wOb (.tup (ts.map zab)) (.lst (gr.map oD)) (.tup [.int r,.int c]) b ds'))/\zuq ts gr c b ds'/\ds'.length<=ds.length+zdo ts.length m/\∀k' s',k'<k->zbr (((k':Nat):Int),s') ds'=zbr (((k':Nat):Int),s') ds
section
variable{n:Nat}{ts:Z2}{gr:Z4}{r c:Nat}{b:Bool}
theorem zi7{m k:Nat}{rc:List D->Sto->Out D}(C:CfOk n ts gr r c b m rc)(hk:k+1+m=gr.length):∀(l:List (Int×List (Option Int))) (S:Sto) (ds:List (D×D)),(∀p∈l,p.2.length=c+2)->WAt S n ts gr r c b ds->zuq ts gr c b ds->ds.length+l.length*zdo ts.length m<=1000000 →
  ∃ds',zbL (.one 0) zdl (zbK "Ways" "count_from" rc (zac 1) [(zaf zby (zag 2) (zae (.int 1))),(zaf ixD (zag 0) (zae (.int 1)))]) [none,some (false,.ref n),some (false,.int k)] (l.map chD) S
   = .ok (l.map fun p=>.int (zdp ts gr c b m (k+1) p.2)) (S.set n (wOb (.tup (ts.map zab)) (.lst (gr.map oD)) (.tup [.int r,.int c]) b ds'))/\zuq ts gr c b ds'/\ds'.length<=ds.length+l.length*zdo ts.length m/\∀k' s',k'<k+1->zbr (((k':Nat):Int),s') ds'=zbr (((k':Nat):Int),s') ds
 | [],S,ds,_,W,M,_=>⟨ds,by rw [zf7 W.at_];rfl,M,by simp,fun _ _ _=>rfl⟩
 | p::l,S,ds,hl,W,M,hz=>by
  rw [yai,Nat.add_mul] at hz;obtain ⟨ds1,e1,M1,z1,u1⟩:=C.run S ds (k+1) p.2 W M hk (hl p yax) (by omega);obtain ⟨ds2,e2,M2,z2,u2⟩:=zi7 C hk l _ ds1 (fun q hq=>hl q (yap _ hq)) (W.put ds1) M1 (by omega);refine ⟨ds2,?_,M2,by rw [yai,Nat.add_mul];omega,fun k' s' hk'=>(u2 k' s' hk').trans (u1 k' s' hk')⟩;rw [List.set_set] at e2;have mo:=W.meth "count_from" (by decide +kernel);have e1':rc [.ref n,.int ((k:Int)+1),zbp p.2] S=_:=e1;unfold zbL;rw [yaq];dsimp only;generalize hob:wOb (.tup (ts.map zab)) (.lst (gr.map oD)) (.tup [.int r,.int c]) b ds1=ob1 at *;simp [chD,mo,e1',e2]
noncomputable def zqA{f:Nat}:CfOk n ts gr r c b 0 (zmC 4 false zaj (f+1)) where
 run:=fun S ds k s W M hk hs hz=>by
  refine ⟨ds,?_,M,Nat.le_add_right _ _,fun _ _ _=>rfl⟩;rw [zf7 W.at_]
  have hk':k=gr.length:=by omega
  subst hk';show zbD 4 false (zaj _) _ _=_;simp [zat,zaj,W.ground,zdp]
noncomputable def zqB{m f:Nat}(C:CfOk n ts gr r c b m (zmC 4 false zaj f))(ht:TOk ts)(h1:1<=ts.length)(hg:∀o∈gr,∀x,o=some x->0<=x/\x<ts.length)(hc:1<=c)(hc2:c<=100)(hp:ts.length ^ m<=1000000):CfOk n ts gr r c b (m+1) (zmC 4 false zaj (f+1)) where
 run:=fun S ds k s W M hk hs hz=>by
  have hkl:k<gr.length:=by omega
  have hne:decide ((k:Int)=(gr.length:Int))=false:=yaS (by omega);have ek:=zmt (k:=(k:Int)) (s:=s);show ∃ds',zbD 4 false (zaj _) _ _=_/\_;generalize zmC 4 false zaj f=rc at C
  cases hd:zbr ((k:Int),s) ds with
  | some d =>
   have hd':=M k s d hd;rw [show gr.length-k=m+1 by omega] at hd';subst hd';refine ⟨ds,?_,M,Nat.le_add_right _ _,fun _ _ _=>rfl⟩;rw [zf7 W.at_];generalize zbp s=sd at ek;generalize zdp ts gr c b (m+1) k s=cc at hd;simp [zat,zaj,W.ground,W.known,hne,ek,hd,zj0]
  | none =>
   have hcl:=zlV (gr:=gr) (c:=c) (b:=b) (k:=k) (s:=s) h1;have hmul:(chs ts gr c b k s).length*zdo ts.length m<=ts.length*zdo ts.length m:=ybx _ hcl;have hz':ds.length+(1+ts.length*zdo ts.length m)<=1000000:=hz;have ech:=zhN (k:=k) (s:=s) W ht hkl hg hc hc2 hs;obtain ⟨ds1,e1,M1,z1,u1⟩:=zi7 C (k:=k) (by omega) (chs ts gr c b k s) S ds (znM hc hs) W M (by omega);have hd1:zbr ((k:Int),s) ds1=none:=(u1 k s (yb3 k)).trans hd
   have hsum:zqU [.lst ((chs ts gr c b k s).map fun p=>D.int (zdp ts gr c b m (k+1) p.2:Nat))]=some (.int (zdp ts gr c b (m+1) k s:Nat)):=by
    have ei:∀l:List (Int×List (Option Int)),zdu (l.map fun p=>D.int (zdp ts gr c b m (k+1) p.2:Nat))=some (l.map fun p=>((zdp ts gr c b m (k+1) p.2:Nat):Int)):=by
     intro l
     induction l with
     | nil=>rfl
     | cons p l ih=>rw [yaq,yaq];simp [zdu,ih]
    have es:∀l:List (Int×List (Option Int)),(l.map fun p=>((zdp ts gr c b m (k+1) p.2:Nat):Int)).sum=(((l.map fun p=>zdp ts gr c b m (k+1) p.2).sum:Nat):Int):=by
     intro l
     induction l with
     | nil=>rfl
     | cons p l ih=>rw [yaq,yaq,ybq,ybq,ih,Int.natCast_add]
    show (zdu _).bind _=_;rw [ei];show (if _ then some (D.int _) else none)=_;rw [if_pos,es]
    ·rfl
    ·rw [yab];refine ⟨yaM (by rw [yaf];exact yaj hcl (yaj ht.le (by decide))),?_⟩;rw [ybk];intro x hx;obtain ⟨p,_,rfl⟩:=yaw.mp hx;have:=zj3 (gr:=gr) (c:=c) (b:=b) h1 m (k+1) p.2;exact yaM (by omega)
   have W1:=W.put ds1;have mo:=W.meth "choices" (by decide +kernel);have hlen:(chs ts gr c b k s).length<=100000:=yaj hcl (yaj ht.le (by decide))
   have hnd:zfK (wOb (.tup (ts.map zab)) (.lst (gr.map oD)) (.tup [.int r,.int c]) b ds1)=true:=by
    unfold zfK;show decide ((["tiles","ground","size","is_round","known"]:List Str).Nodup)=true;decide +kernel
   have hput:(wOb (.tup (ts.map zab)) (.lst (gr.map oD)) (.tup [.int r,.int c]) b ds1).put "known" true (.dic (ds1++[(nkD ((k:Int),s),.int (zdp ts gr c b (m+1) k s:Nat))]))=wOb (.tup (ts.map zab)) (.lst (gr.map oD)) (.tup [.int r,.int c]) b (ds1++[(nkD ((k:Int),s),.int (zdp ts gr c b (m+1) k s:Nat))]):=by rfl
   refine ⟨ds1++[(nkD ((k:Int),s),.int (zdp ts gr c b (m+1) k s:Nat))],?_,?_,?_,?_⟩
   ·have W2:=W.put (ds1++[(nkD ((k:Int),s),.int (zdp ts gr c b (m+1) k s:Nat))])
    have hl2:zbr ((k:Int),s) (ds1++[(nkD ((k:Int),s),.int (zdp ts gr c b (m+1) k s:Nat))])=some (.int (zdp ts gr c b (m+1) k s:Nat)):=by
     rw [zd0,hd1,zdR,if_pos rfl];rfl
    generalize hres:(chs ts gr c b k s).map (fun p=>D.int (zdp ts gr c b m (k+1) p.2:Nat))=res at e1 hsum
    have hrl:res.length<=100000:=by rw [<-hres,yaf];exact hlen
    have hkey:zj0 [some (false,D.ref n),some (false,.int k),some (false,zbp s),some (false,.tup [.int k,zbp s])] 3=some ((k:Int),s):=ek;have hpk:=zp0 (r:=.int (zdp ts gr c b (m+1) k s:Nat)) hkey W1.known hd1 (by omega) hnd;rw [hput,List.set_set] at hpk;have hkn:=W2.known;have hkn0:=W.known;have hgr:=W.ground;generalize wOb (.tup (ts.map zab)) (.lst (gr.map oD)) (.tup [.int r,.int c]) b (ds1++[(nkD ((k:Int),s),.int (zdp ts gr c b (m+1) k s:Nat))])=ob2 at hpk hkn ⊢;generalize wOb (.tup (ts.map zab)) (.lst (gr.map oD)) (.tup [.int r,.int c]) b ds1=ob1 at hpk e1;generalize ds1++[(nkD ((k:Int),s),D.int (zdp ts gr c b (m+1) k s:Nat))]=ds2 at hkn hl2;generalize zdp ts gr c b (m+1) k s=vv at hsum hpk hl2 ⊢;generalize zbp s=sd at ek ech hkey hpk ⊢;generalize (chs ts gr c b k s).map chD=cs at ech e1;simp [zat,zaj,hgr,hkn0,hne,ek,hd,mo,ech,e1,hrl,hsum,hpk,hkey,hkn,hl2]
   ·intro k' s' d h';rw [zd0] at h'
    cases h2:zbr ((k':Int),s') ds1 with
    | some d'=>rw [h2] at h';cases h';exact M1 k' s' _ h2
    | none =>
     rw [h2,zdR] at h';have h'':(if some ((k:Int),s)=some ((k':Int),s') then some (D.int (zdp ts gr c b (m+1) k s:Nat)) else none)=some d:=h';split at h''
     ·rename_i ee;cases h'';have ee':=Option.some.inj ee
      have ek':k=k':=by have z:(k:Int)=(k':Int):=congrArg Prod.fst ee';omega
      have es':s=s':=congrArg Prod.snd ee';subst ek';subst es';rw [show gr.length-k=m+1 by omega]
     ·cases h''
   ·rw [yal,ybf];show _<=ds.length+(1+ts.length*zdo ts.length m);omega
   ·intro k' s' hk';rw [zd0,u1 k' s' (by omega),zdR,if_neg]
    ·cases zbr ((k':Int),s') ds<;>rfl
    ·intro z;have:=congrArg Prod.fst (Option.some.inj z);simp at this;omega
end
end S2
namespace S2
open PySem
open L2 hiding D
noncomputable def ziR(c x:Str)(ρ:Env)(r:D):Out D->Fo
 | .bad=>.bad
 | .exc c S2=>.ex c ρ S2
 | .ok (.ref n) S2=>(match S2[n]? with
   | some ob=>if decide (ob.cls=c)&&decide (ob.fs.length<1000) then .nx ρ (S2.set n (ob.put x false r)) else .bad
   | none=>.bad)
 | .ok _ _=>.bad
noncomputable def zp8(c x:Str)(f:Fe)(ρ:Env):Out D->Fo
 | .bad=>.bad
 | .exc c S2=>.ex c ρ S2
 | .ok r S1=>ziR c x ρ r (f ρ S1)
@[simp] noncomputable def zux{c x:Str}{f g:Fe}{ρ:Env}{S:Sto}:zf9 c x f g ρ S=zp8 c x f ρ (g ρ S):=by
 unfold zf9 zp8
 cases g ρ S with
 | ok r S1 =>
  dsimp only;unfold ziR
  cases f ρ S1 with
  | ok d S2=>cases d<;>rfl
  | exc c S=>rfl
  | bad=>rfl
 | exc c S=>rfl
 | bad=>rfl
@[simp] noncomputable def zxG{c x:Str}{f:Fe}{ρ:Env}{S:Sto}{r:D}:zp8 c x f ρ (.ok r S)=ziR c x ρ r (f ρ S):=(rfl)
noncomputable def zp1{c x:Str}{n:Nat}{ρ:Env}{S:Sto}{r:D}{fs:List (Str×Bool×D)}(h:fs.length<1000)(hn:S.length=n):ziR c x ρ r (.ok (.ref n) (S++[⟨c,fs⟩]))=.nx ρ (S++[⟨c,zaL x false r fs⟩]):=by
 subst hn;show (match (S++[(⟨c,fs⟩:Ob)])[S.length]? with | some ob=>_ | none=>_)=_;rw [yau (yam _),ybJ];show (if _ then Fo.nx ρ ((S++[(⟨c,fs⟩:Ob)]).set S.length _) else _)=_;rw [if_pos,List.set_append_right _ _ (yam _),ybJ]
 ·rfl
 ·rw [yab];exact ⟨yaM rfl,yaM h⟩
noncomputable def zoK{c x:Str}{n i:Nat}{ρ:Env}{S:Sto}{fs:List (Str×Bool×D)}(hi:ρ[i]?=some (some (false,.ref n)))(h:fs.length<1000)(hn:S.length=n):zjo c x i ρ (S++[⟨c,fs⟩])=.nx ρ (S++[⟨c,zaL x true (.dic []) fs⟩]):=by
 subst hn;unfold zjo;rw [hi];show (match (S++[(⟨c,fs⟩:Ob)])[S.length]? with | some ob=>_ | none=>_)=_;rw [yau (yam _),ybJ];show (if _ then Fo.nx ρ ((S++[(⟨c,fs⟩:Ob)]).set S.length _) else _)=_;rw [if_pos,List.set_append_right _ _ (yam _),ybJ]
 ·rfl
 ·rw [yab];exact ⟨yaM rfl,yaM h⟩
theorem zcY{x:Str}{o:Bool}{d:D}:∀{gs:List (Str×Bool×D)},(zaL x o d gs).length<=gs.length+1
 | []=>by simp [zaL]
 | (y,z)::gs=>by
  unfold zaL;split
  ·simp
  ·have:=zcY (x:=x) (o:=o) (d:=d) (gs:=gs);simp only [yai];omega
noncomputable def zao(r c:Nat)(g:Z1):List (Option Int):=(List.range r).flatMap fun i=>(List.range c).map fun j=>g i j
noncomputable def zy6(g:Z1):D->D | .tup [.int i,.int j]=>oD (g i.toNat j.toNat) | _=>.non
noncomputable def zfP{r c:Nat}{g:Z1}:(zer r c).map (zy6 g)=(zao r c g).map oD:=by
 unfold zer zao;rw [ycv,ycv];congr 1;funext i;rw [yaX,yaX];rfl
noncomputable def za1{r c:Nat}{g:Z1}:(zao r c g).length=r*c:=by
 have:=congrArg List.length (zfP (r:=r) (c:=c) (g:=g));rw [yaf,yaf,zgg] at this;exact this.symm
noncomputable def zmx{r c:Nat}{g:Z1}{T:D}{b:Bool}{S:Sto}(h1:1<=r)(hr:r<=100)(hc:c<=100) :
  za6 [.ref S.length,T,flr r c g,.bl b] (S++[⟨"Ways",[]⟩])=.ok .non (S++[wOb T (.lst ((zao r c g).map oD)) (.tup [.int r,.int c]) b []]):=by
 have e1:∀S',zbq [flr r c g] S'=.ok (.lst (zer r c)) S':=fun S'=>zda h1 hr hc
 have e2:∀S',zaM [flr r c g] S'=.ok (.tup [.int r,.int c]) S':=fun S'=>zbn h1
 have e3:∀S',zbL (.one 0) zdl (eFn zaS [(zac 1),(zac 0)]) [none,some (false,flr r c g)] (zer r c) S'=.ok ((zao r c g).map oD) S':=fun S'=>by
  rw [<-zfP];refine zaY fun d hd=>?_
  obtain ⟨i,j,hi,hj,rfl⟩:=zeV hd;refine ⟨_,rfl,?_⟩;have:=zd5 (g:=g) (S:=S') hi hj;simp [this];rfl
 have hl:((zao r c g).map oD).length<=100000:=by
  rw [yaf,za1];exact yaj (ya0 hr hc) (by decide)
 generalize (zao r c g).map oD=gl at e3 hl;generalize flr r c g=fl at *;have l1:=zcY (x:="tiles") (o:=false) (d:=T) (gs:=[]);have l2:=zcY (x:="ground") (o:=false) (d:=.lst gl) (gs:=zaL "tiles" false T []);have l3:=zcY (x:="size") (o:=false) (d:=.tup [.int r,.int c]) (gs:=zaL "ground" false (.lst gl) (zaL "tiles" false T []));have l4:=zcY (x:="is_round") (o:=false) (d:=.bl b) (gs:=zaL "size" false (.tup [.int r,.int c]) (zaL "ground" false (.lst gl) (zaL "tiles" false T [])));have p1:=fun (x:Str) (ρ:Env) (d:D) (fs:List (Str×Bool×D)) (h:fs.length<1000)=>zp1 (c:="Ways") (x:=x) (ρ:=ρ) (S:=S) (r:=d) (fs:=fs) h rfl
 have l0:([]:List (Str×Bool×D)).length=0:=rfl;have p2:=zoK (c:="Ways") (x:="known") (i:=0) (ρ:=[some (false,.ref S.length),some (false,T),some (false,fl),some (false,.bl b)]) (S:=S) (n:=S.length) (fs:=zaL "is_round" false (.bl b) (zaL "size" false (.tup [.int r,.int c]) (zaL "ground" false (.lst gl) (zaL "tiles" false T [])))) rfl (by omega) rfl;have q1:=p1 "tiles" [some (false,.ref S.length),some (false,T),some (false,fl),some (false,.bl b)] T [] (by omega);have q2:=p1 "ground" [some (false,.ref S.length),some (false,T),some (false,fl),some (false,.bl b)] (.lst gl) (zaL "tiles" false T []) (by omega);have q3:=p1 "size" [some (false,.ref S.length),some (false,T),some (false,fl),some (false,.bl b)] (.tup [.int r,.int c]) (zaL "ground" false (.lst gl) (zaL "tiles" false T [])) (by omega);have q4:=p1 "is_round" [some (false,.ref S.length),some (false,T),some (false,fl),some (false,.bl b)] (.bl b) (zaL "size" false (.tup [.int r,.int c]) (zaL "ground" false (.lst gl) (zaL "tiles" false T []))) (by omega);clear l1 l2 l3 l4 l0
 have fin:(⟨"Ways",zaL "known" true (.dic []) (zaL "is_round" false (.bl b) (zaL "size" false (.tup [.int r,.int c]) (zaL "ground" false (.lst gl) (zaL "tiles" false T []))))⟩:Ob)=wOb T (.lst gl) (.tup [.int r,.int c]) b []:=by rfl
 rw [fin] at p2;generalize zaL "is_round" false (.bl b) (zaL "size" false (.tup [.int r,.int c]) (zaL "ground" false (.lst gl) (zaL "tiles" false T [])))=f4 at *;generalize zaL "size" false (.tup [.int r,.int c]) (zaL "ground" false (.lst gl) (zaL "tiles" false T []))=f3 at *;generalize zaL "ground" false (.lst gl) (zaL "tiles" false T [])=f2 at *;generalize zaL "tiles" false T []=f1 at *;generalize wOb T (.lst gl) (.tup [.int r,.int c]) b []=ob at *;simp [za6,zat,zcg,e1,e2,e3,hl,q1,q2,q3,q4,p2]
theorem zoD{n:Nat}{ts:Z2}{gr:Z4}{r c:Nat}{b:Bool}(ht:TOk ts)(h1:1<=ts.length)(hg:∀o∈gr,∀x,o=some x->0<=x/\x<ts.length)(hc:1<=c)(hc2:c<=100):∀m f,m+1<=f->ts.length ^ m<=1000000->CfOk n ts gr r c b m (zmC 4 false zaj f)
 | 0,f+1,_,_=>zqA
 | m+1,f+1,hf,hp=>by
  have hp':ts.length ^ m<=1000000:=yaj (Nat.pow_le_pow_right h1 (yco m)) hp;exact zqB (zoD ht h1 hg hc hc2 m f (by omega) hp') ht h1 hg hc hc2 hp'
noncomputable def zgc{n:Nat}{ts:Z2}{gr:Z4}{r c:Nat}{b:Bool}{S:Sto}(W:WAt S n ts gr r c b [])(ht:TOk ts)(h1:1<=ts.length)(hg:∀o∈gr,∀x,o=some x->0<=x/\x<ts.length)(hc:1<=c)(hc2:c<=100)(hm:gr.length<=30)(hp:ts.length ^ gr.length<=1000000)(hq:zdo ts.length gr.length<=1000000) :
  ∃ds',zbo [.ref n] S=.ok (.int (zdp ts gr c b gr.length 0 (List.replicate (c+2) none))) (S.set n (wOb (.tup (ts.map zab)) (.lst (gr.map oD)) (.tup [.int r,.int c]) b ds')):=by
 obtain ⟨ds',e,_⟩:=(zoD (n:=n) (r:=r) (b:=b) ht h1 hg hc hc2 gr.length 40 (by omega) hp).run S [] 0 (List.replicate (c+2) none) W (fun k s d h=>by cases h) (by omega) (yaE ..) (by simpa using hq);refine ⟨ds',?_⟩;have e':zbH [.ref n,.int 0,zbp (List.replicate (c+2) none)] S=_:=e;have e2:=zfu W hc2;have m1:=W.meth "count_from" (by decide +kernel);have m2:=W.meth "first_seam" (by decide +kernel);generalize wOb (.tup (ts.map zab)) (.lst (gr.map oD)) (.tup [.int r,.int c]) b ds'=ob at *;simp [zbo,zat,zbS,m1,m2,e2,e']
noncomputable def zmj(ts:Z2)(r c:Nat)(g:Z1)(b:Bool):Nat:=zdp ts (zao r c g) c b (r*c) 0 (List.replicate (c+2) none)
noncomputable def zeS{ts:Z2}{r c:Nat}{g:Z1}{S:Sto}(ht:TOk ts)(h1:1<=ts.length)(hg:InT ts g)(hr1:1<=r)(hr:r<=100)(hc:1<=c)(hc2:c<=100)(hm:r*c<=30)(hp:ts.length ^ (r*c)<=1000000)(hq:zdo ts.length (r*c)<=1000000) :
  ∃S',zba [.tup (ts.map zab),flr r c g] S=.ok (.int (zmj ts r c g false)) S':=by
 have e1:=zmx (T:=.tup (ts.map zab)) (b:=false) (S:=S) (g:=g) (c:=c) hr1 hr hc2;have W:WAt (S++[wOb (.tup (ts.map zab)) (.lst ((zao r c g).map oD)) (.tup [.int r,.int c]) false []]) S.length ts (zao r c g) r c false []:=⟨by rw [yau (yam _),ybJ];rfl⟩
 have hgl:∀o∈zao r c g,∀x,o=some x->0<=x/\x<ts.length:=by
  intro o ho x hx;obtain ⟨i,_,ho⟩:=ybw.mp ho;obtain ⟨j,_,rfl⟩:=yaw.mp ho;exact hg i j x hx
 obtain ⟨ds',e2⟩:=zgc W ht h1 hgl hc hc2 (by rw [za1];exact hm) (by rw [za1];exact hp) (by rw [za1];exact hq);rw [za1] at e2;have m:=W.meth "count_all" (by decide +kernel);obtain ⟨S',hS⟩:∃S',(S++[wOb (.tup (ts.map zab)) (.lst ((zao r c g).map oD)) (.tup [.int r,.int c]) false []]).set S.length (wOb (.tup (ts.map zab)) (.lst ((zao r c g).map oD)) (.tup [.int r,.int c]) false ds')=S':=⟨_,rfl⟩;rw [hS] at e2;clear hS;refine ⟨S',?_⟩;unfold zmj;generalize wOb (.tup (ts.map zab)) (.lst ((zao r c g).map oD)) (.tup [.int r,.int c]) false []=ob at *;simp [zba,zat,zcN,e1,m,e2]
end S2
namespace S2
open PySem
open L2 hiding D
noncomputable def tw1:Fe:=zeF (zaf gtD (zaf zjZ (zag 6) (zag 2)) (zae (.int 0))) (zaf neD (zaf ixD (zaf ixD (zag 0) (zaf ixD (zag 9) (eUn zmg (zae (.int 1))))) (zae (.int 1))) (zaf ixD (zag 11) (zae (.int 3))))
noncomputable def tw2:Fe:=zeF (zaf geD (zag 6) (zag 2)) (zaf neD (zaf ixD (zaf ixD (zag 0) (zaf ixD (zag 9) (zaf zmd (zag 6) (zag 2)))) (zae (.int 2))) (zaf ixD (zag 11) (zae (.int 0))))
noncomputable def tw0:Fs:=(zah (sFz [] (zaG 12 false (zae (.bl false)))) sNx)
noncomputable def twB:Fs:=(zah (sFz [10] (zaG 12 false (zaf inD (zag 7) (zbC [(zae .non),(zac 10)])))) (zah (sFz [] (sIf tw1 tw0 sNx)) (zah (sFz [] (sIf tw2 tw0 sNx)) (zah (sFz [12] (sIf (zac 12) (zah (sFz [10] (zhK 8 (zaf zby (zag 9) (zbC [(zac 10)])))) sNx) sNx)) sNx))))
noncomputable def zrk:zbP=twB:=rfl
section
variable{w:D}{ts:Z2}{c:Nat}{t:List Int}{n:Int}{S:Sto}{s1 s3 s4 s5 s8 x:Option (Bool×D)}
noncomputable def zuG(ht:TOk ts)(hc:1<=c)(hT:InR ts t):tw1 [some (false,.tup (ts.map zab)),s1,some (false,.int c),s3,s4,s5,some (false,.int t.length),some (false,w),s8,some (false,zab t),some (false,.int n),some (false,.tup [.int (zar ts n 0),.int (zar ts n 1),.int (zar ts n 2),.int (zar ts n 3)]),x] S
   = .ok (.bl (decide (0<t.length % c/\zar ts (t.getLastD 0) 1≠zar ts n 3))) S:=by
 have hcN:0<c:=hc
 have hm:((0:Int)<(t.length:Int) % (c:Int))↔0<t.length % c:=by omega
 generalize hlen:(t.length:Int)=tl at *
 by_cases a:0<t.length % c
 ·have hne:t≠[]:=by rintro rfl;simp at a
  have A1:ixD (zab t) (.int (-1))=some (.int (t.getLastD 0)):=zjb hne;have tA:=ziq ht (hT _ (zne hne));generalize t.getLastD 0=u at *;generalize ts.map zab=tsd at *;simp [tw1,hcN,hm,a,A1,tA]
 ·generalize ts.map zab=tsd at *;simp [tw1,hcN,hm,a]
noncomputable def zuF(ht:TOk ts)(hc:1<=c)(hT:InR ts t):tw2 [some (false,.tup (ts.map zab)),s1,some (false,.int c),s3,s4,s5,some (false,.int t.length),some (false,w),s8,some (false,zab t),some (false,.int n),some (false,.tup [.int (zar ts n 0),.int (zar ts n 1),.int (zar ts n 2),.int (zar ts n 3)]),x] S
   = .ok (.bl (decide (c<=t.length/\zar ts (t.getD (t.length-c) 0) 2≠zar ts n 0))) S:=by
 have hle:((c:Int)<=(t.length:Int))↔c<=t.length:=by omega
 by_cases b:c<=t.length
 ·have hlt:t.length-c<t.length:=by omega
  have e:t.getD (t.length-c) 0=t[t.length-c]:=by rw [yae,yac hlt];rfl
  have B1:ixD (zab t) (.int ((t.length:Int)-c))=some (.int (t.getD (t.length-c) 0)):=by
   show atI (t.map D.int) _=_;rw [zeH (by omega),yao,show ((t.length:Int)-c).toNat=t.length-c by omega,yac hlt,e];rfl
  have tB:=ziq ht (x:=t.getD (t.length-c) 0) (by rw [e];exact hT _ (ybt hlt));generalize t.getD (t.length-c) 0=v at *;generalize hlen:(t.length:Int)=tl at *;generalize ts.map zab=tsd at *;simp [tw2,hle,b,B1,tB]
 ·generalize hlen:(t.length:Int)=tl at *;generalize ts.map zab=tsd at *;simp [tw2,hle,b]
end
noncomputable def zjK{w:D}{fb:Bool}{ts:Z2}{c:Nat}{t:List Int}{n:Int}{L:List D}{S:Sto}{s1 s3 s4 s5 x:Option (Bool×D)}(ht:TOk ts)(hc:1<=c)(hc4:c<=100)(hT:InR ts t)(hn:0<=n/\n<ts.length)(hL:L.length<=90000)(hk:t.length<=100)(hin:inD w (.tup [.non,.int n])=some (.bl fb)) :
  ∃x',zbP [some (false,.tup (ts.map zab)),s1,some (false,.int c),s3,s4,s5,some (false,.int t.length),some (false,w),some (true,.lst L),some (false,zab t),some (false,.int n),some (false,.tup [.int (zar ts n 0),.int (zar ts n 1),.int (zar ts n 2),.int (zar ts n 3)]),x] S
   = .nx [some (false,.tup (ts.map zab)),s1,some (false,.int c),s3,s4,s5,some (false,.int t.length),some (false,w),some (true,.lst (L++if fb&&zh1 ts c t n then [zab (t++[n])] else [])),some (false,zab t),some (false,.int n),some (false,.tup [.int (zar ts n 0),.int (zar ts n 1),.int (zar ts n 2),.int (zar ts n 3)]),x'] S:=by
 refine ⟨some (false,.bl (fb&&zh1 ts c t n)),?_⟩;rw [zrk]
 have hl:L.length<=100000:=by omega
 have hadd:zby (zab t) (.tup [.int n])=some (zab (t++[n])):=by
  unfold zab;rw [zn0,if_pos (by rw [zhE];apply yaM;simp;omega)];simp
 have T1:=fun s8 x=>zuG (w:=w) (n:=n) (S:=S) (s1:=s1) (s3:=s3) (s4:=s4) (s5:=s5) (s8:=s8) (x:=x) ht hc hT
 have T2:=fun s8 x=>zuF (w:=w) (n:=n) (S:=S) (s1:=s1) (s3:=s3) (s4:=s4) (s5:=s5) (s8:=s8) (x:=x) ht hc hT
 have key:zh1 ts c t n=(!decide (0<t.length % c/\zar ts (t.getLastD 0) 1≠zar ts n 3)&&!decide (c<=t.length/\zar ts (t.getD (t.length-c) 0) 2≠zar ts n 0)):=by
  unfold zh1;rw [ybc,ybb,yab,ybo,ybo,ybQ,ybQ];constructor
  ·rintro ⟨x,y⟩;exact ⟨fun z=>z.2 (x z.1),fun z=>z.2 (y z.1)⟩
  ·rintro ⟨x,y⟩;exact ⟨fun z=>Classical.byContradiction fun q=>x ⟨z,q⟩,fun z=>Classical.byContradiction fun q=>y ⟨z,q⟩⟩
 rw [key];clear key;generalize decide (0<t.length % c/\zar ts (t.getLastD 0) 1≠zar ts n 3)=b1 at *;generalize decide (c<=t.length/\zar ts (t.getD (t.length-c) 0) 2≠zar ts n 0)=b2 at *;generalize D.tup [.int (zar ts n 0),.int (zar ts n 1),.int (zar ts n 2),.int (zar ts n 3)]=tt at *;generalize zab (t++[n])=t2 at *;generalize zab t=t1 at *;generalize (t.length:Int)=tl at *;generalize ts.map zab=tsd at *
 cases b1<;>cases b2<;>cases fb<;>simp [twB,hin,T1,T2,tw0,hadd,hl]
noncomputable def zqj{o:Option Int}{n:Int}:inD (oD o) (.tup [.non,.int n])=some (.bl (okO o n)):=by
 cases o with
 | none=>simp [inD,zf8,zhC,zfs,D.py,PyData.eqv,oD,okO]
 | some x =>
  by_cases h:x=n
  ·simp [inD,zf8,zhC,zfs,D.py,PyData.eqv,oD,okO,h]
  ·have h':¬ n=x:=fun z=>h z.symm
   simp [inD,zf8,zhC,zfs,D.py,PyData.eqv,oD,okO,h,h']
noncomputable def zbU(ts:Z2):List Int:=(List.range ts.length).map fun (i:Nat)=>(i:Int)
noncomputable def zbI(ts:Z2)(c:Nat)(o:Option Int)(t:List Int):List (List Int):=((zbU ts).filter fun x=>okO o x&&zh1 ts c t x).map fun x=>t++[x]
noncomputable def zaz(ts:Z2)(gr:Z4)(c:Nat):Nat->List (List Int)
 | 0=>[[]]
 | k+1=>(zaz ts gr c k).flatMap (zbI ts c (gr.getD k none))
noncomputable def gIw(ts:Z2)(c:Nat)(o:Option Int)(t:List Int):D->List D | .tup [.int n,_]=>if okO o n&&zh1 ts c t n then [zab (t++[n])] else [] | _=>[]
noncomputable def zjL{ts:Z2}(ht:TOk ts):zcy (ts.map zab)=(zbU ts).map fun n=>.tup [.int n,.tup [.int (zar ts n 0),.int (zar ts n 1),.int (zar ts n 2),.int (zar ts n 3)]]:=by
 apply ybA;intro k
 by_cases hk:k<ts.length
 ·have h1:k<(zcy (ts.map zab)).length:=by rw [zdY,yaf];exact hk
  have h2:(zcy (ts.map zab))[k]?=some (zcy (ts.map zab))[k]:=yac h1;obtain ⟨y,e1,e2⟩:=zdZ h2;rw [h2,e2];have:=ziq ht (x:=(k:Int)) ⟨by omega,by omega⟩;rw [zbQ,e1] at this;rw [Option.some.inj this];unfold zbU;rw [yaX,yao,ycK hk];rfl
 ·rw [yaG (by rw [zdY,yaf];omega),yaG (by unfold zbU;rw [yaX,yaf,ybY];omega)]
noncomputable def ziU{ts:Z2}{c:Nat}{o:Option Int}{t:List Int}(ht:TOk ts):(zcy (ts.map zab)).flatMap (gIw ts c o t)=(zbI ts c o t).map zab:=by
 rw [zjL ht];unfold zbI;generalize zbU ts=l
 induction l with
 | nil=>rfl
 | cons x l ih =>
  rw [yaq,yaU,ih,ycu];show (if okO o x&&zh1 ts c t x then [zab (t++[x])] else [])++_=_
  cases okO o x&&zh1 ts c t x<;>simp
noncomputable def ze1{ts:Z2}{c:Nat}{o:Option Int}{t:List Int}:(zbI ts c o t).length<=ts.length:=by
 unfold zbI;rw [yaf];refine yaj (ycr _ _) ?_;simp [zbU]
theorem zff{α β:Type}{g:α->List β}{m:Nat}:∀{l:List α},(∀x∈l,(g x).length<=m)->(l.flatMap g).length<=l.length*m
 | [],_=>by simp
 | x::l,h=>by
  have h1:=h x yax;have h2:=zff (l:=l) fun y hy=>h y (yap _ hy)
  rw [yaU,yal,yai,Nat.add_mul];omega
structure FillG(ts:Z2)(k:Nat)(F:Z2):Prop where
 mem:∀t∈F,t.length=k/\InR ts t
theorem zc3{ts:Z2}{gr:Z4}{c:Nat}:∀k,FillG ts k (zaz ts gr c k)
 | 0=>⟨fun t ht=>by rw [yaQ.mp ht];exact ⟨rfl,fun x hx=>(yaJ hx).elim⟩⟩
 | k+1=>⟨fun t ht=>by
  obtain ⟨u,hu,ht⟩:=ybw.mp ht;obtain ⟨x,hx,rfl⟩:=yaw.mp ht;obtain ⟨h1,h2⟩:=(zc3 (ts:=ts) (gr:=gr) (c:=c) k).mem u hu;refine ⟨by rw [yal,h1];rfl,fun y hy=>?_⟩
  rcases ybM.mp hy with hy | hy
  ·exact h2 y hy
  ·rw [yaQ.mp hy];obtain ⟨i,hi,rfl⟩:=yaw.mp (ya2.mp hx).1;have:=yaC.mp hi
   omega⟩
theorem zed{ts:Z2}{gr:Z4}{c:Nat}:∀k,(zaz ts gr c k).length<=ts.length ^ k
 | 0=>by simp [zaz]
 | k+1=>by
  show ((zaz ts gr c k).flatMap _).length<=_;refine yaj (zff (m:=ts.length) fun t _=>ze1) ?_;rw [Nat.pow_succ];exact ybx _ (zed k)
section
variable{ts:Z2}{c:Nat}{S:Sto}{s1 s3 s4:Option (Bool×D)}{o:Option Int}
noncomputable def znz{t:List Int}{k:Nat}{L:List D}{s5 x y z:Option (Bool×D)}(ht:TOk ts)(hc:1<=c)(hc4:c<=100)(hg:InR ts t)(hk:t.length=k)(hk2:k<=100)(hL:L.length<=80000) :
  ∃x' y' z',zbO [some (false,.tup (ts.map zab)),s1,some (false,.int c),s3,s4,s5,some (false,.int k),some (false,oD o),some (true,.lst L),some (false,zab t),x,y,z] S
   = .nx [some (false,.tup (ts.map zab)),s1,some (false,.int c),s3,s4,s5,some (false,.int k),some (false,oD o),some (true,.lst (L++(zbI ts c o t).map zab)),some (false,zab t),x',y',z'] S:=by
 subst hk
 obtain ⟨x',e⟩:=zdg (tg:=.tup [10,11]) (body:=zbP) (S:=S) (fun L (x:Option (Bool×D)×Option (Bool×D)×Option (Bool×D))=>[some (false,.tup (ts.map zab)),s1,some (false,.int c),s3,s4,s5,some (false,.int t.length),some (false,oD o),some (true,.lst L),some (false,zab t),x.1,x.2.1,x.2.2]) (gIw ts c o t) 90000 (ds:=zcy (ts.map zab)) (by
  intro d hd L x hL;obtain ⟨n,hn,rfl⟩:=znB ht hd;obtain ⟨x',e⟩:=zjK (w:=oD o) (fb:=okO o n) (ts:=ts) (c:=c) (t:=t) (n:=n) (L:=L) (S:=S) (s1:=s1) (s3:=s3) (s4:=s4) (s5:=s5) (x:=x.2.2) ht hc hc4 hg ⟨by omega,by omega⟩ (by omega) (by omega) zqj
  exact ⟨_,(some (false,.int n),some (false,.tup [.int (zar ts n 0),.int (zar ts n 1),.int (zar ts n 2),.int (zar ts n 3)]),x'),rfl,e⟩) L (x,y,z) (by
   rw [ziU ht,yaf];have:=ze1 (ts:=ts) (c:=c) (o:=o) (t:=t);have:=ht.le
   omega)
 rw [ziU ht] at e;refine ⟨x'.1,x'.2.1,x'.2.2,?_⟩;simp at e;simp [zbO,e]
noncomputable def zlG{k:Nat}{F:Z2}{fl:Bool}{x8 x9 x10 x11 x12:Option (Bool×D)}(ht:TOk ts)(hc:1<=c)(hc4:c<=100)(hF:FillG ts k F)(hk2:k<=100)(hz:F.length*ts.length<=80000) :
  ∃y8 y9 y10 y11 y12,zbN [some (false,.tup (ts.map zab)),s1,some (false,.int c),s3,s4,some (fl,.lst (F.map zab)),some (false,.int k),some (false,oD o),x8,x9,x10,x11,x12] S
   = .nx [some (false,.tup (ts.map zab)),s1,some (false,.int c),s3,s4,some (false,.lst ((F.flatMap (zbI ts c o)).map zab)),some (false,.int k),some (false,oD o),y8,y9,y10,y11,y12] S:=by
 have hfl:∀G:List (List Int),(G.map zab).flatMap (fun d=>match d with | .tup l=>(zbI ts c o (l.map unI)).map zab | _=>[])=(G.flatMap (zbI ts c o)).map zab:=by
  intro G
  induction G with
  | nil=>rfl
  | cons t G ih =>
   rw [yaq,yaU,yaU,ybP,ih];show (zbI ts c o ((t.map D.int).map unI)).map zab++_=_;rw [zio]
 obtain ⟨x',e⟩:=zdg (tg:=.one 9) (body:=zbO) (S:=S) (fun L' (x:Option (Bool×D)×Option (Bool×D)×Option (Bool×D)×Option (Bool×D))=>[some (false,.tup (ts.map zab)),s1,some (false,.int c),s3,s4,some (false,.lst (F.map zab)),some (false,.int k),some (false,oD o),some (true,.lst L'),x.1,x.2.1,x.2.2.1,x.2.2.2]) (fun d=>match d with | .tup l=>(zbI ts c o (l.map unI)).map zab | _=>[]) 80000 (ds:=F.map zab) (by
  intro d hd L' x hL;obtain ⟨t,ht',rfl⟩:=yaw.mp hd;obtain ⟨hl,hg⟩:=hF.mem t ht';obtain ⟨a,b,z,e⟩:=znz (o:=o) (ts:=ts) (c:=c) (S:=S) (s1:=s1) (s3:=s3) (s4:=s4) (t:=t) (k:=k) (L:=L') (s5:=some (false,.lst (F.map zab))) (x:=x.2.1) (y:=x.2.2.1) (z:=x.2.2.2) ht hc hc4 hg hl hk2 (by omega);refine ⟨_,(some (false,zab t),a,b,z),rfl,?_⟩;show _=Fo.nx [_,_,_,_,_,_,_,_,some (true,.lst (L'++(zbI ts c o ((t.map D.int).map unI)).map zab)),_,_,_,_] S;rw [zio]
  exact e) [] (x9,x10,x11,x12) (by
   rw [hfl,yaf];have:=zff (g:=zbI ts c o) (m:=ts.length) (l:=F) fun t _=>ze1
   simp only [ybO];omega)
 rw [hfl] at e;refine ⟨some (false,.lst ((F.flatMap (zbI ts c o)).map zab)),x'.1,x'.2.1,x'.2.2.1,x'.2.2.2,?_⟩;simp at e;generalize F.map zab=Fd at *
 cases fl<;>simp [zbN,e]
end
noncomputable def znZ{r c:Nat}{g:Z1}:(zbg r c g).flatMap zuH=(zao r c g).map oD:=by
 unfold zbg zao;rw [List.flatMap_map,ycv];congr 1;funext i;show zcB c (g i)=_;rw [yaX];rfl
noncomputable def zjp{ts:Z2}{r c:Nat}{g:Z1}{S:Sto}(ht:TOk ts)(hr:1<=r)(hc:1<=c)(hrc:r*c<=100)(hc4:c<=100)(hr4:r<=100)(hp:ts.length ^ (r*c)<=80000)(h1:1<=ts.length):zaQ [.tup (ts.map zab),flr r c g] S=.ok (.lst ((zaz ts (zao r c g) c (r*c)).map zab)) S:=by
 have g0:(zbg r c g)[0]?=some (.tup (zcB c (g 0))):=zdU (by omega);have gl:=za1 (r:=r) (c:=c) (g:=g)
 obtain ⟨x1,e1⟩:=zdg (tg:=.one 4) (body:=zcA) (S:=S) (fun L (x:Option (Bool×D))=>[some (false,.tup (ts.map zab)),some (false,flr r c g),some (false,.int c),some (true,.lst L),x,none,none,none,none,none,none,none,none]) zuH 1000 (ds:=zbg r c g) (by
  intro d hd L x hL;obtain ⟨i,_,rfl⟩:=yaw.mp hd;refine ⟨_,some (false,zfr c (g i)),rfl,?_⟩
  have:L.length+c<=100000:=by have hL':L.length+(zcB c (g i)).length<=1000:=hL;rw [zew] at hL';omega
  simp [zcA,zfr,zuH,this]) [] none (by rw [znZ,yaf,gl];simp only [ybO];omega)
 simp only [ycd] at e1;rw [znZ] at e1
 obtain ⟨ρ',e2,fl,x4,x6,x7,x8,x9,x10,x11,x12,rfl⟩:=zcq (tg:=.tup [6,7]) (body:=zbN) (ds:=zcy ((zao r c g).map oD)) (S:=S) (fun k ρ=>∃fl x4 x6 x7 x8 x9 x10 x11 x12,ρ=[some (false,.tup (ts.map zab)),some (false,flr r c g),some (false,.int c),some (false,.lst ((zao r c g).map oD)),x4,some (fl,.lst ((zaz ts (zao r c g) c k).map zab)),x6,x7,x8,x9,x10,x11,x12]) (by
  rintro k d ρ hd ⟨fl,x4,x6,x7,x8,x9,x10,x11,x12,rfl⟩;obtain ⟨y,hy,rfl⟩:=zdZ hd
  have hk:k<r*c:=by
   have:=(yag.mp hy).1;rwa [yaf,gl] at this
  have ey:y=oD ((zao r c g).getD k none):=by
   rw [yao,yac (by omega)] at hy;rw [yae,yac (by omega)];exact (Option.some.inj hy).symm
  subst ey
  have hz:(zaz ts (zao r c g) c k).length*ts.length<=80000:=by
   refine yaj (ybx _ (zed k)) ?_;rw [<-Nat.pow_succ];exact yaj (Nat.pow_le_pow_right h1 hk) hp
  obtain ⟨y8,y9,y10,y11,y12,e⟩:=zlG (o:=(zao r c g).getD k none) (ts:=ts) (c:=c) (S:=S) (s1:=some (false,flr r c g)) (s3:=some (false,.lst ((zao r c g).map oD))) (s4:=x4) (k:=k) (fl:=fl) (x8:=x8) (x9:=x9) (x10:=x10) (x11:=x11) (x12:=x12) ht hc hc4 (zc3 (gr:=zao r c g) (c:=c) k) (by omega) hz
  exact ⟨_,_,rfl,e,_,_,_,_,_,_,_,_,_,rfl⟩)
  (ρ:=[some (false,.tup (ts.map zab)),some (false,flr r c g),some (false,.int c),some (false,.lst ((zao r c g).map oD)),x1,some (true,.lst [.tup []]),none,none,none,none,none,none,none]) ⟨true,x1,none,none,none,none,none,none,none,rfl⟩
 rw [zdY,yaf,gl] at e2;unfold flr at *;generalize (zaz ts (zao r c g) c (r*c)).map zab=res at *;generalize (zao r c g).map oD=W at *
 cases fl<;>simp [zaQ,zat,zc7,g0,zfr,e1,e2]
end S2
namespace S2
open PySem
open L2 hiding D
noncomputable def zow(ts:Z2)(gr:Z4)(c:Nat):Nat->List Int->Nat
 | 0,_=>1
 | m+1,t=>((zbI ts c (gr.getD t.length none) t).map (zow ts gr c m)).sum
theorem ziv{α:Type}{f:α->Nat}{h:α->List α}:∀l:List α,((l.flatMap h).map f).sum=(l.map fun t=>((h t).map f).sum).sum
 | []=>rfl
 | t::l=>by rw [yaU,ybP,List.sum_append,ziv l,yaq,ybq]
theorem zhi{ts:Z2}{gr:Z4}{c:Nat}:∀m k,(zaz ts gr c (k+m)).length=((zaz ts gr c k).map (zow ts gr c m)).sum
 | 0,k=>by
  show (zaz ts gr c k).length=_;generalize zaz ts gr c k=F
  induction F with
  | nil=>rfl
  | cons t F ih=>rw [yai,ih,yaq,ybq];simp [zow];omega
 | m+1,k=>by
  rw [show k+(m+1)=(k+1)+m by omega,zhi m (k+1)];show (((zaz ts gr c k).flatMap _).map _).sum=_;rw [ziv];congr 1;apply yaD;intro t ht;show _=((zbI ts c (gr.getD t.length none) t).map (zow ts gr c m)).sum;rw [((zc3 k).mem t ht).1]
noncomputable def zlF{ts:Z2}{gr:Z4}{c L:Nat}:(zaz ts gr c L).length=zow ts gr c L []:=by
 have:=zhi (ts:=ts) (gr:=gr) (c:=c) L 0;rw [yb7] at this;rw [this];simp [zaz]
structure SeamOk(ts:Z2)(L c:Nat)(t:List Int)(s:Z4):Prop where
 len:s.length=c+2
 west:s.getD 0 none=if t.length % c=0 then none else some (zar ts (t.getLastD 0) 1)
 north:∀j,j<c->s.getD (1+j) none=if t.length+j<c\/L<=t.length+j then none else some (zar ts (t.getD (t.length+j-c) 0) 2)
noncomputable def SeamOk.first{ts:Z2}{L c:Nat}:SeamOk ts L c [] (List.replicate (c+2) none) where
 len:=yaE ..
 west:=by simp [yae,ya7]
 north:=fun j hj=>by
  rw [if_pos (.inl (by simpa using hj))];rw [yae,ya7]
  split<;>rfl
noncomputable def SeamOk.next{ts:Z2}{L c:Nat}{t:List Int}{s:Z4}{x:Int}(h:SeamOk ts L c t s)(hc:1<=c):SeamOk ts L c (t++[x]) (zjW ts L c false t.length s x) where
 len:=zl1 hc h.len
 west:=by
  rw [yal,ybf];show (if (t.length+1) % c=0 then none else some (zar ts x 1))=_;simp [ybK]
 north:=fun j hj=>by
  have hm:((s.drop 2).dropLast).length=c-1:=by rw [ycz,ybF,h.len];omega
  rw [yal,ybf];show ((if (t.length+1) % c=0 then none else some (zar ts x 1))::((s.drop 2).dropLast++[if L<=t.length+c then none else some (zar ts x 2),if false&&!decide ((t.length+1) % c=0) then crO ts c t.length s x else none])).getD (1+j) none=_;rw [show 1+j=j+1 by omega,List.getD_cons_succ]
  by_cases hl:j<c-1
  ·rw [yae,yaz (by rw [hm];exact hl),List.getElem?_dropLast,if_pos (by rw [ybF,h.len];omega),ybh,<-yae];have hn:=h.north (j+1) (by omega);rw [show 2+j=1+(j+1) by omega,hn];rw [show t.length+1+j=t.length+(j+1) by omega]
   by_cases z:t.length+(j+1)<c\/L<=t.length+(j+1)
   ·rw [if_pos z,if_pos z]
   ·rw [if_neg z,if_neg z,ziT,if_pos (by omega)]
  ·have hj':j=c-1:=by omega
   subst hj';rw [yae,yau (by rw [hm];exact yam _),hm,ybJ];show (if L<=t.length+c then none else some (zar ts x 2))=_
   have e:(t++[x]).getD (t.length+1+(c-1)-c) 0=x:=by
    rw [ziT,show t.length+1+(c-1)-c=t.length by omega,if_neg (yaR _),if_pos rfl]
   rw [e,show t.length+1+(c-1)=t.length+c by omega]
   have:¬ t.length+c<c:=by omega
   simp [this]
noncomputable def znx{ts:Z2}{L c:Nat}{t:List Int}{s:Z4}{x:Int}(h:SeamOk ts L c t s)(hc:1<=c)(hL:t.length<L):zjJ ts c false t.length s x=zh1 ts c t x:=by
 unfold zjJ zh1;have h1:=h.north 0 (by omega);rw [Nat.add_zero,Nat.add_zero] at h1;rw [h.west,h1]
 have hL':¬ L<=t.length:=by omega
 simp only [Bool.not_false,Bool.true_or,Bool.and_true];rw [ybc,yab,ybb]
 have a:okO (if t.length % c=0 then none else some (zar ts (t.getLastD 0) 1)) (zar ts x 3)=true↔(0<t.length % c->zar ts (t.getLastD 0) 1=zar ts x 3):=by
  by_cases z:t.length % c=0
  ·rw [if_pos z];simp [okO,z]
  ·rw [if_neg z]
   have z':0<t.length % c:=by omega
   simp [okO,z']
 have b:okO (if t.length<c\/L<=t.length then none else some (zar ts (t.getD (t.length-c) 0) 2)) (zar ts x 0)=true↔(c<=t.length->zar ts (t.getD (t.length-c) 0) 2=zar ts x 0):=by
  by_cases z:t.length<c
  ·rw [if_pos (.inl z)]
   have z':¬ c<=t.length:=by omega
   simp [okO,z']
  ·have z':c<=t.length:=by omega
   rw [if_neg (by simp only [not_or];exact ⟨z,hL'⟩)];simp [okO,z']
 rw [a,b]
noncomputable def zju{ts:Z2}{o:Option Int}{p:Int->Bool}(ho:∀x,o=some x->0<=x/\x<ts.length):(zbU ts).filter (fun x=>okO o x&&p x)=(ziI ts o).filter p:=by
 cases o with
 | none =>
  show (zbU ts).filter (fun x=>true&&p x)=(zbU ts).filter p;simp
 | some y =>
  obtain ⟨y0,y1⟩:=ho y rfl
  have e:(zbU ts).filter (fun x=>decide (y=x))=[y]:=by
   obtain ⟨n,rfl⟩:=ybR y0
   have hn:n<ts.length:=by omega
   unfold zbU;rw [List.filter_map]
   have hf:(List.range ts.length).filter ((fun x=>decide ((n:Int)=x))∘fun (i:Nat)=>(i:Int))=[n]:=by
    have:((fun x=>decide ((n:Int)=x))∘fun (i:Nat)=>(i:Int))=fun i=>decide (i=n):=by
     funext i;simp only [Function.comp];congr 1;exact propext ⟨fun z=>by omega,fun z=>by omega⟩
    rw [this];generalize ts.length=N at hn;clear y1
    induction N with
    | zero=>omega
    | succ N ih =>
     rw [ybC,List.filter_append]
     by_cases z:n<N
     ·rw [ih z]
      have:¬ N=n:=by omega
      simp [this]
     ·have:N=n:=by omega
      subst this
      have h0:(List.range N).filter (fun i=>decide (i=N))=[]:=by
       rw [List.filter_eq_nil_iff];intro i hi;have:=yaC.mp hi;simp;omega
      rw [h0];simp
   rw [hf];rfl
  show (zbU ts).filter (fun x=>decide (y=x)&&p x)=[y].filter p;rw [<-e,List.filter_filter];congr 1;funext x;exact Bool.and_comm _ _
theorem zil{ts:Z2}{gr:Z4}{c:Nat}(hc:1<=c)(hg:∀o∈gr,∀x,o=some x->0<=x/\x<ts.length):∀m t s,SeamOk ts gr.length c t s->t.length+m=gr.length->zdp ts gr c false m t.length s=zow ts gr c m t
 | 0,_,_,_,_=>rfl
 | m+1,t,s,h,hl=>by
  have hk:t.length<gr.length:=by omega
  have ho:∀x,gr.getD t.length none=some x->0<=x/\x<ts.length:=by
   rw [yae,yac hk];exact hg _ (ybt hk)
  show ((chs ts gr c false t.length s).map fun p=>zdp ts gr c false m (t.length+1) p.2).sum=((zbI ts c (gr.getD t.length none) t).map (zow ts gr c m)).sum;unfold chs zbI;rw [zju ho,yaX,yaX]
  have e:(ziI ts (gr.getD t.length none)).filter (zjJ ts c false t.length s)=(ziI ts (gr.getD t.length none)).filter (zh1 ts c t):=by
   congr 1;funext x;exact znx h hc hk
  rw [e];congr 1;apply yaD;intro x _;show zdp ts gr c false m (t.length+1) (zjW ts gr.length c false t.length s x)=zow ts gr c m (t++[x]);have:=zil hc hg m (t++[x]) _ (h.next (x:=x) hc) (by rw [yal,ybf];omega);rwa [yal,ybf] at this
noncomputable def zlC{ts:Z2}{r c:Nat}{g:Z1}(hg:InT ts g):∀o∈zao r c g,∀x,o=some x->0<=x/\x<ts.length:=by
 intro o ho x hx;obtain ⟨i,_,ho⟩:=ybw.mp ho;obtain ⟨j,_,rfl⟩:=yaw.mp ho;exact hg i j x hx
noncomputable def zjf{ts:Z2}{r c:Nat}{g:Z1}(hc:1<=c)(hg:InT ts g):zmj ts r c g false=(zaz ts (zao r c g) c (r*c)).length:=by
 rw [zlF];unfold zmj;exact zil hc (zlC hg) (r*c) [] _ (by rw [za1];exact SeamOk.first) (by rw [za1];simp)
end S2
namespace S2
open PySem
open L2 hiding D
end S2
namespace S2
open PySem
open L2 hiding D
end S2
namespace S2
open PySem
open L2 hiding D
@[simp] noncomputable def zyD{x y:Bool}:zuh (.bl x) (.bl y)=some (.bl (decide (x=y))):=(rfl)
noncomputable def zf0(q m:Nat):Prop:=zdo q m+m*(zdo q m+q*zdo q m)<=1000000/\q ^ m<=80000
noncomputable instance{q m:Nat}:Decidable (zf0 q m):=by unfold zf0;exact inferInstance
noncomputable def zmD:∀{q:Nat},q<=5->∀{m:Nat},m<=6->zf0 q m:=by
 have h:∀q,q<6->∀m,m<7->zf0 q m:=by decide
 intro q hq m hm;exact h q (by omega) m (by omega)
structure FP(ts:Z2)(r c:Nat):Prop where
 ht:TOk ts
 h1:1<=ts.length
 h4:zf0 ts.length (r*c)
 r1:1<=r
 c1:1<=c
 rc:r*c<=6
noncomputable def FP.r6{ts:Z2}{r c:Nat}(h:FP ts r c):r<=6:=by
 have:=h.rc;have:=h.c1;exact yaj (Nat.le_mul_of_pos_right r h.c1) h.rc
noncomputable def FP.c6{ts:Z2}{r c:Nat}(h:FP ts r c):c<=6:=yaj (Nat.le_mul_of_pos_left c h.r1) h.rc
noncomputable def zkJ(q:Nat)(m:Nat)(h:zf0 q m):zdo q m<=1000000/\q ^ m<=80000:=⟨by have:=h.1;omega,h.2⟩
noncomputable def zas(ts:Z2)(r c:Nat)(g:Z1):List (List Int):=zaz ts (zao r c g) c (r*c)
section
variable{ts:Z2}{r c:Nat}{g:Z1}
noncomputable def zfE(P:FP ts r c)(S:Sto):zaQ [.tup (ts.map zab),flr r c g] S=.ok (.lst ((zas ts r c g).map zab)) S:=by
 obtain ⟨b1,b2⟩:=zkJ ts.length (r*c) P.h4;exact zjp P.ht P.r1 P.c1 (by have:=P.rc;omega) (by have:=P.c6;omega) (by have:=P.r6;omega) b2 P.h1
end
end S2
namespace S2
open PySem
open L2 hiding D
noncomputable def zdr(r c:Nat):List (Nat×Nat):=(List.range r).flatMap fun i=>(List.range c).map fun j=>(i,j)
noncomputable def zc2{r c:Nat}{g:Z1}:zao r c g=(zdr r c).map fun p=>g p.1 p.2:=by
 unfold zao zdr;rw [ycv];congr 1;funext i;rw [yaX];rfl
noncomputable def zkZ{r c:Nat}{p:Nat×Nat}(h:p∈zdr r c):p.1<r/\p.2<c:=by
 obtain ⟨i,hi,h⟩:=ybw.mp h;obtain ⟨j,hj,rfl⟩:=yaw.mp h;exact ⟨yaC.mp hi,yaC.mp hj⟩
section
variable{ts:Z2}{r c:Nat}{g:Z1}
end
end S2
namespace S2
open PySem
open L2 hiding D
section
variable{ts:Z2}{r c:Nat}{g:Z1}
end
end S2
namespace S2
open PySem
open L2 hiding D
section
variable{n:Nat}{ts:Z2}{gr:Z4}{r c:Nat}{b:Bool}
end
end S2
namespace S2
open PySem
open L2 hiding D
section
variable{n:Nat}{ts:Z2}{gr:Z4}{r c:Nat}{b:Bool}
end
end S2
namespace S2
open PySem
open L2 hiding D
section
variable{ts:Z2}{gr:Z4}{c:Nat}
end
end S2
namespace S2
open PySem
open L2 hiding D
section
variable{n:Nat}{ts:Z2}{gr:Z4}{r c:Nat}{b:Bool}{S:Sto}
end
end S2
namespace S2
open PySem
open L2 hiding D
section
variable{S:Sto}{n nw:Nat}{ts:Z2}{gr la:Z4}{we:List Int}{r c:Nat}{ds:List (D×D)}
end
section
variable{n nw:Nat}{ts:Z2}{gr la:Z4}{we:List Int}{r c:Nat}
end
end S2
namespace S2
open PySem
open L2 hiding D
noncomputable def R3(f:Nat):=zme 8 5 4 zfw zcO zdW f
section
variable{n nw:Nat}{ts:Z2}{gr la:Z4}{we:List Int}{r c:Nat}
end
end S2
namespace S2
open PySem
open L2 hiding D
section
variable{n nw:Nat}{ts:Z2}{gr la:Z4}{we:List Int}{r c:Nat}
end
end S2
namespace S2
open PySem
open L2 hiding D
section
variable{n nw:Nat}{ts:Z2}{gr la:Z4}{we:List Int}{r c:Nat}
end
end S2
namespace S2
open PySem
open L2 hiding D
noncomputable def zb0{r c:Nat}{S:Sto}(hr1:1<=r)(hr:r<=100)(hc1:1<=c)(hc:c<=100):zb5 [.int r,.int c] S=.ok (flr r c fun _ _=>none) S:=by
 have e1:zgF (.tup [.non]) (.int (c:Int))=some (.tup (zcB c fun _=>none)):=by
  show (if _ then _ else _)=_;rw [if_pos (by simp;omega),yaZ,zpp]
 have e2:zgF (.tup [.tup (zcB c fun _=>none)]) (.int (r:Int))=some (flr r c fun _ _=>none):=by
  show (if _ then _ else _)=_;rw [if_pos (by simp;omega),yaZ,zpq];rfl
 simp [zb5,zat,zh3,e1,e2]
end S2
namespace S2
open PySem
open L2 hiding D
end S2
namespace S2
open PySem
open L2 hiding D
end S2
namespace S2
open PySem
open L2 hiding D
section
variable{S:Sto}{n nw:Nat}{ts:Z2}{gr la:Z4}{we:List Int}{r c:Nat}
end
end S2
namespace S2
open PySem
open L2 hiding D
section
variable{S:Sto}{n nw:Nat}{ts:Z2}{gr la:Z4}{we:List Int}{r c:Nat}
end
end S2
namespace S2
open PySem
open L2 hiding D
end S2
namespace S2
open PySem
open L2 hiding D
noncomputable def agN(gr:Z4)(k:Nat)(t:List Int):Bool:=(List.range k).all fun i=>okO (gr.getD i none) (t.getD i 0)
noncomputable def znW{gr:Z4}{k:Nat}{t:List Int}:agN gr (k+1) t=(agN gr k t&&okO (gr.getD k none) (t.getD k 0)):=by
 unfold agN;rw [ybC,List.all_append];simp
noncomputable def zqQ{gr:Z4}{k:Nat}{t u:List Int}(h:k<=t.length):agN gr k (t++u)=agN gr k t:=by
 unfold agN;rw [ybc,ybk,ybk]
 have e:∀i∈List.range k,(t++u).getD i 0=t.getD i 0:=fun i hi=>by
  have:=yaC.mp hi;rw [yae,yae,yaz (by omega)]
 constructor
 ·intro z i hi;have:=z i hi;rwa [e i hi] at this
 ·intro z i hi;rw [e i hi];exact z i hi
theorem zen{ts:Z2}{gr:Z4}{c:Nat}:∀k,zaz ts gr c k=(zaz ts [] c k).filter (agN gr k)
 | 0=>rfl
 | k+1=>by
  show (zaz ts gr c k).flatMap _=((zaz ts [] c k).flatMap _).filter _;rw [zen k];have hl:∀t∈zaz ts [] c k,t.length=k:=fun t ht=>((zc3 k).mem t ht).1
  generalize zaz ts [] c k=F at hl;have hn:([]:Z4).getD k none=none:=rfl;rw [hn]
  induction F with
  | nil=>rfl
  | cons t F ih =>
   have ih':=ih fun u hu=>hl u (yap _ hu)
   have ht:=hl t yax;rw [yaU,List.filter_append,<-ih',ycu]
   have key:(zbI ts c none t).filter (agN gr (k+1))=if agN gr k t then zbI ts c (gr.getD k none) t else []:=by
    unfold zbI;rw [List.filter_map]
    have ef:(agN gr (k+1)∘fun x=>t++[x])=fun x=>agN gr k t&&okO (gr.getD k none) x:=by
     funext x;show agN gr (k+1) (t++[x])=_;rw [znW,zqQ (by omega)]
     have:(t++[x]).getD k 0=x:=by rw [yae,yau (by omega),ht];simp
     rw [this]
    rw [ef,List.filter_filter]
    cases ha:agN gr k t with
    | true =>
     simp only [Bool.true_and,yb4];rfl
    | false =>
     have:∀l:List Int,l.filter (fun a=>(false&&okO (gr.getD k none) a)&&(okO none a&&zh1 ts c t a))=[]:=by
      intro l;rw [List.filter_eq_nil_iff];intro a _;simp
     rw [this];rfl
   rw [key]
   cases agN gr k t with
   | true=>simp only [yb4,yaU]
   | false=>simp
noncomputable def zyg(ts:Z2)(r c:Nat):List (List Int):=zaz ts [] c (r*c)
noncomputable def agG(r c:Nat)(g:Z1)(t:List Int):Bool:=agN (zao r c g) (r*c) t
noncomputable def zdV{ts:Z2}{r c:Nat}{g:Z1}:zas ts r c g=(zyg ts r c).filter (agG r c g):=zen _
noncomputable def zg5{r c:Nat}(hc:1<=c):∀{k:Nat},k<r*c->(zdr r c)[k]?=some (k / c,k % c):=by
 induction r with
 | zero=>intro k h;omega
 | succ r ih =>
  intro k h
  have hl:(zdr r c).length=r*c:=by
   have:=za1 (r:=r) (c:=c) (g:=fun _ _=>none);rwa [zc2,yaf] at this
  have e:zdr (r+1) c=zdr r c++(List.range c).map fun j=>(r,j):=by
   unfold zdr;rw [ybC,List.flatMap_append];simp
  rw [e]
  by_cases z:k<r*c
  ·rw [yaz (by omega)];exact ih z
  ·rw [yau (by omega),hl,yao]
   have h2:k<r*c+c:=by rwa [ybV] at h
   rw [ycK (by omega)]
   have hd:k / c=r:=by
    rw [Nat.div_eq_iff (by omega)];have:r*c=c*r:=ybr _ _
    constructor<;>first | omega | (rw [ybr];omega) | skip
    all_goals omega
   have hm:k % c=k-r*c:=by
    have:=yci k c;rw [hd] at this;rw [ybr] at this;omega
   rw [hd,hm];rfl
noncomputable def zfQ{r c k:Nat}{g:Z1}(hc:1<=c)(h:k<r*c):(zao r c g).getD k none=g (k / c) (k % c):=by
 rw [zc2,yae,yao,zg5 hc h];rfl
noncomputable def zgv{r c k:Nat}(hc:1<=c)(h:k<r*c):k / c<r:=Nat.div_lt_of_lt_mul (by rw [ybr];exact h)
noncomputable def zjF{r c i j:Nat}(hi:i<r)(hj:j<c):i*c+j<r*c:=by
 have:=ybx c (show i+1<=r by omega);rw [ybV] at this;omega
noncomputable def zhh{c i j:Nat}(hj:j<c):(i*c+j) / c=i/\(i*c+j) % c=j:=by
 have hc:0<c:=by omega
 constructor
 ·rw [ybr,Nat.mul_add_div hc,Nat.div_eq_of_lt hj,Nat.add_zero]
 ·rw [ybr,Nat.mul_add_mod,Nat.mod_eq_of_lt hj]
noncomputable def zqR{r c:Nat}{g:Z1}{t:List Int}(hc:1<=c):agG r c g t=true↔∀i j,i<r->j<c->okO (g i j) (t.getD (i*c+j) 0)=true:=by
 unfold agG agN;rw [ybk];constructor
 ·intro h i j hi hj;have:=h (i*c+j) (yaC.mpr (zjF hi hj));rwa [zfQ hc (zjF hi hj),(zhh hj).1,(zhh hj).2] at this
 ·intro h k hk;have hk:=yaC.mp hk;rw [zfQ hc hk];have:=h (k / c) (k % c) (zgv hc hk) (Nat.mod_lt _ hc);rwa [ybr,yci] at this
noncomputable def zk5{o:Option Int}{x:Int}:okO o x=true↔o=none\/o=some x:=by
 cases o with
 | none=>simp [okO]
 | some y=>simp [okO]
structure RtL(ts:Z2)(c k:Nat)(t:List Int):Prop where
 len:t.length=k
 inr:InR ts t
 fit:∀i,i<k->zh1 ts c (t.take i) (t.getD i 0)=true
noncomputable def zfM{ts:Z2}{x:Int}:x∈zbU ts↔0<=x/\x<ts.length:=by
 unfold zbU;rw [yaw];constructor
 ·rintro ⟨i,hi,rfl⟩;have:=yaC.mp hi;omega
 ·intro h;exact ⟨x.toNat,yaC.mpr (by omega),by omega⟩
theorem ze3{ts:Z2}{c:Nat}:∀{k:Nat} {t:List Int},t∈zaz ts [] c k↔RtL ts c k t
 | 0,t=>by
  constructor
  ·intro h;rw [yaQ.mp h];exact ⟨rfl,fun x hx=>(yaJ hx).elim,fun i hi=>by omega⟩
  ·intro h;rw [ybu h.len];exact yaQ.mpr rfl
 | k+1,t=>by
  show t∈(zaz ts [] c k).flatMap _↔_;rw [ybw];constructor
  ·rintro ⟨u,hu,ht⟩;have R:=ze3.mp hu;unfold zbI at ht;obtain ⟨x,hx,rfl⟩:=yaw.mp ht;obtain ⟨h1,h2⟩:=ya2.mp hx;rw [yab] at h2;have hx:=zfM.mp h1;refine ⟨by rw [yal,R.len];rfl,fun y hy=>?_,fun i hi=>?_⟩
   ·rcases ybM.mp hy with hy | hy
    ·exact R.inr y hy
    ·rw [yaQ.mp hy];exact hx
   ·by_cases z:i<k
    ·have e1:(u++[x]).take i=u.take i:=List.take_append_of_le_length (by rw [R.len];omega)
     have e2:(u++[x]).getD i 0=u.getD i 0:=by
      rw [yae,yae,yaz (by rw [R.len];exact z)]
     rw [e1,e2];exact R.fit i z
    ·have hi':i=u.length:=by rw [R.len];omega
     subst hi'
     have e1:(u++[x]).take u.length=u:=by simp
     have e2:(u++[x]).getD u.length 0=x:=by
      rw [yae,yau (yam _)];simp
     rw [e1,e2];exact h2.2
  ·intro R
   have hk:k<t.length:=by rw [R.len];omega
   have e:t=t.take k++[t.getD k 0]:=by
    have h1:t.getD k 0=t[k]:=by rw [yae,yac hk];rfl
    rw [h1,List.take_append_getElem hk,ybl (by rw [R.len];omega)]
   refine ⟨t.take k,ze3.mpr ⟨by rw [ybi,R.len];omega,fun x hx=>R.inr x (List.mem_of_mem_take hx),fun i hi=>?_⟩,?_⟩
   ·have h1:(t.take k).take i=t.take i:=by rw [List.take_take,ybD (by omega)]
    have h2:(t.take k).getD i 0=t.getD i 0:=by
     rw [yae,yae,ybN hi]
    rw [h1,h2];exact R.fit i (by omega)
   ·have:t.take k++[t.getD k 0]∈zbI ts c none (t.take k):=by
     unfold zbI;refine yaw.mpr ⟨t.getD k 0,ya2.mpr ⟨zfM.mpr ?_,?_⟩,rfl⟩
     ·have h1:t.getD k 0=t[k]:=by rw [yae,yac hk];rfl
      rw [h1];exact R.inr _ (ybt hk)
     ·rw [R.fit k (by omega)];rfl
    rwa [<-e] at this
theorem ze0{ts:Z2}{c:Nat}:∀{k:Nat},(zaz ts [] c k).Nodup
 | 0=>by simp [zaz]
 | k+1=>by
  show ((zaz ts [] c k).flatMap _).Nodup;have hl:∀t∈zaz ts [] c k,t.length=k:=fun t ht=>((zc3 k).mem t ht).1
  have hn:=ze0 (ts:=ts) (c:=c) (k:=k);generalize zaz ts [] c k=F at hl hn
  have hN:(zbU ts).Nodup:=by
   unfold zbU;rw [yaY,ycW];refine List.Pairwise.imp ?_ List.nodup_range;intro a b h;omega
  induction F with
  | nil=>simp
  | cons t F ih =>
   rw [ybg] at hn;rw [yaU,List.nodup_append];refine ⟨?_,ih (fun u hu=>hl u (yap _ hu)) hn.2,?_⟩
   ·unfold zbI;rw [yaY,ycW];refine List.Pairwise.imp ?_ (List.Pairwise.filter _ (yaY.mp hN));intro a b h z;have:=List.append_cancel_left z;simp at this;exact h this
   ·intro a ha b hb e;subst e;unfold zbI at ha;obtain ⟨x,_,rfl⟩:=yaw.mp ha;obtain ⟨u,hu,hb⟩:=ybw.mp hb;unfold zbI at hb;obtain ⟨y,_,e⟩:=yaw.mp hb;have:=List.append_inj_left' e rfl;subst this;exact hn.1 hu
noncomputable def zl6{ts:Z2}{r c:Nat}:(zyg ts r c).Nodup:=ze0
noncomputable def zbx{ts:Z2}{r c:Nat}{g:Z1}:(zas ts r c g).Nodup:=by
 rw [zdV,yaY];exact List.Pairwise.filter _ (yaY.mp zl6)
noncomputable def zjx{ts:Z2}{r c:Nat}{g:Z1}{t:List Int}:t∈zas ts r c g↔RtL ts c (r*c) t/\agG r c g t=true:=by
 rw [zdV,ya2];show t∈zaz ts [] c (r*c)/\_↔_;rw [ze3]
structure RtG(ts:Z2)(r c:Nat)(G:Nat->Nat->Int):Prop where
 inr:∀i j,i<r->j<c->0<=G i j/\G i j<ts.length
 east:∀i j,i<r->j+1<c->zar ts (G i j) 1=zar ts (G i (j+1)) 3
 south:∀i j,i+1<r->j<c->zar ts (G i j) 2=zar ts (G (i+1) j) 0
noncomputable def tnG(c:Nat)(t:List Int)(i j:Nat):Int:=t.getD (i*c+j) 0
noncomputable def lsG(r c:Nat)(G:Nat->Nat->Int):List Int:=(zdr r c).map fun p=>G p.1 p.2
noncomputable def zk0{r c:Nat}:(zdr r c).length=r*c:=by
 have:=za1 (r:=r) (c:=c) (g:=fun _ _=>none);rwa [zc2,yaf] at this
noncomputable def zhU{r c:Nat}{G:Nat->Nat->Int}:(lsG r c G).length=r*c:=by unfold lsG;rw [yaf,zk0]
noncomputable def zlc{r c k:Nat}{G:Nat->Nat->Int}(hc:1<=c)(h:k<r*c):(lsG r c G).getD k 0=G (k / c) (k % c):=by
 unfold lsG;rw [yae,yao,zg5 hc h];rfl
noncomputable def zbE{r c i j:Nat}{G:Nat->Nat->Int}(hi:i<r)(hj:j<c):tnG c (lsG r c G) i j=G i j:=by
 unfold tnG;rw [zlc (by omega) (zjF hi hj),(zhh hj).1,(zhh hj).2]
noncomputable def zbR{r c:Nat}{t:List Int}(hc:1<=c)(hl:t.length=r*c):lsG r c (tnG c t)=t:=by
 apply ybA;intro k
 by_cases h:k<r*c
 ·have e1:(lsG r c (tnG c t))[k]?=some ((lsG r c (tnG c t)).getD k 0):=by
   rw [yae,yac (by rw [zhU];exact h)];rfl
  have e2:t[k]?=some (t.getD k 0):=by
   rw [yae,yac (by omega)];rfl
  rw [e1,e2,zlc hc h];unfold tnG;rw [ybr,yci]
 ·rw [yaG (by rw [zhU];omega),yaG (by omega)]
noncomputable def zcE{r c:Nat}{G G':Nat->Nat->Int}(h:∀i j,i<r->j<c->G i j=G' i j):lsG r c G=lsG r c G':=by
 unfold lsG;apply yaD;intro p hp;obtain ⟨h1,h2⟩:=zkZ hp;exact h _ _ h1 h2
noncomputable def zkb{t:List Int}{i j:Nat}(h:j<i):(t.take i).getD j 0=t.getD j 0:=by
 rw [yae,yae,ybN h]
noncomputable def zka{t:List Int}{i:Nat}(h:i<t.length)(h0:0<i):(t.take i).getLastD 0=t.getD (i-1) 0:=by
 rw [ybK,yb2,ybi,ybD (by omega),ybN (by omega),yae]
noncomputable def ziY{ts:Z2}{r c i j:Nat}{t:List Int}(hc:1<=c)(hl:t.length=r*c)(hi:i<r)(hj:j<c):zh1 ts c (t.take (i*c+j)) (t.getD (i*c+j) 0)=true↔((0<j->zar ts (tnG c t i (j-1)) 1=zar ts (tnG c t i j) 3)/\(0<i->zar ts (tnG c t (i-1) j) 2=zar ts (tnG c t i j) 0)):=by
 have hk:=zjF hi hj
 have e1:(t.take (i*c+j)).length=i*c+j:=by rw [ybi];omega
 unfold zh1;rw [ybb,e1,(zhh hj).2]
 have a:0<j->(t.take (i*c+j)).getLastD 0=tnG c t i (j-1):=fun h=>by
  rw [zka (by omega) (by omega)];unfold tnG;congr 1;omega
 have hmul:0<i->(i-1)*c+c=i*c:=fun h=>by
  have:i=(i-1)+1:=by omega
  conv=>rhs;rw [this,ybV]
 have b:0<i->(t.take (i*c+j)).getD (i*c+j-c) 0=tnG c t (i-1) j:=fun h=>by
  have:=hmul h;rw [zkb (by omega)];unfold tnG;congr 1;omega
 have cc:c<=i*c+j↔0<i:=by
  constructor
  ·intro h
   rcases Nat.eq_zero_or_pos i with z | z
   ·subst z;omega
   ·exact z
  ·intro h;have:=hmul h;omega
 rw [cc];constructor
 ·rintro ⟨x,y⟩;exact ⟨fun h=>by rw [<-a h];exact x h,fun h=>by rw [<-b h];exact y h⟩
 ·rintro ⟨x,y⟩;exact ⟨fun h=>by rw [a h];exact x h,fun h=>by rw [b h];exact y h⟩
noncomputable def zpm{ts:Z2}{r c:Nat}{t:List Int}(hc:1<=c):RtL ts c (r*c) t↔t.length=r*c/\RtG ts r c (tnG c t):=by
 constructor
 ·intro R;have key:∀i j,i<r->j<c->_:=fun i j hi hj=>(ziY hc R.len hi hj).mp (R.fit _ (zjF hi hj))
  refine ⟨R.len,⟨fun i j hi hj=>?_,fun i j hi hj=>?_,fun i j hi hj=>?_⟩⟩
  ·have hk:=zjF hi hj
   have e:tnG c t i j=t[i*c+j]'(by rw [R.len];exact hk):=by
    unfold tnG;rw [yae,yac (by rw [R.len];exact hk)];rfl
   rw [e];exact R.inr _ (ybt _)
  ·exact (key i (j+1) hi hj).1 (by omega)
  ·exact (key (i+1) j hi hj).2 (by omega)
 ·rintro ⟨hl,G⟩;refine ⟨hl,fun x hx=>?_,fun k hk=>?_⟩
  ·obtain ⟨k,hk,rfl⟩:=List.mem_iff_getElem.mp hx
   have hk':k<r*c:=by omega
   have:=G.inr (k / c) (k % c) (zgv hc hk') (Nat.mod_lt _ hc);unfold tnG at this;rwa [ybr,yci,yae,yac hk] at this
  ·have hi:=zgv hc hk;have hj:=Nat.mod_lt k hc;have:=(ziY (ts:=ts) hc hl hi hj).mpr ⟨fun h=>by have:=G.east (k / c) (k % c-1) hi (by omega);rw [show k % c-1+1=k % c by omega] at this;exact this,fun h=>by have:=G.south (k / c-1) (k % c) (by omega) hj;rwa [show k / c-1+1=k / c by omega] at this⟩;rwa [ybr,yci] at this
noncomputable def RtG.congr{ts:Z2}{r c:Nat}{G G':Nat->Nat->Int}(h:∀i j,i<r->j<c->G i j=G' i j)(R:RtG ts r c G):RtG ts r c G' where
 inr:=fun i j hi hj=>by rw [<-h i j hi hj];exact R.inr i j hi hj
 east:=fun i j hi hj=>by rw [<-h i j hi (by omega),<-h i (j+1) hi hj];exact R.east i j hi hj
 south:=fun i j hi hj=>by rw [<-h i j (by omega) hj,<-h (i+1) j hi hj];exact R.south i j hi hj
noncomputable def zdd{ts:Z2}{r c:Nat}{g:Z1}{t:List Int}(hc:1<=c):t∈zas ts r c g↔t.length=r*c/\RtG ts r c (tnG c t)/\∀i j,i<r->j<c->g i j=none\/g i j=some (tnG c t i j):=by
 rw [zjx,zpm hc,zqR hc,and_assoc];constructor
 ·rintro ⟨a,b,h⟩;exact ⟨a,b,fun i j hi hj=>zk5.mp (h i j hi hj)⟩
 ·rintro ⟨a,b,h⟩;exact ⟨a,b,fun i j hi hj=>zk5.mpr (h i j hi hj)⟩
noncomputable def zjw{ts:Z2}{r c:Nat}{g:Z1}{G:Nat->Nat->Int}(hc:1<=c):lsG r c G∈zas ts r c g↔RtG ts r c G/\∀i j,i<r->j<c->g i j=none\/g i j=some (G i j):=by
 rw [zdd hc];have e:∀i j,i<r->j<c->tnG c (lsG r c G) i j=G i j:=fun i j hi hj=>zbE hi hj
 constructor
 ·rintro ⟨_,b,h⟩;exact ⟨b.congr e,fun i j hi hj=>by rw [<-e i j hi hj];exact h i j hi hj⟩
 ·rintro ⟨b,h⟩;exact ⟨zhU,b.congr (fun i j hi hj=>(e i j hi hj).symm),fun i j hi hj=>by rw [e i j hi hj];exact h i j hi hj⟩
theorem zdQ{β:Type}[DecidableEq β]:∀{A B:List β},A.Nodup->A ⊆ B->A.length<=B.length
 | [],B,_,_=>ybm _
 | a::A,B,n,h=>by
  rw [ybg] at n;have ha:a∈B:=h yax
  have h2:A ⊆ B.erase a:=fun b hb=>by
   have:b≠a:=fun z=>n.1 (z ▸ hb)
   exact (List.mem_erase_of_ne this).mpr (h (yap _ hb))
  have:=zdQ n.2 h2;rw [List.length_erase_of_mem ha] at this;have hp:0<B.length:=List.length_pos_of_mem ha;rw [yai];omega
noncomputable def zfN{α β:Type}[DecidableEq β]{A:List α}{B:List β}(nA:A.Nodup)(f:α->β)(h1:∀a∈A,f a∈B)(hi:∀a∈A,∀a'∈A,f a=f a'->a=a'):A.length<=B.length:=by
 have hn:(A.map f).Nodup:=by
  rw [yaY,ycW];refine List.Pairwise.imp_of_mem ?_ (yaY.mp nA);intro a b ha hb h z;exact h (hi a ha b hb z)
 have hs:A.map f ⊆ B:=by
  intro b hb;obtain ⟨a,ha,rfl⟩:=yaw.mp hb;exact h1 a ha
 have:=zdQ hn hs;rwa [yaf] at this
noncomputable def zpX{α β:Type}[DecidableEq α][DecidableEq β]{A:List α}{B:List β}(nA:A.Nodup)(nB:B.Nodup)(f:α->β)(g:β->α)(h1:∀a∈A,f a∈B)(h2:∀b∈B,g b∈A)(i1:∀a∈A,g (f a)=a)(i2:∀b∈B,f (g b)=b):A.length=B.length :=
 Nat.le_antisymm (zfN nA f h1 fun a ha a' ha' z=>by rw [<-i1 a ha,<-i1 a' ha',z]) (zfN nB g h2 fun a ha a' ha' z=>by rw [<-i2 a ha,<-i2 a' ha',z])
end S2
namespace S2
open PySem
open L2 hiding D
section
variable{ts:Z2}{r c:Nat}{g h:Z1}
noncomputable def zny(hc:1<=c){t:List Int}(ht:t∈zas ts r c g){i j:Nat}(hi:i<r)(hj:j<c):0<=tnG c t i j/\tnG c t i j<ts.length:=((zdd hc).mp ht).2.1.inr i j hi hj
noncomputable def zha{a b:Int}:neD (.int a) (.int b)=some (.bl (!decide (a=b))):=by
 simp [neD,zfs,D.py,PyData.eqv];rfl
end
noncomputable def zgy{a b:Option Int}:cl2 a b=false↔∀x y,a=some x->b=some y->x=y:=by
 cases a<;>cases b<;>simp [cl2]
noncomputable def zlU{ts:Z2}{r c:Nat}{g:Z1}:clL ts r c g=[]↔∀i j,i<r->j<c->cl2 (zaX ts r c g i j 1) (zaX ts r c g i (j+1) 3)=false/\cl2 (zaX ts r c g i j 2) (zaX ts r c g (i+1) j 0)=false:=by
 unfold clL;rw [List.flatMap_eq_nil_iff]
 have key:∀i j:Nat,clG ts r c g (plD i j)=[]↔cl2 (zaX ts r c g i j 1) (zaX ts r c g i (j+1) 3)=false/\cl2 (zaX ts r c g i j 2) (zaX ts r c g (i+1) j 0)=false:=by
  intro i j;unfold clG;simp only [plD,yaZ]
  by_cases a:cl2 (zaX ts r c g i j 1) (zaX ts r c g i (j+1) 3)=true<;>by_cases b:cl2 (zaX ts r c g i j 2) (zaX ts r c g (i+1) j 0)=true<;>simp [a,b]
 constructor
 ·intro h i j hi hj;exact (key i j).mp (h _ (zod hi hj))
 ·intro h d hd;obtain ⟨i,j,hi,hj,rfl⟩:=zeV hd;exact (key i j).mpr (h i j hi hj)
noncomputable def zkE{ts:Z2}{r c:Nat}{G:Nat->Nat->Int}(hG:∀i j,i<r->j<c->0<=G i j/\G i j<ts.length):clL ts r c (fun i j=>some (G i j))=[]↔RtG ts r c G:=by
 rw [zlU]
 have e:∀i j s,i<r->j<c->zaX ts r c (fun i j=>some (G i j)) i j s=some (zar ts (G i j) s):=fun i j s hi hj=>by unfold zaX;rw [if_pos ⟨hi,hj⟩];rfl
 have e':∀i j s,¬ (i<r/\j<c)->zaX ts r c (fun i j=>some (G i j)) i j s=none:=fun i j s h=>by unfold zaX;rw [if_neg h]
 constructor
 ·intro h;refine ⟨hG,fun i j hi hj=>?_,fun i j hi hj=>?_⟩
  ·have:=(h i j hi (by omega)).1;rw [e i j 1 hi (by omega),e i (j+1) 3 hi hj,zgy] at this;exact this _ _ rfl rfl
  ·have:=(h i j (by omega) hj).2;rw [e i j 2 (by omega) hj,e (i+1) j 0 hi hj,zgy] at this;exact this _ _ rfl rfl
 ·intro R i j hi hj;rw [zgy,zgy];constructor
  ·intro x y hx hy
   by_cases z:j+1<c
   ·rw [e i j 1 hi hj] at hx;rw [e i (j+1) 3 hi z] at hy;cases hx;cases hy;exact R.east i j hi z
   ·rw [e' i (j+1) 3 (fun w=>z w.2)] at hy;cases hy
  ·intro x y hx hy
   by_cases z:i+1<r
   ·rw [e i j 2 hi hj] at hx;rw [e (i+1) j 0 z hj] at hy;cases hx;cases hy;exact R.south i j z hj
   ·rw [e' (i+1) j 0 (fun w=>z w.1)] at hy;cases hy
end S2
namespace S2
open PySem
open L2 hiding D
noncomputable def zpo{c:Nat}{f:Nat->Option Int}:(zfr c f).pl=true:=by
 show D.pls (zcB c f)=true;rw [D.pls_iff];intro d hd;obtain ⟨j,_,rfl⟩:=yaw.mp hd
 cases f j<;>rfl
noncomputable def zqn{r c:Nat}{g:Z1}:(flr r c g).pl=true:=by
 show D.pls (zbg r c g)=true;rw [D.pls_iff];intro d hd;obtain ⟨i,_,rfl⟩:=yaw.mp hd;exact zpo
noncomputable def zmB{c n:Nat}{f:Nat->Option Int}:(zfr c f).fit (n+1)=true:=by
 show D.fits n (zcB c f)=true;rw [D.fits_iff];intro d hd;obtain ⟨j,_,rfl⟩:=yaw.mp hd
 cases f j<;>simp [oD]
noncomputable def znv{r c n:Nat}{g:Z1}:(flr r c g).fit (n+2)=true:=by
 show D.fits (n+1) (zbg r c g)=true;rw [D.fits_iff];intro d hd;obtain ⟨i,_,rfl⟩:=yaw.mp hd;exact zmB
noncomputable def zfL{r c:Nat}{g:Z1}:neD (flr r c g) (flr r c g)=some (.bl false):=zhR zqn znv
noncomputable def znJ{α:Type}{l:List α}{n:Nat}:zgH l none (some (n:Int))=l.take n:=by
 unfold zgH;have h2:HT.sIx l.length 0 none=0:=rfl;rw [h2];simp only [HT.zeN,Nat.sub_zero,ycQ]
 by_cases h:n<=l.length
 ·rw [ybD h]
 ·rw [Nat.min_eq_right (by omega),ybl (yam _),ybl (by omega)]
section
variable{ts:Z2}{r c:Nat}{g h:Z1}
noncomputable def ziZ{t:List Int}(hc:1<=c)(ht:t∈zas ts r c g):t.length=r*c:=((zdd hc).mp ht).1
end
end S2
namespace S2
open PySem
open L2 hiding D
section
variable{ts:Z2}{gr la:Z4}{we:List Int}{c:Nat}
end
section
variable{ts:Z2}{r c:Nat}{g:Z1}{w:Nat->Nat->Int}
end
end S2
namespace S2
open PySem
open L2 hiding D
section
variable{ts:Z2}{r c:Nat}{g:Z1}{w:Nat->Nat->Int}{G:Nat->Nat->Int}
end
section
variable{ts:Z2}{r c:Nat}{g h:Z1}{w v:Nat->Nat->Int}
end
end S2
namespace S2
open PySem
open L2 hiding D
section
variable{ts:Z2}{r c:Nat}{g h s:Z1}{w:Nat->Nat->Int}{G:Nat->Nat->Int}
open Classical in
end
end S2
namespace S2
open PySem
open L2 hiding D
end S2
namespace S2
open PySem
open L2 hiding D
noncomputable def sm(n:Nat)(f:Nat->Nat):Nat:=((List.range n).map f).sum
end S2
namespace S2
open PySem
open L2 hiding D
section
variable{ts us:Z2}{r c r' c':Nat}{f k:List Int->List Int}{g g':Z1}{w w':Nat->Nat->Int}
end
section
variable{ts:Z2}{r c:Nat}{G:Nat->Nat->Int}{g:Z1}{w:Nat->Nat->Int}
end
end S2
namespace S2
end S2
namespace S2.Sc
open PySem
open L2 hiding D
end S2.Sc
namespace S2
open PySem
open L2 hiding D
section
variable{ts:Z2}{r c l:Nat}{G:Nat->Nat->Int}{g:Z1}{w:Nat->Nat->Int}
end
theorem zii{α:Type}{f h:α->D}:∀{l:List α},zfB (l.map f) (l.map h)=l.map fun x=>.tup [f x,h x]
 | []=>rfl
 | x::l=>by simp only [yaq];show D.tup [f x,h x]::zfB _ _=_;rw [zii]
noncomputable def zkC{c1 c2:Nat}{p q:Nat->Option Int}:zcB c1 p++zcB c2 q=zcB (c1+c2) fun j=>if j<c1 then p j else q (j-c1):=by
 unfold zcB;rw [List.range_add,ybP,yaX];congr 1
 ·apply yaD;intro j hj;show oD (p j)=oD (if j<c1 then p j else q (j-c1));rw [if_pos (yaC.mp hj)]
 ·apply yaD;intro j _;show _=oD (if c1+j<c1 then p (c1+j) else q (c1+j-c1));rw [if_neg (by omega),yaF]
noncomputable def zfp{r c1 c2:Nat}{g1 g2:Z1}{S:Sto}(hc1:c1<=100)(hc2:c2<=100):zbL (.tup [0,1]) zdl (zaf zby (zag 0) (zag 1)) [none,none] (zfB (zbg r c1 g1) (zbg r c2 g2)) S=.ok (zbg r (c1+c2) fun i j=>if j<c1 then g1 i j else g2 i (j-c1)) S:=by
 unfold zbg;rw [zii]
 rw [zaY (g:=fun d=>match d with | .tup [.tup a,.tup b]=>.tup (a++b) | _=>.non) (fun d hd=>by
  obtain ⟨i,_,rfl⟩:=yaw.mp hd;refine ⟨_,rfl,?_⟩
  have hs:(zcB c1 (g1 i)).length+(zcB c2 (g2 i)).length<=100000:=by rw [zew,zew];omega
  unfold zfr;generalize zcB c1 (g1 i)=a at *;generalize zcB c2 (g2 i)=b at *
  simp [hs]),yaX]
 congr 1;apply yaD;intro i _;show D.tup (zcB c1 (g1 i)++zcB c2 (g2 i))=_;rw [zkC];rfl
noncomputable def zjq{r c1 c2:Nat}{g1 g2:Z1}{S:Sto}(h1:1<=r)(hr:r<=100)(hc1:c1<=100)(hc2:c2<=100):zcH [flr r c1 g1,flr r c2 g2] S=.ok (flr r (c1+c2) fun i j=>if j<c1 then g1 i j else g2 i (j-c1)) S:=by
 have s1:=zbn (r:=r) (c:=c1) (g:=g1) (S:=S) h1;have s2:=zbn (r:=r) (c:=c2) (g:=g2) (S:=S) h1;have e:=zfp (r:=r) (g1:=g1) (g2:=g2) (S:=S) hc1 hc2
 have hl:(zbg r (c1+c2) fun i j=>if j<c1 then g1 i j else g2 i (j-c1)).length<=100000:=by rw [zdh];omega
 have hn:neD (.int (r:Int)) (.int (r:Int))=some (.bl false):=zhR rfl rfl;unfold flr at *;generalize (zbg r (c1+c2) fun i j=>if j<c1 then g1 i j else g2 i (j-c1))=res at *;generalize zbg r c1 g1=f1 at *;generalize zbg r c2 g2=f2 at *;simp [zcH,zat,zeD,s1,s2,hn,e,hl]
end S2
namespace S2.L41
open PySem
open L2 hiding D
noncomputable def zuD:List (Str×Str):=[("Unlike","FloorError")]
noncomputable def isL:Str->Str->Option Bool:=zug ["Unlike"] ["FloorError","NoPlace","NoTile","NoFill","Unlike","Nothing","NoText"]
noncomputable def zfk:Fs :=
  (zah (sFz [] (zaG 1 true (zfn [(eUn (zlq isL "NoFill") (zag 0)),(eUn (zlq isL "NoPlace") (zag 0)),(eUn (zlq isL "NoText") (zag 0)),(eUn (zlq isL "NoTile") (zag 0))])))
  (zah (sFz [] (zqW 1 (zfn [(eUn (zlq isL "Nothing") (zag 0)),(eUn (zlq isL "Unlike") (zag 0))])))
  (zah (sFz [] (sIf (eOr (zaf neD (eMt zfT 1 (zae (.bl true))) (zae (.int 1))) (eUn zez (eUn (zlq isL "ValueError") (zag 0)))) (zah (sFz [] (za3 (zae (.str "wrong")))) sNx) sNx))
  (zah (sFz [] (za3 (zaf ixD (zfn [(zae (.str "no fill")),(zae (.str "no place")),(zae (.str "no text")),(zae (.str "no tile")),(zae (.str "nothing")),(zae (.str "unlike"))]) (eMt zfO 1 (zae (.bl true))))))
  sNx))))
noncomputable def zcI:List S2.D->Sto->Out S2.D:=zbD 2 false zfk
noncomputable def zhj:Fs :=
  (zah (sFz [] (zaG 3 false (zae .non)))
  (zah (sFz [] (zaG 4 false (zae .non)))
  (zah (sFz [] (zqV (zrf zuD) "FloorError" 5 3 (zah (sFz [1,2,1,2] (zaG 4 false (eIf (zaf eqD (zag 0) (zae (.int 0))) (eFn zcH [(zac 1),(zac 2)]) (eFn zdx [(zac 1),(zac 2)])))) sNx)))
  (zah (sFz [] (sIf (zaf znk (zag 3) (zae .non)) (zah (sFz [4] (za3 (zac 4))) sNx) sNx))
  (zah (sFz [3] (za3 (eFn zcI [(zac 3)])))
  sNx)))))
noncomputable def zaJ:List S2.D->Sto->Out S2.D:=zbD 6 false zhj
noncomputable def zeh:Fs :=
  (zah (sFz [1,16,3] (zaG 17 false (zaf ixD (eFn zaw [(zac 1),(eFn zaE [(zac 16),(zac 3)])]) (eIf (zaf eqD (zag 6) (zae (.int 0))) (zae (.int 1)) (zae (.int 2)))))) (zah (sFz [17] (zhI 15 (zac 17) (zaf zby (zfz 15 (zac 17) (zae (.int 0))) (zae (.int 1))))) sNx))
noncomputable def zeg:Fs :=
  (zah (sFz [1,16] (zaG 17 false (zaf ixD (eFn zaw [(zac 1),(eFn zaE [(zac 16),(zaf ixD (zag 7) (zae (.int 1)))])]) (eIf (zaf eqD (zag 6) (zae (.int 0))) (zae (.int 3)) (zae (.int 0)))))) (zah (sFz [17] (zaG 18 false (zaf zby (zag 18) (zfz 15 (zac 17) (zae (.int 0)))))) sNx))
noncomputable def zgD:Fs :=
  (zah (sFz [2,4,4,3] (zaG 7 false (eIf (zaf eqD (zag 6) (zae (.int 0))) (zbC [(zac 2),(zac 4)]) (zbC [(zac 4),(zac 3)])))) (zah (sFz [0,1] (zaG 8 false (eFn zaI [(zac 0),(zae (.int 200)),(zac 1),(zaf ixD (zag 7) (zae (.int 0))),(zaf ixD (zag 7) (zae (.int 1))),(zae (.int 1))]))) (zah (sFz [6,5,8] (zaG 9 false (eFn zaJ [(zac 6),(zac 5),(zac 8)]))) (zah (sFz [5,8] (zaG 12 false (eIf (zaf eqD (zag 6) (zae (.int 0))) (zau zbv [(zbX 2 (.tup [0,1]) (zox (zac 5) (zac 8)) zdl (zaf zby (zag 0) (zag 1)) [])]) (zaf zby (zag 5) (zag 8))))) (zah (sFz [3,2] (zga (.tup [13,14]) (eIf (zaf eqD (zag 6) (zae (.int 0))) (zbC [(zae (.int 0)),(zac 3)]) (zbC [(zac 2),(zae (.int 0))])))) (zah (sFz [9,2,3,9,13,14] (sIf (eOr (zaf neD (zag 9) (zag 12)) (eOr (zaf neD (eFn zcX [(zac 9),(zae (.int 0)),(zae (.int 0)),(zac 2),(zac 3)]) (zag 5)) (zaf neD (eFn zcX [(zac 9),(zac 13),(zac 14),(zaf ixD (zag 7) (zae (.int 0))),(zaf ixD (zag 7) (zae (.int 1)))]) (zag 8)))) (zah (sFz [] (za3 (zae (.bl false)))) sNx) sNx)) (zah (sFz [1,5] (zaG 10 false (zaf ixD (eFn zaw [(zac 1),(zac 5)]) (eIf (zaf eqD (zag 6) (zae (.int 0))) (zae (.int 1)) (zae (.int 2)))))) (zah (sFz [1,8] (zaG 11 false (zaf ixD (eFn zaw [(zac 1),(zac 8)]) (eIf (zaf eqD (zag 6) (zae (.int 0))) (zae (.int 3)) (zae (.int 0)))))) (zah (sFz [1,9,1,5,1,8] (sIf (zaf neD (eFn zav [(zac 1),(zac 9)]) (zeF (eFn zav [(zac 1),(zac 5)]) (zeF (eFn zav [(zac 1),(zac 8)]) (zaf eqD (zag 10) (zag 11))))) (zah (sFz [] (za3 (zae (.bl false)))) sNx) sNx)) (zah (sFz [] (zaG 15 true zlK)) (zah (sFz [1,2,3] (zfq (.one 16) (zay (eFn zaQ [(zac 1),(eFn zb5 [(zac 2),(zac 3)])])) zeh)) (zah (sFz [] (zaG 18 false (zae (.int 0)))) (zah (sFz [1] (zfq (.one 16) (zay (eFn zaQ [(zac 1),(eFn zb5 [(zaf ixD (zag 7) (zae (.int 0))),(zaf ixD (zag 7) (zae (.int 1)))])])) zeg)) (zah (sFz [1,6,2,3] (sIf (zaf neD (eFn zba [(zac 1),(eFn zaJ [(zac 6),(eFn zb5 [(zac 2),(zac 3)]),(eFn zb5 [(zaf ixD (zag 7) (zae (.int 0))),(zaf ixD (zag 7) (zae (.int 1)))])])]) (zag 18)) (zah (sFz [] (za3 (zae (.bl false)))) sNx) sNx)) (zah (sFz [5] (zaG 19 false (eIf (zaf eqD (zag 6) (zae (.int 0))) (zaf zby (zag 5) (eSl (zag 5) none (some (zae (.int 1))))) (zau zbv [(zbX 1 (.one 0) (zay (zac 5)) zdl (zaf zby (zag 0) (zbC [(zae .non)])) [])])))) (zah (sFz [6,19,8] (sIf (zaf neD (eFn zaJ [(zac 6),(zac 19),(zac 8)]) (zae (.str "unlike"))) (zah (sFz [] (za3 (zae (.bl false)))) sNx) sNx)) sNx))))))))))))))))
noncomputable def zkc:Fs:=zah (sFz [] (za3 (zae (.bl true)))) sNx
noncomputable def zkd:Fs:=zah (sFz [] (zfq (.one 6) (zay (zbC [(zae (.int 0)),(zae (.int 1))])) zgD)) zkc
noncomputable def zke:Fs:=zah (sFz [0,1,2,3] (zaG 5 false (eFn zaI [(zac 0),(zae (.int 100)),(zac 1),(zac 2),(zac 3),(zae (.int 1))]))) zkd
noncomputable def zkf:Fs:=zah (sFz [0] (zaG 4 false (zaf zby (zae (.int 1)) (eFn zaD [(zac 0),(zae (.int 91)),(zae (.int 2))])))) zke
noncomputable def zkg:Fs:=zah (sFz [0] (zga (.tup [2,3]) (zaf ixD (zfn [(zbC [(zae (.int 1)),(zae (.int 1))]),(zbC [(zae (.int 1)),(zae (.int 2))]),(zbC [(zae (.int 2)),(zae (.int 1))]),(zbC [(zae (.int 2)),(zae (.int 2))])]) (eFn zaD [(zac 0),(zae (.int 90)),(zae (.int 4))])))) zkf
noncomputable def zkh:Fs:=zah (sFz [0] (zaG 1 false (eFn zcl [(zac 0),(zae (.int 0)),(zae (.int 3))]))) zkg
noncomputable def zqp:Fs :=
  zkh
noncomputable def zr7:List S2.D->Sto->Out S2.D:=zbD 20 false zqp
end S2.L41
namespace S2.L41
open PySem
open L2 hiding D
noncomputable abbrev Sl:=Option (Bool×D)
theorem zfY:∀l:List Int,zch (l.map D.int)=some (l.map Sum.inl)
 | []=>rfl
 | i::l=>by
  show (zch (l.map D.int)).bind _=_;rw [zfY l];rfl
noncomputable def ziO{l:List Int}:zbe (zab l)=some (l.map Sum.inl):=zfY l
noncomputable def zqi{l m:List Int}(h:(l.map Sum.inl:List Key)=m.map Sum.inl):l=m:=by
 induction l generalizing m with
 | nil=>cases m with
  | nil=>rfl
  | cons _ _=>cases h
 | cons a l ih=>cases m with
  | nil=>cases h
  | cons b m =>
   rw [yaq,yaq] at h
   injection h with h1 h2
   injection h1 with h1
   rw [h1,ih h2]
theorem zim{k k':List Key}{d:D}:∀{ds:List (D×D)},zeq (ds.map fun p=>if zbe p.1=some k then (p.1,d) else p) k'=if k'=k then (zeq ds k).map fun _=>d else zeq ds k'
 | []=>by split<;>rfl
 | (q,e)::r=>by
  have ih:=zim (k:=k) (k':=k') (d:=d) (ds:=r);rw [yaq]
  by_cases a:zbe q=some k<;>by_cases b:k'=k<;>simp_all [zeq]
  rw [if_neg (Ne.symm b),if_neg (Ne.symm b)]
theorem zin{k k':List Key}{d:D}:∀{ds:List (D×D)},zeq ds k=none->zeq (ds++[(zmh k,d)]) k'=if k'=k then some d else zeq ds k'
 | [],_=>by
  by_cases b:k'=k
  ·subst b;simp [zeq,zcG]
  ·simp [zeq,zcG,b,Ne.symm b]
 | (q,e)::r,h=>by
  by_cases a:zbe q=some k
  ·simp [zeq,a] at h
  ·have h':zeq r k=none:=by simpa [zeq,a] using h
   have ih:=zin (k':=k') (d:=d) h'
   by_cases b:k'=k<;>simp_all [zeq]
noncomputable def zmk{ds:List (D×D)}{k k':List Key}{d:D}:zeq (zjr ds k d) k'=if k'=k then some d else zeq ds k':=by
 unfold zjr
 cases h:zeq ds k with
 | none=>rw [if_neg (by simp)];exact zin h
 | some e=>rw [if_pos (show (some e).isSome=true from rfl),zim,h];rfl
noncomputable def zmE{ds:List (D×D)}{k:List Key}{d:D}:(zjr ds k d).length<=ds.length+1:=by
 unfold zjr;split
 ·rw [yaf];omega
 ·rw [yal];exact yam _
structure CnG(ds:List (D×D))(L:Z2):Prop where
 at':∀l:List Int,(zeq ds (l.map Sum.inl)).getD (.int 0)=.int (L.count l:Nat)
 len:ds.length<=L.length
noncomputable def ztA:CnG [] []:=⟨fun _=>rfl,yam _⟩
noncomputable def ztz{ds:List (D×D)}{L:Z2}{l:List Int}(h:CnG ds L):CnG (zjr ds (l.map Sum.inl) (.int ((L.count l:Nat)+1))) (L++[l]) where
 at':=fun m=>by
  rw [zmk,List.count_append,List.count_singleton]
  by_cases e:m=l
  ·subst e;rw [if_pos rfl];simp
  ·rw [if_neg fun z=>e (zqi z),h.at' m]
   have:(l == m)=false:=by simp [Ne.symm e]
   rw [this];rfl
 len:=by
  rw [yal];exact yaj zmE (Nat.add_le_add_right h.len 1)
theorem zly{β:Type}[DecidableEq β]{x:β}:∀{F:List β},F.Nodup->x∈F->(F.map fun u=>if x=u then 1 else 0).sum=1
 | [],_,h=>by cases h
 | a::F,nd,h=>by
  rw [ybg] at nd;rw [yaq,ybq]
  by_cases e:x=a
  ·subst e;rw [if_pos rfl]
   have:(F.map fun u=>if x=u then 1 else 0).sum=0:=by
    have:∀G:List β,x ∉ G->(G.map fun u=>if x=u then 1 else 0).sum=0:=by
     intro G
     induction G with
     | nil=>intro _;rfl
     | cons b G ih =>
      intro hn;rw [yaq,ybq,if_neg (fun (z:x=b)=>hn (by rw [z];exact yax)),ih fun z=>hn (yap _ z)]
    exact this F nd.1
   rw [this]
  ·rw [if_neg e,zly nd.2 ((yav.mp h).resolve_left e)]
theorem ziw{β:Type}{f g:β->Nat}:∀{F:List β},(F.map fun u=>f u+g u).sum=(F.map f).sum+(F.map g).sum
 | []=>rfl
 | a::F=>by rw [yaq,yaq,yaq,ybq,ybq,ybq,ziw];omega
theorem ziG{α β:Type}[DecidableEq β]{f:α->β}{F:List β}(nd:F.Nodup):∀{J:List α},(∀t∈J,f t∈F)->J.length=(F.map fun u=>(J.filter fun t=>decide (f t=u)).length).sum
 | [],_=>by
  have:∀G:List β,(G.map fun u=>(([]:List α).filter fun t=>decide (f t=u)).length).sum=0:=by
   intro G
   induction G with
   | nil=>rfl
   | cons b G ih=>rw [yaq,ybq,ih];rfl
  rw [this];rfl
 | a::J,h=>by
  have ih:=ziG nd (J:=J) fun t ht=>h t (yap _ ht)
  have e:(F.map fun u=>((a::J).filter fun t=>decide (f t=u)).length)=F.map fun u=>(if f a=u then 1 else 0)+(J.filter fun t=>decide (f t=u)).length:=by
   apply yaD;intro u _;rw [ycu]
   by_cases z:f a=u
   ·rw [if_pos (yaM z),if_pos z,yai];omega
   ·rw [if_neg (by rw [ybb];exact z),if_neg z];omega
  rw [e,ziw,zly nd (h a yax),<-ih,yai];omega
noncomputable def zlN{J F1 F2:Z2}{lf rf s1 s2:List Int->List Int}{jn:List Int->List Int->List Int}(nJ:J.Nodup)(n1:F1.Nodup)(n2:F2.Nodup)
  (h1:∀t∈J,lf t∈F1/\rf t∈F2/\s1 (lf t)=s2 (rf t)/\jn (lf t) (rf t)=t)
  (h2:∀v∈F1,∀u∈F2,s1 v=s2 u->jn v u∈J/\lf (jn v u)=v/\rf (jn v u)=u) :
  J.length=(F2.map fun u=>(F1.map s1).count (s2 u)).sum:=by
 rw [ziG (f:=rf) n2 fun t ht=>(h1 t ht).2.1];congr 1;apply yaD;intro u hu;rw [List.count_eq_countP,List.countP_map,List.countP_eq_length_filter];refine zpX (nJ.filter _) (n1.filter _) lf (fun v=>jn v u) ?_ ?_ ?_ ?_
 ·intro t ht;obtain ⟨a,b⟩:=ya2.mp ht;obtain ⟨p,q,e,_⟩:=h1 t a;refine ya2.mpr ⟨p,?_⟩;show (s1 (lf t) == s2 u)=true;rw [e,yat b];simp
 ·intro v hv;obtain ⟨a,b⟩:=ya2.mp hv
  have b':s1 v=s2 u:=by
   have:(s1 v == s2 u)=true:=b;simpa using this
  obtain ⟨p,_,q⟩:=h2 v a u hu b';exact ya2.mpr ⟨p,yaM q⟩
 ·intro t ht;obtain ⟨a,b⟩:=ya2.mp ht;obtain ⟨_,_,_,e⟩:=h1 t a;rwa [yat b] at e
 ·intro v hv;obtain ⟨a,b⟩:=ya2.mp hv
  have b':s1 v=s2 u:=by
   have:(s1 v == s2 u)=true:=b;simpa using this
  exact (h2 v a u hu b').2.1
section
variable{ts:Z2}{r c m:Nat}
noncomputable def sdE(ts:Z2)(r c:Nat)(G:Nat->Nat->Int):List Int:=(List.range r).map fun k=>zar ts (G k (c-1)) 1
noncomputable def sdW(ts:Z2)(r:Nat)(G:Nat->Nat->Int):List Int:=(List.range r).map fun k=>zar ts (G k 0) 3
noncomputable def sdS(ts:Z2)(r c:Nat)(G:Nat->Nat->Int):List Int:=(List.range c).map fun k=>zar ts (G (r-1) k) 2
noncomputable def sdN(ts:Z2)(c:Nat)(G:Nat->Nat->Int):List Int:=(List.range c).map fun k=>zar ts (G 0 k) 0
noncomputable def bsG(c:Nat)(G H:Nat->Nat->Int):Nat->Nat->Int:=fun i j=>if j<c then G i j else H i (j-c)
noncomputable def blG(r:Nat)(G H:Nat->Nat->Int):Nat->Nat->Int:=fun i j=>if i<r then G i j else H (i-r) j
noncomputable def zdb{n:Nat}{f g:Nat->Int}:(List.range n).map f=(List.range n).map g↔∀i,i<n->f i=g i:=by
 constructor
 ·intro h i hi;have:=congrArg (fun l=>l[i]?) h;simp only [yao,ycK hi] at this;exact Option.some.inj this
 ·intro h;exact yaD fun i hi=>h i (yaC.mp hi)
noncomputable def zeT{G H:Nat->Nat->Int}(hc:1<=c)(hm:1<=m):RtG ts r (c+m) (bsG c G H)↔(RtG ts r c G/\RtG ts r m H)/\sdE ts r c G=sdW ts r H:=by
 unfold sdE sdW;rw [zdb];constructor
 ·intro R;refine ⟨⟨⟨fun i j hi hj=>?_,fun i j hi hj=>?_,fun i j hi hj=>?_⟩,⟨fun i j hi hj=>?_,fun i j hi hj=>?_,fun i j hi hj=>?_⟩⟩,fun i hi=>?_⟩
  ·have:=R.inr i j hi (by omega);unfold bsG at this;rwa [if_pos hj] at this
  ·have:=R.east i j hi (by omega);unfold bsG at this;rwa [if_pos (by omega),if_pos hj] at this
  ·have:=R.south i j hi (by omega);unfold bsG at this;rwa [if_pos hj,if_pos hj] at this
  ·have:=R.inr i (c+j) hi (by omega);unfold bsG at this;rwa [if_neg (by omega),yaF] at this
  ·have:=R.east i (c+j) hi (by omega);unfold bsG at this;rwa [if_neg (by omega),if_neg (by omega),yaF,show c+j+1-c=j+1 by omega] at this
  ·have:=R.south i (c+j) hi (by omega);unfold bsG at this;rwa [if_neg (by omega),if_neg (by omega),yaF] at this
  ·have:=R.east i (c-1) hi (by omega);unfold bsG at this;rwa [if_pos (by omega),if_neg (by omega),show c-1+1-c=0 by omega] at this
 ·rintro ⟨⟨A,B⟩,e⟩;refine ⟨fun i j hi hj=>?_,fun i j hi hj=>?_,fun i j hi hj=>?_⟩
  ·unfold bsG;split
   ·exact A.inr i j hi (by assumption)
   ·exact B.inr i (j-c) hi (by omega)
  ·unfold bsG
   by_cases a:j+1<c
   ·rw [if_pos (by omega),if_pos a];exact A.east i j hi a
   ·by_cases b:j<c
    ·rw [if_pos b,if_neg a];have:=e i hi;rw [show c-1=j by omega] at this;rw [this,show j+1-c=0 by omega]
    ·rw [if_neg b,if_neg a];have:=B.east i (j-c) hi (by omega);rw [this,show j-c+1=j+1-c by omega]
  ·unfold bsG;split
   ·exact A.south i j hi (by assumption)
   ·exact B.south i (j-c) hi (by omega)
noncomputable def zgd{G H:Nat->Nat->Int}(hr:1<=r)(hm:1<=m):RtG ts (r+m) c (blG r G H)↔(RtG ts r c G/\RtG ts m c H)/\sdS ts r c G=sdN ts c H:=by
 unfold sdS sdN;rw [zdb];constructor
 ·intro R;refine ⟨⟨⟨fun i j hi hj=>?_,fun i j hi hj=>?_,fun i j hi hj=>?_⟩,⟨fun i j hi hj=>?_,fun i j hi hj=>?_,fun i j hi hj=>?_⟩⟩,fun j hj=>?_⟩
  ·have:=R.inr i j (by omega) hj;unfold blG at this;rwa [if_pos hi] at this
  ·have:=R.east i j (by omega) hj;unfold blG at this;rwa [if_pos hi,if_pos hi] at this
  ·have:=R.south i j (by omega) hj;unfold blG at this;rwa [if_pos (by omega),if_pos hi] at this
  ·have:=R.inr (r+i) j (by omega) hj;unfold blG at this;rwa [if_neg (by omega),yaF] at this
  ·have:=R.east (r+i) j (by omega) hj;unfold blG at this;rwa [if_neg (by omega),if_neg (by omega),yaF] at this
  ·have:=R.south (r+i) j (by omega) hj;unfold blG at this;rwa [if_neg (by omega),if_neg (by omega),yaF,show r+i+1-r=i+1 by omega] at this
  ·have:=R.south (r-1) j (by omega) hj;unfold blG at this;rwa [if_pos (by omega),if_neg (by omega),show r-1+1-r=0 by omega] at this
 ·rintro ⟨⟨A,B⟩,e⟩;refine ⟨fun i j hi hj=>?_,fun i j hi hj=>?_,fun i j hi hj=>?_⟩
  ·unfold blG;split
   ·exact A.inr i j (by assumption) hj
   ·exact B.inr (i-r) j (by omega) hj
  ·unfold blG;split
   ·exact A.east i j (by assumption) hj
   ·exact B.east (i-r) j (by omega) hj
  ·unfold blG
   by_cases a:i+1<r
   ·rw [if_pos (by omega),if_pos a];exact A.south i j a hj
   ·by_cases b:i<r
    ·rw [if_pos b,if_neg a];have:=e j hj;rw [show r-1=i by omega] at this;rw [this,show i+1-r=0 by omega]
    ·rw [if_neg b,if_neg a];have:=B.south (i-r) j (by omega) hj;rw [this,show i-r+1=i+1-r by omega]
noncomputable abbrev noG:Nat->Nat->Option Int:=fun _ _=>none
noncomputable def zqX{t:List Int}(hc:1<=c):t∈zas ts r c noG↔t.length=r*c/\RtG ts r c (tnG c t):=by
 rw [zdd hc];exact ⟨fun h=>⟨h.1,h.2.1⟩,fun h=>⟨h.1,h.2,fun _ _ _ _=>.inl rfl⟩⟩
noncomputable def zqY{G:Nat->Nat->Int}(hc:1<=c):lsG r c G∈zas ts r c noG↔RtG ts r c G:=by
 rw [zjw hc];exact ⟨fun h=>h.1,fun h=>⟨h,fun _ _ _ _=>.inl rfl⟩⟩
noncomputable def zfA(hc:1<=c)(hm:1<=m):(zas ts r (c+m) noG).length=((zas ts r m noG).map fun u=>((zas ts r c noG).map fun v=>sdE ts r c (tnG c v)).count (sdW ts r (tnG m u))).sum:=by
 refine zlN (lf:=fun t=>lsG r c (tnG (c+m) t)) (rf:=fun t=>lsG r m fun i j=>tnG (c+m) t i (c+j)) (s1:=fun v=>sdE ts r c (tnG c v)) (s2:=fun u=>sdW ts r (tnG m u)) (jn:=fun v u=>lsG r (c+m) (bsG c (tnG c v) (tnG m u))) zbx zbx zbx ?_ ?_
 ·intro t ht;obtain ⟨hl,R⟩:=(zqX (by omega)).mp ht
  have R':RtG ts r (c+m) (bsG c (tnG (c+m) t) fun i j=>tnG (c+m) t i (c+j)):=R.congr fun i j hi hj=>by
   unfold bsG;split
   ·rfl
   ·show _=tnG (c+m) t i (c+(j-c));rw [show c+(j-c)=j by omega]
  obtain ⟨⟨A,B⟩,e⟩:=(zeT hc hm).mp R'
  have eA:sdE ts r c (tnG c (lsG r c (tnG (c+m) t)))=sdE ts r c (tnG (c+m) t):=zdb.mpr fun i hi=>by rw [zbE hi (by omega)]
  have eB:sdW ts r (tnG m (lsG r m fun i j=>tnG (c+m) t i (c+j)))=sdW ts r (fun i j=>tnG (c+m) t i (c+j)):=zdb.mpr fun i hi=>by rw [zbE hi (by omega)]
  refine ⟨(zqY hc).mpr A,(zqY hm).mpr B,?_,?_⟩
  ·show sdE ts r c (tnG c (lsG r c (tnG (c+m) t)))=sdW ts r (tnG m (lsG r m fun i j=>tnG (c+m) t i (c+j)));rw [eA,eB];exact e
  ·show lsG r (c+m) (bsG c (tnG c (lsG r c (tnG (c+m) t))) (tnG m (lsG r m fun i j=>tnG (c+m) t i (c+j))))=t;rw [<-zbR (c:=c+m) (by omega) hl];refine zcE fun i j hi hj=>?_
   rw [zbR (by omega) hl];unfold bsG;split
   ·rename_i h;rw [zbE hi h]
   ·rename_i h;rw [zbE hi (by omega),show c+(j-c)=j by omega]
 ·intro v hv u hu e;obtain ⟨hl1,A⟩:=(zqX hc).mp hv;obtain ⟨hl2,B⟩:=(zqX hm).mp hu;refine ⟨(zqY (by omega)).mpr ((zeT hc hm).mpr ⟨⟨A,B⟩,e⟩),?_,?_⟩
  ·show lsG r c (tnG (c+m) (lsG r (c+m) (bsG c (tnG c v) (tnG m u))))=v;rw [<-zbR hc hl1];refine zcE fun i j hi hj=>?_
   rw [zbR hc hl1,zbE hi (by omega)];unfold bsG;rw [if_pos hj]
  ·show lsG r m (fun i j=>tnG (c+m) (lsG r (c+m) (bsG c (tnG c v) (tnG m u))) i (c+j))=u;rw [<-zbR hm hl2];refine zcE fun i j hi hj=>?_
   rw [zbR hm hl2,zbE hi (by omega)];unfold bsG;rw [if_neg (by omega),yaF]
noncomputable def zgx(hr:1<=r)(hm:1<=m)(hc:1<=c):(zas ts (r+m) c noG).length=((zas ts m c noG).map fun u=>((zas ts r c noG).map fun v=>sdS ts r c (tnG c v)).count (sdN ts c (tnG c u))).sum:=by
 refine zlN (lf:=fun t=>lsG r c (tnG c t)) (rf:=fun t=>lsG m c fun i j=>tnG c t (r+i) j) (s1:=fun v=>sdS ts r c (tnG c v)) (s2:=fun u=>sdN ts c (tnG c u)) (jn:=fun v u=>lsG (r+m) c (blG r (tnG c v) (tnG c u))) zbx zbx zbx ?_ ?_
 ·intro t ht;obtain ⟨hl,R⟩:=(zqX hc).mp ht
  have R':RtG ts (r+m) c (blG r (tnG c t) fun i j=>tnG c t (r+i) j):=R.congr fun i j hi hj=>by
   unfold blG;split
   ·rfl
   ·show _=tnG c t (r+(i-r)) j;rw [show r+(i-r)=i by omega]
  obtain ⟨⟨A,B⟩,e⟩:=(zgd hr hm).mp R'
  have eA:sdS ts r c (tnG c (lsG r c (tnG c t)))=sdS ts r c (tnG c t):=zdb.mpr fun j hj=>by rw [zbE (by omega) hj]
  have eB:sdN ts c (tnG c (lsG m c fun i j=>tnG c t (r+i) j))=sdN ts c (fun i j=>tnG c t (r+i) j):=zdb.mpr fun j hj=>by rw [zbE (by omega) hj]
  refine ⟨(zqY hc).mpr A,(zqY hc).mpr B,?_,?_⟩
  ·show sdS ts r c (tnG c (lsG r c (tnG c t)))=sdN ts c (tnG c (lsG m c fun i j=>tnG c t (r+i) j));rw [eA,eB];exact e
  ·show lsG (r+m) c (blG r (tnG c (lsG r c (tnG c t))) (tnG c (lsG m c fun i j=>tnG c t (r+i) j)))=t;rw [<-zbR hc hl];refine zcE fun i j hi hj=>?_
   rw [zbR hc hl];unfold blG;split
   ·rename_i h;rw [zbE h hj]
   ·rename_i h;rw [zbE (by omega) hj,show r+(i-r)=i by omega]
 ·intro v hv u hu e;obtain ⟨hl1,A⟩:=(zqX hc).mp hv;obtain ⟨hl2,B⟩:=(zqX hc).mp hu;refine ⟨(zqY hc).mpr ((zgd hr hm).mpr ⟨⟨A,B⟩,e⟩),?_,?_⟩
  ·show lsG r c (tnG c (lsG (r+m) c (blG r (tnG c v) (tnG c u))))=v;rw [<-zbR hc hl1];refine zcE fun i j hi hj=>?_
   rw [zbR hc hl1,zbE (by omega) hj];unfold blG;rw [if_pos hi]
  ·show lsG m c (fun i j=>tnG c (lsG (r+m) c (blG r (tnG c v) (tnG c u))) (r+i) j)=u;rw [<-zbR hc hl2];refine zcE fun i j hi hj=>?_
   rw [zbR hc hl2,zbE (by omega) hj];unfold blG;rw [if_neg (by omega),yaF]
noncomputable def zh0{r':Nat}{g h:Z1}(hr:r+r'<=1000):zby (flr r c g) (flr r' c h)=some (flr (r+r') c fun i j=>if i<r then g i j else h (i-r) j):=by
 unfold flr;rw [zn0,if_pos (by rw [zhE,zdh,zdh];exact yaM (by omega))];congr 2;unfold zbg;rw [List.range_add,ybP,yaX];congr 1
 ·apply yaD;intro i hi;have:=yaC.mp hi;congr 1;funext j;dsimp only;rw [if_pos this]
 ·apply yaD;intro i hi;show zfr c (h i)=zfr c _;congr 1;funext j;dsimp only;rw [if_neg (by omega),yaF]
noncomputable def zvo:∀q,q<4->∀k,k<9->q ^ k<=1000000/\zdo q k<=1000000:=by decide
noncomputable def zkB(ht:TOk ts)(h1:1<=ts.length)(h3:ts.length<=3)(r1:1<=r)(c1:1<=c)(hrc:r*c<=8)(S:Sto):∃S',zba [.tup (ts.map zab),flr r c noG] S=.ok (.int ((zas ts r c noG).length:Nat)) S':=by
 have hr:r<=8:=yaj (Nat.le_mul_of_pos_right r c1) hrc;have hc:c<=8:=yaj (Nat.le_mul_of_pos_left c r1) hrc
 have hg:InT ts noG:=fun i j x hx=>by cases hx
 obtain ⟨b1,b2⟩:=zvo ts.length (by omega) (r*c) (by omega);obtain ⟨S',e⟩:=zeS (S:=S) ht h1 hg r1 (by omega) c1 (by omega) (by omega) b1 b2;rw [zjf c1 hg] at e;exact ⟨S',e⟩
noncomputable def zmw{S:Sto}:zcI [.exc "Unlike"] S=.ok (.str "unlike") S:=by rfl
noncomputable def zoX:(D.str "unlike").fit 9=true:=by show PyData.strOk _=true;decide +kernel
noncomputable def zoj:neD (.str "unlike") (.str "unlike")=some (.bl false):=zhR rfl zoX
noncomputable def und:zrf zuD "Unlike" "FloorError" = true:=by decide
noncomputable def doE:Fe:=eIf (zaf eqD (zag 0) (zae (.int 0))) (eFn zcH [(zac 1),(zac 2)]) (eFn zdx [(zac 1),(zac 2)])
noncomputable def doF:Fs :=
  (zah (sFz [] (zaG 3 false (zae .non)))
  (zah (sFz [] (zaG 4 false (zae .non)))
  (zah (sFz [] (zqV (zrf zuD) "FloorError" 5 3 (zah (sFz [1,2,1,2] (zaG 4 false doE)) sNx)))
  (zah (sFz [] (sIf (zaf znk (zag 3) (zae .non)) (zah (sFz [4] (za3 (zac 4))) sNx) sNx))
  (zah (sFz [3] (za3 (eFn zcI [(zac 3)])))
  sNx)))))
noncomputable def zoy:zaJ=zbD 6 false doF:=rfl
noncomputable abbrev doR(w:Int)(A B:D):Env:=[some (false,.int w),some (false,A),some (false,B),some (false,.non),some (false,.non),none]
noncomputable def ztv{w:Int}{A B:D}{L:List D}{S:Sto}(h:doE (doR w A B) S=.ok (.tup L) S):zaJ [.int w,A,B] S=.ok (.tup L) S:=by
 rw [zoy,zat];simp [doF,h]
noncomputable def ztw{w:Int}{A B:D}{S:Sto}(h:doE (doR w A B) S=.exc "Unlike" S):zaJ [.int w,A,B] S=.ok (.str "unlike") S:=by
 rw [zoy,zat];simp [doF,h,und,zmw]
noncomputable def do0{A B:D}{S:Sto}:doE (doR 0 A B) S=zcH [A,B] S:=by
 have q0:eqD (.int 0) (.int 0)=some (.bl true):=rfl;simp [doE,q0]
noncomputable def do1{A B:D}{S:Sto}:doE (doR 1 A B) S=zdx [A,B] S:=by
 have q0:eqD (.int 1) (.int 0)=some (.bl false):=rfl;simp [doE,q0]
section
variable{g h:Z1}{S:Sto}
noncomputable def zhn(h1:1<=r)(hr:r<=100)(hc1:c<=100)(hc2:m<=100):zaJ [.int 0,flr r c g,flr r m h] S=.ok (flr r (c+m) fun i j=>if j<c then g i j else h i (j-c)) S :=
 ztv (do0.trans (zjq h1 hr hc1 hc2))
noncomputable def zi5(h1:1<=r)(h2:1<=m)(hn:r+m<=1000):zaJ [.int 1,flr r c g,flr m c h] S=.ok (flr (r+m) c fun i j=>if i<r then g i j else h (i-r) j) S:=by
 refine ztv (do1.trans ?_);have s1:=zbn (c:=c) (g:=g) (S:=S) h1;have s2:=zbn (c:=c) (g:=h) (S:=S) h2;have q:=zha (a:=(c:Int)) (b:=(c:Int));have ea:=zh0 (r:=r) (r':=m) (c:=c) (g:=g) (h:=h) hn;show zdx [flr r c g,flr m c h] S=.ok (flr (r+m) c fun i j=>if i<r then g i j else h (i-r) j) S;generalize flr (r+m) c (fun i j=>if i<r then g i j else h (i-r) j)=f3 at *;generalize flr r c g=f1 at *;generalize flr m c h=f2 at *;simp [zdx,zat,zgt,s1,s2,q,ea]
noncomputable def ztu{r':Nat}(h1:1<=r')(h2:1<=r)(hn:r'≠r):zaJ [.int 0,flr r' c g,flr r m h] S=.ok (.str "unlike") S:=by
 refine ztw (do0.trans ?_);have s1:=zbn (c:=c) (g:=g) (S:=S) h1;have s2:=zbn (c:=m) (g:=h) (S:=S) h2;have q:=zha (a:=(r':Int)) (b:=(r:Int));rw [yaS (by omega)] at q;generalize flr r' c g=f1 at *;generalize flr r m h=f2 at *;simp [zcH,zat,zeD,s1,s2,q]
noncomputable def ztt{c':Nat}(h1:1<=r)(h2:1<=m)(hn:c'≠c):zaJ [.int 1,flr r c' g,flr m c h] S=.ok (.str "unlike") S:=by
 refine ztw (do1.trans ?_);have s1:=zbn (c:=c') (g:=g) (S:=S) h1;have s2:=zbn (c:=c) (g:=h) (S:=S) h2;have q:=zha (a:=(c':Int)) (b:=(c:Int));rw [yaS (by omega)] at q;generalize flr r c' g=f1 at *;generalize flr m c h=f2 at *;simp [zdx,zat,zgt,s1,s2,q]
end
noncomputable abbrev smG(G:Nat->Nat->Int):Nat->Nat->Option Int:=fun i j=>some (G i j)
noncomputable def zcF{G:Nat->Nat->Int}(ht:TOk ts)(hG:∀i j,0<=G i j/\G i j<ts.length)(h1:1<=r)(hr:r<=100)(c1:1<=c)(hc:c<=100)(S:Sto):zaw [.tup (ts.map zab),flr r c (smG G)] S=.ok (.tup [zab (sdN ts c G),zab (sdE ts r c G),zab (sdS ts r c G),zab (sdW ts r G)]) S:=by
 have e:=zkA (g:=smG G) (S:=S) ht (fun i j x hx=>by cases hx;exact hG i j) h1 hr c1 hc
 have z:∀i j s,i<r->j<c->oD (zaX ts r c (smG G) i j s)=.int (zar ts (G i j) s):=fun i j s hi hj=>by
  unfold zaX;rw [if_pos ⟨hi,hj⟩];rfl
 have y:∀(n:Nat) (f:Nat->D) (h:Nat->Int),(∀k,k<n->f k=.int (h k))->(List.range n).map f=((List.range n).map h).map D.int:=fun n f h e=>by
  rw [yaX];exact yaD fun k hk=>e k (yaC.mp hk)
 rwa [y c _ _ fun k hk=>z 0 k 0 (by omega) hk,y r _ _ fun k hk=>z k (c-1) 1 hk (by omega),y c _ _ fun k hk=>z (r-1) k 2 (by omega) hk,y r _ _ fun k hk=>z k 0 3 hk (by omega)] at e
noncomputable def rB(ts:Z2)(r c:Nat)(G:Nat->Nat->Int):Bool:=decide (clL ts r c (smG G)=[])
noncomputable def zb1{G:Nat->Nat->Int}(ht:TOk ts)(hG:∀i j,0<=G i j/\G i j<ts.length)(h1:1<=r)(hr:r<=100)(hc:c<=100)(S:Sto):zav [.tup (ts.map zab),flr r c (smG G)] S=.ok (.bl (rB ts r c G)) S:=by
 have e:=zkx (g:=smG G) (S:=S) (c:=c) ht (fun i j x hx=>by cases hx;exact hG i j) h1 hr hc
 have hf:zjI r c (smG G)=true:=by unfold zjI;simp
 rwa [hf,Bool.true_and] at e
noncomputable def zfH{G:Nat->Nat->Int}(hG:∀i j,0<=G i j/\G i j<ts.length):rB ts r c G=true↔RtG ts r c G:=by
 unfold rB;rw [ybb];exact zkE fun i j _ _=>hG i j
noncomputable def zuK{t:List Int}(hc:1<=c)(h1:1<=ts.length)(ht:t∈zas ts r c noG)(i j:Nat):0<=tnG c t i j/\tnG c t i j<ts.length:=by
 have hl:=ziZ hc ht
 by_cases h:i*c+j<t.length
 ·rw [hl] at h
  have e:tnG c t i j=tnG c t ((i*c+j) / c) ((i*c+j) % c):=by
   unfold tnG;rw [Nat.div_add_mod']
  rw [e];exact zny hc ht (zgv hc h) (Nat.mod_lt _ hc)
 ·have:tnG c t i j=0:=by
   unfold tnG;rw [yae,yaG (by omega)];rfl
  rw [this];omega
noncomputable def zdi{t:List Int}(ht:TOk ts)(h1:1<=ts.length)(r1:1<=r)(hr:r<=10)(c1:1<=c)(hc:c<=10)(hm:t∈zas ts r c noG)(S:Sto):zaE [zab t,.int c] S=.ok (flr r c (smG (tnG c t))) S ∧
  zaw [.tup (ts.map zab),flr r c (smG (tnG c t))] S=.ok (.tup [zab (sdN ts c (tnG c t)),zab (sdE ts r c (tnG c t)),zab (sdS ts r c (tnG c t)),zab (sdW ts r (tnG c t))]) S:=by
 refine ⟨zgW (r:=r) (S:=S) (ziZ c1 hm) c1 (by omega) (by omega) ?_,zcF ht (zuK c1 h1 hm) r1 (by omega) c1 (by omega) S⟩;have:r*c<=10*10:=ya0 hr hc;omega
noncomputable abbrev ev(l:List Int)(ts:Z2)(r c m:Nat)(G:Nat->Nat->Int)(w:Int)(L:Env):Env:=some (false,.scr l)::some (false,.tup (ts.map zab))::some (false,.int r)::some (false,.int c)::some (false,.int m)::some (false,flr r c (smG G))::some (false,.int w)::L
section
variable{S:Sto}{s7 s8 s9 s10 s11 s12 s13 s14 s15 s16 s17 s18 s19:Sl}{w:Int}{b:Bool}{l:List Int}{G H:Nat->Nat->Int}
noncomputable def ztj{ds:List (D×D)}{L:Z2}{k:List Int}(C:CnG ds L){ρ:Env}(h:ρ[15]?=some (some (true,zd1 ds)))(h2:ρ[17]?=some (some (false,zab k))):zfz 15 (zac 17) (zae (.int 0)) ρ S=.ok (.int (L.count k:Nat)) S:=by
 rw [ztl h (by simp [h2]:zac 17 ρ S=.ok (zab k) S) ziO (by simp:zae (.int 0) ρ S=.ok (.int 0) S),C.at' k]
noncomputable def zvp{ds:List (D×D)}{L:Z2}{k:List Int}(C:CnG ds L)(hl:L.length<=100000){ρ:Env}(h:ρ[15]?=some (some (true,zd1 ds)))(h2:ρ[17]?=some (some (false,zab k))):zhI 15 (zac 17) (zaf zby (zfz 15 (zac 17) (zae (.int 0))) (zae (.int 1))) ρ S=.nx (ρ.set 15 (some (true,zd1 (zjr ds (k.map Sum.inl) (.int ((L.count k:Nat)+1)))))) S:=by
 have g:=ztj (S:=S) C h h2;exact zsa h (by simp [g]) (by simp [h2]:zac 17 ρ S=.ok (zab k) S) ziO (yaj C.len hl)
noncomputable def EdG(ts:Z2)(q:Nat)(S:Sto)(t:List Int)(x:Bool->D)(y:Bool->D):Prop:=∃fl,zaE [zab t,.int q] S=.ok fl S/\zaw [.tup (ts.map zab),fl] S=.ok (.tup [y false,x true,x false,y true]) S
noncomputable def zu1{ds:List (D×D)}{L:Z2}{t k:List Int}{x y:Bool->D}(hq:eqD (.int w) (.int 0)=some (.bl b))(C:CnG ds L)(hL:L.length<=100000)(e:EdG ts c S t x y)(hx:x b=zab k) :
  zeh (ev l ts r c m G w [s7,s8,s9,s10,s11,s12,s13,s14,some (true,zd1 ds),some (false,zab t),s17,s18,s19]) S
   = .nx (ev l ts r c m G w [s7,s8,s9,s10,s11,s12,s13,s14,some (true,zd1 (zjr ds (k.map Sum.inl) (.int ((L.count k:Nat)+1)))),some (false,zab t),some (false,zab k),s18,s19]) S:=by
 have pv:=fun (ρ:Env)=>zvp (S:=S) (k:=k) (ρ:=ρ) C hL
 obtain ⟨fl,e1,e2⟩:=e;rw [<-hx] at pv ⊢;unfold ev;generalize zd1 (zjr ds (k.map Sum.inl) (.int ((L.count k:Nat)+1)))=d2 at *;generalize zd1 ds=dd at *;generalize zab t=tt at *;generalize flr r c (smG G)=f1 at *;generalize ts.map zab=tsd at *
 cases b<;>simp [zeh,hq,e1,e2,pv]
noncomputable def zu0{ds:List (D×D)}{L:Z2}{t k:List Int}{a q:Nat}{k0:D}{x y:Bool->D}(hq:eqD (.int w) (.int 0)=some (.bl b))(C:CnG ds L)(e:EdG ts q S t x y)(hy:y b=zab k) :
  zeg (ev l ts r c m G w [some (false,.tup [k0,.int q]),s8,s9,s10,s11,s12,s13,s14,some (true,zd1 ds),some (false,zab t),s17,some (false,.int a),s19]) S
   = .nx (ev l ts r c m G w [some (false,.tup [k0,.int q]),s8,s9,s10,s11,s12,s13,s14,some (true,zd1 ds),some (false,zab t),some (false,zab k),some (false,.int ((a+L.count k:Nat):Int)),s19]) S:=by
 have gv:=fun (ρ:Env)=>ztj (S:=S) (k:=k) (ρ:=ρ) C
 obtain ⟨fl,e1,e2⟩:=e;rw [<-hy] at gv ⊢;unfold ev;generalize L.count k=cn at *;generalize zd1 ds=dd at *;generalize zab t=tt at *;generalize flr r c (smG G)=f1 at *;generalize ts.map zab=tsd at *
 cases b<;>simp [zeg,hq,e1,e2,gv]
noncomputable def zvF{F:Z2}{sa:List Int->List Int}(hq:eqD (.int w) (.int 0)=some (.bl b))(hF:F.length<=100000)(he:∀t∈F,∃x y,EdG ts c S t x y/\x b=zab (sa t)) :
  ∃ds x16 x17,CnG ds (F.map sa)/\zgs (.one 16) zeh (F.map zab) (ev l ts r c m G w [s7,s8,s9,s10,s11,s12,s13,s14,some (true,zd1 []),s16,s17,s18,s19]) S
   = .nx (ev l ts r c m G w [s7,s8,s9,s10,s11,s12,s13,s14,some (true,zd1 ds),x16,x17,s18,s19]) S:=by
 obtain ⟨ρ',e1,ds,x16,x17,C,rfl⟩:=zcq (tg:=.one 16) (body:=zeh) (ds:=F.map zab) (S:=S) (fun k ρ=>∃ds x16 x17,CnG ds ((F.take k).map sa)/\ρ=ev l ts r c m G w [s7,s8,s9,s10,s11,s12,s13,s14,some (true,zd1 ds),x16,x17,s18,s19]) (by
  rintro k d ρ hd ⟨ds,x16,x17,C,rfl⟩;rw [yao] at hd
  cases ht:F[k]? with
  | none=>rw [ht] at hd;cases hd
  | some t =>
   rw [ht] at hd;cases hd;obtain ⟨x,y,a1,a2⟩:=he t (ybL ht);refine ⟨_,_,rfl,zu1 hq C (by rw [yaf,ybi];omega) a1 a2,_,_,_,?_,rfl⟩;rw [ycV,ht,ybP]
   exact ztz C) ⟨[],s16,s17,ztA,rfl⟩
 rw [yaf,List.take_length] at C;exact ⟨ds,x16,x17,C,e1⟩
noncomputable def zvE{F:Z2}{sb:List Int->List Int}{ds:List (D×D)}{L:Z2}{q:Nat}{k0:D}(hq:eqD (.int w) (.int 0)=some (.bl b))(C:CnG ds L)(he:∀t∈F,∃x y,EdG ts q S t x y/\y b=zab (sb t)) :
  ∃x16 x17,zgs (.one 16) zeg (F.map zab) (ev l ts r c m G w [some (false,.tup [k0,.int q]),s8,s9,s10,s11,s12,s13,s14,some (true,zd1 ds),s16,s17,some (false,.int 0),s19]) S
   = .nx (ev l ts r c m G w [some (false,.tup [k0,.int q]),s8,s9,s10,s11,s12,s13,s14,some (true,zd1 ds),x16,x17,some (false,.int (((F.map fun u=>L.count (sb u)).sum:Nat):Int)),s19]) S:=by
 obtain ⟨ρ',e1,x16,x17,rfl⟩:=zcq (tg:=.one 16) (body:=zeg) (ds:=F.map zab) (S:=S) (fun k ρ=>∃x16 x17,ρ=ev l ts r c m G w [some (false,.tup [k0,.int q]),s8,s9,s10,s11,s12,s13,s14,some (true,zd1 ds),x16,x17,some (false,.int ((((F.take k).map fun u=>L.count (sb u)).sum:Nat):Int)),s19]) (by
  rintro k d ρ hd ⟨x16,x17,rfl⟩;rw [yao] at hd
  cases ht:F[k]? with
  | none=>rw [ht] at hd;cases hd
  | some t =>
   rw [ht] at hd;cases hd;obtain ⟨x,y,a1,a2⟩:=he t (ybL ht);refine ⟨_,_,rfl,zu0 hq C a1 a2,some (false,zab t),some (false,zab (sb t)),?_⟩;rw [ycV,ht,ybP,List.sum_append]
   rfl) ⟨s16,s17,rfl⟩
 rw [yaf,List.take_length] at e1;exact ⟨x16,x17,e1⟩
noncomputable def b3C:Fs:=(zah (sFz [1,6,2,3] (sIf (zaf neD (eFn zba [(zac 1),(eFn zaJ [(zac 6),(eFn zb5 [(zac 2),(zac 3)]),(eFn zb5 [(zaf ixD (zag 7) (zae (.int 0))),(zaf ixD (zag 7) (zae (.int 1)))])])]) (zag 18)) (zah (sFz [] (za3 (zae (.bl false)))) sNx) sNx)) (zah (sFz [5] (zaG 19 false (eIf (zaf eqD (zag 6) (zae (.int 0))) (zaf zby (zag 5) (eSl (zag 5) none (some (zae (.int 1))))) (zau zbv [(zbX 1 (.one 0) (zay (zac 5)) zdl (zaf zby (zag 0) (zbC [(zae .non)])) [])])))) (zah (sFz [6,19,8] (sIf (zaf neD (eFn zaJ [(zac 6),(zac 19),(zac 8)]) (zae (.str "unlike"))) (zah (sFz [] (za3 (zae (.bl false)))) sNx) sNx)) sNx)))
noncomputable def b3B:Fs:=(zah (sFz [] (zaG 15 true zlK)) (zah (sFz [1,2,3] (zfq (.one 16) (zay (eFn zaQ [(zac 1),(eFn zb5 [(zac 2),(zac 3)])])) zeh)) (zah (sFz [] (zaG 18 false (zae (.int 0)))) (zah (sFz [1] (zfq (.one 16) (zay (eFn zaQ [(zac 1),(eFn zb5 [(zaf ixD (zag 7) (zae (.int 0))),(zaf ixD (zag 7) (zae (.int 1)))])])) zeg)) b3C))))
noncomputable def b3b:Fs:=(zah (sFz [1,5] (zaG 10 false (zaf ixD (eFn zaw [(zac 1),(zac 5)]) (eIf (zaf eqD (zag 6) (zae (.int 0))) (zae (.int 1)) (zae (.int 2)))))) (zah (sFz [1,8] (zaG 11 false (zaf ixD (eFn zaw [(zac 1),(zac 8)]) (eIf (zaf eqD (zag 6) (zae (.int 0))) (zae (.int 3)) (zae (.int 0)))))) (zah (sFz [1,9,1,5,1,8] (sIf (zaf neD (eFn zav [(zac 1),(zac 9)]) (zeF (eFn zav [(zac 1),(zac 5)]) (zeF (eFn zav [(zac 1),(zac 8)]) (zaf eqD (zag 10) (zag 11))))) (zah (sFz [] (za3 (zae (.bl false)))) sNx) sNx)) b3B)))
noncomputable def b3A:Fs:=(zah (sFz [2,4,4,3] (zaG 7 false (eIf (zaf eqD (zag 6) (zae (.int 0))) (zbC [(zac 2),(zac 4)]) (zbC [(zac 4),(zac 3)])))) (zah (sFz [0,1] (zaG 8 false (eFn zaI [(zac 0),(zae (.int 200)),(zac 1),(zaf ixD (zag 7) (zae (.int 0))),(zaf ixD (zag 7) (zae (.int 1))),(zae (.int 1))]))) (zah (sFz [6,5,8] (zaG 9 false (eFn zaJ [(zac 6),(zac 5),(zac 8)]))) (zah (sFz [5,8] (zaG 12 false (eIf (zaf eqD (zag 6) (zae (.int 0))) (zau zbv [(zbX 2 (.tup [0,1]) (zox (zac 5) (zac 8)) zdl (zaf zby (zag 0) (zag 1)) [])]) (zaf zby (zag 5) (zag 8))))) (zah (sFz [3,2] (zga (.tup [13,14]) (eIf (zaf eqD (zag 6) (zae (.int 0))) (zbC [(zae (.int 0)),(zac 3)]) (zbC [(zac 2),(zae (.int 0))])))) (zah (sFz [9,2,3,9,13,14] (sIf (eOr (zaf neD (zag 9) (zag 12)) (eOr (zaf neD (eFn zcX [(zac 9),(zae (.int 0)),(zae (.int 0)),(zac 2),(zac 3)]) (zag 5)) (zaf neD (eFn zcX [(zac 9),(zac 13),(zac 14),(zaf ixD (zag 7) (zae (.int 0))),(zaf ixD (zag 7) (zae (.int 1)))]) (zag 8)))) (zah (sFz [] (za3 (zae (.bl false)))) sNx) sNx)) b3b))))))
noncomputable def ztO:zgD=b3A:=rfl
noncomputable def ziK{R C:Nat}{g:Z1}(h:∀i j,g i j=none):flr R C g=flr R C noG:=zdT fun i j _ _=>h i j
noncomputable def zu8(ht:TOk ts)(h1:1<=ts.length)(h3:ts.length<=3)(r1:1<=r)(hr:r<=2)(c1:1<=c)(hc:c<=2)(m1:1<=m)(hm:m<=2) :
  ∃S' x19,∀s9 s10 s11 s12 s13 s14 s15 s16 s17 s19,b3C (ev l ts r c m G 0 [some (false,.tup [.int r,.int m]),some (false,flr r m (smG H)),s9,s10,s11,s12,s13,s14,s15,s16,s17,some (false,.int ((zas ts r (c+m) noG).length:Nat)),s19]) S
   = .nx (ev l ts r c m G 0 [some (false,.tup [.int r,.int m]),some (false,flr r m (smG H)),s9,s10,s11,s12,s13,s14,s15,s16,s17,some (false,.int ((zas ts r (c+m) noG).length:Nat)),x19]) S':=by
 have q0:eqD (.int 0) (.int 0)=some (.bl true):=rfl;have e1:=zb0 (r:=r) (c:=c) (S:=S) r1 (by omega) c1 (by omega);have e2:=zb0 (r:=r) (c:=m) (S:=S) r1 (by omega) m1 (by omega);have e3:=zhn (r:=r) (c:=c) (m:=m) (g:=noG) (h:=noG) (S:=S) r1 (by omega) (by omega) (by omega);rw [ziK (R:=r) (C:=c+m) (g:=fun i j=>if j<c then noG i j else noG i (j-c)) (fun i j=>by split<;>rfl)] at e3;obtain ⟨S1,e4⟩:=zkB (r:=r) (c:=c+m) ht h1 h3 r1 (by omega) (yaj (ya0 hr (show c+m<=4 by omega)) (by decide)) S;have qn:=zha (a:=((zas ts r (c+m) noG).length:Nat)) (b:=((zas ts r (c+m) noG).length:Nat))
 have tk:zgH (zbg r c (smG G)) none (some 1)=zbg 1 c (smG G):=by
  have:(zbg r c (smG G)).take 1=zbg 1 c (smG G):=by
   unfold zbg;rw [<-List.map_take,List.take_range,ybD r1]
  rw [<-this];exact znJ (n:=1)
 have ea:=zh0 (r:=r) (r':=1) (c:=c) (g:=smG G) (h:=smG G) (by omega);have e5:=ztu (S:=S1) (c:=c) (m:=m) (r:=r) (r':=r+1) (g:=fun i j=>if i<r then smG G i j else smG G (i-r) j) (h:=smG H) (by omega) r1 (by omega);refine ⟨S1,some (false,flr (r+1) c fun i j=>if i<r then smG G i j else smG G (i-r) j),fun _ _ _ _ _ _ _ _ _ _=>?_⟩;unfold ev flr at *;generalize (zbg (r+1) c fun i j=>if i<r then smG G i j else smG G (i-r) j)=f6 at *;generalize zbg 1 c (smG G)=f5 at *;generalize zbg r (c+m) noG=f4 at *;generalize (zas ts r (c+m) noG).length=nn at *;generalize zbg r c noG=f3 at *;generalize zbg r m noG=f7 at *;generalize zbg r c (smG G)=f1 at *;generalize zbg r m (smG H)=f2 at *;generalize ts.map zab=tsd at *;simp [b3C,q0,e1,e2,e3,e4,qn,tk,ea,e5,zoj]
noncomputable def zu7(ht:TOk ts)(h1:1<=ts.length)(h3:ts.length<=3)(r1:1<=r)(hr:r<=2)(c1:1<=c)(hc:c<=2)(m1:1<=m)(hm:m<=2) :
  ∃S' x19,∀s9 s10 s11 s12 s13 s14 s15 s16 s17 s19,b3C (ev l ts r c m G 1 [some (false,.tup [.int m,.int c]),some (false,flr m c (smG H)),s9,s10,s11,s12,s13,s14,s15,s16,s17,some (false,.int ((zas ts (r+m) c noG).length:Nat)),s19]) S
   = .nx (ev l ts r c m G 1 [some (false,.tup [.int m,.int c]),some (false,flr m c (smG H)),s9,s10,s11,s12,s13,s14,s15,s16,s17,some (false,.int ((zas ts (r+m) c noG).length:Nat)),x19]) S':=by
 have q0:eqD (.int 1) (.int 0)=some (.bl false):=rfl;have e1:=zb0 (r:=r) (c:=c) (S:=S) r1 (by omega) c1 (by omega);have e2:=zb0 (r:=m) (c:=c) (S:=S) m1 (by omega) c1 (by omega);have e3:=zi5 (r:=r) (c:=c) (m:=m) (g:=noG) (h:=noG) (S:=S) r1 m1 (by omega);rw [ziK (R:=r+m) (C:=c) (g:=fun i j=>if i<r then noG i j else noG (i-r) j) (fun i j=>by split<;>rfl)] at e3;obtain ⟨S1,e4⟩:=zkB (r:=r+m) (c:=c) ht h1 h3 (by omega) c1 (yaj (ya0 (show r+m<=4 by omega) hc) (by decide)) S;have qn:=zha (a:=((zas ts (r+m) c noG).length:Nat)) (b:=((zas ts (r+m) c noG).length:Nat))
 have cm:zbL (.one 0) zdl (zaf zby (zag 0) (zbC [(zae .non)])) [none] (zbg r c (smG G)) S1=.ok (zbg r (c+1) fun i j=>if j<c then smG G i j else none) S1:=by
  unfold zbg
  rw [zaY (g:=fun d=>match d with | .tup a=>.tup (a++[.non]) | _=>.non) (fun d hd=>by
   obtain ⟨i,_,rfl⟩:=yaw.mp hd;refine ⟨_,rfl,?_⟩
   have hs:(zcB c (smG G i)).length+1<=100000:=by rw [zew];omega
   unfold zfr;generalize zcB c (smG G i)=a at *
   simp [hs]),yaX]
  congr 1;apply yaD;intro i _;show D.tup (zcB c (smG G i)++zcB 1 fun _=>none)=_;rw [zkC];rfl
 have hl:(zbg r (c+1) fun i j=>if j<c then smG G i j else none).length<=100000:=by rw [zdh];omega
 have e5:=ztt (S:=S1) (c:=c) (m:=m) (r:=r) (c':=c+1) (g:=fun i j=>if j<c then smG G i j else none) (h:=smG H) r1 m1 (by omega);refine ⟨S1,some (false,flr r (c+1) fun i j=>if j<c then smG G i j else none),fun _ _ _ _ _ _ _ _ _ _=>?_⟩;unfold ev flr at *;generalize (zbg r (c+1) fun i j=>if j<c then smG G i j else none)=f6 at *;generalize zbg (r+m) c noG=f4 at *;generalize (zas ts (r+m) c noG).length=nn at *;generalize zbg r c noG=f3 at *;generalize zbg m c noG=f7 at *;generalize zbg r c (smG G)=f1 at *;generalize zbg m c (smG H)=f2 at *;generalize ts.map zab=tsd at *;simp [b3C,q0,e1,e2,e3,e4,qn,cm,hl,e5,zoj]
noncomputable def zw8{p q:Nat}{sa sb:List Int->List Int}(hq:eqD (.int w) (.int 0)=some (.bl b))(P1:FP ts r c)(P2:FP ts p q)
  (ha:∀t∈zas ts r c noG,∃x y,EdG ts c S t x y/\x b=zab (sa t)) (hb:∀t∈zas ts p q noG,∃x y,EdG ts q S t x y/\y b=zab (sb t)) :
  ∃x15 x16 x17,b3B (ev l ts r c m G w [some (false,.tup [.int p,.int q]),s8,s9,s10,s11,s12,s13,s14,s15,s16,s17,s18,s19]) S
   = b3C (ev l ts r c m G w [some (false,.tup [.int p,.int q]),s8,s9,s10,s11,s12,s13,s14,x15,x16,x17,some (false,.int ((((zas ts p q noG).map fun u=>((zas ts r c noG).map sa).count (sb u)).sum:Nat):Int)),s19]) S:=by
 have e1:=zb0 (r:=r) (c:=c) (S:=S) P1.r1 (by have:=P1.r6;omega) P1.c1 (by have:=P1.c6;omega);have e2:=zb0 (r:=p) (c:=q) (S:=S) P2.r1 (by have:=P2.r6;omega) P2.c1 (by have:=P2.c6;omega);have f1:=zfE (g:=noG) P1 S;have f2:=zfE (g:=noG) P2 S
 have hF:(zas ts r c noG).length<=100000:=by
  obtain ⟨_,b2⟩:=zkJ ts.length (r*c) P1.h4;exact yaj (yaj (zed _) b2) (by decide)
 obtain ⟨ds,x16,x17,C,l1⟩:=zvF (l:=l) (r:=r) (m:=m) (G:=G) (s7:=some (false,.tup [.int p,.int q])) (s8:=s8) (s9:=s9) (s10:=s10) (s11:=s11) (s12:=s12) (s13:=s13) (s14:=s14) (s16:=s16) (s17:=s17) (s18:=s18) (s19:=s19) hq hF ha;obtain ⟨y16,y17,l2⟩:=zvE (l:=l) (r:=r) (c:=c) (m:=m) (G:=G) (k0:=.int p) (s8:=s8) (s9:=s9) (s10:=s10) (s11:=s11) (s12:=s12) (s13:=s13) (s14:=s14) (s16:=x16) (s17:=x17) (s19:=s19) hq C hb;refine ⟨some (true,zd1 ds),y16,y17,?_⟩;unfold ev at *;generalize ((zas ts p q noG).map fun u=>((zas ts r c noG).map sa).count (sb u)).sum=nn at *;generalize (zas ts r c noG).map zab=F1 at *;generalize (zas ts p q noG).map zab=F2 at *;generalize flr r c noG=g1 at *;generalize flr p q noG=g2 at *;generalize flr r c (smG G)=g3 at *;generalize zd1 ds=d1 at *;generalize ts.map zab=tsd at *;simp [b3B,e1,f1,l1,e2,f2,l2]
noncomputable def znA{a b:List Int}:eqD (zab a) (zab b)=some (.bl (decide (a=b))):=by
 rw [zts zeC zeC];congr 2;rw [ybc,ybb];show (zab a).py.eqv (zab b).py=true↔_;rw [zi1 _ _ zgh zgh,zir]
noncomputable def ztL(hG:∀i j,0<=G i j/\G i j<ts.length)(hH:∀i j,0<=H i j/\H i j<ts.length)(i j:Nat):0<=bsG c G H i j/\bsG c G H i j<ts.length:=by
 unfold bsG;split
 ·exact hG i j
 ·exact hH i _
noncomputable def ztN(hG:∀i j,0<=G i j/\G i j<ts.length)(hH:∀i j,0<=H i j/\H i j<ts.length)(i j:Nat):0<=blG r G H i j/\blG r G H i j<ts.length:=by
 unfold blG;split
 ·exact hG i j
 ·exact hH _ j
noncomputable def zw7{R C p q:Nat}{K:Nat->Nat->Int}{x y x' y':Bool->D}{a1 a2:List Int}(hq:eqD (.int w) (.int 0)=some (.bl b))
  (e1:zaw [.tup (ts.map zab),flr r c (smG G)] S=.ok (.tup [y false,x true,x false,y true]) S) (e2:zaw [.tup (ts.map zab),flr p q (smG H)] S=.ok (.tup [y' false,x' true,x' false,y' true]) S) (hx:x b=zab a1) (hy:y' b=zab a2)
  (i1:zav [.tup (ts.map zab),flr R C (smG K)] S=.ok (.bl (rB ts R C K)) S) (i2:zav [.tup (ts.map zab),flr r c (smG G)] S=.ok (.bl (rB ts r c G)) S) (i3:zav [.tup (ts.map zab),flr p q (smG H)] S=.ok (.bl (rB ts p q H)) S)
  (hr:rB ts R C K=(rB ts r c G&&(rB ts p q H&&decide (a1=a2)))) :
  b3b (ev l ts r c m G w [s7,some (false,flr p q (smG H)),some (false,flr R C (smG K)),s10,s11,s12,s13,s14,s15,s16,s17,s18,s19]) S
   = b3B (ev l ts r c m G w [s7,some (false,flr p q (smG H)),some (false,flr R C (smG K)),some (false,zab a1),some (false,zab a2),s12,s13,s14,s15,s16,s17,s18,s19]) S:=by
 have qe:=znA (a:=a1) (b:=a2);unfold ev;rw [<-hx,<-hy] at qe ⊢;generalize decide (a1=a2)=b3 at *;generalize rB ts R C K=b0 at *;generalize rB ts r c G=b1 at *;generalize rB ts p q H=b2 at *;generalize flr R C (smG K)=f3 at *;generalize flr r c (smG G)=f1 at *;generalize flr p q (smG H)=f2 at *;generalize ts.map zab=tsd at *
 have nb:∀x:Bool,neD (.bl x) (.bl x)=some (.bl false):=fun x=>by cases x<;>rfl
 subst hr
 cases b<;>cases b1<;>cases b2<;>simp [b3b,hq,e1,e2,i1,i2,i3,qe,nb]
noncomputable def zeB{R C R' C':Nat}{g g':Z1}(h1:R=R')(h2:C=C')(h:∀i j,i<R->j<C->g i j=g' i j):flr R C g=flr R' C' g':=by
 subst h1 h2;exact zdT h
noncomputable def zva(r1:1<=r)(hr:r<=2)(c1:1<=c)(hc:c<=2)(m1:1<=m)(hm:m<=2)(f2:zaI [.scr l,.int 200,.tup (ts.map zab),.int r,.int m,.int 1] S=.ok (flr r m (smG H)) S) :
  b3A (ev l ts r c m G 0 [s7,s8,s9,s10,s11,s12,s13,s14,s15,s16,s17,s18,s19]) S
   = b3b (ev l ts r c m G 0 [some (false,.tup [.int r,.int m]),some (false,flr r m (smG H)),some (false,flr r (c+m) (smG (bsG c G H))),s10,s11,some (false,flr r (c+m) (smG (bsG c G H))),some (false,.int 0),some (false,.int c),s15,s16,s17,s18,s19]) S:=by
 have q0:eqD (.int 0) (.int 0)=some (.bl true):=rfl
 have ej:(zbg r (c+m) fun i j=>if j<c then smG G i j else smG H i (j-c))=zbg r (c+m) (smG (bsG c G H)):=by
  have:flr r (c+m) (fun i j=>if j<c then smG G i j else smG H i (j-c))=flr r (c+m) (smG (bsG c G H)):=zdT fun i j _ _=>by
   show _=some (bsG c G H i j);unfold bsG
   split<;>rfl
  unfold flr at this;injection this
 have e1:=zhn (r:=r) (c:=c) (m:=m) (g:=smG G) (h:=smG H) (S:=S) r1 (by omega) (by omega) (by omega);have cm:=zfp (r:=r) (c1:=c) (c2:=m) (g1:=smG G) (g2:=smG H) (S:=S) (by omega) (by omega);unfold flr at e1;rw [ej] at e1 cm
 have hl:(zbg r (c+m) (smG (bsG c G H))).length<=100000:=by rw [zdh];omega
 have p1:zcX [flr r (c+m) (smG (bsG c G H)),.int 0,.int 0,.int r,.int c] S=.ok (flr r c (smG G)) S:=by
  have:=zev (r:=r) (c:=c+m) (a:=0) (b:=0) (k:=r) (m:=c) (g:=smG (bsG c G H)) (S:=S) (by omega)
  have ef:flr (min r (r-0)) (min c (c+m-0)) (fun i j=>smG (bsG c G H) (0+i) (0+j))=flr r c (smG G):=zeB (by omega) (by omega) (fun i j hi hj=>by
   show some (bsG c G H (0+i) (0+j))=some (G i j);unfold bsG
   rw [if_pos (by omega),yb7,yb7])
  rwa [ef] at this
 have p2:zcX [flr r (c+m) (smG (bsG c G H)),.int 0,.int c,.int r,.int m] S=.ok (flr r m (smG H)) S:=by
  have:=zev (r:=r) (c:=c+m) (a:=0) (b:=c) (k:=r) (m:=m) (g:=smG (bsG c G H)) (S:=S) (by omega)
  have ef:flr (min r (r-0)) (min m (c+m-c)) (fun i j=>smG (bsG c G H) (0+i) (c+j))=flr r m (smG H):=zeB (by omega) (by omega) (fun i j hi hj=>by
   show some (bsG c G H (0+i) (c+j))=some (H i j);unfold bsG
   rw [if_neg (by omega),yb7,yaF])
  rwa [ef] at this
 have n1:=zfL (r:=r) (c:=c+m) (g:=smG (bsG c G H));have n2:=zfL (r:=r) (c:=c) (g:=smG G);have n3:=zfL (r:=r) (c:=m) (g:=smG H);clear ej;unfold ev flr at *;generalize zbg r (c+m) (smG (bsG c G H))=f3 at *;generalize zbg r c (smG G)=f1 at *;generalize zbg r m (smG H)=f2 at *;generalize ts.map zab=tsd at *;simp [b3A,q0,f2,e1,cm,hl,n1,p1,n2,p2,n3]
noncomputable def zu9(r1:1<=r)(hr:r<=2)(c1:1<=c)(hc:c<=2)(m1:1<=m)(hm:m<=2)(f2:zaI [.scr l,.int 200,.tup (ts.map zab),.int m,.int c,.int 1] S=.ok (flr m c (smG H)) S) :
  b3A (ev l ts r c m G 1 [s7,s8,s9,s10,s11,s12,s13,s14,s15,s16,s17,s18,s19]) S
   = b3b (ev l ts r c m G 1 [some (false,.tup [.int m,.int c]),some (false,flr m c (smG H)),some (false,flr (r+m) c (smG (blG r G H))),s10,s11,some (false,flr (r+m) c (smG (blG r G H))),some (false,.int r),some (false,.int 0),s15,s16,s17,s18,s19]) S:=by
 have q0:eqD (.int 1) (.int 0)=some (.bl false):=rfl
 have ej:flr (r+m) c (fun i j=>if i<r then smG G i j else smG H (i-r) j)=flr (r+m) c (smG (blG r G H)):=zdT fun i j _ _=>by
  show _=some (blG r G H i j);unfold blG
  split<;>rfl
 have e1:=zi5 (r:=r) (c:=c) (m:=m) (g:=smG G) (h:=smG H) (S:=S) r1 m1 (by omega);have ea:=zh0 (r:=r) (r':=m) (c:=c) (g:=smG G) (h:=smG H) (by omega);rw [ej] at e1 ea
 have p1:zcX [flr (r+m) c (smG (blG r G H)),.int 0,.int 0,.int r,.int c] S=.ok (flr r c (smG G)) S:=by
  have:=zev (r:=r+m) (c:=c) (a:=0) (b:=0) (k:=r) (m:=c) (g:=smG (blG r G H)) (S:=S) (by omega)
  have ef:flr (min r (r+m-0)) (min c (c-0)) (fun i j=>smG (blG r G H) (0+i) (0+j))=flr r c (smG G):=zeB (by omega) (by omega) (fun i j hi hj=>by
   show some (blG r G H (0+i) (0+j))=some (G i j);unfold blG
   rw [if_pos (by omega),yb7,yb7])
  rwa [ef] at this
 have p2:zcX [flr (r+m) c (smG (blG r G H)),.int r,.int 0,.int m,.int c] S=.ok (flr m c (smG H)) S:=by
  have:=zev (r:=r+m) (c:=c) (a:=r) (b:=0) (k:=m) (m:=c) (g:=smG (blG r G H)) (S:=S) (by omega)
  have ef:flr (min m (r+m-r)) (min c (c-0)) (fun i j=>smG (blG r G H) (r+i) (0+j))=flr m c (smG H):=zeB (by omega) (by omega) (fun i j hi hj=>by
   show some (blG r G H (r+i) (0+j))=some (H i j);unfold blG
   rw [if_neg (by omega),yb7,yaF])
  rwa [ef] at this
 have n1:=zfL (r:=r+m) (c:=c) (g:=smG (blG r G H));have n2:=zfL (r:=r) (c:=c) (g:=smG G);have n3:=zfL (r:=m) (c:=c) (g:=smG H);clear ej;unfold ev;generalize flr (r+m) c (smG (blG r G H))=f3 at *;generalize flr r c (smG G)=f1 at *;generalize flr m c (smG H)=f2 at *;generalize ts.map zab=tsd at *;simp [b3A,q0,f2,e1,ea,n1,p1,n2,p2,n3]
noncomputable def zec{a:Int}{R C:Nat}(ha:0<=a)(h1:1<=ts.length)(hR:R<=1000)(hC:C<=1000)(S:Sto):∃G:Nat->Nat->Int,(∀i j,0<=G i j/\G i j<ts.length)/\zaI [.scr l,.int a,.tup (ts.map zab),.int R,.int C,.int 1] S=.ok (flr R C (smG G)) S:=by
 have hp:0<((ts.map zab).length:Int)*1:=by simp;omega
 have f2:=zkz (l:=l) (at':=a) (m:=1) (ts:=ts.map zab) (r:=R) (c:=C) (S:=S) ha hp (by decide) (by omega) (by omega) (by omega) (by omega);rw [yaZ,yaZ] at f2;refine ⟨fun i j=>zb7 l (a+7*i+j) (((ts.map zab).length:Int)*1),fun i j=>?_,?_⟩
 ·have:=zb6 l (a+7*(i:Int)+j) hp;simp only [yaf,Int.mul_one] at this ⊢;exact this
 ·rw [f2];congr 2;funext i j;unfold zm0;have:=zb6 l (a+7*(i:Int)+j) hp;rw [if_pos];have h2:=this.2;rw [Int.mul_one] at h2 ⊢;exact h2
noncomputable abbrev sel2(p q:D):Bool->D:=fun b=>if b then p else q
noncomputable def zuZ(ht:TOk ts)(h1:1<=ts.length)(h3:ts.length<=3)(r1:1<=r)(hr:r<=2)(c1:1<=c)(hc:c<=2)(m1:1<=m)(hm:m<=2)(hG:∀i j,0<=G i j/\G i j<ts.length):∃S' x7 x8 x9 x10 x11 x12 x13 x14 x15 x16 x17 x18 x19,zgD (ev l ts r c m G 0 [s7,s8,s9,s10,s11,s12,s13,s14,s15,s16,s17,s18,s19]) S=.nx (ev l ts r c m G 0 [x7,x8,x9,x10,x11,x12,x13,x14,x15,x16,x17,x18,x19]) S':=by
 have q0:eqD (.int 0) (.int 0)=some (.bl true):=rfl;have rc4:r*c<=6:=yaj (ya0 hr hc) (by decide);have rm4:r*m<=6:=yaj (ya0 hr hm) (by decide);obtain ⟨H,hH,f2⟩:=zec (l:=l) (a:=200) (R:=r) (C:=m) (by omega) h1 (by omega) (by omega) S;obtain ⟨S',x19,eC⟩:=zu8 (l:=l) (S:=S) (G:=G) (H:=H) ht h1 h3 r1 hr c1 hc m1 hm
 obtain ⟨x15,x16,x17,eB⟩:=zw8 (S:=S) (l:=l) (m:=m) (G:=G) (p:=r) (q:=m) (s8:=some (false,flr r m (smG H))) (s9:=some (false,flr r (c+m) (smG (bsG c G H)))) (s10:=some (false,zab (sdE ts r c G))) (s11:=some (false,zab (sdW ts r H))) (s12:=some (false,flr r (c+m) (smG (bsG c G H)))) (s13:=some (false,.int 0)) (s14:=some (false,.int c)) (s15:=s15) (s16:=s16) (s17:=s17) (s18:=s18) (s19:=s19) (sa:=fun v=>sdE ts r c (tnG c v)) (sb:=fun u=>sdW ts r (tnG m u)) q0 ⟨ht,h1,zmD (by omega) rc4,r1,c1,rc4⟩ ⟨ht,h1,zmD (by omega) rm4,r1,m1,rm4⟩
  (fun t hm'=>⟨sel2 _ _,sel2 _ _,⟨_,zdi ht h1 r1 (by omega) c1 (by omega) hm' S⟩,rfl⟩)
  (fun t hm'=>⟨sel2 _ _,sel2 _ _,⟨_,zdi ht h1 r1 (by omega) m1 (by omega) hm' S⟩,rfl⟩)
 rw [<-zfA c1 m1] at eB
 rw [ztO,zva r1 hr c1 hc m1 hm f2,zw7 (x:=sel2 _ _) (y:=sel2 _ _) (x':=sel2 _ _) (y':=sel2 _ _) q0 (zcF ht hG r1 (by omega) c1 (by omega) S) (zcF ht hH r1 (by omega) m1 (by omega) S) rfl rfl (zb1 ht (ztL hG hH) r1 (by omega) (by omega) S) (zb1 ht hG r1 (by omega) (by omega) S) (zb1 ht hH r1 (by omega) (by omega) S) (by
  rw [ybc,yab,yab,ybb,zfH (ztL hG hH),zfH hG,zfH hH,zeT c1 m1,and_assoc]),eB,eC]
 exact ⟨_,_,_,_,_,_,_,_,_,_,_,_,_,_,rfl⟩
noncomputable def zuY(ht:TOk ts)(h1:1<=ts.length)(h3:ts.length<=3)(r1:1<=r)(hr:r<=2)(c1:1<=c)(hc:c<=2)(m1:1<=m)(hm:m<=2)(hG:∀i j,0<=G i j/\G i j<ts.length):∃S' x7 x8 x9 x10 x11 x12 x13 x14 x15 x16 x17 x18 x19,zgD (ev l ts r c m G 1 [s7,s8,s9,s10,s11,s12,s13,s14,s15,s16,s17,s18,s19]) S=.nx (ev l ts r c m G 1 [x7,x8,x9,x10,x11,x12,x13,x14,x15,x16,x17,x18,x19]) S':=by
 have q0:eqD (.int 1) (.int 0)=some (.bl false):=rfl;have rc4:r*c<=6:=yaj (ya0 hr hc) (by decide);have mc4:m*c<=6:=yaj (ya0 hm hc) (by decide);obtain ⟨H,hH,f2⟩:=zec (l:=l) (a:=200) (R:=m) (C:=c) (by omega) h1 (by omega) (by omega) S;obtain ⟨S',x19,eC⟩:=zu7 (l:=l) (S:=S) (G:=G) (H:=H) ht h1 h3 r1 hr c1 hc m1 hm
 obtain ⟨x15,x16,x17,eB⟩:=zw8 (S:=S) (l:=l) (m:=m) (G:=G) (p:=m) (q:=c) (s8:=some (false,flr m c (smG H))) (s9:=some (false,flr (r+m) c (smG (blG r G H)))) (s10:=some (false,zab (sdS ts r c G))) (s11:=some (false,zab (sdN ts c H))) (s12:=some (false,flr (r+m) c (smG (blG r G H)))) (s13:=some (false,.int r)) (s14:=some (false,.int 0)) (s15:=s15) (s16:=s16) (s17:=s17) (s18:=s18) (s19:=s19) (sa:=fun v=>sdS ts r c (tnG c v)) (sb:=fun u=>sdN ts c (tnG c u)) q0 ⟨ht,h1,zmD (by omega) rc4,r1,c1,rc4⟩ ⟨ht,h1,zmD (by omega) mc4,m1,c1,mc4⟩
  (fun t hm'=>⟨sel2 _ _,sel2 _ _,⟨_,zdi ht h1 r1 (by omega) c1 (by omega) hm' S⟩,rfl⟩)
  (fun t hm'=>⟨sel2 _ _,sel2 _ _,⟨_,zdi ht h1 m1 (by omega) c1 (by omega) hm' S⟩,rfl⟩)
 rw [<-zgx r1 m1 c1] at eB
 rw [ztO,zu9 r1 hr c1 hc m1 hm f2,zw7 (x:=sel2 _ _) (y:=sel2 _ _) (x':=sel2 _ _) (y':=sel2 _ _) q0 (zcF ht hG r1 (by omega) c1 (by omega) S) (zcF ht hH m1 (by omega) c1 (by omega) S) rfl rfl (zb1 ht (ztN hG hH) (by omega) (by omega) (by omega) S) (zb1 ht hG r1 (by omega) (by omega) S) (zb1 ht hH m1 (by omega) (by omega) S) (by
  rw [ybc,yab,yab,ybb,zfH (ztN hG hH),zfH hG,zfH hH,zgd r1 m1,and_assoc]),eB,eC]
 exact ⟨_,_,_,_,_,_,_,_,_,_,_,_,_,_,rfl⟩
end
end
noncomputable def znc:∀l:List Int,l.length<=63->∃S,zr7 [.scr l] []=.ok (.bl true) S:=by
 intro l _;obtain ⟨ts,hT,et⟩:=zkv (l:=l) (at':=0) (most:=3) (S:=[]) (by omega) (by omega) (by omega);have k1:=zck (l:=l) (k:=90) (many:=4) (S:=[]) (by omega) (by omega);have p1:=zb6 l 90 (many:=4) (by omega);have k2:=zck (l:=l) (k:=91) (many:=2) (S:=[]) (by omega) (by omega);have p2:=zb6 l 91 (many:=2) (by omega);generalize zb7 l 90 4=a at *;generalize zb7 l 91 2=a2 at *;obtain ⟨m,m1,hm,em⟩:∃m:Nat,1<=m/\m<=2/\1+a2=(m:Int):=⟨(1+a2).toNat,by omega,by omega,by omega⟩
 obtain ⟨r,c,r1,c1,hr,hc,ha⟩:∃r c:Nat,1<=r/\1<=c/\r<=2/\c<=2/\atI [D.tup [.int 1,.int 1],.tup [.int 1,.int 2],.tup [.int 2,.int 1],.tup [.int 2,.int 2]] a=some (.tup [.int r,.int c]):=by
  have:a=0\/a=1\/a=2\/a=3:=by omega
  rcases this with rfl | rfl | rfl | rfl
  ·exact ⟨1,1,by decide,by decide,by decide,by decide,rfl⟩
  ·exact ⟨1,2,by decide,by decide,by decide,by decide,rfl⟩
  ·exact ⟨2,1,by decide,by decide,by decide,by decide,rfl⟩
  ·exact ⟨2,2,by decide,by decide,by decide,by decide,rfl⟩
 have n1:=hT.ne;have n4:=hT.le;have ht:TOk ts:=⟨hT.four,by omega⟩;obtain ⟨G,hG,f1⟩:=zec (ts:=ts) (l:=l) (a:=100) (R:=r) (C:=c) (by omega) (by omega) (by omega) (by omega) [];obtain ⟨S1,x7,x8,x9,x10,x11,x12,x13,x14,x15,x16,x17,x18,x19,e0⟩:=zuZ (ts:=ts) (S:=[]) (l:=l) (m:=m) (s7:=none) (s8:=none) (s9:=none) (s10:=none) (s11:=none) (s12:=none) (s13:=none) (s14:=none) (s15:=none) (s16:=none) (s17:=none) (s18:=none) (s19:=none) ht (by omega) (by omega) r1 hr c1 hc m1 hm hG;obtain ⟨S2,y7,y8,y9,y10,y11,y12,y13,y14,y15,y16,y17,y18,y19,e1⟩:=zuY (ts:=ts) (S:=S1) (l:=l) (m:=m) (s7:=x7) (s8:=x8) (s9:=x9) (s10:=x10) (s11:=x11) (s12:=x12) (s13:=x13) (s14:=x14) (s15:=x15) (s16:=x16) (s17:=x17) (s18:=x18) (s19:=x19) ht (by omega) (by omega) r1 hr c1 hc m1 hm hG;refine ⟨S2,?_⟩;unfold ev at *;generalize flr r c (smG G)=fl at *;generalize ts.map zab=tsd at *;simp only [zr7,zat,zqp,zkh,zkg,zkf,zke,zkd,zkc];simp [et,k1,ha,k2,em,f1,zgs,e0,e1]
end S2.L41
namespace M41
open PySem L2 S2 S2.L41
noncomputable def top(i:Nat):Stmt:=PySem.Challenge.pw_floorfits_k41_whole_joined.main.body.getD i (.Pass ⟨0,0,0,0⟩)
noncomputable def T:Tab:=⟨[("NORTH",.int 0),("EAST",.int 1),("SOUTH",.int 2),("WEST",.int 3)],["isinstance","int","bool","tuple","list","len","range","all","sum","enumerate","max","zip","ValueError"],["FloorError","NoPlace","NoTile","NoFill","Unlike","Nothing","NoText"],[("Unlike","FloorError")],["Unlike"],[("Ways","tiles"),("Ways","ground"),("Ways","size"),("Ways","is_round"),("Ways","known")],["known"],["_law_counts"]⟩
noncomputable def F0:Fn3:=⟨"",[],[],[]⟩
noncomputable def F1:Fn3:=F0.fn "is_whole" ⟨1,false,za0⟩
noncomputable def d1:zan (Gn T F0) false ["thing"] (top 14)=some zdj:=by rfl
noncomputable def s1:FnScope ["thing"] ["thing"] (zad (top 14)):=⟨rfl,rfl,rfl,by decide +kernel,rfl,by decide +kernel,by decide +kernel⟩
noncomputable def F2:Fn3:=F1.fn "is_tuple_of" ⟨3,false,zaT⟩
noncomputable def d2:zan (Gn T F1) false ["thing","least","most"] (top 15)=some zbW:=by rfl
noncomputable def s2:FnScope ["thing","least","most"] ["thing","least","most"] (zad (top 15)):=⟨rfl,rfl,rfl,by decide +kernel,rfl,by decide +kernel,by decide +kernel⟩
noncomputable def F3:Fn3:=F2.fn "has_number" ⟨2,false,zaP⟩
noncomputable def d3:zan (Gn T F2) false ["tiles","thing"] (top 16)=some zcs:=by rfl
noncomputable def s3:FnScope ["tiles","thing"] ["tiles","thing"] (zad (top 16)):=⟨rfl,rfl,rfl,by decide +kernel,rfl,by decide +kernel,by decide +kernel⟩
noncomputable def F4:Fn3:=F3.fn "empty" ⟨2,false,zb5⟩
noncomputable def d4:zan (Gn T F3) false ["rows","columns"] (top 17)=some zh3:=by rfl
noncomputable def s4:FnScope ["rows","columns"] ["rows","columns"] (zad (top 17)):=⟨rfl,rfl,rfl,by decide +kernel,rfl,by decide +kernel,by decide +kernel⟩
noncomputable def F5:Fn3:=F4.fn "size_of" ⟨1,false,zaM⟩
noncomputable def d5:zan (Gn T F4) false ["floor","columns"] (top 18)=some zfi:=by rfl
noncomputable def s5:FnScope ["floor","columns"] ["floor"] (zad (top 18)):=⟨rfl,rfl,rfl,by decide +kernel,rfl,by decide +kernel,by decide +kernel⟩
noncomputable def F6:Fn3:=F5.fn "places_of" ⟨1,true,zbq⟩
noncomputable def d6:zan (Gn T F5) true ["floor","size","places","row","column"] (top 19)=some zdB:=by rfl
noncomputable def s6:FnScope ["floor","size","places","row","column"] ["floor"] (zad (top 19)):=⟨rfl,rfl,rfl,by decide +kernel,rfl,by decide +kernel,by decide +kernel⟩
noncomputable def F7:Fn3:=F6.fn "number_at" ⟨2,false,zaS⟩
noncomputable def d7:zan (Gn T F6) false ["floor","place"] (top 20)=some zdC:=by rfl
noncomputable def s7:FnScope ["floor","place"] ["floor","place"] (zad (top 20)):=⟨rfl,rfl,rfl,by decide +kernel,rfl,by decide +kernel,by decide +kernel⟩
noncomputable def F8:Fn3:=F7.fn "has_place" ⟨2,false,zbF⟩
noncomputable def d8:zan (Gn T F7) false ["floor","place","size"] (top 21)=some zdD:=by rfl
noncomputable def s8:FnScope ["floor","place","size"] ["floor","place"] (zad (top 21)):=⟨rfl,rfl,rfl,by decide +kernel,rfl,by decide +kernel,by decide +kernel⟩
noncomputable def F9:Fn3:=F8.fn "edge_at" ⟨4,false,zaC⟩
noncomputable def d9:zan (Gn T F8) false ["tiles","floor","place","side"] (top 22)=some zc4:=by rfl
noncomputable def s9:FnScope ["tiles","floor","place","side"] ["tiles","floor","place","side"] (zad (top 22)):=⟨rfl,rfl,rfl,by decide +kernel,rfl,by decide +kernel,by decide +kernel⟩
noncomputable def F10:Fn3:=F9.fn "colours_east" ⟨3,false,zbM⟩
noncomputable def d10:zan (Gn T F9) false ["tiles","floor","place","beside"] (top 23)=some zcw:=by rfl
noncomputable def s10:FnScope ["tiles","floor","place","beside"] ["tiles","floor","place"] (zad (top 23)):=⟨rfl,rfl,rfl,by decide +kernel,rfl,by decide +kernel,by decide +kernel⟩
noncomputable def F11:Fn3:=F10.fn "colours_south" ⟨3,false,zbz⟩
noncomputable def d11:zan (Gn T F10) false ["tiles","floor","place","below"] (top 24)=some zcc:=by rfl
noncomputable def s11:FnScope ["tiles","floor","place","below"] ["tiles","floor","place"] (zad (top 24)):=⟨rfl,rfl,rfl,by decide +kernel,rfl,by decide +kernel,by decide +kernel⟩
noncomputable def F12:Fn3:=F11.fn "do_clash" ⟨1,false,zcD⟩
noncomputable def d12:zan (Gn T F11) false ["colours"] (top 25)=some zef:=by rfl
noncomputable def s12:FnScope ["colours"] ["colours"] (zad (top 25)):=⟨rfl,rfl,rfl,by decide +kernel,rfl,by decide +kernel,by decide +kernel⟩
noncomputable def F13:Fn3:=F12.fn "clashes" ⟨2,true,zdO⟩
noncomputable def d13:zan (Gn T F12) true ["tiles","floor","found","place"] (top 26)=some zfj:=by rfl
noncomputable def s13:FnScope ["tiles","floor","found","place"] ["tiles","floor"] (zad (top 26)):=⟨rfl,rfl,rfl,by decide +kernel,rfl,by decide +kernel,by decide +kernel⟩
noncomputable def F14:Fn3:=F13.fn "is_right" ⟨2,false,zav⟩
noncomputable def d14:zan (Gn T F13) false ["tiles","floor"] (top 27)=some zdk:=by rfl
noncomputable def s14:FnScope ["tiles","floor"] ["tiles","floor"] (zad (top 27)):=⟨rfl,rfl,rfl,by decide +kernel,rfl,by decide +kernel,by decide +kernel⟩
noncomputable def F15:Fn3:=F14.fn "edges_along" ⟨4,false,zaq⟩
noncomputable def d15:zan (Gn T F14) false ["tiles","floor","places","side"] (top 28)=some zcM:=by rfl
noncomputable def s15:FnScope ["tiles","floor","places","side"] ["tiles","floor","places","side"] (zad (top 28)):=⟨rfl,rfl,rfl,by decide +kernel,rfl,by decide +kernel,by decide +kernel⟩
noncomputable def F16:Fn3:=F15.fn "edges_of" ⟨2,false,zaw⟩
noncomputable def d16:zan (Gn T F15) false ["tiles","floor","size","top","right","bottom","left"] (top 29)=some zee:=by rfl
noncomputable def s16:FnScope ["tiles","floor","size","top","right","bottom","left"] ["tiles","floor"] (zad (top 29)):=⟨rfl,rfl,rfl,by decide +kernel,rfl,by decide +kernel,by decide +kernel⟩
noncomputable def F17:Fn3:=F16.fn "beside" ⟨2,false,zcH⟩
noncomputable def d17:zan (Gn T F16) false ["one","other"] (top 31)=some zeD:=by rfl
noncomputable def s17:FnScope ["one","other"] ["one","other"] (zad (top 31)):=⟨rfl,rfl,rfl,by decide +kernel,rfl,by decide +kernel,by decide +kernel⟩
noncomputable def F18:Fn3:=F17.fn "below" ⟨2,false,zdx⟩
noncomputable def d18:zan (Gn T F17) false ["one","other"] (top 32)=some zgt:=by rfl
noncomputable def s18:FnScope ["one","other"] ["one","other"] (zad (top 32)):=⟨rfl,rfl,rfl,by decide +kernel,rfl,by decide +kernel,by decide +kernel⟩
noncomputable def F19:Fn3:=F18.fn "stretch" ⟨3,false,zcC⟩
noncomputable def d19:zan (Gn T F18) false ["things","first","many"] (top 33)=some zfh:=by rfl
noncomputable def s19:FnScope ["things","first","many"] ["things","first","many"] (zad (top 33)):=⟨rfl,rfl,rfl,by decide +kernel,rfl,by decide +kernel,by decide +kernel⟩
noncomputable def F20:Fn3:=F19.fn "part" ⟨5,false,zcX⟩
noncomputable def d20:zan (Gn T F19) false ["floor","top","left","rows","columns"] (top 34)=some zlH:=by rfl
noncomputable def s20:FnScope ["floor","top","left","rows","columns"] ["floor","top","left","rows","columns"] (zad (top 34)):=⟨rfl,rfl,rfl,by decide +kernel,rfl,by decide +kernel,by decide +kernel⟩
noncomputable def F21:Fn3:=F20.fn "suits" ⟨2,false,zeU⟩
noncomputable def d21:zan (Gn T F20) false ["wanted","colour"] (top 36)=some zh2:=by rfl
noncomputable def s21:FnScope ["wanted","colour"] ["wanted","colour"] (zad (top 36)):=⟨rfl,rfl,rfl,by decide +kernel,rfl,by decide +kernel,by decide +kernel⟩
noncomputable def F22:Fn3:=F21.cls "Ways" [.bl false] ⟨4,false,za6⟩
noncomputable def d22:zan (Gn T (F21.at "Ways")) false ["self","tiles","floor","is_round"] (inC 0 (top 37))=some zcg:=by rfl
noncomputable def s22:FnScope ["self","tiles","floor","is_round"] ["self","tiles","floor","is_round"] (zad (inC 0 (top 37))):=⟨rfl,rfl,rfl,by decide +kernel,rfl,by decide +kernel,by decide +kernel⟩
noncomputable def F23:Fn3:=F22.mt "first_seam" "Ways" ⟨1,false,zbb⟩
noncomputable def d23:zan (Gn T (F22.at "Ways")) false ["self"] (inC 1 (top 37))=some zbJ:=by rfl
noncomputable def s23:FnScope ["self"] ["self"] (zad (inC 1 (top 37))):=⟨rfl,rfl,rfl,by decide +kernel,rfl,by decide +kernel,by decide +kernel⟩
noncomputable def F24:Fn3:=F23.mt "ends_row" "Ways" ⟨2,false,zaO⟩
noncomputable def d24:zan (Gn T (F23.at "Ways")) false ["self","step"] (inC 2 (top 37))=some zcf:=by rfl
noncomputable def s24:FnScope ["self","step"] ["self","step"] (zad (inC 2 (top 37))):=⟨rfl,rfl,rfl,by decide +kernel,rfl,by decide +kernel,by decide +kernel⟩
noncomputable def F25:Fn3:=F24.mt "colour_round" "Ways" ⟨4,false,zap⟩
noncomputable def d25:zan (Gn T (F24.at "Ways")) false ["self","step","seam","tile"] (inC 3 (top 37))=some zaW:=by rfl
noncomputable def s25:FnScope ["self","step","seam","tile"] ["self","step","seam","tile"] (zad (inC 3 (top 37))):=⟨rfl,rfl,rfl,by decide +kernel,rfl,by decide +kernel,by decide +kernel⟩
noncomputable def F26:Fn3:=F25.mt "seam_behind" "Ways" ⟨4,false,za4⟩
noncomputable def d26:zan (Gn T (F25.at "Ways")) false ["self","step","seam","tile","is_last","in_last_row","east","south","around"] (inC 4 (top 37))=some zbA:=by rfl
noncomputable def s26:FnScope ["self","step","seam","tile","is_last","in_last_row","east","south","around"] ["self","step","seam","tile"] (zad (inC 4 (top 37))):=⟨rfl,rfl,rfl,by decide +kernel,rfl,by decide +kernel,by decide +kernel⟩
noncomputable def F27:Fn3:=F26.mt "numbers_for" "Ways" ⟨2,false,zaK⟩
noncomputable def d27:zan (Gn T (F26.at "Ways")) false ["self","step","laid"] (inC 5 (top 37))=some za5:=by rfl
noncomputable def s27:FnScope ["self","step","laid"] ["self","step"] (zad (inC 5 (top 37))):=⟨rfl,rfl,rfl,by decide +kernel,rfl,by decide +kernel,by decide +kernel⟩
noncomputable def F28:Fn3:=F27.mt "fits_round" "Ways" ⟨4,false,zaN⟩
noncomputable def d28:zan (Gn T (F27.at "Ways")) false ["self","step","seam","tile"] (inC 6 (top 37))=some zbc:=by rfl
noncomputable def s28:FnScope ["self","step","seam","tile"] ["self","step","seam","tile"] (zad (inC 6 (top 37))):=⟨rfl,rfl,rfl,by decide +kernel,rfl,by decide +kernel,by decide +kernel⟩
noncomputable def F29:Fn3:=F28.mt "fits" "Ways" ⟨4,false,zcJ⟩
noncomputable def d29:zan (Gn T (F28.at "Ways")) false ["self","step","seam","tile"] (inC 7 (top 37))=some zdF:=by rfl
noncomputable def s29:FnScope ["self","step","seam","tile"] ["self","step","seam","tile"] (zad (inC 7 (top 37))):=⟨rfl,rfl,rfl,by decide +kernel,rfl,by decide +kernel,by decide +kernel⟩
noncomputable def F30:Fn3:=F29.mt "choices" "Ways" ⟨3,true,zbi⟩
noncomputable def d30:zan (Gn T (F29.at "Ways")) true ["self","step","seam","found","number","tile"] (inC 8 (top 37))=some zcx:=by rfl
noncomputable def s30:FnScope ["self","step","seam","found","number","tile"] ["self","step","seam"] (zad (inC 8 (top 37))):=⟨rfl,rfl,rfl,by decide +kernel,rfl,by decide +kernel,by decide +kernel⟩
noncomputable def F31:Fn3:=F30.mt "count_from" "Ways" ⟨3,false,zbH⟩
noncomputable def d31:∀r,zan (Gn T ((F30.mt "count_from" "Ways" ⟨["self","step","seam"].length,false,r⟩).at "Ways")) false ["self","step","seam","key"] (inC 9 (top 37))=some (zaj r):=by intro r;rfl
noncomputable def s31:FnScope ["self","step","seam","key"] ["self","step","seam"] (zad (inC 9 (top 37))):=⟨rfl,rfl,rfl,by decide +kernel,rfl,by decide +kernel,by decide +kernel⟩
noncomputable def F32:Fn3:=F31.mt "count_all" "Ways" ⟨1,false,zbo⟩
noncomputable def d32:zan (Gn T (F31.at "Ways")) false ["self"] (inC 10 (top 37))=some zbS:=by rfl
noncomputable def s32:FnScope ["self"] ["self"] (zad (inC 10 (top 37))):=⟨rfl,rfl,rfl,by decide +kernel,rfl,by decide +kernel,by decide +kernel⟩
noncomputable def F33:Fn3:=F32.fn "count_fills" ⟨2,false,zba⟩
noncomputable def d33:zan (Gn T F32) false ["tiles","floor"] (top 38)=some zcN:=by rfl
noncomputable def s33:FnScope ["tiles","floor"] ["tiles","floor"] (zad (top 38)):=⟨rfl,rfl,rfl,by decide +kernel,rfl,by decide +kernel,by decide +kernel⟩
noncomputable def F34:Fn3:=F33.fn "_law_cell" ⟨2,false,zbG⟩
noncomputable def d34:zan (Gn T F33) false ["_law_script","_law_k"] (top 40)=some zcd:=by rfl
noncomputable def s34:FnScope ["_law_script","_law_k"] ["_law_script","_law_k"] (zad (top 40)):=⟨rfl,rfl,rfl,by decide +kernel,rfl,by decide +kernel,by decide +kernel⟩
noncomputable def F35:Fn3:=F34.fn "_law_pick" ⟨3,false,zaD⟩
noncomputable def d35:zan (Gn T F34) false ["_law_script","_law_k","_law_many","_law_drawn"] (top 41)=some zdE:=by rfl
noncomputable def s35:FnScope ["_law_script","_law_k","_law_many","_law_drawn"] ["_law_script","_law_k","_law_many"] (zad (top 41)):=⟨rfl,rfl,rfl,by decide +kernel,rfl,by decide +kernel,by decide +kernel⟩
noncomputable def F36:Fn3:=F35.fn "_law_tiles" ⟨3,false,zcl⟩
noncomputable def d36:zan (Gn T F35) false ["_law_script","_law_at","_law_most","_law_colours","_law_made","_law_k","_law_tile"] (top 42)=some zc5:=by rfl
noncomputable def s36:FnScope ["_law_script","_law_at","_law_most","_law_colours","_law_made","_law_k","_law_tile"] ["_law_script","_law_at","_law_most"] (zad (top 42)):=⟨rfl,rfl,rfl,by decide +kernel,rfl,by decide +kernel,by decide +kernel⟩
noncomputable def F37:Fn3:=F36.fn "_law_floor" ⟨6,false,zaI⟩
noncomputable def d37:zan (Gn T F36) false ["_law_script","_law_at","_law_tiles_here","_law_rows","_law_columns","_law_many","_law_made","_law_row","_law_line","_law_column","_law_here"] (top 43)=some zc6:=by rfl
noncomputable def s37:FnScope ["_law_script","_law_at","_law_tiles_here","_law_rows","_law_columns","_law_many","_law_made","_law_row","_law_line","_law_column","_law_here"] ["_law_script","_law_at","_law_tiles_here","_law_rows","_law_columns","_law_many"] (zad (top 43)):=⟨rfl,rfl,rfl,by decide +kernel,rfl,by decide +kernel,by decide +kernel⟩
noncomputable def F38:Fn3:=F37.fn "_law_fills" ⟨2,false,zaQ⟩
noncomputable def d38:zan (Gn T F37) false ["_law_tiles_here","_law_floor_here","_law_columns","_law_wanted","_law_row","_law_made","_law_at","_law_want","_law_longer","_law_some","_law_number","_law_tile","_law_is_fit"] (top 45)=some zc7:=by rfl
noncomputable def s38:FnScope ["_law_tiles_here","_law_floor_here","_law_columns","_law_wanted","_law_row","_law_made","_law_at","_law_want","_law_longer","_law_some","_law_number","_law_tile","_law_is_fit"] ["_law_tiles_here","_law_floor_here"] (zad (top 45)):=⟨rfl,rfl,rfl,by decide +kernel,rfl,by decide +kernel,by decide +kernel⟩
noncomputable def F39:Fn3:=F38.fn "_law_as_floor" ⟨2,false,zaE⟩
noncomputable def d39:zan (Gn T F38) false ["_law_numbers","_law_columns"] (top 46)=some zce:=by rfl
noncomputable def s39:FnScope ["_law_numbers","_law_columns"] ["_law_numbers","_law_columns"] (zad (top 46)):=⟨rfl,rfl,rfl,by decide +kernel,rfl,by decide +kernel,by decide +kernel⟩
noncomputable def F40:Fn3:=F39.fn "_law_word" ⟨1,false,zcI⟩
noncomputable def d40:zan (Gn T F39) false ["_law_kept","_law_kinds"] (top 47)=some zfk:=by rfl
noncomputable def s40:FnScope ["_law_kept","_law_kinds"] ["_law_kept"] (zad (top 47)):=⟨rfl,rfl,rfl,by decide +kernel,rfl,by decide +kernel,by decide +kernel⟩
noncomputable def F41:Fn3:=F40.fn "_law_do" ⟨3,false,zaJ⟩
noncomputable def d41:zan (Gn T F40) false ["_law_what","_law_one","_law_other","_law_kept","_law_answer","e"] (top 48)=some zhj:=by rfl
noncomputable def s41:FnScope ["_law_what","_law_one","_law_other","_law_kept","_law_answer","e"] ["_law_what","_law_one","_law_other"] (zad (top 48)):=⟨rfl,rfl,rfl,by decide +kernel,rfl,by decide +kernel,by decide +kernel⟩
noncomputable def d42:zan (Gn T F41) false ["_law_script","_law_tiles_here","_law_rows","_law_columns","_law_many","_law_one","_law_what","_law_size","_law_other","_law_told","_law_mine","_law_yours","_law_due","_law_top","_law_left","_law_counts","_law_row","_law_side","_law_couples","_law_bad"] (top 49)=some zqp:=by rfl
noncomputable def s42:FnScope ["_law_script","_law_tiles_here","_law_rows","_law_columns","_law_many","_law_one","_law_what","_law_size","_law_other","_law_told","_law_mine","_law_yours","_law_due","_law_top","_law_left","_law_counts","_law_row","_law_side","_law_couples","_law_bad"] ["_law_script"] (zad (top 49)):=⟨rfl,rfl,rfl,by decide +kernel,rfl,by decide +kernel,by decide +kernel⟩
noncomputable def zoH{L M:List (Str×Addr)}:∀{C:Str},C∈L.map (·.1)->(L++M).lookup C=L.lookup C:=by
 induction L with
 | nil=>intro C h;simp at h
 | cons p L ih =>
  intro C h;rw [List.cons_append,yay,yay]
  cases e:C == p.1 with
  | true=>rfl
  | false =>
   have:C∈L.map (·.1):=by
    rw [yaq,yav] at h
    rcases h with h | h
    ·rw [h] at e;simp at e
    ·exact h
   exact ih this
noncomputable def zl7{L M:List (Str×Addr)}(nd:(L.map (·.2)).Nodup){C c:Str}(hC:C∈L.map (·.1))(hc:c∈L.map (·.1)):((L++M).lookup C).getD 0=((L++M).lookup c).getD 0↔C=c:=by
 rw [zoH hC,zoH hc];exact ztV nd hC hc
noncomputable def gm{K:PySem.W.Frag}{x:Str}{st:Stmt}{f:Addr}{oc kV dc pm cd ct:Value}{od an:Option Addr}{sl:Array (Option Value)}(a:PySem.W.nsIn K mainGlobals x=some (some (.ref f)))(l:K.lookup f=some ⟨oc,od,.func (PySem.W.fnOf x x (zbB st) (zbs st) (zad st) .none kV dc pm an cd ct),sl⟩)(c:PySem.W.codeIn K cd x=true)(k:PySem.W.keepIn K (.ref f)=true)(i:PySem.W.isFn K (.ref f)=true):GFn K x st:=⟨f,a,oc,od,kV,dc,pm,an,cd,ct,sl,l,c,k,i⟩
noncomputable def mm{K:PySem.W.Frag}{x q:Str}{st:Stmt}{f:Addr}{oc kV dc pm cd ct:Value}{od an:Option Addr}{sl:Array (Option Value)}{C:Addr}(a:PySem.W.findIn K (.ref C) x=some (some (.ref f)))(l:K.lookup f=some ⟨oc,od,.func (PySem.W.fnOf x q (zbB st) (zbs st) (zad st) .none kV dc pm an cd ct),sl⟩)(c:PySem.W.codeIn K cd q=true)(k:PySem.W.keepIn K (.ref f)=true)(i:PySem.W.isFn K (.ref f)=true):MFn K C x q st:=⟨f,a,oc,od,kV,dc,pm,an,cd,ct,sl,l,c,k,i⟩
noncomputable def all_mk{l:PySem.W.OpenLaw}{w:PySem.World}{K:PySem.W.Frag}{h:Heap}{mg:Z6}{fa f42:Addr}(X:K.In h)(G:h.Ns mainGlobals mg)(hfa:mg "law" = some (.ref fa))
  {od42 an42:Option Addr} {sl42:Array (Option Value)} {oc42 kV42 dc42 pm42 cd42 ct42:Value}
  {yWays:Addr}
  (nyWays:PySem.W.nsIn K mainGlobals "Ways" = some (some (.ref yWays))) (pgWays:PySem.W.plainGet K yWays Str.empty=true) (hdWays:PySem.W.hasDictIn K yWays=true) (poWays:PySem.W.plainOver K yWays=true) (saWays:PySem.W.findIn K (.ref yWays) "__setattr__" = some (some (.builtin "object.__setattr__"))) (mkWays:PySem.W.makesIn K yWays=true) (kpWays:PySem.W.keepIn K (.ref yWays)=true)
  (naWaystiles:PySem.W.findIn K (.ref yWays) "tiles" = some none)
  (naWaysground:PySem.W.findIn K (.ref yWays) "ground" = some none)
  (naWayssize:PySem.W.findIn K (.ref yWays) "size" = some none)
  (naWaysis_round:PySem.W.findIn K (.ref yWays) "is_round" = some none)
  (naWaysknown:PySem.W.findIn K (.ref yWays) "known" = some none)
  {f22:Addr} {od22 an22:Option Addr} {sl22:Array (Option Value)} {oc22 kV22 dc22 pm22 cd22 ct22:Value}
  {dt22:Addr} {dl22:Value} {dm22:Option Addr} {dn22:Nat} {dq22:Array (Option Value)}
  (a22:PySem.W.findIn K (.ref yWays) "__init__" = some (some (.ref f22))) (i22:PySem.W.isFn K (.ref f22)=true)
  (l22:K.lookup f22=some ⟨oc22,od22,.func (PySem.W.fnOf "__init__" "Ways.__init__" (zbB (inC 0 (top 37))) (zbs (inC 0 (top 37))) (zad (inC 0 (top 37))) (.ref dt22) kV22 dc22 pm22 an22 cd22 ct22),sl22⟩) (c22:PySem.W.codeIn K cd22 "Ways.__init__" = true) (k22:PySem.W.keepIn K (.ref f22)=true)
  (dk22:K.lookup dt22=some ⟨dl22,dm22,.seq #[Value.bool false] dn22,dq22⟩)
  (a42:PySem.W.nsIn K mainGlobals "law" = some (some (.ref f42)))
  (l42:K.lookup f42=some ⟨oc42,od42,.func (PySem.W.fnOf "law" "law" (zbB (top 49)) (zbs (top 49)) (zad (top 49)) .none kV42 dc42 pm42 an42 cd42 ct42),sl42⟩) (c42:PySem.W.codeIn K cd42 "law" = true) (k42:PySem.W.keepIn K (.ref f42)=true)
  (z1:PySem.W.nsIn K mainGlobals "isinstance" = some none)
  (z2:PySem.W.nsIn K mainGlobals "int" = some none)
  (z3:PySem.W.nsIn K mainGlobals "bool" = some none)
  (z4:PySem.W.nsIn K mainGlobals "tuple" = some none)
  (z5:PySem.W.nsIn K mainGlobals "list" = some none)
  (z6:PySem.W.nsIn K mainGlobals "len" = some none)
  (z7:PySem.W.nsIn K mainGlobals "range" = some none)
  (z8:PySem.W.nsIn K mainGlobals "all" = some none)
  (z9:PySem.W.nsIn K mainGlobals "sum" = some none)
  (z10:PySem.W.nsIn K mainGlobals "enumerate" = some none)
  (z11:PySem.W.nsIn K mainGlobals "max" = some none)
  (z12:PySem.W.nsIn K mainGlobals "zip" = some none)
  (z13:PySem.W.nsIn K mainGlobals "ValueError" = some none)
  {gt1:Tok} (gl1:PySem.W.nsIn K mainGlobals "NORTH" = some (some (.int 0 gt1)))
  {gt2:Tok} (gl2:PySem.W.nsIn K mainGlobals "EAST" = some (some (.int 1 gt2)))
  {gt3:Tok} (gl3:PySem.W.nsIn K mainGlobals "SOUTH" = some (some (.int 2 gt3)))
  {gt4:Tok} (gl4:PySem.W.nsIn K mainGlobals "WEST" = some (some (.int 3 gt4)))
  {e0 e1 e2 e3 e4 e5 e6:Addr}
  (n0:PySem.W.nsIn K mainGlobals "FloorError" = some (some (.ref e0))) (x0:PySem.W.excIn K e0 bmV "ValueError.__new__" = true)
  (n1:PySem.W.nsIn K mainGlobals "NoPlace" = some (some (.ref e1))) (x1:PySem.W.excIn K e1 bmV "ValueError.__new__" = true)
  (n2:PySem.W.nsIn K mainGlobals "NoTile" = some (some (.ref e2))) (x2:PySem.W.excIn K e2 bmV "ValueError.__new__" = true)
  (n3:PySem.W.nsIn K mainGlobals "NoFill" = some (some (.ref e3))) (x3:PySem.W.excIn K e3 bmV "ValueError.__new__" = true)
  (n4:PySem.W.nsIn K mainGlobals "Unlike" = some (some (.ref e4))) (x4:PySem.W.excIn K e4 bmV "ValueError.__new__" = true)
  (n5:PySem.W.nsIn K mainGlobals "Nothing" = some (some (.ref e5))) (x5:PySem.W.excIn K e5 bmV "ValueError.__new__" = true)
  (n6:PySem.W.nsIn K mainGlobals "NoText" = some (some (.ref e6))) (x6:PySem.W.excIn K e6 bmV "ValueError.__new__" = true)
  {el4:Value} {ed4:Option Addr} {ec4:ClassData} {es4:Array (Option Value)} (lk4:K.lookup e4=some ⟨el4,ed4,.cls ec4,es4⟩) (mr4:ec4.mro=.ref e4::.ref e0::bmV)
  (ga4:PySem.W.findIn K (.ref e4) "__getattribute__" = some (some (.builtin "BaseException.__getattribute__"))) (gt4:PySem.W.findIn K (.ref e4) "__getattr__" = some none) (cc4:PySem.W.findIn K (.ref e4) "__class__" = some (some (.builtin "object.__class__")))
  (nd:[e0,e1,e2,e3,e4,e5,e6].Nodup)
  (p1:GFn K "is_whole" (top 14)) (p2:GFn K "is_tuple_of" (top 15)) (p3:GFn K "has_number" (top 16)) (p4:GFn K "empty" (top 17)) (p5:GFn K "size_of" (top 18)) (p6:GFn K "places_of" (top 19)) (p7:GFn K "number_at" (top 20)) (p8:GFn K "has_place" (top 21)) (p9:GFn K "edge_at" (top 22)) (p10:GFn K "colours_east" (top 23)) (p11:GFn K "colours_south" (top 24)) (p12:GFn K "do_clash" (top 25)) (p13:GFn K "clashes" (top 26)) (p14:GFn K "is_right" (top 27)) (p15:GFn K "edges_along" (top 28)) (p16:GFn K "edges_of" (top 29)) (p17:GFn K "beside" (top 31)) (p18:GFn K "below" (top 32)) (p19:GFn K "stretch" (top 33)) (p20:GFn K "part" (top 34)) (p21:GFn K "suits" (top 36)) (p23:MFn K yWays "first_seam" "Ways.first_seam" (inC 1 (top 37))) (p24:MFn K yWays "ends_row" "Ways.ends_row" (inC 2 (top 37))) (p25:MFn K yWays "colour_round" "Ways.colour_round" (inC 3 (top 37))) (p26:MFn K yWays "seam_behind" "Ways.seam_behind" (inC 4 (top 37))) (p27:MFn K yWays "numbers_for" "Ways.numbers_for" (inC 5 (top 37))) (p28:MFn K yWays "fits_round" "Ways.fits_round" (inC 6 (top 37))) (p29:MFn K yWays "fits" "Ways.fits" (inC 7 (top 37))) (p30:MFn K yWays "choices" "Ways.choices" (inC 8 (top 37))) (p31:MFn K yWays "count_from" "Ways.count_from" (inC 9 (top 37))) (p32:MFn K yWays "count_all" "Ways.count_all" (inC 10 (top 37))) (p33:GFn K "count_fills" (top 38)) (p34:GFn K "_law_cell" (top 40)) (p35:GFn K "_law_pick" (top 41)) (p36:GFn K "_law_tiles" (top 42)) (p37:GFn K "_law_floor" (top 43)) (p38:GFn K "_law_fills" (top 45)) (p39:GFn K "_law_as_floor" (top 46)) (p40:GFn K "_law_word" (top 47)) (p41:GFn K "_law_do" (top 48))
  : ∃fd:FuncData,(∀(s:Shared) (v:Value),BindsTo s fd ⟨[v],[]⟩ [("_law_script",v)])/\∀base:Heap,K.In base->base.Ns mainGlobals mg->FnOk l.prog w K mg base (CXE l.prog w) 82 fa fd ["_law_script"] (S2.zmq K):=by
 have e:=hfa.symm.trans (ya9 X G a42);cases e;have CLWays:Cls K yWays:=⟨pgWays,hdWays,poWays,saWays⟩;have U22:FunD K "__init__" "Ways.__init__" (inC 0 (top 37)) f22 _ #[Value.bool false]:=⟨⟨_,_,_,_,dn22,_,_,_,_,_,_,_,rfl,l22,c22,dk22,rfl⟩⟩;have b22:zcj K (PySem.W.fnOf "__init__" "Ways.__init__" (zbB (inC 0 (top 37))) (zbs (inC 0 (top 37))) (zad (inC 0 (top 37))) (.ref dt22) kV22 dc22 pm22 an22 cd22 ct22) ["self","tiles","floor","is_round"] []:=fun s us KX hl=>bb4 (p:=fun us=>BindsTo s _ ⟨us,[]⟩ ((["self","tiles","floor","is_round"]:List Str).zip (us++[]))) (fun _ _ _ _=>PySem.W.binds_K KX rfl dk22 rfl rfl rfl) us (by simpa using hl)
 have bd22:zcj K (PySem.W.fnOf "__init__" "Ways.__init__" (zbB (inC 0 (top 37))) (zbs (inC 0 (top 37))) (zad (inC 0 (top 37))) (.ref dt22) kV22 dc22 pm22 an22 cd22 ct22) ["self","tiles","floor","is_round"] [Value.bool false]:=fun s us KX hl=>bb3 (p:=fun us=>BindsTo s _ ⟨us,[]⟩ ((["self","tiles","floor","is_round"]:List Str).zip (us++[Value.bool false]))) (fun _ _ _=>PySem.W.binds_K KX rfl dk22 rfl rfl rfl) us (by simpa using hl)
 have U42:=zou (st:=(top 49)) l42 c42 k42;refine ⟨PySem.W.fnOf "law" "law" (zbB (top 49)) (zbs (top 49)) (zad (top 49)) .none kV42 dc42 pm42 an42 cd42 ct42,fun s v=>.of_eq rfl,fun base _ _=>?_⟩
 let cl:Cf:=⟨fun x=>(([("FloorError",e0),("NoPlace",e1),("NoTile",e2),("NoFill",e3),("Unlike",e4),("Nothing",e5),("NoText",e6),("Ways",yWays)]:List (Str×Addr)).lookup x).getD 0,K,l.prog,w⟩
 have g0:GOk cl (Gn T F0) l.prog w K mg base 0:=zzK (cl:=cl) (zam ⟨.int 0,_,ya9 X G gl1,⟨_,rfl⟩,fun _=>.int _⟩ (zam ⟨.int 1,_,ya9 X G gl2,⟨_,rfl⟩,fun _=>.int _⟩ (zam ⟨.int 2,_,ya9 X G gl3,⟨_,rfl⟩,fun _=>.int _⟩ (zam ⟨.int 3,_,ya9 X G gl4,⟨_,rfl⟩,fun _=>.int _⟩ zfg)))) (zam (yaN X G z1) (zam (yaN X G z2) (zam (yaN X G z3) (zam (yaN X G z4) (zam (yaN X G z5) (zam (yaN X G z6) (zam (yaN X G z7) (zam (yaN X G z8) (zam (yaN X G z9) (zam (yaN X G z10) (zam (yaN X G z11) (zam (yaN X G z12) (zam (yaN X G z13) zfg))))))))))))) (zam ⟨ya9 X G n0,x0⟩ (zam ⟨ya9 X G n1,x1⟩ (zam ⟨ya9 X G n2,x2⟩ (zam ⟨ya9 X G n3,x3⟩ (zam ⟨ya9 X G n4,x4⟩ (zam ⟨ya9 X G n5,x5⟩ (zam ⟨ya9 X G n6,x6⟩ zfg))))))) (zam ⟨⟨_,_,x4⟩,_,_,_,_,lk4,zpU mr4⟩ zfg) (zam (ztd (K:=K) (c:="Unlike") (cl:=cl) lk4 mr4 rfl ga4 gt4 cc4 (zam x0 (zam x1 (zam x2 (zam x3 (zam x4 (zam x5 (zam x6 zfg))))))) (fun C hC=>⟨zl7 (L:=[("FloorError",e0),("NoPlace",e1),("NoTile",e2),("NoFill",e3),("Unlike",e4),("Nothing",e5),("NoText",e6)]) (M:=[("Ways",yWays)]) (c:="Unlike") nd hC (by simp),zl7 (L:=[("FloorError",e0),("NoPlace",e1),("NoTile",e2),("NoFill",e3),("Unlike",e4),("Nothing",e5),("NoText",e6)]) (M:=[("Ways",yWays)]) (c:="FloorError") nd hC (by simp)⟩)) zfg) (zam ⟨CLWays,naWaystiles⟩ (zam ⟨CLWays,naWaysground⟩ (zam ⟨CLWays,naWayssize⟩ (zam ⟨CLWays,naWaysis_round⟩ (zam ⟨CLWays,naWaysknown⟩ zfg)))));have g1:GOk cl (Gn T F1) l.prog w K mg base 1:=g0.addG X G p1 s1 rfl rfl rfl (fun _ _ _ _ _ _=>bb1 fun _=>rfl) d1;have g2:GOk cl (Gn T F2) l.prog w K mg base 2:=g1.addG X G p2 s2 rfl rfl rfl (fun _ _ _ _ _ _=>bb3 fun _ _ _=>rfl) d2;have g3:GOk cl (Gn T F3) l.prog w K mg base 3:=g2.addG X G p3 s3 rfl rfl rfl (fun _ _ _ _ _ _=>bb2 fun _ _=>rfl) d3;have g4:GOk cl (Gn T F4) l.prog w K mg base 4:=g3.addG X G p4 s4 rfl rfl rfl (fun _ _ _ _ _ _=>bb2 fun _ _=>rfl) d4;have g5:GOk cl (Gn T F5) l.prog w K mg base 5:=g4.addG X G p5 s5 rfl rfl rfl (fun _ _ _ _ _ _=>bb1 fun _=>rfl) d5;have g6:GOk cl (Gn T F6) l.prog w K mg base 6:=g5.addG X G p6 s6 rfl rfl rfl (fun _ _ _ _ _ _=>bb1 fun _=>rfl) d6;have g7:GOk cl (Gn T F7) l.prog w K mg base 7:=g6.addG X G p7 s7 rfl rfl rfl (fun _ _ _ _ _ _=>bb2 fun _ _=>rfl) d7;have g8:GOk cl (Gn T F8) l.prog w K mg base 8:=g7.addG X G p8 s8 rfl rfl rfl (fun _ _ _ _ _ _=>bb2 fun _ _=>rfl) d8;have g9:GOk cl (Gn T F9) l.prog w K mg base 9:=g8.addG X G p9 s9 rfl rfl rfl (fun _ _ _ _ _ _=>bb4 fun _ _ _ _=>rfl) d9;have g10:GOk cl (Gn T F10) l.prog w K mg base 10:=g9.addG X G p10 s10 rfl rfl rfl (fun _ _ _ _ _ _=>bb3 fun _ _ _=>rfl) d10;have g11:GOk cl (Gn T F11) l.prog w K mg base 11:=g10.addG X G p11 s11 rfl rfl rfl (fun _ _ _ _ _ _=>bb3 fun _ _ _=>rfl) d11;have g12:GOk cl (Gn T F12) l.prog w K mg base 12:=g11.addG X G p12 s12 rfl rfl rfl (fun _ _ _ _ _ _=>bb1 fun _=>rfl) d12;have g13:GOk cl (Gn T F13) l.prog w K mg base 13:=g12.addG X G p13 s13 rfl rfl rfl (fun _ _ _ _ _ _=>bb2 fun _ _=>rfl) d13;have g14:GOk cl (Gn T F14) l.prog w K mg base 14:=g13.addG X G p14 s14 rfl rfl rfl (fun _ _ _ _ _ _=>bb2 fun _ _=>rfl) d14;have g15:GOk cl (Gn T F15) l.prog w K mg base 15:=g14.addG X G p15 s15 rfl rfl rfl (fun _ _ _ _ _ _=>bb4 fun _ _ _ _=>rfl) d15;have g16:GOk cl (Gn T F16) l.prog w K mg base 16:=g15.addG X G p16 s16 rfl rfl rfl (fun _ _ _ _ _ _=>bb2 fun _ _=>rfl) d16;have g17:GOk cl (Gn T F17) l.prog w K mg base 17:=g16.addG X G p17 s17 rfl rfl rfl (fun _ _ _ _ _ _=>bb2 fun _ _=>rfl) d17;have g18:GOk cl (Gn T F18) l.prog w K mg base 18:=g17.addG X G p18 s18 rfl rfl rfl (fun _ _ _ _ _ _=>bb2 fun _ _=>rfl) d18;have g19:GOk cl (Gn T F19) l.prog w K mg base 19:=g18.addG X G p19 s19 rfl rfl rfl (fun _ _ _ _ _ _=>bb3 fun _ _ _=>rfl) d19;have g20:GOk cl (Gn T F20) l.prog w K mg base 20:=g19.addG X G p20 s20 rfl rfl rfl (fun _ _ _ _ _ _=>bb5 fun _ _ _ _ _=>rfl) d20;have g21:GOk cl (Gn T F21) l.prog w K mg base 21:=g20.addG X G p21 s21 rfl rfl rfl (fun _ _ _ _ _ _=>bb2 fun _ _=>rfl) d21;have G22:=ztm (cl:=cl) (wo:=w) (P:=l.prog) U22 s22 (g21.at "Ways") rfl rfl rfl d22;have g22:GOk cl (Gn T F22) l.prog w K mg base 23:=GOk.addK (k':=22) (fi:=⟨4,false,za6⟩) (dvs:=[.bl false]) (g21.up (by decide)) (by decide) (ya9 X G nyWays) ⟨mkWays,a22,i22,kpWays⟩ b22 bd22 (.cons rfl .nil) (fun _=>(.cons (.bl _) .nil)) G22;have g23:GOk cl (Gn T F23) l.prog w K mg base 24:=g22.addMG (c:="Ways") CLWays p23 s23 rfl rfl rfl (fun _ _ _ _ _ _=>bb1 fun _=>rfl) d23;have g24:GOk cl (Gn T F24) l.prog w K mg base 25:=g23.addMG (c:="Ways") CLWays p24 s24 rfl rfl rfl (fun _ _ _ _ _ _=>bb2 fun _ _=>rfl) d24;have g25:GOk cl (Gn T F25) l.prog w K mg base 26:=g24.addMG (c:="Ways") CLWays p25 s25 rfl rfl rfl (fun _ _ _ _ _ _=>bb4 fun _ _ _ _=>rfl) d25;have g26:GOk cl (Gn T F26) l.prog w K mg base 27:=g25.addMG (c:="Ways") CLWays p26 s26 rfl rfl rfl (fun _ _ _ _ _ _=>bb4 fun _ _ _ _=>rfl) d26;have g27:GOk cl (Gn T F27) l.prog w K mg base 28:=g26.addMG (c:="Ways") CLWays p27 s27 rfl rfl rfl (fun _ _ _ _ _ _=>bb2 fun _ _=>rfl) d27;have g28:GOk cl (Gn T F28) l.prog w K mg base 29:=g27.addMG (c:="Ways") CLWays p28 s28 rfl rfl rfl (fun _ _ _ _ _ _=>bb4 fun _ _ _ _=>rfl) d28;have g29:GOk cl (Gn T F29) l.prog w K mg base 30:=g28.addMG (c:="Ways") CLWays p29 s29 rfl rfl rfl (fun _ _ _ _ _ _=>bb4 fun _ _ _ _=>rfl) d29;have g30:GOk cl (Gn T F30) l.prog w K mg base 31:=g29.addMG (c:="Ways") CLWays p30 s30 rfl rfl rfl (fun _ _ _ _ _ _=>bb3 fun _ _ _=>rfl) d30;have g31:GOk cl (Gn T F31) l.prog w K mg base 71:=g30.addRG (c:="Ways") CLWays p31 s31 rfl rfl rfl (fun _ _ _ _ _ _=>bb3 fun _ _ _=>rfl) d31 40;have g32:GOk cl (Gn T F32) l.prog w K mg base 72:=g31.addMG (c:="Ways") CLWays p32 s32 rfl rfl rfl (fun _ _ _ _ _ _=>bb1 fun _=>rfl) d32;have g33:GOk cl (Gn T F33) l.prog w K mg base 73:=g32.addG X G p33 s33 rfl rfl rfl (fun _ _ _ _ _ _=>bb2 fun _ _=>rfl) d33;have g34:GOk cl (Gn T F34) l.prog w K mg base 74:=g33.addG X G p34 s34 rfl rfl rfl (fun _ _ _ _ _ _=>bb2 fun _ _=>rfl) d34;have g35:GOk cl (Gn T F35) l.prog w K mg base 75:=g34.addG X G p35 s35 rfl rfl rfl (fun _ _ _ _ _ _=>bb3 fun _ _ _=>rfl) d35;have g36:GOk cl (Gn T F36) l.prog w K mg base 76:=g35.addG X G p36 s36 rfl rfl rfl (fun _ _ _ _ _ _=>bb3 fun _ _ _=>rfl) d36;have g37:GOk cl (Gn T F37) l.prog w K mg base 77:=g36.addG X G p37 s37 rfl rfl rfl (fun _ _ _ _ _ _=>bb6 fun _ _ _ _ _ _=>rfl) d37;have g38:GOk cl (Gn T F38) l.prog w K mg base 78:=g37.addG X G p38 s38 rfl rfl rfl (fun _ _ _ _ _ _=>bb2 fun _ _=>rfl) d38;have g39:GOk cl (Gn T F39) l.prog w K mg base 79:=g38.addG X G p39 s39 rfl rfl rfl (fun _ _ _ _ _ _=>bb2 fun _ _=>rfl) d39;have g40:GOk cl (Gn T F40) l.prog w K mg base 80:=g39.addG X G p40 s40 rfl rfl rfl (fun _ _ _ _ _ _=>bb1 fun _=>rfl) d40;have g41:GOk cl (Gn T F41) l.prog w K mg base 81:=g40.addG X G p41 s41 rfl rfl rfl (fun _ _ _ _ _ _=>bb3 fun _ _ _=>rfl) d41;have G42:=znu (cl:=cl) (wo:=w) (P:=l.prog) U42 s42 g41 rfl rfl rfl d42;exact G42.imp (zsR (cl:=cl) znc)
noncomputable def walk{l:PySem.W.OpenLaw}{q:Program}{loose:List Str}{XP:(Str->Option Value)->Heap->Prop}{YP:PySem.World->Heap->Prop}{d:DefRec}{K:Params->PySem.W.Frag}(hn:l.most=some 63)(hdf:d.params.defaults=[])
  (hY:∀(w:PySem.World) (h:Heap),YP w h->(K w.params).In h)
  (F:∀(w:PySem.World) (mg:Z6) (fa:Addr) (h:Heap),(K w.params).In h->h.Ns mainGlobals mg->mg d.name=some (.ref fa) →
   ∃fd:FuncData,(∀(s:Shared) (u:Value),BindsTo s fd ⟨[u],[]⟩ [("_law_script",u)])/\∀base:Heap,(K w.params).In base->base.Ns mainGlobals mg->FnOk l.prog w (K w.params) mg base (CXE l.prog w) 82 fa fd ["_law_script"] (S2.zmq (K w.params))) :
  PySem.W.WalkO q loose XP YP l.row.toRowW d [] (fun f vs=>PySem.call f vs) :=
 L2.zoJ (n:=63) (k:=82) (x:="_law_script") (CX:=fun w=>CXE l.prog w) (sp:=fun w=>S2.zmq (K w.params)) hn (by decide) hdf ⟨rfl,by decide,by decide⟩ hY F (fun _ _ a ns hl hO hS=>⟨a,ns,rfl,hl,hO,hS,fun _=>rfl⟩) (by rintro _ _ _ _ _ ⟨_,_,_,_,_,_,_,_,_,_,_,_,_,_,z⟩;exact z)
end M41
namespace PySem.W.Fast
def tw10489982702449359889:=0
def tw11620681278133289544:=0
def tw3212804594219972821:=0
def tw9154590916406992781:=0
def tw9767999578867678138:=0
def tw17696756479576013710:=0
def tw7578918215500204912:=0
def tw14853879011252375109:=0
def tw10202622269046657760:=0
def tw14556681590603111734:=0
def tw16097876704667349492:=0
def tw6391955507902270072:=0
def tw4084204777969339842:=0
def tw12804295219707461145:=0
def tw12994049807058710887:=0
def tw3599194071085775156:=0
def tw12955532640282664733:=0
def tw4305961021558284216:=0
def tw6472139808282271855:=0
def tw2939268690055586264:=0
def tw8893728637606256955:=0
def tw3170140261295230210:=0
def tw1290076918543324313:=0
def tw542645524098109250:=0
def tw5148348118376586289:=0
def tw15927014493959612254:=0
def tw16245630619068333245:=0
def tw597875025020066083:=0
def tw5131790293517233189:=0
def tw17148825593314464649:=0
def tw12762530034961433426:=0
def tw1205051310204165412:=0
def tw774674217005891566:=0
def tw805667985225753830:=0
def tw16785971435458204075:=0
def tw16498386661337063034:=0
def tw12242920813031241218:=0
def tw6141045643591935798:=0
def tw1988450327445249999:=0
def tw2832328926641125120:=0
def tw6713479800439638991:=0
def tw4256694860548084822:=0
def tw2943150449388816957:=0
def tw11191783406756803266:=0
def tw18385093278235044435:=0
def tw10658138295534994318:=0
def tw6974063508395078850:=0
def tw15153699477198393892:=0
def tw16671522191662890374:=0
def tw10968791349212877032:=0
def tw4555145173546854877:=0
def tw9099465065752965357:=0
def tw10313807075102841981:=0
def tw2769373859501383062:=0
def tw10571815401858021652:=0
def tw16585974385408856356:=0
def tw8515164828450043363:=0
def tw6363488388537707433:=0
def tw5885577940223797616:=0
def tw16695480471167614065:=0
def tw6960316544118285771:=0
def tw11000439996521171069:=0
def tw957389060425277992:=0
def tw14569904971129256143:=0
def tw15899257896253657195:=0
def tw14859410795550325443:=0
def tw6685837421538177678:=0
def tw15414500042013079460:=0
def tw17835948562436939263:=0
def tw15123724746109766787:=0
def tw13883139377030203702:=0
def tw15395847819154309202:=0
def tw11862766226481561039:=0
def tw6175328875725880519:=0
def tw1295430089624067517:=0
def tw16545175286926442834:=0
def tw8099866856119390396:=0
def tw1926075355624644180:=0
def tw14330077440972286380:=0
def tw12050032458876375184:=0
def tw1070204629583309407:=0
def tw4223161967219988093:=0
def tw14922638066007415390:=0
def tw9408484347916817772:=0
def tw4484725482489724629:=0
def tw8882727260318208333:=0
def tw14678485320725138365:=0
def tw7645744375317021054:=0
def tw7075633533688824205:=0
def tw16313084432910254684:=0
def tw16571685660185395394:=0
def tw3340749590396068177:=0
def tw9481703320412452509:=0
def tw1603575794815053618:=0
def tw9395315843119316353:=0
def tw13463802867221293944:=0
def tw16453199511830299357:=0
def tw13281578251082358528:=0
def tw7797454807534536505:=0
def tw14070695870247239660:=0
def tw7829645425627616108:=0
def tw2594610097160345329:=0
def tw11380502149548640023:=0
def tw5389690110382819868:=0
def tw11395297657130263804:=0
def tw5587507858068501105:=0
def tw11282489582167642714:=0
def tw4078188673676254553:=0
def tw15923857039732532945:=0
def tw4921200975862858715:=0
def tw17973482732481303412:=0
def tw15474997884737048094:=0
def tw9739297987680551784:=0
def tw405410355441278117:=0
def tw10705431960024291166:=0
def tw4861431404160532211:=0
def tw12961170001178612848:=0
def tw8530210933679058094:=0
def tw2735169815447388537:=0
def tw252784512225627096:=0
def tw15068545003954910505:=0
def tw10086347059117777805:=0
def tw3646825442724514097:=0
def tw2498028888487765392:=0
def tw4086662036793044625:=0
def tw400782433976129947:=0
def tw841948787480821385:=0
def tw2098579225807067600:=0
def tw3192023803700418082:=0
def tw5097873257244551628:=0
def tw4452889290266457354:=0
def tw4577516306404113207:=0
def tw17735681867829357513:=0
def tw1222227136891271141:=0
def tw17061212879171781031:=0
def tw11651735260691147688:=0
def tw692518886495469303:=0
def tw310327557647504877:=0
def tw1975132662070190637:=0
def tw3501394959720624980:=0
def tw6368401404040610627:=0
def tw12323649874360350476:=0
def tw4785385772985471281:=0
def tw6009096972551290127:=0
def tw10243046481104930836:=0
def tw1862602948910347565:=0
def tw8168480654924642203:=0
def tw5971798956360824701:=0
def tw12316482016534717325:=0
def tw1162197326085974145:=0
def tw3541437330189140371:=0
def tw15234472874156968372:=0
def tw12246669288772702013:=0
def tw11936585253144829208:=0
def tw14575381746126480710:=0
def tw15962841249219127984:=0
def tw15595773413846534940:=0
def tw615037785293525877:=0
def tw4113917752132941472:=0
def tw3097068944291070917:=0
def tw13229232667162104179:=0
def tw12732091742497221563:=0
def tw15842819306074081417:=0
def tw5922490012216218220:=0
def tw15252085048491518788:=0
def tw8103916318829645772:=0
def tw1275954322131317790:=0
def tw10990806013519670240:=0
def tw12692780791806212099:=0
def tw7190128414691297260:=0
def tw4202058903356883485:=0
def tw3838716962933441334:=0
def tw14272725927210818935:=0
def tw8678464166258794762:=0
def tw6485949544116925034:=0
def tw2075836953129351228:=0
def tw11023019347511320726:=0
def tw11713853470295691314:=0
def tw11735728662181614236:=0
def tw7903824550941663420:=0
def tw2847113845975680021:=0
def tw11461068200630201318:=0
def tw2945350459932000325:=0
def tw2512659510569754220:=0
def tw15954933307052248425:=0
def tw8046602576151827205:=0
def tw9655066258113082530:=0
def tw16590624862195262294:=0
def tw9068381490744212863:=0
def tw5353552008540108044:=0
def tw17088628350788569212:=0
def tw12534311985628303412:=0
def tw10469850850533150355:=0
def tw8787077974419795549:=0
def tw11903226958893270510:=0
def tw11605354612512223825:=0
def tw12491074251987599569:=0
def tw6945757377069604267:=0
def tw16155431628571949675:=0
def tw9945938253353333227:=0
def tw7016963399112204522:=0
def tw8466166236986399840:=0
def tw10143646305683535592:=0
def tw2262450376133403793:=0
def tw11204652698009503699:=0
def tw16546905262730734483:=0
def tw11324075025197460324:=0
def tw8108707507800963322:=0
def tw6624950350072233101:=0
def tw5059019909972267737:=0
def tw4064772435449333184:=0
def tw3354686605712864243:=0
def tw3855761323040536890:=0
def tw2545613975945716214:=0
def tw15802303829118633327:=0
def tw12701854822454435547:=0
def tw837445794425126926:=0
def tw5529949672140172475:=0
def tw18080449050830166621:=0
def tw17646869049603392981:=0
def tw15882817602320687271:=0
def tw15701905679560721941:=0
def tw12245592734132489554:=0
def tw18192856683900172877:=0
def tw16586509507057105254:=0
def tw17943854515046524078:=0
def tw12804358753064481668:=0
def tw13588565094810642099:=0
def tw3444475789114285647:=0
def tw15629819887285356035:=0
def tw18407283498278997334:=0
def tw12897299564134814652:=0
def tw825124462495969816:=0
def tw5770619582798348398:=0
def tw18051772478009940962:=0
def tw4894471222181621905:=0
def tw6082616355862756549:=0
def tw579157880120277171:=0
def tw10034877812530644124:=0
def tw4948366681977739247:=0
def tw3255105273772799607:=0
def tw132325001930400314:=0
def tw13401492674069929394:=0
def tw9069250233437107106:=0
def tw14544572911046640354:=0
def tw12033141801936281713:=0
def tw13784364477188613007:=0
def tw14247529091918329743:=0
def tw11689437560440868994:=0
def tw2943040460529761130:=0
def tw361201076703929844:=0
def tw8722660426730171146:=0
def tw5571330368593028728:=0
def tw2488242092989387103:=0
def tw2247264680889531653:=0
def tw2092522158561127654:=0
def tw14167609395889101313:=0
def tw13262365798206595563:=0
def tw11046645159193760444:=0
def tw10157191953221148622:=0
def tw18391771055912009093:=0
def tw15980234041201453237:=0
def tw7414923091169990831:=0
def tw565769719596109012:=0
def tw4067067832543533277:=0
def tw8866148160707505093:=0
def tw11177632301704826336:=0
def tw12313261215533168459:=0
def tw1734486186407561723:=0
def tw118134082611689850:=0
def tw279719615025091313:=0
def tw16159504547707797226:=0
def tw10363392023194771608:=0
def tw17375018374002466352:=0
def tw13623679303706861273:=0
def tw16372386605737800204:=0
def tw13474806261527835235:=0
def tw10985503572505277550:=0
def tw1011211680013100261:=0
def tw14132388305790692492:=0
def tw10429188469058235216:=0
def tw9369508865758249629:=0
def tw14059851395098705210:=0
def tw15064261472740154208:=0
def tw13521892917706503645:=0
def tw16636549030178103283:=0
def tw7275969522910960858:=0
def tw6627441959582107577:=0
def tw3790636496855573948:=0
def tw15974898451291081393:=0
def tw8484364102709866872:=0
def tw251980207906563816:=0
def tw17713902866579619494:=0
def tw6842644436418178731:=0
def tw4513368469271858356:=0
def tw241957782988117892:=0
def tw18164235245105475947:=0
def tw15959379348203055430:=0
def tw13108264667449102800:=0
def tw11704822387344661077:=0
def tw11537451885167033758:=0
def tw10273222181592139842:=0
def tw9743444498803964300:=0
def tw5190927920071601629:=0
def tw10341994481976048807:=0
def tw15880146194735584600:=0
def tw6937745417459649608:=0
def tw9063463679733206674:=0
def tw3803452305306998639:=0
def tw17297479298628677078:=0
def tw3358839817621009823:=0
def tw2652319501233120479:=0
def tw13005769579016434084:=0
def tw1261232174938612153:=0
def tw8700859608973252636:=0
def tw4727167445658049918:=0
def tw8874250913417596459:=0
def tw8843659829981501398:=0
def tw354992103819866237:=0
def tw2790822520427414517:=0
def tw16416512950580412067:=0
def tw15495769898428900344:=0
def tw14994069381522385643:=0
def tw14941147746000492468:=0
def tw12340355121081665652:=0
def tw9402504220101308280:=0
def tw8817405218162963383:=0
def tw6703749341254294781:=0
def tw6622864078026866560:=0
def tw5022120902793104068:=0
def tw42541496983240568:=0
def tw16656433764493759873:=0
def tw10973439865838808145:=0
def tw10115035122405077960:=0
def tw919004235120860282:=0
def tw7421382639725085877:=0
def tw5664502111831431600:=0
def tw4841553149135822373:=0
def tw13279632985948120363:=0
def tw10813544765013052309:=0
def tw9189065695709118776:=0
def tw8677463935080749152:=0
def tw5279457010671862423:=0
def tw453696238217935430:=0
def tw2564078557787679052:=0
def tw16463671488767464622:=0
def tw15808905382708118693:=0
def tw14461781980783543174:=0
def tw1155033906644921423:=0
def tw10690611519376106589:=0
def tw9932041348076172904:=0
def tw9867763266467686491:=0
def tw9670295701371749282:=0
def tw9576321440477529291:=0
def tw9296824939001598966:=0
def tw9111597261304844501:=0
def tw8816818058160167716:=0
def tw8807898639574711700:=0
def tw8776598290372279815:=0
def tw8751411001653215961:=0
def tw874911147041926279:=0
def tw8687013472179731801:=0
def tw846356520732795382:=0
def tw8340122674519180875:=0
def tw827017750821240100:=0
def tw8034433754630419634:=0
def tw7965700768505288195:=0
def tw7963788157200683436:=0
def tw782501877146585210:=0
def tw7798249828392661512:=0
def tw7787795203654862815:=0
def tw7723286246157925029:=0
def tw7676352608184780220:=0
def tw7553904143075768584:=0
def tw7519082261537836971:=0
def tw6974564064960463881:=0
def tw686208838172714950:=0
def tw6836837902622495285:=0
def tw6789376418615526363:=0
def tw645455254787116173:=0
def tw6321425728968033009:=0
def tw6209445857788201688:=0
def tw596213223275325419:=0
def tw5912175529995627754:=0
def tw5648721326017804055:=0
def tw546656105354949975:=0
def tw5224386156339120334:=0
def tw5220136541833420277:=0
def tw5131385290647719940:=0
def tw5032976134573212837:=0
def tw4784977872321434737:=0
def tw4776345977457190761:=0
def tw4505322256573251401:=0
def tw3949329466619062528:=0
def tw3875710460859004730:=0
def tw3858969063206720636:=0
def tw3677666353206654466:=0
def tw3594261741466108184:=0
def tw3579923254111690824:=0
def tw352227708406377140:=0
def tw3493644408351991311:=0
def tw3394100846420421478:=0
def tw3386515885332255385:=0
def tw3258153807914676132:=0
def tw3181256856213008088:=0
def tw3126594851668131627:=0
def tw3020054398469799156:=0
def tw2894780537528078147:=0
def tw2850990141439759155:=0
def tw2785333417677682907:=0
def tw2694625842717123594:=0
def tw2668053628768092511:=0
def tw2484302565177964286:=0
def tw2367088802419856450:=0
def tw2324226288389913342:=0
def tw2199894355438418943:=0
def tw2141996886226144741:=0
def tw1928731059124144109:=0
def tw18057572445921810053:=0
def tw1790931288240402438:=0
def tw17850679423931095526:=0
def tw17612782757416180609:=0
def tw17450264828669691057:=0
def tw17422613456997147848:=0
def tw1726312504472592806:=0
def tw16571541555465837573:=0
def tw16551850229568406809:=0
def tw16140664301560714650:=0
def tw16098593282333203779:=0
def tw16084576744191130757:=0
def tw16083236538783964501:=0
def tw16034215383970301190:=0
def tw15845944519134611802:=0
def tw15841469158105879332:=0
def tw15709799094108683532:=0
def tw15464312493747327112:=0
def tw15414368814708215164:=0
def tw15322453748478137563:=0
def tw15160734167486288867:=0
def tw14913022585446774907:=0
def tw14857759366745589582:=0
def tw14503444319820508080:=0
def tw14295538096243442011:=0
def tw14144071841834687944:=0
def tw14056004884806710415:=0
def tw14020331471202080467:=0
def tw13997498534999782058:=0
def tw1359199751452512715:=0
def tw13586131255207736938:=0
def tw13524996013712122440:=0
def tw13403489971046781553:=0
def tw12891802708737829475:=0
def tw127587438161122973:=0
def tw12748773912225280634:=0
def tw12424934559829631140:=0
def tw12346794075533112709:=0
def tw12310356096867587832:=0
def tw12289973240798780100:=0
def tw1213042995595049031:=0
def tw12051547314485242993:=0
def tw11687387794276047302:=0
def tw11616160493436870318:=0
def tw1155610584940238902:=0
def tw11473766843495406203:=0
def tw11458109140967512939:=0
def tw11339647682828552448:=0
def tw11052914674402323312:=0
def tw10733603221629357807:=0
def tw10636932392027422570:=0
def tw10512168467598818480:=0
def tw1043199616326040807:=0
def tw10354476862842300164:=0
def tw10235273902447589544:=0
end PySem.W.Fast
open PySem PySem.W PyProof.Rows
set_option maxRecDepth 100000 in
set_option maxHeartbeats 0 in
theorem PySem.Challenge.cw_floorfits_k41_whole_joined_holds : PySem.Challenge.rw_floorfits_k41_whole_joined.Holds := by
 w_on;o_law;k_head;(case hw=>w_witness2)
 k_fill
 refine M41.walk (l:=PySem.Challenge.rw_floorfits_k41_whole_joined) rfl rfl (fun w h Y=>PySem.W.kIn_of Y) ?F
 case F =>
  intro w mg fa h KX G hmg;refine' M41.all_mk KX G hmg ?nyWays ?pgWays ?hdWays ?poWays ?saWays ?mkWays ?kpWays ?naWaystiles ?naWaysground ?naWayssize ?naWaysis_round ?naWaysknown ?a22 ?i22 ?l22 ?c22 ?k22 ?dk22 ?a42 ?l42 ?c42 ?k42 ?z1 ?z2 ?z3 ?z4 ?z5 ?z6 ?z7 ?z8 ?z9 ?z10 ?z11 ?z12 ?z13 ?gl1 ?gl2 ?gl3 ?gl4 ?n0 ?x0 ?n1 ?x1 ?n2 ?x2 ?n3 ?x3 ?n4 ?x4 ?n5 ?x5 ?n6 ?x6 ?lk4 ?mr4 ?ga4 ?gt4 ?cc4 ?nd ?_ ?_ ?_ ?_ ?_ ?_ ?_ ?_ ?_ ?_ ?_ ?_ ?_ ?_ ?_ ?_ ?_ ?_ ?_ ?_ ?_ ?_ ?_ ?_ ?_ ?_ ?_ ?_ ?_ ?_ ?_ ?_ ?_ ?_ ?_ ?_ ?_ ?_ ?_ ?_
  (case nyWays=>k_is);(case pgWays=>k_is);(case hdWays=>k_is);(case poWays=>k_is)
  (case saWays=>k_is);(case mkWays=>k_is);(case kpWays=>k_is);(case naWaystiles=>k_is)
  (case naWaysground=>k_is);(case naWayssize=>k_is);(case naWaysis_round=>k_is);(case naWaysknown=>k_is)
  (case a22=>k_is);(case i22=>k_is);(case l22=>k_is);(case c22=>k_is)
  (case k22=>k_is);(case dk22=>k_is);(case a42=>k_is);(case l42=>k_is)
  (case c42=>k_is);(case k42=>k_is);(case z1=>k_is);(case z2=>k_is)
  (case z3=>k_is);(case z4=>k_is);(case z5=>k_is);(case z6=>k_is)
  (case z7=>k_is);(case z8=>k_is);(case z9=>k_is);(case z10=>k_is)
  (case z11=>k_is);(case z12=>k_is);(case z13=>k_is);(case gl1=>k_is)
  (case gl2=>k_is);(case gl3=>k_is);(case gl4=>k_is);(case n0=>k_is)
  (case x0=>k_exc);(case n1=>k_is);(case x1=>k_exc);(case n2=>k_is)
  (case x2=>k_exc);(case n3=>k_is);(case x3=>k_exc);(case n4=>k_is)
  (case x4=>k_exc);(case n5=>k_is);(case x5=>k_exc);(case n6=>k_is)
  (case x6=>k_exc);(case lk4=>k_is);(case mr4=>with_unfolding_all rfl);(case ga4=>k_is)
  (case gt4=>k_is);(case cc4=>k_is);(case nd=>decide)
  all_goals ((first | refine' M41.gm ?a ?l ?c ?k ?i | refine' M41.mm ?a ?l ?c ?k ?i);(case a=>k_is);(case l=>k_is);(case c=>k_is);(case k=>k_is);(case i=>k_is))
#print axioms PySem.Challenge.cw_floorfits_k41_whole_joined_holds
