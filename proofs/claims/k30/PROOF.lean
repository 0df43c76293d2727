import PyProof.Rows.All
import Wide.All
import OpenK.AllK
import Wide.FinOn
import Lean
import PyProof.EqAt
import PyProof.EqKinds
import PyProof.TupleCall
import PySem.SetTable
import PyProof.TupleKey
import Wide.Seal
import PyProof.DictRoadsH
import PyProof.Rows.TupTab
import PyProof.Draws
import PyProof.EnumMake
import OpenK.KRaise
import OpenK.KOwn
import PyProof.Rows.TopTwo
import PyProof.RulesAs
import PyProof.RulesDel
import PyProof.ExcArgsOwn
import PyProof.ExcAttrAll.ValueError
import PyProof.Rows.CountFlat
import PyProof.SumWalk
import PyProof.Rows.SeqCalls
import PyProof.ZipIter
import KE.KRevIter
import PyProof.CollectIter
import PyProof.TupleOfGen
import PyProof.ListRange
import PyProof.WalkInts
import PySem.Challenge.RW_floorfits_k30_whole_mended
set_option Elab.async false
set_option linter.all false
set_option maxRecDepth 100000
set_option maxHeartbeats 4000000
abbrev Z1:=Nat->Nat->Option Int
abbrev Z2:=List (List Int)
abbrev Z3:=List (PySem.Addr×PySem.Obj)
abbrev Z4:=List (Option Int)
abbrev Z5:=PySem.Value->PySem.Shared->Prop
abbrev Z6:=PySem.Str->Option PySem.Value
def yaa:=@List.getElem?_eq_getElem
def yab:=@Bool.and_eq_true
def yac:=@PySem.wpAny_bind
def yad:=@List.getD_eq_getElem?_getD
def yae:=@List.length_map
def yaf:=@PySem.Heap.get?_push_of_some
def yag:=@List.getElem?_eq_some_iff
def yah:=@Nat.le_trans
def yai:=@List.length_cons
def yaj:=@PySem.wpAny_pure
def yak:=@List.getElem?_map
def yal:=@List.size_toArray
def yam:=@Nat.le_refl
def yan:=@List.mem_map
def yao:=@List.length_append
def yap:=@List.mem_cons_of_mem
def yaq:=@List.getElem?_append_right
def yar:=@Nat.lt_of_lt_of_le
def yas:=@PySem.Heap.lt_size
def yat:=@List.mem_cons_self
def yau:=@of_decide_eq_true
def yav:=@List.mem_cons
def yaw:=@List.map_cons
def yax:=@PySem.Heap.get?_push_size
def yay:=@List.lookup_cons
def yaz:=@List.getElem?_append_left
def yaA:=@List.getElem?_set_self
def yaB:=@decide_eq_true
def yaC:=@Int.toNat_natCast
def yaD:=@List.length_replicate
def yaE:=@List.mem_range
def yaF:=@List.not_mem_nil
def yaG:=@Nat.ne_of_lt
def yaH:=@List.map_map
def yaI:=@List.map_congr_left
def yaJ:=@List.length_set
def yaK:=@PySem.mem_of_lookup
def yaL:=@List.flatMap_cons
def yaM:=@List.mem_append_right
def yaN:=@List.getElem?_eq_none
def yaO:=@List.mem_singleton
def yaP:=@List.getElem?_set_ne
def yaQ:=@List.length_singleton
def yaR:=@PySem.W.mg_none_of
def yaS:=@PyProof.Rows.callWith_type1
def yaT:=@Nat.lt_irrefl
def yaU:=@Bool.false_eq_true
def yaV:=@Option.some_ne_none
def yaW:=@Nat.mul_le_mul_right
def yaX:=@decide_eq_false
def yaY:=@List.append_nil
def yaZ:=@PyProof.Rows.slot_tuple_getitem
def ya0:=@List.length_filter_le
def ya1:=@List.nodup_iff_pairwise_ne
def ya2:=@List.mem_filter
def ya3:=@List.eq_nil_of_length_eq_zero
def ya4:=@List.mem_filterMap
def ya5:=@PySem.W.mg_of
def ya6:=@Nat.ne_of_gt
def ya7:=@PySem.W.kia_one
def ya8:=@List.replicate_succ
def ya9:=@PySem.Heap.size_push
def yba:=@List.getElem?_replicate
def ybb:=@PySem.wpAny_callSpecial?_slot
def ybc:=@List.length_range
def ybd:=@Bool.false_ne_true
def ybe:=@List.all_eq_true
def ybf:=@List.isEmpty_iff
def ybg:=@List.mem_flatMap
def ybh:=@beq_eq_false_iff_ne
def ybi:=@List.filterMap_cons
def ybj:=@PySem.wpAny_truthy_bool
def ybk:=@PySem.wpAny_newObj_type
def ybl:=@List.getElem?_drop
def ybm:=@List.range_succ
def ybn:=@PySem.wpAny_call_entry
def ybo:=@Nat.mul_comm
def ybp:=@List.getElem_mem
def ybq:=@Nat.sub_self
def ybr:=@List.ext_getElem?
def ybs:=@List.nodup_cons
def ybt:=@PySem.wpAny_mono
def ybu:=@List.length_take
def ybv:=@List.flatten_cons
def ybw:=@decide_eq_true_eq
def ybx:=@PySem.wpAny_loadPart_at
def yby:=@Nat.zero_le
def ybz:=@PySem.wpAny_field
def ybA:=@List.nil_append
def ybB:=@Nat.min_eq_left
def ybC:=@List.take_of_length_le
def ybD:=@PySem.F.slot_tuple_iterator_next
def ybE:=@List.length_drop
def ybF:=@beq_self_eq_true
def ybG:=@List.map_flatMap
def ybH:=@List.all_cons
def ybI:=@List.sum_cons
def ybJ:=@Nat.mul_le_mul
def ybK:=@List.getLastD_eq_getLast?
def ybL:=@List.mem_append
def ybM:=@List.getElem?_take_of_lt
def ybN:=@Bool.eq_iff_iff
def ybO:=@Bool.not_eq_true'
def ybP:=@or_false
def ybQ:=@decide_eq_false_iff_not
def ybR:=@Int.eq_ofNat_of_zero_le
def ybS:=@Nat.lt_succ_self
def ybT:=@beq_iff_eq
def ybU:=@PySem.wpAny_seqItems
def ybV:=@PySem.wpAny_Call_Name_kw
def ybW:=@if_false
def ybX:=@Nat.succ_mul
def ybY:=@PySem.F.slot_int_rmul
def ybZ:=@List.map_append
def yb0:=@List.length_nil
def yb1:=@Nat.div_add_mod
def yb2:=@PySem.wpAny_holding
def yb3:=@PySem.wpAny_pyIter_list
def yb4:=@List.append_assoc
def yb5:=@PySem.F.excBase_ValueError
def yb6:=@List.mem_of_getElem?
def yb7:=@if_true
def yb8:=@List.getElem?_of_mem
def yb9:=@PySem.wpAny_binaryOp_repeat_ref
def yca:=@List.drop_eq_getElem_cons
def ycb:=@List.getLast?_eq_getElem?
def ycc:=@List.filter_cons
def ycd:=@List.getElem?_range
def yce:=@PySem.F.args_tuple_add_2
def ycf:=@PySem.AutoSeq1.wpAny_loadPart'
def ycg:=@List.set_set
def ych:=@List.length_filterMap_le
def yci:=@PySem.wpAny_pyIter_tuple
def ycj:=@PySem.wpAny_passesOwn
def yck:=@PySem.F.entry_tuple_add
def ycl:=@PySem.F.plainAttrs_list
def ycm:=@List.contains_cons
def ycn:=@PySem.wpAny_setField_rec
def yco:=@List.filter_map
def ycp:=@List.flatten_replicate_singleton
def ycq:=@PySem.F.slot_tuple_add
def ycr:=@PyProof.Rows.subscriptTail_builtinR
def ycs:=@PySem.call_meets
def yct:=@Nat.le_succ
def ycu:=@PySem.wpAny_pyIter_enum
def ycv:=@PySem.F.typeOf_object_class
def ycw:=@List.set_append_right
def ycx:=@List.cons_append
def ycy:=@PySem.F.slot_tuple_mul
def ycz:=@PySem.wpAny_isInstance
def ycA:=@Nat.le_add_right
def ycB:=@List.mem_append_left
def ycC:=@List.mem_iff_getElem
def ycD:=@List.length_dropLast
def ycE:=@Nat.pow_le_pow_right
def ycF:=@Bool.not_true
def ycG:=@PySem.typeIs_int
def ycH:=@Array.length_toList
def ycI:=@PySem.wpAny_execs_nil
def ycJ:=@PySem.W.plainGet_of
def ycK:=@List.forIn_cons
def ycL:=@Bool.or_eq_true
def ycM:=@PySem.F.slot_zip_next
def ycN:=@List.length_pos_iff
def ycO:=@Int.natCast_mul
def ycP:=@Nat.le_of_lt
def ycQ:=@Nat.le_of_eq
def ycR:=@PySem.wpAny_tupleItemsOf
def ycS:=@Array.forIn_toList
def ycT:=@PySem.W.callWith_K
def ycU:=@Nat.lt_of_le_of_lt
def ycV:=@List.getElem_range
def ycW:=@List.getElem?_take
def ycX:=@Int.emod_lt_of_pos
def ycY:=@decide_eq_true_iff
def ycZ:=@List.drop_zero
def yc0:=@PySem.F.args_int_rmul_2
def yc1:=@Nat.lt_succ_of_lt
def yc2:=@Nat.le_of_succ_le
def yc3:=@Nat.add_mul
def yc4:=@PySem.wpAny_rule
def S2.bdI{c k:Nat}(h:c<=k)(hk:k<=1000000):-1000000<=(c:Int)/\(c:Int)<=1000000:=⟨Int.le_trans (by decide) (Int.natCast_nonneg c),Int.ofNat_le.mpr (yah h hk)⟩
def S2.bdN{c k:Nat}(h:c<=k)(hk:k<=1000000):0<=(c:Int)/\(c:Int)<=1000000:=⟨Int.natCast_nonneg c,Int.ofNat_le.mpr (yah h hk)⟩
local macro_rules | `(tactic| omega) => `(tactic| first | assumption | exact yah (by assumption) (by decide) | exact yar (by assumption) (by assumption) | exact yar (by assumption) (by decide) | exact ycP (by assumption) | exact S2.bdI (by assumption) (by decide) | exact yah (by assumption) (by assumption) | omega +splitDisjunctions)
namespace L2
open PySem PySem.Spec PyProof.Rows
abbrev Key:=Sum Int Str
def zsO:Key->Value->Bool
 | .inl k,v=>Value.isInt k v
 | .inr x,v=>Value.isStrOf x v
def zyu(w:World):Key->Int
 | .inl k=>hashInt k
 | .inr x=>hashStr w x
theorem za1:∀{k:Key} {v:Value},zsO k v=true->(∃i t,k=Sum.inl i/\v=Value.int i t)\/(∃x t,k=Sum.inr x/\v=Value.str x t)
 | .inl i,v,h=>by
  obtain ⟨t,e⟩:=Value.isInt_shape (k:=i) (v:=v) h;exact .inl ⟨i,t,rfl,e⟩
 | .inr x,v,h=>by
  obtain ⟨t,e⟩:=Value.isStrOf_shape (x:=x) (v:=v) h;exact .inr ⟨x,t,rfl,e⟩
def zsN(a b:Int):decide ((Sum.inl a:Key)=Sum.inl b)=(a == b):=by
 by_cases e:a=b
 ·subst e;simp
 ·have h:¬ (Sum.inl a:Key)=Sum.inl b:=fun q=>e (Sum.inl.inj q)
  rw [yaX h];exact (ybh.mpr e).symm
def zsK(a b:Str):decide ((Sum.inr a:Key)=Sum.inr b)=decide (a=b):=by
 by_cases e:a=b
 ·subst e;simp
 ·have h:¬ (Sum.inr a:Key)=Sum.inr b:=fun q=>e (Sum.inr.inj q)
  rw [yaX h,yaX e]
def zsM(a:Int)(b:Str):decide ((Sum.inl a:Key)=Sum.inr b)=false:=yaX (fun q=>nomatch q)
def zsL(a:Str)(b:Int):decide ((Sum.inr a:Key)=Sum.inl b)=false:=yaX (fun q=>nomatch q)
def zll(prog:Program)(w:World):PySem.KeyKind prog w Key where
 is:=zsO
 hash:=zyu w
 inj:=fun v a b ha hb=>by
  rcases za1 ha with ⟨i,t,rfl,rfl⟩ | ⟨x,t,rfl,rfl⟩
  ·rcases za1 hb with ⟨j,u,rfl,e⟩ | ⟨y,u,rfl,e⟩
   ·injection e with e1 _;rw [e1]
   ·exact nomatch e
  ·rcases za1 hb with ⟨j,u,rfl,e⟩ | ⟨y,u,rfl,e⟩
   ·exact nomatch e
   ·injection e with e1 _;rw [e1]
 byValue:=fun k v h=>by
  rcases za1 h with ⟨i,t,rfl,rfl⟩ | ⟨x,t,rfl,rfl⟩<;>rfl
 pyHash:=fun hv h=>by
  rcases za1 hv with ⟨i,t,rfl,rfl⟩ | ⟨x,t,rfl,rfl⟩
  ·exact wpAny_pyHash_int h
  ·exact wpAny_pyHash_str h
 eqBool:=fun hu hv h=>by
  rcases za1 hu with ⟨i,t,rfl,rfl⟩ | ⟨x,t,rfl,rfl⟩
  ·rcases za1 hv with ⟨j,u,rfl,rfl⟩ | ⟨y,u,rfl,rfl⟩
   ·rw [zsN] at h;exact wpAny_eqBool_int h
   ·rw [zsM] at h;exact SeqAt.EqAt.int_str i t y u _ _ _ _ h
  ·rcases za1 hv with ⟨j,u,rfl,rfl⟩ | ⟨y,u,rfl,rfl⟩
   ·rw [zsL] at h;exact SeqAt.EqAt.str_int x t j u _ _ _ _ h
   ·rw [zsK] at h;exact wpAny_eqBool_str h
 «strs»:=fun k x t v h=>by
  rcases za1 h with ⟨i,u,rfl,e⟩ | ⟨y,u,rfl,e⟩
  ·exact nomatch e
  ·injection e with e1 _
   subst e1
   cases v<;>rfl
end L2
namespace L2
open PySem PySem.Spec PyProof.Rows
inductive V where
 | non | bl (b:Bool) | int (i:Int) | str (x:Str) | byt (b:Array UInt8) | flt (b:UInt64) | ref (a:Addr) | ty (n:String)
 deriving DecidableEq
def zbw:V->Value->Prop
 | .non,u=>u=Value.none
 | .bl b,u=>u=Value.bool b
 | .int i,u=>∃t,u=Value.int i t
 | .str x,u=>∃t,u=Value.str x t
 | .byt b,u=>∃t,u=Value.bytes b t
 | .flt b,u=>∃t,u=Value.float b t
 | .ref a,u=>u=Value.ref a
 | .ty n,u=>u=Value.type n
abbrev Vals:List V->List Value->Prop:=Paired zbw
theorem Vals.length{xs:List V}{us:List Value}(r:Vals xs us):xs.length=us.length:=Paired.length r
theorem Vals.get:∀{xs:List V} {us:List Value} {i:Nat} {x:V},Vals xs us->xs[i]?=some x->∃u,us[i]?=some u/\zbw x u
 | _,_,_,_,.nil,e=>by simp at e
 | _,_,0,_,.cons r _,e=>by simp at e;subst e;exact ⟨_,rfl,r⟩
 | _,_,i+1,x,.cons _ t,e=>by
  obtain ⟨u,h1,h2⟩:=Vals.get (i:=i) (x:=x) t (by simpa using e);exact ⟨u,by simpa using h1,h2⟩
theorem Vals.append:∀{xs ys:List V} {us ws:List Value},Vals xs us->Vals ys ws->Vals (xs++ys) (us++ws)
 | _,_,_,_,.nil,s=>s
 | _,_,_,_,.cons r t,s=>.cons r (Vals.append t s)
theorem Vals.take:∀{xs:List V} {us:List Value} (n:Nat),Vals xs us->Vals (xs.take n) (us.take n)
 | _,_,0,_=>.nil
 | _,_,_+1,.nil=>.nil
 | _,_,n+1,.cons r t=>.cons r (Vals.take n t)
theorem Vals.drop:∀{xs:List V} {us:List Value} (n:Nat),Vals xs us->Vals (xs.drop n) (us.drop n)
 | _,_,0,r=>r
 | _,_,_+1,.nil=>.nil
 | _,_,n+1,.cons _ t=>Vals.drop n t
def zmw:Option V->Option Value->Prop
 | some v,some u=>zbw v u
 | none,none=>True
 | _,_=>False
def KV{κ:Type}:List (κ×V)->List (κ×Value)->Prop:=Paired fun (p:κ×V) (q:κ×Value)=>p.1=q.1/\zbw p.2 q.2
def kV:Key->V
 | .inl i=>.int i
 | .inr x=>.str x
inductive HO where
 | lst (xs:List V)
 | tup (xs:List V)
 | dK (kvs:List (Key×V)) | dT (kvs:List (List Key×V))
 | set (S:Int->Bool) (n:Nat)
 | ins (C dx:Addr) (fs:List (Str×V))
 | own (x:Addr)
 | xd (fs:List (Str×V))
 | met (f x:Addr)
 | rng (lo hi:Int)
 | frz (o:Obj) (u:HO)
 | tbl (ps:Array Value)
 | ext (φ:Heap->Prop)
abbrev Hp:=Addr->Option HO
def upd(H:Hp)(a:Addr)(o:HO):Hp:=fun b=>if b=a then some o else H b
def zaW{H:Hp}{a:Addr}{o:HO}:upd H a o a=some o:=by unfold upd;rw [if_pos rfl]
def zaq{H:Hp}{a b:Addr}{o:HO}(h:b≠a):upd H a o b=H b:=by unfold upd;rw [if_neg h]
def zaC{H:Hp}{a b:Addr}{o:HO}(h:H a=some o)(h':H b=none):a≠b:=by
 intro e;subst e;rw [h] at h';cases h'
section
variable(P:Program)(w:World)
def zb3(H:Hp)(h:Heap)(a:Addr):HO->Prop
 | .lst xs=>xs.length<=sizeLine/\∃(its:List Value) (n:Nat),Vals xs its/\h.get? a=some { cls:=.type "list",data:=.seq its.toArray n }
 | .tup xs=>xs.length<=sizeLine/\∃its:List Value,Vals xs its/\IsTup h a its.toArray
 | .dK kvs=>kvs.length<=sizeLine/\(a == sysModules)=false/\∃vs,KV kvs vs/\h.DictOf (zll P w) a vs
 | .dT kvs=>kvs.length<=sizeLine/\(a == sysModules)=false/\∃xs:List (List Key×Addr×Value),
   Paired (fun (p:List Key×V) (q:List Key×Addr×Value)=>p.1=q.1/\H q.2.1=some (.tup (p.1.map kV))/\zbw p.2 q.2.2) kvs xs ∧
   ∃o es ep,h.get? a=some o/\o.ExactDict/\o.data=.dict es ep/\es.toList=xs.map (entryOfKey (tupleKind (zll P w)))/\(xs.map (·.1)).Nodup
 | .set S n=>h.SetOf (intKind P w) a S n
 | .ins C dx fs=>H dx=some (.own a)/\fs.length<=1000/\dx≠a/\h.get? a=some (PySem.W.instObj C dx) ∧
   ∃mA,h.Ns1 dx mA/\(∀f,zmw (fs.lookup f) (mA f))/\PySem.Within mA (fs.map (·.1))
 | .own _=>∃o,h.get? a=some o
 | .xd fs=>∃mA,h.Ns1 a mA/\∀f,zmw (fs.lookup f) (mA f)
 | .rng lo hi=>∃t u v,h.get? a=some { cls:=.type "range",data:=.fields #[.int lo t,.int hi u,.int 1 v] }
 | .frz o u=>h.get? a=some o/\zb3 H h a u
 | .tbl ps=>h.get? a=some { cls:=.none,data:=.fields ps }
 | .met f x=>h.get? a=some (PySem.W.methodObj (.ref f) (.ref x))
 | .ext φ=>φ h/\(∃o,h.get? a=some o)/\∀h1 h2:Heap,φ h1->(∀o,h1.get? a=some o->h2.get? a=some o)->φ h2
def HOk(H:Hp)(h:Heap):Prop:=∀a o,H a=some o->zb3 P w H h a o
end
section
variable{P:Program}{w:World}{H H':Hp}{h h':Heap}{a:Addr}{o:HO}
theorem zb3.lt(x:zb3 P w H h a o):a<h.objs.size:=by
 cases o with
 | lst xs=>obtain ⟨_,_,_,_,e⟩:=x;exact yas e
 | tup xs=>obtain ⟨_,_,_,p⟩:=x;exact p.lt
 | dK kvs=>obtain ⟨_,_,_,_,o,_,_,e,_⟩:=x;exact yas e
 | dT kvs=>obtain ⟨_,_,_,_,o,_,_,e,_⟩:=x;exact yas e
 | set S n=>obtain ⟨o,_,_,_,e,_⟩:=x;exact yas e
 | ins C dx fs=>obtain ⟨_,_,_,e,_⟩:=x;exact yas e
 | own y=>obtain ⟨_,e⟩:=x;exact yas e
 | xd fs=>obtain ⟨_,⟨_,_,_,e,_⟩,_⟩:=x;exact yas e
 | rng lo hi=>obtain ⟨_,_,_,e⟩:=x;exact yas e
 | frz ob u=>obtain ⟨e,_⟩:=x;exact yas e
 | tbl ps=>exact yas (show h.get? a=some _ from x)
 | met f y=>exact yas (show h.get? a=some _ from x)
 | ext φ=>obtain ⟨_,⟨_,e⟩,_⟩:=x;exact yas e
theorem Paired.mapP{α β:Type}{F G:α->β->Prop}:∀{l₁:List α} {l₂:List β},Paired F l₁ l₂->(∀a b,F a b->G a b)->Paired G l₁ l₂
 | _,_,.nil,_=>.nil
 | _,_,.cons r t,f=>.cons (f _ _ r) (Paired.mapP t f)
def zb3.stay(x:zb3 P w H h a o)(k:∀b u,(b=a\/H b=some (.own a))->h.get? b=some u->h'.get? b=some u)
  (ho:∀b,H b=some (.own a)->H' b=some (.own a)) (ht:∀b xs,H b=some (.tup xs)->H' b=some (.tup xs)):zb3 P w H' h' a o:=by
 induction o with
 | lst xs=>obtain ⟨z,its,n,r,e⟩:=x;exact ⟨z,its,n,r,k _ _ (.inl rfl) e⟩
 | tup xs=>obtain ⟨z,its,r,ob,e,c⟩:=x;exact ⟨z,its,r,ob,k _ _ (.inl rfl) e,c⟩
 | dK kvs=>obtain ⟨z,y,vs,r,ob,es,ep,e,c⟩:=x;exact ⟨z,y,vs,r,ob,es,ep,k _ _ (.inl rfl) e,c⟩
 | dT kvs =>
  obtain ⟨z,y,xs,r,ob,es,ep,e,c⟩:=x;exact ⟨z,y,xs,Paired.mapP r fun p q z=>⟨z.1,ht _ _ z.2.1,z.2.2⟩,ob,es,ep,k _ _ (.inl rfl) e,c⟩
 | set S n=>obtain ⟨ob,es,ep,t,e,c⟩:=x;exact ⟨ob,es,ep,t,k _ _ (.inl rfl) e,c⟩
 | ins C dx fs =>
  obtain ⟨d,z,ne,e,mA,⟨od,es,ep,e2,c⟩,r⟩:=x;exact ⟨ho _ d,z,ne,k _ _ (.inl rfl) e,mA,⟨od,es,ep,k _ _ (.inr d) e2,c⟩,r⟩
 | own y=>obtain ⟨ob,e⟩:=x;exact ⟨ob,k _ _ (.inl rfl) e⟩
 | xd fs=>obtain ⟨mA,⟨od,es,ep,e,c⟩,r⟩:=x;exact ⟨mA,⟨od,es,ep,k _ _ (.inl rfl) e,c⟩,r⟩
 | rng lo hi=>obtain ⟨t,u,v,e⟩:=x;exact ⟨t,u,v,k _ _ (.inl rfl) e⟩
 | frz ob u ih=>obtain ⟨e,q⟩:=x;exact ⟨k _ _ (.inl rfl) e,ih q⟩
 | tbl ps =>
  have e:h.get? a=some { cls:=.none,data:=.fields ps }:=x;show h'.get? a=some { cls:=.none,data:=.fields ps };exact k a _ (.inl rfl) e
 | met f y =>
  have e:h.get? a=some (PySem.W.methodObj (.ref f) (.ref y)):=x;show h'.get? a=some (PySem.W.methodObj (.ref f) (.ref y));exact k a _ (.inl rfl) e
 | ext φ=>obtain ⟨p,⟨o,e⟩,st⟩:=x;exact ⟨st _ _ p fun o q=>k _ _ (.inl rfl) q,⟨o,k _ _ (.inl rfl) e⟩,st⟩
theorem HOk.lt(x:HOk P w H h)(e:H a=some o):a<h.objs.size:=(x a o e).lt
def HOk.fresh(x:HOk P w H h)(e:h.objs.size<=a):H a=none:=by
 cases q:H a with
 | none=>rfl
 | some u=>exact absurd (yar (x.lt q) e) (yaT _)
def HOk.kept(x:HOk P w H h)(k:∀b u,h.get? b=some u->h'.get? b=some u):HOk P w H h':=fun a o e =>
 (x a o e).stay (fun b u _ q=>k b u q) (fun _ q=>q) fun _ _ q=>q
def HOk.laid(x:HOk P w H h)(k:∀b u,h.get? b=some u->h'.get? b=some u)(hp:h.objs.size<=a)(new:zb3 P w (upd H a o) h' a o):HOk P w (upd H a o) h':=fun b u e=>by
 have hn:=x.fresh hp
 by_cases hb:b=a
 ·subst hb;rw [zaW] at e;cases e;exact new
 ·rw [zaq hb] at e
  exact (x b u e).stay (fun c v _ q=>k c v q) (fun c q=>by rw [zaq (zaC q hn)];exact q) fun c xs q=>by rw [zaq (zaC q hn)];exact q
end
def Rd(H:Hp)(a:Addr)(u:HO):Prop:=H a=some u\/∃o,H a=some (.frz o u)
def Rd.ok{P:Program}{w:World}{H:Hp}{h:Heap}{a:Addr}{u:HO}(r:Rd H a u)(x:HOk P w H h):zb3 P w H h a u:=by
 rcases r with r | ⟨o,r⟩
 ·exact x a u r
 ·obtain ⟨_,q⟩:=x a _ r;exact q
def Mut:Option HO->Prop
 | some (.lst _)=>True
 | some (.dK _)=>True
 | some (.dT _)=>True
 | some (.set _ _)=>True
 | some (.ins _ _ _)=>True
 | some (.ext _)=>True
 | _=>False
section
variable{P:Program}{w:World}{H:Hp}{h h':Heap}{x e:Addr}{o':HO}
def HOk.write(ok:HOk P w H h)(mu:Mut (H x))(he:e=x\/H e=some (.own x))(k:∀b u,b≠e->h.get? b=some u->h'.get? b=some u)(heo:∃u,h'.get? e=some u)
  (new:zb3 P w (upd H x o') h' x o'):HOk P w (upd H x o') h':=fun b u q=>by
 have nown:∀c y,H c=some (.own y)->c≠x:=fun c y r z=>by subst z;rwa [r] at mu
 have ntup:∀c xs,H c=some (.tup xs)->c≠x:=fun c xs r z=>by subst z;rwa [r] at mu
 by_cases hb:b=x
 ·subst hb;rw [zaW] at q;cases q;exact new
 ·rw [zaq hb] at q
  by_cases hbe:b=e
  ·have q':H b=some (.own x):=by
    rcases he with z | z
    ·exact absurd (hbe.trans z) hb
    ·rw [hbe];exact z
   rw [q] at q';cases q';obtain ⟨v,hv⟩:=heo;exact ⟨v,by rw [hbe];exact hv⟩
  ·refine (ok b u q).stay (fun c v hc r=>k c v ?_ r) (fun c r=>by rw [zaq (nown c b r)];exact r) fun c xs r=>by rw [zaq (ntup c xs r)];exact r
   rcases hc with rfl | hc
   ·exact hbe
   ·rintro rfl
    rcases he with z | z
    ·exact nown c b hc z
    ·rw [hc] at z;cases z;exact hb rfl
end
structure Un(fs ex:List Addr)(H H':Hp)(h h':Heap):Prop where
 keep:∀b o,h.get? b=some o->H b=none->b ∉ fs->b ∉ ex->h'.get? b=some o
 slot:∀b o,h.get? b=some o->H b=none->b∈fs->b ∉ ex->∃sl,h'.get? b=some { o with slots:=sl }
 free:∀b o,h.get? b=some o->H b=none->b ∉ ex->H' b=none
 there:∀b o,h.get? b=some o->b ∉ ex->∃o',h'.get? b=some o'
 tups:∀b xs,H b=some (.tup xs)->H' b=some (.tup xs)
 frzs:∀b o u,H b=some (.frz o u)->H' b=some (.frz o u)
 tbls:∀b ps,H b=some (.tbl ps)->∃more,H' b=some (.tbl (ps++more))
section
variable{fs fs' ex ex':List Addr}{H H1 H2:Hp}{h h1 h2 h':Heap}{a x e:Addr}{o:HO}
def Un.any(u:Un fs ex H H1 h h1){b:Addr}{ob:Obj}(q:h.get? b=some ob)(n:H b=none)(hx:b ∉ ex):∃sl,h1.get? b=some { ob with slots:=sl }:=by
 by_cases hb:b∈fs
 ·exact u.slot b ob q n hb hx
 ·exact ⟨ob.slots,u.keep b ob q n hb hx⟩
def Un.kept(k:∀b u,h.get? b=some u->h'.get? b=some u):Un fs ex H H h h' :=
 ⟨fun b ob q _ _ _=>k b ob q,fun b ob q _ _ _=>⟨ob.slots,k b ob q⟩,fun _ _ _ n _=>n,fun b ob q _=>⟨ob,k b ob q⟩,fun _ _ q=>q,fun _ _ _ q=>q,fun _ ps q=>⟨#[],by rw [q];simp⟩⟩
def Un.refl:Un fs ex H H h h:=Un.kept fun _ _ q=>q
def Un.laid(k:∀b u,h.get? b=some u->h'.get? b=some u)(hp:h.objs.size<=a)(hn:H a=none):Un fs ex H (upd H a o) h h' where
 keep:=fun b u q _ _ _=>k b u q
 slot:=fun b u q _ _ _=>⟨u.slots,k b u q⟩
 free:=fun b u q n _=>by rw [zaq (yaG (yar (yas q) hp))];exact n
 there:=fun b u q _=>⟨u,k b u q⟩
 tups:=fun b xs q=>by rw [zaq (zaC q hn)];exact q
 frzs:=fun b u xs q=>by rw [zaq (zaC q hn)];exact q
 tbls:=fun b ps q=>⟨#[],by rw [zaq (zaC q hn),q];simp⟩
def Un.write(mu:Mut (H x))(he:e=x\/H e=some (.own x))(k:∀b u,b≠e->h.get? b=some u->h'.get? b=some u)(heo:∃u,h'.get? e=some u):Un fs ex H (upd H x o) h h':=by
 have hx:∀b,H b=none->b≠x:=fun b n z=>by subst z;rwa [n] at mu
 have hb:∀b,H b=none->b≠e:=fun b n z=>by
  subst z
  rcases he with r | r
  ·exact hx b n r
  ·rw [n] at r;cases r
 have hm:∀b u,H b=some u->¬ Mut (some u)->b≠x:=fun b u q nm z=>by subst z;rw [q] at mu;exact nm mu
 refine ⟨fun b u q n _ _=>k b u (hb b n) q,fun b u q n _ _=>⟨u.slots,k b u (hb b n) q⟩,fun b u q n _=>by rw [zaq (hx b n)];exact n,fun b u q _=>?_,
  fun b xs q=>by rw [zaq (hm b _ q fun z=>z)];exact q,fun b u xs q=>by rw [zaq (hm b _ q fun z=>z)];exact q,fun b ps q=>⟨#[],by rw [zaq (hm b _ q fun z=>z),q];simp⟩⟩
 by_cases hbe:b=e
 ·subst hbe;exact heo
 ·exact ⟨u,k b u hbe q⟩
end
def trk(h:Heap)(H:Hp):List Addr:=(List.range h.objs.size).filter fun a=>(H a).isSome
def znC(h:Heap)(H:Hp):Heap:=PySem.W.hideAll h (trk h H)
def zlP(h:Heap)(H:Hp):(znC h H).objs.size=h.objs.size:=PySem.W.hideAll_size _ _
def znB{h:Heap}{H:Hp}{b:Addr}{o:Obj}(e:h.get? b=some o)(n:H b=none):(znC h H).get? b=some o :=
 PySem.W.hideAll_get _ e fun hm=>by
  have q:(H b).isSome=true:=(ya2.mp hm).2;rw [n] at q;simp at q
def zpK{h:Heap}{H:Hp}{b:Addr}{o:Obj}(e:(znC h H).get? b=some o):h.get? b=some o/\H b=none:=by
 have e':h.get? b=some o:=PySem.W.of_hideAll (trk h H) e;refine ⟨e',?_⟩
 cases q:H b with
 | none=>rfl
 | some x =>
  have hm:b∈trk h H:=ya2.mpr ⟨yaE.mpr (yas e'),by simp [q]⟩;have z:(znC h H).get? b=none:=PySem.W.hideAll_none (trk h H) hm;rw [z] at e;cases e
def zqH(g h:Heap)(L:Addr):List (Addr×Obj):=(List.range h.objs.size).filterMap fun a=>if a=L\/(g.get? a).isSome=true then none else (h.get? a).map fun o=>(a,o)
def zco(g h:Heap)(L d:Addr):List (Addr×Obj):=(zqH g h L).filter fun p=>decide (p.1≠d)
end L2
namespace L2
open PySem PySem.Spec PyProof.Rows
structure Mod(K:PySem.W.Frag)(mg:Z6)(base:Heap):Prop where
 kin:K.In base
 glob:base.Ns mainGlobals mg
 blt:∃mb,base.Ns builtinsNs mb/\∀x:Str,x ≠ "__name__" -> mb x=bootBuiltins x
 nolimit:base.NoLimit
structure Cx where
 prog:Program
 w:World
 K:PySem.W.Frag
 mg:Str->Option Value
 base:Heap
 A:Around
 N:List Str
 s₀:Shared
 H₀:Hp
 env:Env
 outer:List Env
 stack:List Env
 ex:List Addr
 fn:Str->Bool
 calm:Bool
 pn:List (Addr×Obj)
 xe:Value->Shared->Prop
def frs(l:List Env):List Addr:=l.filterMap (·.frame)
abbrev Cx.fs(X:Cx):List Addr:=frs X.outer
def Vis(sc:Scope)(x:Str):Prop:=sc.names.lookup x=some .local\/sc.names.lookup x=some .cell\/sc.names.lookup x=some .free
def Loc(sc:Scope)(x:Str):Prop:=sc.names.lookup x=some .local\/sc.names.lookup x=some .cell
def zzf(env:Env)(h:Heap)(m:Z6)(x:Str)(u:Value):Prop :=
 (env.kindOf x=some .local/\m x=some u)\/((env.kindOf x=some .cell\/env.kindOf x=some .free)/\∃c,env.cells.lookup x=some c/\h.IsCell c (some u))
structure Cx.Ok(X:Cx):Prop where
 mod:Mod X.K X.mg X.base
 kind:X.env.scope.kind=.function
 glob:X.env.globals=mainGlobals
 blt:X.env.builtins=builtinsNs
 above:X.s₀.heap.objs.size<=X.env.locals
 inj:∀x y c,X.env.cells.lookup x=some c->X.env.cells.lookup y=some c->x=y
 has:∀x,(X.env.kindOf x=some .cell\/X.env.kindOf x=some .free)->∃c,X.env.cells.lookup x=some c
 cab:∀x c,X.fn x=true->X.env.cells.lookup x=some c->X.s₀.heap.objs.size<=c
 hd:X.calm=true->X.A.handled=none
 frames:X.A.frames=some X.stack
 stk:X.stack=X.outer\/(X.stack=X.env::X.outer/\X.env.frame=some X.env.locals)
 exf:∀b∈X.ex,b≠X.env.locals/\∀x c,X.env.cells.lookup x=some c->c≠b
 bs:∀b o,X.base.get? b=some o->X.s₀.heap.get? b=some o/\X.H₀ b=none
 bsz:X.base.objs.size<=X.s₀.heap.objs.size
 noex:∀b o,X.base.get? b=some o->b ∉ X.ex
 exfs:∀b∈X.ex,b ∉ X.fs
 funs:X.s₀.heap.FunFrames X.base X.outer
 frf:∀b∈X.fs,X.H₀ b=none
structure Inv(X:Cx)(pins:Z3)(σ:List (Option V))(H:Hp)(s:Shared):Prop where
 ok:X.Ok
 os:s.os=X.s₀.os
 bare:AllBare s.gens
 base:Un X.fs X.ex X.H₀ H X.s₀.heap s.heap
 loc:∃m,s.heap.Ns X.env.locals m/\∀(i:Nat) (x:Str) (v:V),X.N[i]?=some x->σ[i]?=some (some v)->Vis X.env.scope x->∃u,zbw v u/\zzf X.env s.heap m x u
 cell:∀x c,X.env.cells.lookup x=some c->∃v,s.heap.IsCell c v
 free:H X.env.locals=none
 freeC:∀x c,X.env.cells.lookup x=some c->H c=none
 pin:∀p∈X.pn++pins,s.heap.get? p.1=some p.2/\H p.1=none/\p.1≠X.env.locals/\p.1 ∉ X.fs/\∀v,p.2.data≠.cell v
 hok:HOk X.prog X.w H s.heap
 len:σ.length=X.N.length
section
variable{X:Cx}{pins:Z3}{σ:List (Option V)}{H H':Hp}{s:Shared}{h':Heap}
def Cx.Ok.nofr(ok:X.Ok){b:Addr}{o:Obj}(e:X.base.get? b=some o):b ∉ X.fs:=fun hb=>by
 have:=(ok.funs.mem hb).1;rw [e] at this;cases this
theorem Inv.bs(I:Inv X pins σ H s):∀b o,X.base.get? b=some o->s.heap.get? b=some o/\H b=none:=fun b o e =>
 ⟨I.base.keep b o (I.ok.bs b o e).1 (I.ok.bs b o e).2 (I.ok.nofr e) (I.ok.noex b o e),I.base.free b o (I.ok.bs b o e).1 (I.ok.bs b o e).2 (I.ok.noex b o e)⟩
def Inv.bk(I:Inv X pins σ H s):∀b o,X.base.get? b=some o->s.heap.get? b=some o:=fun b o e=>(I.bs b o e).1
theorem Inv.mod(I:Inv X pins σ H s):Mod X.K X.mg X.base:=I.ok.mod
def Inv.kIn(I:Inv X pins σ H s):X.K.In s.heap:=I.ok.mod.kin.keeps I.bk
theorem Inv.lt(I:Inv X pins σ H s):X.env.locals<s.heap.objs.size:=let ⟨_,hn,_⟩:=I.loc;hn.lt
def Inv.sz(I:Inv X pins σ H s):X.s₀.heap.objs.size<=s.heap.objs.size:=yah I.ok.above (ycP I.lt)
def Inv.nofs(I:Inv X pins σ H s){a:Addr}(h:s.heap.objs.size<=a):a ∉ X.fs:=fun hb=>by
 obtain ⟨_,o,ho,_⟩:=I.ok.funs.mem hb;exact absurd (yar (yas ho) (yah I.sz h)) (yaT _)
def Inv.cne(I:Inv X pins σ H s):∀x c,X.env.cells.lookup x=some c->c≠X.env.locals:=fun x c e z=>by
 obtain ⟨v,o,ho,hd⟩:=I.cell x c e;obtain ⟨m,⟨o',es,ep,ho',hd',_⟩,_⟩:=I.loc;rw [z,ho'] at ho;cases ho;rw [hd'] at hd;cases hd
theorem Inv.funs(I:Inv X pins σ H s):s.heap.FunFrames X.base X.outer:=by
 have all:∀(l:List Env),(∀b∈frs l,b∈X.fs)->X.s₀.heap.FunFrames X.base l->s.heap.FunFrames X.base l:=by
  intro l
  induction l with
  | nil=>intro _ _;trivial
  | cons env r ih =>
   intro hs hl;obtain ⟨hk,⟨L,o,hf,hn,ho,hd⟩,hr⟩:=hl;have hL:L∈X.fs:=hs L (by unfold frs;rw [ybi,hf];exact yat);obtain ⟨sl,e⟩:=I.base.slot L o ho (I.ok.frf L hL) hL fun z=>I.ok.exfs L z hL
   exact ⟨hk,⟨L,_,hf,hn,e,hd⟩,ih (fun b hb=>hs b (by unfold frs;rw [ybi,hf];exact yap _ hb)) hr⟩
 exact all X.outer (fun _ hb=>hb) I.ok.funs
theorem Inv.stack(I:Inv X pins σ H s):s.heap.FunFrames X.base X.stack:=by
 rcases I.ok.stk with e | ⟨e,hf⟩
 ·rw [e];exact I.funs
 ·rw [e];obtain ⟨m,hn,_⟩:=I.loc;refine .cons (by rw [I.ok.kind];decide) hf hn ?_ I.funs;exact Heap.get?_none_of_le (yah I.ok.bsz I.ok.above)
def Inv.stkSub(I:Inv X pins σ H s):∀b∈frs X.stack,b∈X.env.locals::X.fs:=fun b hb=>by
 rcases I.ok.stk with e | ⟨e,hf⟩
 ·rw [e] at hb;exact yap _ hb
 ·rw [e] at hb;unfold frs at hb;rwa [ybi,hf] at hb
def Inv.stkFree(I:Inv X pins σ H s):∀b∈frs X.stack,H b=none:=fun b hb=>by
 rcases yav.mp (I.stkSub b hb) with e | hb
 ·rw [e];exact I.free
 ·obtain ⟨_,o,ho,_⟩:=I.ok.funs.mem hb;exact I.base.free b o ho (I.ok.frf b hb) fun z=>I.ok.exfs b z hb
def Inv.step{g':Array GenState}{t':Nat}{d':Drawn}{ch:List Addr}(I:Inv X pins σ H s)
  (hch:∀b∈ch,(b∈X.ex\/X.s₀.heap.objs.size<=b)/\b≠X.env.locals/\(∀x c,X.env.cells.lookup x=some c->c≠b)/\∀p∈X.pn++pins,p.1≠b)
  (keep:∀b o,b≠X.env.locals->b ∉ X.fs->b ∉ ch->s.heap.get? b=some o->H b=none->h'.get? b=some o)
  (slot:∀b o,b≠X.env.locals->b∈X.fs->b ∉ ch->s.heap.get? b=some o->H b=none->∃sl,h'.get? b=some { o with slots:=sl }) (free:∀b o,b ∉ ch->s.heap.get? b=some o->H b=none->H' b=none)
  (there:∀b o,b ∉ ch->s.heap.get? b=some o->∃o',h'.get? b=some o')
  (tups:∀b xs,H b=some (.tup xs)->H' b=some (.tup xs)) (frzs:∀b o u,H b=some (.frz o u)->H' b=some (.frz o u)) (tbls:∀b ps,H b=some (.tbl ps)->∃more,H' b=some (.tbl (ps++more)))
  (ns:∀m,s.heap.Ns X.env.locals m->h'.Ns X.env.locals m) (hok:HOk X.prog X.w H' h') (hg:AllBare g') :
  Inv X pins σ H' { s with heap:=h',gens:=g',drawn:=d',toks:=t' }:=by
 have neL:∀b o,X.s₀.heap.get? b=some o->b≠X.env.locals:=fun b o e=>yaG (yar (yas e) I.ok.above)
 have neC:∀b o,X.s₀.heap.get? b=some o->b ∉ X.ex->b ∉ ch:=fun b o e hx hb=>by
  rcases (hch b hb).1 with z | z
  ·exact hx z
  ·exact absurd (yar (yas e) z) (yaT _)
 have cellK:∀x c,X.env.cells.lookup x=some c->∀v,s.heap.IsCell c v->h'.IsCell c v:=fun x c e v ⟨o,ho,hd⟩=>by
  have nch:c ∉ ch:=fun z=>(hch c z).2.2.1 x c e rfl
  by_cases hc:c∈X.fs
  ·obtain ⟨sl,q⟩:=slot c o (I.cne x c e) hc nch ho (I.freeC x c e);exact ⟨_,q,hd⟩
  ·exact ⟨o,keep c o (I.cne x c e) hc nch ho (I.freeC x c e),hd⟩
 refine ⟨I.ok,I.os,hg,⟨fun b o e n hb hx=>?_,fun b o e n hb hx=>?_,fun b o e n hx=>?_,fun b o e hx=>?_,fun b xs e=>tups b xs (I.base.tups b xs e),fun b o xs e=>frzs b o xs (I.base.frzs b o xs e),fun b ps e=>?_⟩,?_,fun x c e=>?_,?_,fun x c e=>?_,fun p hp=>?_,hok,I.len⟩
 ·exact keep b o (neL b o e) hb (neC b o e hx) (I.base.keep b o e n hb hx) (I.base.free b o e n hx)
 ·obtain ⟨sl,e1⟩:=I.base.slot b o e n hb hx;obtain ⟨sl',e2⟩:=slot b _ (neL b o e) hb (neC b o e hx) e1 (I.base.free b o e n hx);exact ⟨sl',e2⟩
 ·obtain ⟨o',e1⟩:=I.base.there b o e hx;exact free b o' (neC b o e hx) e1 (I.base.free b o e n hx)
 ·obtain ⟨o',e1⟩:=I.base.there b o e hx;exact there b o' (neC b o e hx) e1
 ·obtain ⟨m1,e1⟩:=I.base.tbls b ps e;obtain ⟨m2,e2⟩:=tbls b _ e1;exact ⟨m1++m2,by rw [e2,Array.append_assoc]⟩
 ·obtain ⟨m,hn,hl⟩:=I.loc;refine ⟨m,ns m hn,fun i x v e1 e2 e3=>?_⟩;obtain ⟨u,r,l⟩:=hl i x v e1 e2 e3;refine ⟨u,r,?_⟩
  rcases l with l | ⟨k,c,e,z⟩
  ·exact .inl l
  ·exact .inr ⟨k,c,e,cellK x c e _ z⟩
 ·obtain ⟨v,z⟩:=I.cell x c e;exact ⟨v,cellK x c e v z⟩
 ·obtain ⟨m,⟨o,_,_,ho,_⟩,_⟩:=I.loc;exact free _ o (fun z=>(hch _ z).2.1 rfl) ho I.free
 ·obtain ⟨v,o,ho,hd⟩:=I.cell x c e;exact free c o (fun z=>(hch c z).2.2.1 x c e rfl) ho (I.freeC x c e)
 ·obtain ⟨e,n,ne,nf,d⟩:=I.pin p hp;have nch:p.1 ∉ ch:=fun z=>(hch p.1 z).2.2.2 p hp rfl
  exact ⟨keep p.1 p.2 ne nf nch e n,free p.1 p.2 nch e n,ne,nf,d⟩
def Inv.un{t':Nat}(I:Inv X pins σ H s)(u:Un X.fs [] H H' s.heap h')(hok:HOk X.prog X.w H' h'):Inv X pins σ H' { s with heap:=h',toks:=t' }:=by
 obtain ⟨m,⟨o,es,ep,ho,r⟩,_⟩:=id I.loc;obtain ⟨sl,hL⟩:=u.any ho I.free (by simp)
 exact I.step (g':=s.gens) (d':=s.drawn) (ch:=[]) (fun _ z=>nomatch z) (fun b o _ hb _ e n=>u.keep b o e n hb (by simp)) (fun b o _ hb _ e n=>u.slot b o e n hb (by simp)) (fun b o _ e n=>u.free b o e n (by simp)) (fun b o _ e=>u.there b o e (by simp)) u.tups u.frzs u.tbls (fun m' hm=>by
  obtain ⟨o',es',ep',ho',r'⟩:=hm;rw [ho] at ho';cases ho'
  exact ⟨_,es',ep',hL,r'⟩) hok I.bare
def Inv.call{g':Array GenState}{t':Nat}{d':Drawn}{ch:List Addr}(I:Inv X pins σ H s)(u:Un (frs X.stack) ch H H' s.heap h')(hok:HOk X.prog X.w H' h')(hg:AllBare g')
  (hch:∀b∈ch,(b∈X.ex\/X.s₀.heap.objs.size<=b)/\b≠X.env.locals/\(∀x c,X.env.cells.lookup x=some c->c≠b)/\∀p∈X.pn++pins,p.1≠b) :
  Inv X pins σ H' { s with heap:=h',gens:=g',drawn:=d',toks:=t' }:=by
 obtain ⟨m,⟨o,es,ep,ho,r⟩,_⟩:=id I.loc;obtain ⟨sl,hL⟩:=u.any ho I.free fun z=>(hch _ z).2.1 rfl
 exact I.step (ch:=ch) hch (fun b o hL hb hc e n=>u.keep b o e n (fun z=>(yav.mp (I.stkSub b z)).elim hL hb) hc) (fun b o _ _ hc e n=>u.any e n hc) (fun b o hc e n=>u.free b o e n hc) (fun b o hc e=>u.there b o e hc) u.tups u.frzs u.tbls (fun m' hm=>by
  obtain ⟨o',es',ep',ho',r'⟩:=hm;rw [ho] at ho';cases ho'
  exact ⟨_,es',ep',hL,r'⟩) hok hg
def Inv.turned{t':Nat}{it:Addr}(I:Inv X pins σ H s)(k:∀b o,b≠it->s.heap.get? b=some o->h'.get? b=some o)(hn:H it=none)(hL:it≠X.env.locals)
  (h1:it∈X.ex\/X.s₀.heap.objs.size<=it) (h2:∀x c,X.env.cells.lookup x=some c->c≠it) (h3:∀p∈X.pn++pins,p.1≠it):Inv X pins σ H { s with heap:=h',toks:=t' }:=by
 have nit:∀b u,H b=some u->b≠it:=fun b u e z=>by rw [z,hn] at e;cases e
 refine I.step (g':=s.gens) (d':=s.drawn) (ch:=[it]) (fun b hb=>?_) (fun b o _ _ hc e _=>k b o (fun z=>hc (by simp [z])) e) (fun b o _ _ hc e _=>⟨o.slots,k b o (fun z=>hc (by simp [z])) e⟩) (fun _ _ _ _ n=>n)
  (fun b o hc e=>⟨o,k b o (fun z=>hc (by simp [z])) e⟩) (fun _ _ e=>e) (fun _ _ _ e=>e) (fun b ps e=>⟨#[],by rw [e];simp⟩) (fun m hm=>?_) (fun b u e=>?_) I.bare
 ·have e:b=it:=by simpa using hb
  subst e;exact ⟨h1,hL,h2,h3⟩
 ·obtain ⟨o,es,ep,ho,r⟩:=hm;exact ⟨o,es,ep,k _ o (Ne.symm hL) ho,r⟩
 ·refine (I.hok b u e).stay (fun c v hc q=>k c v ?_ q) (fun _ q=>q) fun _ _ q=>q
  rcases hc with z | z
  ·rw [z];exact nit b u e
  ·exact nit c _ z
def Inv.tok(I:Inv X pins σ H s)(t:Nat):Inv X pins σ H { s with toks:=t }:=I.un (h':=s.heap) (t':=t) Un.refl I.hok
theorem Inv.kept{t':Nat}(I:Inv X pins σ H s)(k:∀b u,s.heap.get? b=some u->h'.get? b=some u):Inv X pins σ H { s with heap:=h',toks:=t' }:=I.un (Un.kept k) (I.hok.kept k)
theorem Inv.laid{a:Addr}{o:HO}{t':Nat}(I:Inv X pins σ H s)(k:∀b u,s.heap.get? b=some u->h'.get? b=some u)(hp:s.heap.objs.size<=a)(new:zb3 X.prog X.w (upd H a o) h' a o) :
  Inv X pins σ (upd H a o) { s with heap:=h',toks:=t' }:=I.un (Un.laid k hp (I.hok.fresh hp)) (I.hok.laid k hp new)
theorem Inv.write{x e:Addr}{o:HO}{t':Nat}(I:Inv X pins σ H s)(mu:Mut (H x))(he:e=x\/H e=some (.own x))(k:∀b u,b≠e->s.heap.get? b=some u->h'.get? b=some u)(heo:∃u,h'.get? e=some u)
  (new:zb3 X.prog X.w (upd H x o) h' x o):Inv X pins σ (upd H x o) { s with heap:=h',toks:=t' }:=I.un (Un.write mu he k heo) (I.hok.write mu he k heo new)
def Inv.pins_of{pins':Z3}(I:Inv X pins σ H s)(h:∀p∈pins',s.heap.get? p.1=some p.2/\H p.1=none/\p.1≠X.env.locals/\p.1 ∉ X.fs/\∀v,p.2.data≠.cell v):Inv X pins' σ H s :=
 ⟨I.ok,I.os,I.bare,I.base,I.loc,I.cell,I.free,I.freeC,fun p hp=>(ybL.mp hp).elim (fun z=>I.pin p (ycB _ z)) (h p),I.hok,I.len⟩
def zgu{N:List Str}(hN:N.Nodup){i j:Nat}{x:Str}(a:N[i]?=some x)(b:N[j]?=some x):i=j:=by
 obtain ⟨h1,e1⟩:=yag.mp a;obtain ⟨h2,e2⟩:=yag.mp b;exact (List.getElem_inj hN).mp (e1.trans e2.symm)
def zgZ{M:Model}{A:Around}{E:Z5}{i:Nat}{x:Str}{v:V}{u:Value}{Q:Unit->Shared->Prop}(I:Inv X pins σ H s)(hN:X.N.Nodup)(hi:X.N[i]?=some x)(hx:Loc X.env.scope x)(r:zbw v u)
  (h:∀s',Inv X pins (σ.set i (some v)) H s'->(∃a,Heap.SameBut a s.heap s'.heap/\(a=X.env.locals\/X.env.cells.lookup x=some a))->Q () s') (hf:X.fn x=true\/X.env.scope.names.lookup x=some .local:=by first | exact .inl rfl | exact .inr rfl | assumption):wpAny M A (storeName X.env x u) Q E s:=by
 obtain ⟨m,hn,hl⟩:=id I.loc
 have hcls:(X.env.scope.kind == .class||(X.env.scope.kind == .module&&X.env.locals != X.env.globals))=false:=by rw [I.ok.kind];rfl
 have hiσ:i<σ.length:=by rw [I.len];exact (yag.mp hi).1
 have cne:=I.cne
 have tracked:∀{a:Addr} {h':Heap},(∃o,s.heap.get? a=some o/\H a=none)->Heap.SameBut a s.heap h'->HOk X.prog X.w H h':=fun {a h'} ha hs b ob e=>by
  obtain ⟨_,_,hfree⟩:=ha;refine (I.hok b ob e).stay (fun c w' hc q=>(hs.2 c ?_).trans q) (fun _ q=>q) fun _ _ q=>q
  rintro rfl
  rcases hc with rfl | hc
  ·rw [hfree] at e;cases e
  ·rw [hfree] at hc;cases hc
 rcases hx with hk | hk
 ·refine wpAny_storeName_local hk hn (fun h' hn' hs=>?_) hcls;obtain ⟨oL,_,_,hoL,_⟩:=id hn;refine h _ ⟨I.ok,I.os,I.bare,⟨fun b o e n hb hx=>?_,fun b o e n hb hx=>?_,I.base.free,fun b o e hx=>?_,I.base.tups,I.base.frzs,I.base.tbls⟩,⟨_,hn',fun j y v' e1 e2 e3=>?_⟩,fun y c e=>?_,I.free,I.freeC,fun p hp=>?_,tracked ⟨oL,hoL,I.free⟩ hs,by simpa using I.len⟩ ⟨_,hs,.inl rfl⟩
  ·exact (hs.2 b (yaG (yar (yas e) I.ok.above))).trans (I.base.keep b o e n hb hx)
  ·obtain ⟨sl,e1⟩:=I.base.slot b o e n hb hx;exact ⟨sl,(hs.2 b (yaG (yar (yas e) I.ok.above))).trans e1⟩
  ·obtain ⟨o',e1⟩:=I.base.there b o e hx;exact ⟨o',(hs.2 b (yaG (yar (yas e) I.ok.above))).trans e1⟩
  ·by_cases hj:j=i
   ·subst hj;rw [hi] at e1;cases e1;rw [yaA hiσ] at e2;cases e2;exact ⟨u,r,.inl ⟨hk,by simp⟩⟩
   ·rw [yaP (Ne.symm hj)] at e2;obtain ⟨u',r',q⟩:=hl j y v' e1 e2 e3;refine ⟨u',r',?_⟩
    rcases q with ⟨k,e⟩ | ⟨k,c,e,z⟩
    ·refine .inl ⟨k,?_⟩;have:y≠x:=fun e=>hj (zgu hN e1 (e ▸ hi))
     simp [this,e]
    ·exact .inr ⟨k,c,e,z.sameBut hs (cne y c e)⟩
  ·obtain ⟨w',z⟩:=I.cell y c e;exact ⟨w',z.sameBut hs (cne y c e)⟩
  ·obtain ⟨e,n,ne,nf,d⟩:=I.pin p hp;exact ⟨(hs.2 p.1 ne).trans e,n,ne,nf,d⟩
 ·have hfn:X.fn x=true:=by
   rcases hf with z | z
   ·exact z
   ·rw [z] at hk;cases hk
  obtain ⟨c,hc⟩:=I.ok.has x (.inl hk);obtain ⟨w',z⟩:=I.cell x c hc;refine wpAny_storeName_cell I.ok.kind hk hc z (fun h' hc' hs=>?_);obtain ⟨oc,hoc,hocd⟩:=id z;refine h { s with heap:=h' } ⟨I.ok,I.os,I.bare,⟨fun b o e n hb hx=>?_,fun b o e n hb hx=>?_,I.base.free,fun b o e hx=>?_,I.base.tups,I.base.frzs,I.base.tbls⟩,⟨m,hn.sameBut hs (Ne.symm (cne x c hc)),fun j y v' e1 e2 e3=>?_⟩,fun y c' e=>?_,I.free,I.freeC,fun p hp=>?_,tracked ⟨oc,hoc,I.freeC x c hc⟩ hs,by simpa using I.len⟩ ⟨c,hs,.inr hc⟩
  ·exact (hs.2 b (yaG (yar (yas e) (I.ok.cab x c hfn hc)))).trans (I.base.keep b o e n hb hx)
  ·obtain ⟨sl,e1⟩:=I.base.slot b o e n hb hx;exact ⟨sl,(hs.2 b (yaG (yar (yas e) (I.ok.cab x c hfn hc)))).trans e1⟩
  ·obtain ⟨o',e1⟩:=I.base.there b o e hx;exact ⟨o',(hs.2 b (yaG (yar (yas e) (I.ok.cab x c hfn hc)))).trans e1⟩
  ·by_cases hj:j=i
   ·subst hj;rw [hi] at e1;cases e1;rw [yaA hiσ] at e2;cases e2;exact ⟨u,r,.inr ⟨.inl hk,c,hc,hc'⟩⟩
   ·rw [yaP (Ne.symm hj)] at e2;obtain ⟨u',r',q⟩:=hl j y v' e1 e2 e3;refine ⟨u',r',?_⟩
    rcases q with q | ⟨k,c',e,z'⟩
    ·exact .inl q
    ·refine .inr ⟨k,c',e,z'.sameBut hs ?_⟩;rintro rfl;exact hj (zgu hN e1 (I.ok.inj _ _ _ e hc ▸ hi))
  ·by_cases hcc:c'=c
   ·subst hcc;exact ⟨_,hc'⟩
   ·obtain ⟨w2,z2⟩:=I.cell y c' e;exact ⟨w2,z2.sameBut hs hcc⟩
  ·obtain ⟨e,n,ne,nf,d⟩:=I.pin p hp;refine ⟨(hs.2 p.1 ?_).trans e,n,ne,nf,d⟩;intro q;rw [q,hoc] at e;have q':oc=p.2:=Option.some.inj e;exact d w' (by rw [<-q'];exact hocd)
def zdO{M:Model}{A:Around}{E:Z5}{i:Nat}{x:Str}{v:V}{u:Value}{Q:Unit->Shared->Prop}(I:Inv X pins σ H s)(hN:X.N.Nodup)(hi:X.N[i]?=some x)(hx:Loc X.env.scope x)(r:zbw v u)
  (h:∀s',Inv X pins (σ.set i (some v)) H s'->Q () s') (hf:X.fn x=true\/X.env.scope.names.lookup x=some .local:=by first | exact .inl rfl | exact .inr rfl | assumption):wpAny M A (storeName X.env x u) Q E s :=
 zgZ I hN hi hx r (fun s' I' _=>h s' I') hf
def Inv.call'{s':Shared}{ch:List Addr}(I:Inv X pins σ H s)(ho:s'.os=s.os)(u:Un (frs X.stack) ch H H' s.heap s'.heap)(hok:HOk X.prog X.w H' s'.heap)(hg:AllBare s'.gens)
  (hch:∀b∈ch,(b∈X.ex\/X.s₀.heap.objs.size<=b)/\b≠X.env.locals/\(∀x c,X.env.cells.lookup x=some c->c≠b)/\∀p∈X.pn++pins,p.1≠b):Inv X pins σ H' s':=by
 obtain ⟨h',g',d',t',o'⟩:=s';have e:o'=s.os:=ho;subst e;exact I.call (g':=g') (t':=t') (d':=d') u hok hg hch
end
abbrev XK:=Value->Option Addr->Hp->Prop
abbrev St:=List (Option V)
abbrev VK:=V->Hp->Prop
abbrev TE:=St->Hp->VK->Prop
abbrev TT:=St->Hp->(Bool->Hp->Prop)->Prop
abbrev TA:=St->Hp->(List V->Hp->Prop)->Prop
structure Ends where
 nx:St->Hp->Prop
 rt:VK
 bk:St->Hp->Prop:=fun _ _=>False
 ct:St->Hp->Prop:=fun _ _=>False
abbrev TS:=Ends->St->Hp->Prop
def EP(X:Cx)(pins:Z3)(σ:St)(Q:VK)(u:Value)(s':Shared):Prop:=∃v H',Inv X pins σ H' s'/\zbw v u/\Q v H'
def TP(X:Cx)(pins:Z3)(σ:St)(Q:Bool->Hp->Prop)(b:Bool)(s':Shared):Prop:=∃H',Inv X pins σ H' s'/\Q b H'
def AP(X:Cx)(pins:Z3)(σ:St)(Q:List V->Hp->Prop)(us:List Value)(s':Shared):Prop:=∃vs H',Inv X pins σ H' s'/\Vals vs us/\Q vs H'
def SP(X:Cx)(pins:Z3)(D:Ends)(f:Flow)(s':Shared):Prop :=
 match f with
 | .next=>∃σ' H',Inv X pins σ' H' s'/\D.nx σ' H'
 | .brk=>∃σ' H',Inv X pins σ' H' s'/\D.bk σ' H'
 | .cont=>∃σ' H',Inv X pins σ' H' s'/\D.ct σ' H'
 | .ret u=>∃v σ' H',Inv X pins σ' H' s'/\zbw v u/\D.rt v H'
def PE(X:Cx)(e:Expr)(t:TE):Prop :=
 ∀(pins:Z3) (s:Shared) (σ:St) (H:Hp) (Q:VK),Inv X pins σ H s->t σ H Q->wpAny (model X.prog X.w) X.A (eval e X.env) (EP X pins σ Q) X.xe s
def PT(X:Cx)(e:Expr)(t:TT):Prop :=
 ∀(pins:Z3) (s:Shared) (σ:St) (H:Hp) (Q:Bool->Hp->Prop),Inv X pins σ H s->t σ H Q->wpAny (model X.prog X.w) X.A (isTrue e X.env (eval e X.env)) (TP X pins σ Q) X.xe s
def PW(X:Cx)(e:Expr)(t:TT):Prop :=
 ∀(whole:Sem Value) (pins:Z3) (s:Shared) (σ:St) (H:Hp) (Q:Bool->Hp->Prop),Inv X pins σ H s->t σ H Q->wpAny (model X.prog X.w) X.A (isTrue e X.env whole) (TP X pins σ Q) X.xe s
def PW.pt{X:Cx}{e:Expr}{t:TT}(h:PW X e t):PT X e t:=h _
def PA(X:Cx)(es:List Expr)(t:TA):Prop :=
 ∀(pos:Pos) (pins:Z3) (s:Shared) (σ:St) (H:Hp) (Q:List V->Hp->Prop),Inv X pins σ H s->t σ H Q->wpAny (model X.prog X.w) X.A (spliced (backTo pos (starEach es X.env))) (AP X pins σ Q) X.xe s
def PS(X:Cx)(st:Stmt)(t:TS):Prop :=
 ∀(pins:Z3) (s:Shared) (σ:St) (H:Hp) (D:Ends),Inv X pins σ H s->t D σ H->wpAny (model X.prog X.w) X.A (exec st X.env) (SP X pins D) X.xe s
def PSs(X:Cx)(st:List Stmt)(t:TS):Prop :=
 ∀(pins:Z3) (s:Shared) (σ:St) (H:Hp) (D:Ends),Inv X pins σ H s->t D σ H->wpAny (model X.prog X.w) X.A (execs st X.env) (SP X pins D) X.xe s
def thn{α:Type}{t:Sem α}{Q Q':α->Shared->Prop}{M:Model}{A:Around}{E:Z5}{s:Shared}(h:wpAny M A t Q E s)(hQ:∀a s,Q a s->Q' a s):wpAny M A t Q' E s:=ybt h hQ fun _ _ x=>x
end L2
namespace L2
open PySem PySem.Spec PyProof.Rows
section
variable{X:Cx}
def zwo(i:Nat):TE:=fun σ H Q=>∃v,σ[i]?=some (some v)/\Q v H
def tC(v:V):TE:=fun _ H Q=>Q v H
def zdx{i:Nat}{x:Str}{pos:Pos}(hN:X.N[i]?=some x)(hv:Vis X.env.scope x)(hd:(x == ("__debug__":Str))=false:=by decide)(hcd:(x == ("__classdict__":Str))=false:=by decide):PE X (.Name x pos) (zwo i):=by
 intro pins s σ H Q I h;obtain ⟨v,e,h⟩:=h;obtain ⟨m,hn,hl⟩:=I.loc;obtain ⟨u,r,l⟩:=hl i x v hN e hv;have fin:EP X pins σ Q u s:=⟨v,H,I,r,h⟩
 rcases l with ⟨hk,hm⟩ | ⟨hk,c,hc,hcell⟩
 ·exact wpAny_Name (wpAny_loadName_local I.ok.kind hk hn hm fin) hd
 ·rcases hk with hk | hk
  ·exact wpAny_Name (wpAny_loadName_cell I.ok.kind hk hc hcell fin) hd
  ·exact wpAny_Name (wpAny_loadName_free I.ok.kind hk hc hcell fin hcd) hd
def zsi{i j pos}:PE X (.Constant (.int i) j pos) (tC (.int i)):=fun _ _ _ H _ I h=>wpAny_Constant_int ⟨.int i,H,I.tok _,⟨_,rfl⟩,h⟩
def zuT{b j pos}:PE X (.Constant (.bool b) j pos) (tC (.bl b)):=fun _ _ _ H _ I h=>Constant_bool ⟨.bl b,H,I,rfl,h⟩
def zsf{j pos}:PE X (.Constant .none j pos) (tC .non):=fun _ _ _ H _ I h=>Constant_none ⟨.non,H,I,rfl,h⟩
def zsa{x j pos}:PE X (.Constant (.str x) j pos) (tC (.str x)):=fun _ _ _ H _ I h=>Calls.Constant_str ⟨.str x,H,I.tok _,⟨_,rfl⟩,h⟩
def Gl(X:Cx)(x:Str):Prop:=X.env.kindOf x=some .globalImplicit
def zej{E:Z5}{pins:Z3}{s:Shared}{σ:St}{H:Hp}{x:Str}{u:Value}{pos:Pos}{Q:Z5}(I:Inv X pins σ H s)(hg:Gl X x)(hm:X.mg x=some u)(h:Q u s)
  (hd:(x == ("__debug__":Str))=false:=by decide):wpAny (model X.prog X.w) X.A (eval (.Name x pos) X.env) Q E s :=
 Calls.Name_function_global I.ok.kind hg (Calls.loadGlobal_global (by rw [I.ok.glob];exact I.mod.glob.keeps I.bk) hm h) hd
def zdz{E:Z5}{pins:Z3}{s:Shared}{σ:St}{H:Hp}{x:Str}{u:Value}{pos:Pos}{Q:Z5}(I:Inv X pins σ H s)(hg:Gl X x)(hm:X.mg x=none)(hv:bootBuiltins x=some u)(h:Q u s)
  (hn:x ≠ "__name__":=by decide) (hd:(x == ("__debug__":Str))=false:=by decide):wpAny (model X.prog X.w) X.A (eval (.Name x pos) X.env) Q E s:=by
 obtain ⟨mb,h1,h2⟩:=I.mod.blt;exact Calls.Name_function_global I.ok.kind hg (Calls.loadGlobal_builtin (by rw [I.ok.glob];exact I.mod.glob.keeps I.bk) hm (by rw [I.ok.blt];exact h1.keeps I.bk) ((h2 x hn).trans hv) h) hd
def zk6{x:Str}{v:V}{u:Value}{pos:Pos}(hg:Gl X x)(hm:X.mg x=some u)(r:zbw v u)(hd:(x == ("__debug__":Str))=false:=by decide):PE X (.Name x pos) (tC v) :=
 fun _ _ _ H _ I h=>zej I hg hm ⟨v,H,I,r,h⟩ hd
def zk9{x:Str}{v:V}{u:Value}{pos:Pos}(hg:Gl X x)(hm:X.mg x=none)(hv:bootBuiltins x=some u)(r:zbw v u)(hn:x ≠ "__name__":=by decide)(hd:(x == ("__debug__":Str))=false:=by decide):PE X (.Name x pos) (tC v) :=
 fun _ _ _ H _ I h=>zdz I hg hm hv ⟨v,H,I,r,h⟩ hn hd
variable{a b:Expr}{ta tb:TE}{pos:Pos}
def tB(t:TE):TT:=fun σ H Q=>t σ H fun x H1=>∃c,x=.bl c/\Q c H1
def zr2{e:Expr}{t:TE}(h:PE X e t)(he:∀whole,isTrue e X.env whole=(do let v ← whole;standAt e.pos;holding [v] (truthy v)):=by intro _;rfl):PT X e (tB t):=by
 intro pins s σ H Q I hw;refine isTrue_plain (thn (h pins s σ H _ I hw) fun v s1 ⟨x,H1,I1,r1,q1⟩=>?_) (he _);obtain ⟨d,rfl,q⟩:=q1;cases r1;exact ybj ⟨H1,I1,q⟩
variable{tA tB':TT}{zco:List Expr}
def zwr(t u:TT):TT:=fun σ H Q=>t σ H fun c H1=>if c=true then u σ H1 Q else Q false H1
def tOr(t u:TT):TT:=fun σ H Q=>t σ H fun c H1=>if c=true then Q true H1 else u σ H1 Q
def zwp(t:TT):TT:=fun σ H Q=>t σ H fun c H1=>Q (!c) H1
def zpq(ha:PT X a tA):PW X (.BoolOp .And [a] pos) tA:=by
 intro wh pins s σ H Q I h;refine isTrue_and (thn (ha pins s σ H Q I h) fun c s1 e=>?_)
 cases c with
 | true=>exact isTrue_and_nil e
 | false=>exact e
def zr0(ha:PT X a tA):PW X (.BoolOp .Or [a] pos) tA:=by
 intro wh pins s σ H Q I h;refine isTrue_or (thn (ha pins s σ H Q I h) fun c s1 e=>?_)
 cases c with
 | false=>exact isTrue_or_nil e
 | true=>exact e
def zr1(ha:PT X a tA)(hb:PW X (.BoolOp .And (b::zco) pos) tB'):PW X (.BoolOp .And (a::b::zco) pos) (zwr tA tB'):=by
 intro wh pins s σ H Q I h;refine isTrue_and (thn (ha pins s σ H _ I h) fun c s1 ⟨H1,I1,q1⟩=>?_)
 cases c with
 | true=>exact hb wh pins s1 σ H1 Q I1 q1
 | false=>exact ⟨H1,I1,q1⟩
def zuO(ha:PT X a tA)(hb:PW X (.BoolOp .Or (b::zco) pos) tB'):PW X (.BoolOp .Or (a::b::zco) pos) (tOr tA tB'):=by
 intro wh pins s σ H Q I h;refine isTrue_or (thn (ha pins s σ H _ I h) fun c s1 ⟨H1,I1,q1⟩=>?_)
 cases c with
 | true=>exact ⟨H1,I1,q1⟩
 | false=>exact hb wh pins s1 σ H1 Q I1 q1
def zr3(ha:PT X a tA):PT X (.UnaryOp .Not a pos) (zwp tA):=by
 intro pins s σ H Q I h;exact isTrue_not (ha pins s σ H (fun c H1=>Q (!c) H1) I h)
def zux(ta tb:TE):TE:=fun σ H Q=>ta σ H fun x H1=>∃c,x=.bl c/\if c=true then tb σ H1 Q else Q (.bl false) H1
def zyh(ta tb:TE):TE:=fun σ H Q=>ta σ H fun x H1=>∃c,x=.bl c/\if c=true then Q (.bl true) H1 else tb σ H1 Q
def zuo(ta:TE):TE:=fun σ H Q=>ta σ H fun x H1=>∃c,x=.bl c/\Q (.bl (!c)) H1
def zsd{op}{t:TE}(h:PE X a t):PE X (.BoolOp op [a] pos) t:=fun pins s σ H Q I hw=>BoolOp_one (h pins s σ H Q I hw)
def zsj(ha:PE X a ta)(hb:PE X (.BoolOp .And (b::zco) pos) tb):PE X (.BoolOp .And (a::b::zco) pos) (zux ta tb):=by
 intro pins s σ H Q I h;refine BoolOp_and (thn (ha pins s σ H _ I h) fun v s1 ⟨x,H1,I1,r1,q1⟩=>?_);obtain ⟨c,rfl,q1⟩:=q1;cases r1;refine ybj ?_
 cases c with
 | true=>exact hb pins s1 σ H1 Q I1 q1
 | false=>exact ⟨.bl false,H1,I1,rfl,q1⟩
def zuS(ha:PE X a ta)(hb:PE X (.BoolOp .Or (b::zco) pos) tb):PE X (.BoolOp .Or (a::b::zco) pos) (zyh ta tb):=by
 intro pins s σ H Q I h;refine BoolOp_or (thn (ha pins s σ H _ I h) fun v s1 ⟨x,H1,I1,r1,q1⟩=>?_);obtain ⟨c,rfl,q1⟩:=q1;cases r1;refine ybj ?_
 cases c with
 | false=>exact hb pins s1 σ H1 Q I1 q1
 | true=>exact ⟨.bl true,H1,I1,rfl,q1⟩
def zse(ha:PE X a ta):PE X (.UnaryOp .Not a pos) (zuo ta):=by
 intro pins s σ H Q I h;refine UnaryOp_ (thn (ha pins s σ H _ I h) fun v s1 ⟨x,H1,I1,r1,q1⟩=>?_);obtain ⟨c,rfl,q1⟩:=q1;cases r1;exact not_of (ybj ⟨.bl (!c),H1,I1,rfl,q1⟩)
def tIf(t:TT)(ta tb:TE):TE:=fun σ H Q=>t σ H fun c H1=>if c=true then ta σ H1 Q else tb σ H1 Q
def zm8{c:Expr}(hc:PT X c tA)(ha:PE X a ta)(hb:PE X b tb):PE X (.IfExp c a b pos) (tIf tA ta tb):=by
 intro pins s σ H Q I h;refine wpAny_IfExp (thn (hc pins s σ H _ I h) fun d s1 ⟨H1,I1,q1⟩=>?_)
 cases d with
 | true=>exact ha pins s1 σ H1 Q I1 q1
 | false=>exact hb pins s1 σ H1 Q I1 q1
end
end L2
namespace L2
open PySem PySem.Spec PyProof.Rows
def SqL(K:PySem.W.Frag)(H:Hp)(a:Addr)(xs:List V):Prop :=
 Rd H a (.lst xs) ∨
  ∃(o:Obj) (its:Array Value) (n:Nat),K.lookup a=some o/\o.cls=.type "list" /\ o.dict=none/\o.data=.seq its n/\its.size<=sizeLine/\Vals xs its.toList
def SqT(K:PySem.W.Frag)(H:Hp)(a:Addr)(xs:List V):Prop :=
 Rd H a (.tup xs) ∨
  ∃(o:Obj) (its:Array Value) (n:Nat),K.lookup a=some o/\o.cls=.type "tuple" /\ o.data=.seq its n/\its.size<=sizeLine/\Vals xs its.toList
def zze:Value->Option V
 | .none=>some .non
 | .bool b=>some (.bl b)
 | .int i _=>some (.int i)
 | .str x _=>some (.str x)
 | .bytes b _=>some (.byt b)
 | .float b _=>some (.flt b)
 | .ref a=>some (.ref a)
 | .type n=>some (.ty n)
 | _=>none
def zbw.abs{x:V}{u:Value}(r:zbw x u):zze u=some x:=by
 cases x with
 | non=>cases r;rfl
 | bl _=>cases r;rfl
 | int _=>obtain ⟨t,rfl⟩:=r;rfl
 | str _=>obtain ⟨t,rfl⟩:=r;rfl
 | byt _=>obtain ⟨t,rfl⟩:=r;rfl
 | flt _=>obtain ⟨t,rfl⟩:=r;rfl
 | ref _=>cases r;rfl
 | ty _=>cases r;rfl
theorem zbw.inj{x y:V}{u:Value}(r:zbw x u)(q:zbw y u):x=y:=Option.some.inj (r.abs.symm.trans q.abs)
theorem Vals.inj:∀{xs ys:List V} {us:List Value},Vals xs us->Vals ys us->xs=ys
 | _,_,_,.nil,.nil=>rfl
 | _,_,_,.cons r t,.cons r' t'=>by rw [r.inj r',Vals.inj t t']
section
variable{X:Cx}{pins:Z3}{σ:St}{H:Hp}{s:Shared}{a:Addr}{xs ys:List V}
def SqL.of{K:PySem.W.Frag}(h:H a=some (.lst xs)):SqL K H a xs:=.inl (.inl h)
def SqT.of{K:PySem.W.Frag}(h:H a=some (.tup xs)):SqT K H a xs:=.inl (.inl h)
def Inv.list(I:Inv X pins σ H s)(h:SqL X.K H a xs):∃its:List Value,Vals xs its/\PlainL s.heap a its.toArray/\xs.length<=sizeLine:=by
 rcases h with h | ⟨o,its,n,hk,hc,hd,hs,hz,r⟩
 ·obtain ⟨z,its,n,r,e⟩:=h.ok I.hok;exact ⟨its,r,⟨_,n,e,rfl,rfl,rfl⟩,z⟩
 ·refine ⟨its.toList,r,⟨o,n,I.kIn a o hk,hc,hd,by simpa using hs⟩,?_⟩;have e:=r.length;simp only [ycH] at e;omega
def Inv.tuple(I:Inv X pins σ H s)(h:SqT X.K H a xs):∃its:List Value,Vals xs its/\IsTup s.heap a its.toArray/\xs.length<=sizeLine:=by
 rcases h with h | ⟨o,its,n,hk,hc,hs,hz,r⟩
 ·obtain ⟨z,its,r,p⟩:=h.ok I.hok;exact ⟨its,r,p,z⟩
 ·refine ⟨its.toList,r,⟨o,I.kIn a o hk,hc,n,by simpa using hs⟩,?_⟩;have e:=r.length;simp only [ycH] at e;omega
def Inv.list_inj(I:Inv X pins σ H s)(h:SqL X.K H a xs)(h':SqL X.K H a ys):xs=ys:=by
 obtain ⟨its,r,⟨o,n,e,_,_,d⟩,_⟩:=I.list h;obtain ⟨its',r',⟨o',n',e',_,_,d'⟩,_⟩:=I.list h';rw [e] at e';cases e';rw [d] at d'
 injection d' with d1 _
 have:its=its':=by simpa using congrArg Array.toList d1
 subst this;exact r.inj r'
def Inv.tuple_inj(I:Inv X pins σ H s)(h:SqT X.K H a xs)(h':SqT X.K H a ys):xs=ys:=by
 obtain ⟨its,r,⟨o,e,_,n,d⟩,_⟩:=I.tuple h;obtain ⟨its',r',⟨o',e',_,n',d'⟩,_⟩:=I.tuple h';rw [e] at e';cases e';rw [d] at d'
 injection d' with d1 _
 have:its=its':=by simpa using congrArg Array.toList d1
 subst this;exact r.inj r'
end
section
variable{X:Cx}{pins:Z3}{σ:St}{H:Hp}{s:Shared}{E:Z5}
end
section
variable{X:Cx}{st:Stmt}{zco:List Stmt}{t u:TS}{e:Expr}{te:TE}{pos:Pos}
def zrg:TS:=fun D σ H=>D.nx σ H
def zye(t u:TS):TS:=fun D σ H=>t { D with nx:=u D } σ H
def zps:PSs X [] zrg:=fun _ _ σ H _ I h=>ycI ⟨σ,H,I,h⟩
def zmY(h1:PS X st t)(h2:PSs X zco u):PSs X (st::zco) (zye t u):=by
 intro pins s σ H D I h;refine wpAny_execs_cons (thn (h1 pins s σ H { D with nx:=u D } I h) fun f s1 q=>?_)
 cases f with
 | next =>
  obtain ⟨σ',H',I',q⟩:=q;exact h2 pins s1 σ' H' D I' q
 | ret v=>exact q
 | brk=>exact q
 | cont=>exact q
def zpr(h1:PS X st t):PSs X [st] t:=by
 intro pins s σ H D I h;refine wpAny_execs_cons (thn (h1 pins s σ H D I h) fun f s1 q=>?_)
 cases f with
 | next=>exact ycI q
 | ret v=>exact q
 | brk=>exact q
 | cont=>exact q
def zri:TS:=fun D σ H=>D.bk σ H
def zpv:PS X (.Pass pos) zrg:=fun _ _ σ H _ I h=>wpAny_Pass ⟨σ,H,I,h⟩
def zm0:PS X (.Break pos) zri:=fun _ _ σ H _ I h=>wpAny_Break ⟨σ,H,I,h⟩
def Inv.quiet{pins:Z3}{σ:St}{H:Hp}{s:Shared}(I:Inv X pins σ H s):interactive X.env=false:=by simp [interactive,I.ok.kind]
def zut(te:TE):TS:=fun D σ H=>te σ H fun _ H1=>D.nx σ H1
def zie(he:PE X e te)(hs:swapsWith e none pos.line X.env=pure false:=by rfl):PS X (.Expr e pos) (zut te):=by
 intro pins s σ H D I h;exact wpAny_Expr_any (thn (he pins s σ H _ I h) fun v s1 ⟨x,H1,I1,r1,q1⟩=>⟨σ,H1,I1,q1⟩) I.quiet hs
def zyg(te:TE):TS:=fun D σ H=>te σ H D.rt
def zkX(he:PE X e te):PS X (.Return (some e) pos) (zyg te):=by
 intro pins s σ H D I h;exact wpAny_Return_some (thn (he pins s σ H _ I h) fun v s1 ⟨x,H1,I1,r1,q1⟩=>⟨x,σ,H1,I1,r1,q1⟩)
def zun:TS:=fun D _ H=>D.rt .non H
def zpu:PS X (.Return none pos) zun:=fun _ _ σ H _ I h=>wpAny_Return_none ⟨.non,σ,H,I,rfl,h⟩
def zyj(c:TT)(t u:TS):TS:=fun D σ H=>c σ H fun b H1=>if b=true then t D σ H1 else u D σ H1
def zuQ{c:Expr}{a b:List Stmt}{tc:TT}(hc:PT X c tc)(ha:PSs X a t)(hb:PSs X b u):PS X (.If c a b pos) (zyj tc t u):=by
 intro pins s σ H D I h;refine wpAny_If (thn (hc pins s σ H _ I h) fun d s1 ⟨H1,I1,q1⟩=>?_)
 cases d with
 | true=>exact ha pins s1 σ H1 D I1 q1
 | false=>exact hb pins s1 σ H1 D I1 q1
end
abbrev TG:=V->St->Hp->(St->Hp->Prop)->Prop
abbrev TGs:=List V->St->Hp->(St->Hp->Prop)->Prop
def PG(X:Cx)(target:Expr)(t:TG):Prop :=
 ∀(pins:Z3) (s:Shared) (σ:St) (H:Hp) (v:V) (u:Value) (Q:St->Hp->Prop),Inv X pins σ H s->zbw v u->t v σ H Q →
  wpAny (model X.prog X.w) X.A (assign target X.env u) (fun _ s'=>∃σ' H',Inv X pins σ' H' s'/\Q σ' H') X.xe s
def PGs(X:Cx)(ts:List Expr)(t:TGs):Prop :=
 ∀(pins:Z3) (s:Shared) (σ:St) (H:Hp) (vs:List V) (us:List Value) (Q:St->Hp->Prop),Inv X pins σ H s->Vals vs us->t vs σ H Q →
  wpAny (model X.prog X.w) X.A (assignInOrder ((assignEach ts X.env).map (·.2)) us) (fun _ s'=>∃σ' H',Inv X pins σ' H' s'/\Q σ' H') X.xe s
abbrev TSet:=V->V->V->Hp->(Hp->Prop)->Prop
def zxD(X:Cx)(t:TSet):Prop :=
 ∀(pins:Z3) (s:Shared) (σ:St) (H:Hp) (o i v:V) (ov iv u:Value) (Q:Hp->Prop),Inv X pins σ H s->zbw o ov->zbw i iv->zbw v u->t o i v H Q →
  wpAny (model X.prog X.w) X.A (setItem ov iv u) (fun _ s'=>∃H',Inv X pins σ H' s'/\Q H') X.xe s
abbrev TIp:=V->V->Hp->VK->Prop
def PIp(X:Cx)(op:Operator)(t:TIp):Prop :=
 ∀(pins:Z3) (s:Shared) (σ:St) (H:Hp) (x y:V) (v u:Value) (Q:VK),Inv X pins σ H s->zbw x v->zbw y u->t x y H Q →
  wpAny (model X.prog X.w) X.A (inplaceOp op v u) (EP X pins σ Q) X.xe s
section
variable{X:Cx}{pos:Pos}
def zjW(i:Nat):TG:=fun v σ H Q=>Q (σ.set i (some v)) H
def zk4{i:Nat}{x:Str}(hN:X.N.Nodup)(hi:X.N[i]?=some x)(hx:Loc X.env.scope x)(hf:X.fn x=true\/X.env.scope.names.lookup x=some .local:=by first | exact .inl rfl | exact .inr rfl | assumption):PG X (.Name x pos) (zjW i):=by
 intro pins s σ H v u Q I r h;exact wpAny_assign_Name (zdO I hN hi hx r (fun s' I'=>⟨_,H,I',h⟩) hf)
def zy6:TGs:=fun vs σ H Q=>vs=[]/\Q σ H
def zvs(t:TG)(u:TGs):TGs:=fun vs σ H Q=>∃v r,vs=v::r/\t v σ H fun σ' H'=>u r σ' H' Q
def zpC:PGs X [] zy6:=by
 intro pins s σ H vs us Q I r h;obtain ⟨e,h⟩:=h;subst e;cases r;exact assignInOrder_nil ⟨σ,H,I,h⟩
def zm5{e:Expr}{es:List Expr}{t:TG}{u:TGs}(h1:PG X e t)(h2:PGs X es u)
  (hs:(assignEach (e::es) X.env).map (·.2)=assign e X.env::(assignEach es X.env).map (·.2):=by rfl):PGs X (e::es) (zvs t u):=by
 intro pins s σ H vs us Q I r h;obtain ⟨v,vr,e1,h⟩:=h;subst e1
 cases r with
 | cons r rr =>
  rw [hs];refine assignInOrder_cons (thn (h1 pins s σ H _ _ _ I r h) fun _ s1 ⟨σ1,H1,I1,q1⟩=>?_);exact h2 pins s1 σ1 H1 _ _ Q I1 rr q1
def zy4(K:PySem.W.Frag)(n:Nat)(t:TGs):TG:=fun v σ H Q=>∃a xs,v=.ref a/\SqT K H a xs/\xs.length=n/\t xs σ H Q
def zr7{es:List Expr}{k:Nat}{t:TGs}{n:Nat}(hc:X.calm=true)(h:PGs X es t)
  (hn:(assignEach es X.env).length=n:=by rfl) (hst:(assignEach es X.env).findIdx? (·.1)=none:=by rfl):PG X (.Tuple es k pos) (zy4 X.K n t):=by
 intro pins s σ H v u Q I r hw;obtain ⟨a,xs,e1,hq,hl,hw⟩:=hw;subst e1;cases r;obtain ⟨its,rv,ht,hz⟩:=I.tuple hq;refine assign_Tuple_tuple (I.ok.hd hc) ht (by simp [hn,<-hl,rv.length]) hst fun h' hx=>?_
 have I1:Inv X pins σ H { s with heap:=h' }:=I.kept (t':=s.toks) fun b o e=>hx b o (yaG (yas e)) e
 exact h pins _ σ H xs _ Q I1 (by simpa using rv) hw
def zy5(to ti:TE)(t:TSet):TG:=fun v σ H Q=>to σ H fun o H1=>ti σ H1 fun i H2=>t o i v H2 fun H3=>Q σ H3
def zr8{o i:Expr}{to ti:TE}{t:TSet}(ho:PE X o to)(hi:PE X i ti)(hs:zxD X t)
  (ha:∀v,assign (.Subscript o i pos) X.env v=(do
   let ov ← holding [v] (eval o X.env)
   let iv ← holding [v,ov] (eval i X.env)
   standAt pos
   holding [v,ov,iv] (setItem ov iv v)
   release [v,ov,iv] []):=by intro _;rfl):PG X (.Subscript o i pos) (zy5 to ti t):=by
 intro pins s σ H v u Q I r h;rw [ha];refine yac (yb2 (thn (ho pins s σ H _ I h) fun ov s1 ⟨x,H1,I1,r1,q1⟩=>?_));refine yac (yb2 (thn (hi pins s1 σ H1 _ I1 q1) fun iv s2 ⟨y,H2,I2,r2,q2⟩=>?_));refine yac (wpAny_standAt (yac (yb2 (thn (hs pins s2 σ H2 x y v ov iv u _ I2 r1 r2 r q2) fun _ s3 ⟨H3,I3,q3⟩=>?_))));exact wpAny_release ⟨σ,H3,I3,q3⟩
def zoX(te:TE)(g:TG):TS:=fun D σ H=>te σ H fun x H1=>g x σ H1 D.nx
def zoj{tg e:Expr}{te:TE}{g:TG}(he:PE X e te)(hg:PG X tg g)(hs:swapsWithSole [tg] e pos.line X.env=pure false:=by rfl)(hw:swappedStores [tg] e X.env=pure none:=by rfl)
  (h1:(assignEach [tg] X.env).map (·.2)=[assign tg X.env]:=by rfl):PS X (.Assign [tg] e pos) (zoX te g):=by
 intro pins s σ H D I h;refine wpAny_Assign_stores (thn (he pins s σ H _ I h) fun v s1 ⟨x,H1,I1,r1,q1⟩=>?_) hs hw;rw [h1];exact thn (hg pins s1 σ H1 x v _ I1 r1 q1) fun _ s2 q=>q
def zkW{i:Nat}{x:Str}{e:Expr}{te:TE}{pos':Pos}(hN:X.N.Nodup)(hi:X.N[i]?=some x)(hx:Loc X.env.scope x)(he:PE X e te)(hs:swapsWith e (some (.Name x pos')) pos.line X.env=pure false:=by rfl)(hf:X.fn x=true\/X.env.scope.names.lookup x=some .local:=by first | exact .inl rfl | exact .inr rfl | assumption) :
  PS X (.Assign [.Name x pos'] e pos) (zoX te (zjW i)):=by
 intro pins s σ H D I h;refine wpAny_Assign_Name (thn (he pins s σ H _ I h) fun v s1 ⟨y,H1,I1,r1,q1⟩=>?_) hs;exact zdO I1 hN hi hx r1 (fun s2 I2=>⟨_,H1,I2,q1⟩) hf
def zzm(i j:Nat)(ta:TA):TS:=fun D σ H=>ta σ H fun vs H1=>∃v w,vs=[v,w]/\D.nx ((σ.set i (some v)).set j (some w)) H1
def zyl(i:Nat)(te:TE)(ti:TIp):TS:=fun D σ H=>∃x,σ[i]?=some (some x)/\te σ H fun y H1=>ti x y H1 fun z H2=>D.nx (σ.set i (some z)) H2
def zr5{i:Nat}{x:Str}{e:Expr}{te:TE}{op:Operator}{ti:TIp}{pos':Pos}(hN:X.N.Nodup)(hi:X.N[i]?=some x)(hx:Loc X.env.scope x)(he:PE X e te)(ho:PIp X op ti)(hf:X.fn x=true\/X.env.scope.names.lookup x=some .local:=by first | exact .inl rfl | exact .inr rfl | assumption) :
  PS X (.AugAssign (.Name x pos') op e pos) (zyl i te ti):=by
 intro pins s σ H D I h;obtain ⟨v,e1,h⟩:=h;obtain ⟨m,hn,hl⟩:=I.loc
 have vis:Vis X.env.scope x:=by rcases hx with k | k;exact .inl k;exact .inr (.inl k)
 obtain ⟨u,r,l⟩:=hl i x v hi e1 vis;refine wpAny_AugAssign_Name ?_
 have go:wpAny (model X.prog X.w) X.A (eval e X.env) (fun w s₂=>wpAny (model X.prog X.w) X.A (inplaceOp op u w) (fun r s₃=>wpAny (model X.prog X.w) X.A (storeName X.env x r) (fun _=>SP X pins D .next) X.xe s₃) X.xe s₂) X.xe s:=by
  refine thn (he pins s σ H _ I h) fun w s1 ⟨y,H1,I1,r1,q1⟩=>?_
  refine thn (ho pins s1 σ H1 v y u w _ I1 r r1 q1) fun z s2 ⟨zv,H2,I2,r2,q2⟩=>?_
  exact zdO I2 hN hi hx r2 (fun s3 I3=>⟨_,H2,I3,q2⟩) hf
 rcases l with ⟨hk,hm⟩ | ⟨hk,c,hc,hcell⟩
 ·exact wpAny_loadName_local I.ok.kind hk hn hm go
 ·rcases hk with hk | hk
  ·exact wpAny_loadName_cell I.ok.kind hk hc hcell go
  ·rcases hx with k | k
   ·have:X.env.scope.names.lookup x=some .free:=hk;rw [k] at this;cases this
   ·have:X.env.scope.names.lookup x=some .free:=hk;rw [k] at this;cases this
end
section
variable{X:Cx}{pos:Pos}
end
structure It where
 go:Nat->Hp->Prop
 yld:Nat->Hp->V->Hp->Prop
 stop:Nat->Hp->Prop
def zmr(X:Cx)(pins:Z3)(H:Hp)(b:Addr):Prop :=
 H b=none/\b≠X.env.locals/\b ∉ X.fs/\(b∈X.ex\/X.s₀.heap.objs.size<=b)/\(∀x c,X.env.cells.lookup x=some c->c≠b)/\∀p∈X.pn++pins,p.1≠b
def Inv.fpOk{X:Cx}{pins:Z3}{σ:St}{H H':Hp}{s:Shared}{b:Addr}(I:Inv X pins σ H s)(hb:s.heap.objs.size<=b)(hn:H' b=none):zmr X pins H' b:=by
 refine ⟨hn,ya6 (yar I.lt hb),I.nofs hb,.inr (yah I.sz hb),fun x c e z=>?_,fun p hp z=>?_⟩
 ·obtain ⟨v,q⟩:=I.cell x c e;exact absurd (yar q.lt (by rw [z];exact hb)) (yaT _)
 ·exact absurd (yar (yas (I.pin p hp).1) (by rw [z];exact hb)) (yaT _)
structure Turn(P:Program)(w:World)(K:PySem.W.Frag)(tg:Expr)(J:It)(fp:List Addr)(it:Addr)(tn:Nat->Heap->Prop):Prop where
 mem:it∈fp
 obj:∀i h,tn i h->∀b∈fp,∃o,h.get? b=some o/\∀v,o.data≠.cell v
 keep:∀i h h',tn i h->(∀b∈fp,∀o,h.get? b=some o->h'.get? b=some o)->tn i h'
 item:∀(X:Cx),X.prog=P->X.w=w->X.K=K->X.calm=true->∀(i:Nat) (pins:Z3) (s:Shared) (σ:St) (H:Hp) (E:Z5),Inv X pins σ H s->(∀b∈fp,zmr X pins H b)->tn i s.heap->J.go i H →
  wpAny (model P w) X.A (pyNext (.ref it)) (fun r s1=>∃u,r=some u ∧
   wpAny (model P w) X.A (letOwnedTupleGo tg (.ref it) u) (fun _ s2=>∃x H',Inv X pins σ H' s2/\zbw x u/\J.yld i H x H'/\tn (i+1) s2.heap/\∀b∈fp,H' b=none) E s1) E s
 done:∀(X:Cx),X.prog=P->X.w=w->X.K=K->X.calm=true->∀(i:Nat) (pins:Z3) (s:Shared) (σ:St) (H:Hp) (E:Z5),Inv X pins σ H s->(∀b∈fp,zmr X pins H b)->tn i s.heap->J.stop i H →
  wpAny (model P w) X.A (pyNext (.ref it)) (fun r s1=>r=none/\Inv X pins σ H s1) E s
 self:∀(A:Around) (i:Nat) (s:Shared) (Q:Z5) (E:Z5),tn i s.heap->Q (.ref it) s->wpAny (model P w) A (pyIter (.ref it)) Q E s
abbrev TI:=St->Hp->(It->Hp->Prop)->Prop
def PIE(X:Cx)(pins:Z3)(σ:St)(tg:Expr)(R:It->Hp->Prop)(itv:Value)(s2:Shared):Prop :=
 ∃(it:Addr) (fp:List Addr) (tn:Nat->Heap->Prop) (J:It) (H':Hp),itv=.ref it/\Inv X pins σ H' s2/\Turn X.prog X.w X.K tg J fp it tn/\tn 0 s2.heap/\(∀b∈fp,zmr X pins H' b)/\R J H'
def PI(X:Cx)(tg iter:Expr)(wi:TI):Prop :=
 ∀(pins:Z3) (s:Shared) (σ:St) (H:Hp) (R:It->Hp->Prop),Inv X pins σ H s->wi σ H R →
  wpAny (model X.prog X.w) X.A (eval iter X.env) (fun v s1=>wpAny (model X.prog X.w) X.A (pyIter v) (PIE X pins σ tg R) X.xe s1) X.xe s
def znD {M : Model} {A : Around} {E : Z5} {s : Shared} {tg : Expr} {it : Addr} {u : Value} {o : Obj} {n : String} {vs : Array Value} {Q : Unit -> Shared -> Prop} (ho : s.heap.get? it = some o) (hc : o.cls = .type n) (hd : o.data = .fields vs)
    (hn : ["enumerate", "zip", "dict_itemiterator", "dict_reverseitemiterator", "odict_iterator", "itertools.zip_longest", "itertools.pairwise"].contains n = false) (hQ : Q () s) : wpAny M A (letOwnedTupleGo tg (.ref it) u) Q E s := by
  unfold letOwnedTupleGo
  cases tg <;> first
    | exact yaj hQ
    | (cases u <;> first
        | exact yaj hQ
        | (refine yac (wpAny_load ho ?_)
           rw [hc, hd];show wpAny M A (if (["enumerate", "zip", "dict_itemiterator", "dict_reverseitemiterator", "odict_iterator", "itertools.zip_longest", "itertools.pairwise"].contains n && vs[0]? == some (rawInt _)) = true then _ else _) Q E s;rw [if_neg (by intro h; rw [hn, Bool.false_and] at h; cases h)]
           exact yaj hQ))
def Itl(K:PySem.W.Frag)(a:Addr):It :=
 ⟨fun i H=>∃xs x,SqL K H a xs/\xs[i]?=some x,fun i H x H'=>H'=H/\∀xs,SqL K H a xs->xs[i]?=some x,fun i H=>∃xs,SqL K H a xs/\xs.length<=i⟩
def Itt(K:PySem.W.Frag)(a:Addr):It :=
 ⟨fun i H=>∃xs x,SqT K H a xs/\xs[i]?=some x,fun i H x H'=>H'=H/\∀xs,SqT K H a xs->xs[i]?=some x,fun i H=>∃xs,SqT K H a xs/\xs.length<=i⟩
def Itr(lo:Int)(n:Nat):It:=⟨fun i _=>i<n,fun i H x H'=>H'=H/\x=.int (lo+i),fun i _=>n<=i⟩
def zko{P:Program}{w:World}{K:PySem.W.Frag}{tg:Expr}(a it:Addr):Turn P w K tg (Itl K a) [it] it (fun i h=>h.IsListIter it a i) where
 mem:=by simp
 obj:=fun i h st b hb=>by
  have e:b=it:=by simpa using hb
  subst e;obtain ⟨o,e,c,d⟩:=st;exact ⟨o,e,fun v z=>by rw [d] at z;cases z⟩
 keep:=fun i h h' st k=>st.at fun o e=>k it (by simp) o e
 item:=by
  intro X hP hw hK hc i pins s σ H E I hf st hg;subst hP hw hK;obtain ⟨xs,x,hq,hx⟩:=hg;obtain ⟨its,rv,p,hz⟩:=I.list hq;obtain ⟨u,hu,ru⟩:=rv.get hx;obtain ⟨f0,f1,f2,f3,f4,f5⟩:=hf it (by simp);refine wpAny_pyNext_list_item st p.isList (x:=u) (by simpa using hu) fun h' st' sb=>?_
  have I1:Inv X pins σ H { s with heap:=h' }:=I.turned (t':=s.toks) (fun b o hb e=>(sb.2 b hb).trans e) f0 f1 f3 f4 f5;obtain ⟨o,e,c,d⟩:=id st';exact ⟨u,rfl,znD (s:={ s with heap:=h' }) e c d (by decide) ⟨x,H,I1,ru,⟨rfl,fun ys hy=>by rw [I.list_inj hy hq];exact hx⟩,st',fun b hb=>(hf b hb).1⟩⟩
 done:=by
  intro X hP hw hK hc i pins s σ H E I hf st hg;subst hP hw hK;obtain ⟨xs,hq,hx⟩:=hg;obtain ⟨its,rv,p,hz⟩:=I.list hq;obtain ⟨f0,f1,f2,f3,f4,f5⟩:=hf it (by simp);have hl:=rv.length;exact wpAny_pyNext_list_end (I.ok.hd hc) st p.isList (by simp;omega) fun h' eb=>⟨rfl,I.turned (t':=s.toks) (fun b o hb e=>eb b o hb e) f0 f1 f3 f4 f5⟩
 self:=fun _ _ _ _ _ st h=>wpAny_pyIter_listiter st h
def zjw{P:Program}{w:World}{K:PySem.W.Frag}{tg:Expr}(a it:Addr):Turn P w K tg (Itt K a) [it] it (fun i h=>h.IsTupleIter it a i) where
 mem:=by simp
 obj:=fun i h st b hb=>by
  have e:b=it:=by simpa using hb
  subst e;obtain ⟨o,e,c,d⟩:=st;exact ⟨o,e,fun v z=>by rw [d] at z;cases z⟩
 keep:=fun i h h' st k=>st.at fun o e=>k it (by simp) o e
 item:=by
  intro X hP hw hK hc i pins s σ H E I hf st hg;subst hP hw hK;obtain ⟨xs,x,hq,hx⟩:=hg;obtain ⟨its,rv,p,hz⟩:=I.tuple hq;obtain ⟨u,hu,ru⟩:=rv.get hx;obtain ⟨f0,f1,f2,f3,f4,f5⟩:=hf it (by simp);refine wpAny_pyNext_tuple_item st (show s.heap.IsTuple a its.toArray from p) (x:=u) (by simpa using hu) fun h' st' sb=>?_
  have I1:Inv X pins σ H { s with heap:=h' }:=I.turned (t':=s.toks) (fun b o hb e=>(sb.2 b hb).trans e) f0 f1 f3 f4 f5;obtain ⟨o,e,c,d⟩:=id st';exact ⟨u,rfl,znD (s:={ s with heap:=h' }) e c d (by decide) ⟨x,H,I1,ru,⟨rfl,fun ys hy=>by rw [I.tuple_inj hy hq];exact hx⟩,st',fun b hb=>(hf b hb).1⟩⟩
 done:=by
  intro X hP hw hK hc i pins s σ H E I hf st hg;subst hP hw hK;obtain ⟨xs,hq,hx⟩:=hg;obtain ⟨its,rv,p,hz⟩:=I.tuple hq;obtain ⟨f0,f1,f2,f3,f4,f5⟩:=hf it (by simp);have hl:=rv.length;exact wpAny_pyNext_tuple_end (I.ok.hd hc) st (show s.heap.IsTuple a its.toArray from p) (by simp;omega) fun h' eb=>⟨rfl,I.turned (t':=s.toks) (fun b o hb e=>eb b o hb e) f0 f1 f3 f4 f5⟩
 self:=fun _ _ _ _ _ st h=>wpAny_pyIter_tupleiter st h
def zjx{P:Program}{w:World}{K:PySem.W.Frag}{tg:Expr}(it:Addr)(lo:Int)(n:Nat):Turn P w K tg (Itr lo n) [it] it (fun i h=>IsRangeIter h it (lo+(i:Nat)*1) ((n:Int)-(i:Nat)) 1) where
 mem:=by simp
 obj:=fun i h st b hb=>by
  have e:b=it:=by simpa using hb
  subst e
  exact ⟨_,st,fun v z=>by
   have z':Data.fields _=Data.cell v:=z
   cases z'⟩
 keep:=fun i h h' st k=>k it (by simp) _ st
 item:=by
  intro X hP hw hK hc i pins s σ H E I hf st hg;subst hP hw hK;obtain ⟨f0,f1,f2,f3,f4,f5⟩:=hf it (by simp);have W:=Walks.range (prog:=X.prog) (w:=X.w) (I.ok.hd hc) it lo 1 n;refine W.item i s _ _ hg st fun v h' tk hv st' kk=>?_
  obtain ⟨t,rfl⟩:=hv;have I1:Inv X pins σ H { s with heap:=h',toks:=tk }:=I.turned (fun b o hb e=>kk b o (by simpa using hb) e) f0 f1 f3 f4 f5;refine ⟨_,rfl,znD (s:={ s with heap:=h',toks:=tk }) (n:="range_iterator") st' rfl rfl (by decide) ⟨.int (lo+i),H,I1,⟨t,?_⟩,⟨rfl,rfl⟩,st',fun b hb=>(hf b hb).1⟩⟩;rw [Int.mul_one]
 done:=by
  intro X hP hw hK hc i pins s σ H E I hf st hg;subst hP hw hK;obtain ⟨f0,f1,f2,f3,f4,f5⟩:=hf it (by simp);exact wpAny_pyNext_range_end (I.ok.hd hc) st (by have:n<=i:=hg;omega) fun h' eb=>⟨rfl,I.turned (t':=s.toks) (fun b o hb e=>eb b o hb e) f0 f1 f3 f4 f5⟩
 self:=fun _ _ _ _ _ st h=>wpAny_pyIter_rangeiter st h
end L2
namespace L2
open PySem PySem.Spec PyProof.Rows
section
variable{X:Cx}{tg:Expr}
def zvq(K:PySem.W.Frag)(tl:TE):TI:=fun σ H R=>tl σ H fun x H1=>∃a,x=.ref a/\(∃xs,SqL K H1 a xs)/\R (Itl K a) H1
def zy2(K:PySem.W.Frag)(tl:TE):TI:=fun σ H R=>tl σ H fun x H1=>∃a,x=.ref a/\(∃xs,SqT K H1 a xs)/\R (Itt K a) H1
def zpB{l:Expr}{tl:TE}(hl:PE X l tl):PI X tg l (zvq X.K tl):=by
 intro pins s σ H R I h;refine thn (hl pins s σ H _ I h) fun v s1 ⟨x,H1,I1,r1,q1⟩=>?_
 obtain ⟨a,e,⟨xs,hq⟩,q⟩:=q1;subst e;cases r1;obtain ⟨its,rv,p,hz⟩:=I1.list hq;refine yb3 p.isList ?_;refine ⟨s1.heap.objs.size,[s1.heap.objs.size],_,_,H1,rfl,I1.kept (t':=s1.toks) fun b o e=>yaf _ e,zko a _,⟨_,yax _ rfl,rfl,rfl⟩,fun b hb=>?_,q⟩
 have e:b=s1.heap.objs.size:=by simpa using hb
 subst e;exact I1.fpOk (yam _) (I1.hok.fresh (yam _))
def zr6{l:Expr}{tl:TE}(hl:PE X l tl):PI X tg l (zy2 X.K tl):=by
 intro pins s σ H R I h;refine thn (hl pins s σ H _ I h) fun v s1 ⟨x,H1,I1,r1,q1⟩=>?_
 obtain ⟨a,e,⟨xs,hq⟩,q⟩:=q1;subst e;cases r1;obtain ⟨its,rv,p,hz⟩:=I1.tuple hq;refine yci (show s1.heap.IsTuple a its.toArray from p) ?_;refine ⟨s1.heap.objs.size,[s1.heap.objs.size],_,_,H1,rfl,I1.kept (t':=s1.toks) fun b o e=>yaf _ e,zjw a _,⟨_,yax _ rfl,rfl,rfl⟩,fun b hb=>?_,q⟩
 have e:b=s1.heap.objs.size:=by simpa using hb
 subst e;exact I1.fpOk (yam _) (I1.hok.fresh (yam _))
def ziU{pins:Z3}{σ:St}{H:Hp}{s:Shared}{R:It->Hp->Prop}{E:Z5}{lo hi:Int}{t u v:Tok}{tk:Nat}(I:Inv X pins σ H s)(h1:-(2 ^ 62)<=lo)(h2:lo<2 ^ 62)(h3:-(2 ^ 62)<=hi)(h4:hi<2 ^ 62)
  (q:R (Itr lo (hi-lo).toNat) H):wpAny (model X.prog X.w) X.A (pyIter (.ref s.heap.objs.size)) (PIE X pins σ tg R) E { s with heap:=s.heap.push { cls:=.type "range",data:=.fields #[.int lo t,.int hi u,.int 1 v] },toks:=tk }:=by
 refine wpAny_pyIter_range (IsRange.new ..) (small_one h1 h2 h3 h4) ?_;have I1:Inv X pins σ H { s with heap:=s.heap.push { cls:=.type "range",data:=.fields #[.int lo t,.int hi u,.int 1 v] },toks:=tk }:=I.kept fun b o e=>yaf _ e
 refine ⟨(s.heap.push { cls:=.type "range",data:=.fields #[.int lo t,.int hi u,.int 1 v] }).objs.size,[(s.heap.push { cls:=.type "range",data:=.fields #[.int lo t,.int hi u,.int 1 v] }).objs.size],_,_,H,rfl,
  I1.kept (t':=tk) fun b o e=>yaf _ e,zjx _ lo (hi-lo).toNat,?_,fun b hb=>?_,q⟩
 ·have e1:lo+((0:Nat):Int)*1=lo:=by simp
  have e2:(((hi-lo).toNat:Nat):Int)-((0:Nat):Int)=Builtin.Range.rangeSize lo hi 1:=by rw [rangeSize_one];split<;>omega
  show IsRangeIter _ _ (lo+((0:Nat):Int)*1) ((((hi-lo).toNat:Nat):Int)-((0:Nat):Int)) 1;rw [e1,e2];exact yax _ rfl
 ·have e:b=(s.heap.push { cls:=.type "range",data:=.fields #[.int lo t,.int hi u,.int 1 v] }).objs.size:=by simpa using hb
  subst e;exact I1.fpOk (yam _) (I1.hok.fresh (yam _))
def zvp(ta:TA):TI:=fun σ H R=>ta σ H fun vs H1=>∃j:Int,vs=[.int j]/\-(2 ^ 62)<=j/\j<2 ^ 62/\R (Itr 0 j.toNat) H1
def zvo(ta:TA):TI:=fun σ H R=>ta σ H fun vs H1=>∃i j:Int,vs=[.int i,.int j]/\(-(2 ^ 62)<=i/\i<2 ^ 62/\-(2 ^ 62)<=j/\j<2 ^ 62)/\R (Itr i (j-i).toNat) H1
def zk3{a:Expr}{ta:TA}{p pos:Pos}(hg:Gl X "range")(hm:X.mg "range" = none)(ha:PA X [a] ta)(hs:starEach [a] X.env=[(false,eval a X.env)]:=by rfl):PI X tg (.Call (.Name "range" p) [a] [] pos) (zvp ta):=by
 intro pins s σ H R I h;refine Call_ (zdz I hg hm boot_range (yaS (thn (ha pos pins s σ H _ I h) fun us s1 ⟨vs,H1,I1,r1,q1⟩=>?_) hs rfl));obtain ⟨j,e,q1,q2,q⟩:=q1;subst e
 cases r1 with
 | cons r rr =>
  cases rr;obtain ⟨t,rfl⟩:=r;exact call_range_1 (ziU I1 (by omega) (by omega) q1 q2 (by simpa using q))
def zk2{a b:Expr}{ta:TA}{p pos:Pos}(hg:Gl X "range")(hm:X.mg "range" = none)(ha:PA X [a,b] ta)(hs:starEach [a,b] X.env=[(false,eval a X.env),(false,eval b X.env)]:=by rfl)(hs2:starEach [b] X.env=[(false,eval b X.env)]:=by rfl) :
  PI X tg (.Call (.Name "range" p) [a,b] [] pos) (zvo ta):=by
 intro pins s σ H R I h;refine Call_ (zdz I hg hm boot_range (yaS (thn (ha pos pins s σ H _ I h) fun us s1 ⟨vs,H1,I1,r1,q1⟩=>?_) (by rw [hs,hs2]) (by rw [hs2];rfl)));obtain ⟨i,j,e,⟨q1,q2,q3,q4⟩,q⟩:=q1;subst e
 cases r1 with
 | cons r rr =>
  cases rr with
  | cons r' rr =>
   cases rr;obtain ⟨t,rfl⟩:=r;obtain ⟨t',rfl⟩:=r';exact call_range_2 (ziU I1 q1 q2 q3 q4 q)
def zyk(wi:TI)(g:TG)(tb:TS):TS:=fun D σ H=>wi σ H fun J H1=>∃W:Nat->Nat->St->Hp->Prop,(∃m,W 0 m σ H1)/\∀i m σ H,W i m σ H →
 (J.stop i H/\D.nx σ H)\/(J.go i H/\∃N:St->Hp->Prop,(∀σ' H',N σ' H'->∃m',m'<m/\W (i+1) m' σ' H')/\∀x H',J.yld i H x H'->g x σ H' fun σ2 H2=>tb { D with nx:=N,ct:=N,bk:=D.nx } σ2 H2)
def zhf(fp:List Addr)(h:Heap):List (Addr×Obj):=fp.filterMap fun b=>(h.get? b).map fun o=>(b,o)
def zdk{fp:List Addr}{h:Heap}{b:Addr}{o:Obj}(hb:b∈fp)(e:h.get? b=some o):(b,o)∈zhf fp h:=ya4.mpr ⟨b,hb,by rw [e];rfl⟩
def zlf{fp:List Addr}{h:Heap}{p:Addr×Obj}(hp:p∈zhf fp h):p.1∈fp/\h.get? p.1=some p.2:=by
 obtain ⟨b,hb,e⟩:=ya4.mp hp
 cases q:h.get? b with
 | none=>rw [q] at e;cases e
 | some o =>
  rw [q] at e;have e':(b,o)=p:=Option.some.inj e;subst e';exact ⟨hb,q⟩
def Inv.pinned{pins:Z3}{σ:St}{H:Hp}{s:Shared}{fp:List Addr}(I:Inv X pins σ H s)(hf:∀b∈fp,zmr X pins H b)(ho:∀b∈fp,∃o,s.heap.get? b=some o/\∀v,o.data≠.cell v):Inv X (pins++zhf fp s.heap) σ H s :=
 I.pins_of fun p hp=>(ybL.mp hp).elim (fun z=>I.pin p (yaM _ z)) fun z=>by
  obtain ⟨hb,e⟩:=zlf z;obtain ⟨f0,f1,f2,_⟩:=hf p.1 hb;obtain ⟨o,e',d⟩:=ho p.1 hb;rw [e] at e';cases e';exact ⟨e,f0,f1,f2,d⟩
def Inv.unpinned{pins pl:Z3}{σ:St}{H:Hp}{s:Shared}(I:Inv X (pins++pl) σ H s):Inv X pins σ H s:=I.pins_of fun p hp=>I.pin p (yaM _ (ycB _ hp))
def zr4{iter:Expr}{body:List Stmt}{wi:TI}{g:TG}{tb:TS}{pos:Pos}(hp:PassesOwn (model X.prog X.w) X.A X.env X.xe)(hc:X.calm=true)(hi:PI X tg iter wi)(hg:PG X tg g)(hb:PSs X body tb)
  (hs:∀x,foldedSetIterable iter X.env x=pure x:=by intro _;rfl):PS X (.For tg iter body [] pos) (zyk wi g tb):=by
 intro pins s σ H D I h;refine wpAny_For (thn (hi pins s σ H _ I h) fun v s1 h1=>thn h1 fun itv s2 h2=>?_) hs;obtain ⟨it,fp,tn,J,H2,e,I2,T,st2,f2,W,⟨m0,w0⟩,turn⟩:=h2;subst e;have stat:∀{H':Hp},(∀b∈fp,H' b=none)->∀b∈fp,zmr X pins H' b:=fun hn b hb=>⟨hn b hb,(f2 b hb).2⟩
 refine codeAny_forLoop_any (fun n s'=>∃i σ' H',Inv X pins σ' H' s'/\tn i s'.heap/\(∀b∈fp,H' b=none)/\W i n σ' H') ?_ m0 ⟨0,σ,H2,I2,st2,fun b hb=>(f2 b hb).1,w0⟩;rintro n s3 ⟨i,σ3,H3,I3,st3,fr3,w3⟩
 rcases turn i n σ3 H3 w3 with ⟨stop,qn⟩ | ⟨go,N,hN,step⟩
 ·refine ycj hp (thn (T.done X rfl rfl rfl hc i pins s3 σ3 H3 X.xe I3 (stat fr3) st3 stop) fun r s4 ⟨hr,I4⟩=>?_);subst hr;exact ycI ⟨σ3,H3,I4,qn⟩
 ·refine ycj hp (thn (T.item X rfl rfl rfl hc i pins s3 σ3 H3 X.xe I3 (stat fr3) st3 go) fun r s4 ⟨u,hr,h4⟩=>?_);subst hr;refine ycj hp (thn h4 fun _ s5 ⟨x,H5,I5,r5,y5,st5,fr5⟩=>?_);have I5':=I5.pinned (stat fr5) (T.obj _ _ st5);refine ycj hp (thn (hg _ s5 σ3 H5 x u _ I5' r5 (step x H5 y5)) fun _ s6 ⟨σ6,H6,I6,q6⟩=>?_);refine ycj hp (thn (hb _ s6 σ6 H6 _ I6 q6) fun f s7 q7=>?_)
  have again:∀{σ7:St} {H7:Hp},Inv X (pins++zhf fp s5.heap) σ7 H7 s7->N σ7 H7->∃m,m<n/\∃i σ' H',Inv X pins σ' H' s7/\tn i s7.heap/\(∀b∈fp,H' b=none)/\W i m σ' H':=fun {σ7 H7} I7 n7=>by
   obtain ⟨m',hm,w7⟩:=hN σ7 H7 n7;refine ⟨m',hm,i+1,σ7,H7,I7.unpinned,T.keep _ _ _ st5 fun b hb o e=>(I7.pin (b,o) (yaM _ (yaM _ (zdk hb e)))).1,fun b hb=>?_,w7⟩;obtain ⟨o,e,d⟩:=T.obj _ _ st5 b hb;exact (I7.pin (b,o) (yaM _ (yaM _ (zdk hb e)))).2.1
  cases f with
  | next=>obtain ⟨σ7,H7,I7,n7⟩:=q7;exact again I7 n7
  | cont=>obtain ⟨σ7,H7,I7,n7⟩:=q7;exact again I7 n7
  | brk=>obtain ⟨σ7,H7,I7,q7⟩:=q7;exact ⟨σ7,H7,I7.unpinned,q7⟩
  | ret v=>obtain ⟨x7,σ7,H7,I7,r7,q7⟩:=q7;exact ⟨x7,σ7,H7,I7.unpinned,r7,q7⟩
end
end L2
namespace L2
open PySem PySem.Spec PyProof.Rows
abbrev R2:=V->V->Hp->VK->Prop
def OpR(X:Cx)(f:Value->Value->Sem Value)(r:R2):Prop :=
 ∀(pins:Z3) (s:Shared) (σ:St) (H:Hp) (x y:V) (v u:Value) (Q:VK),Inv X pins σ H s->zbw x v->zbw y u->r x y H Q →
  wpAny (model X.prog X.w) X.A (f v u) (EP X pins σ Q) X.xe s
def UnR(X:Cx)(f:Value->Sem Value)(r:V->Hp->VK->Prop):Prop :=
 ∀(pins:Z3) (s:Shared) (σ:St) (H:Hp) (x:V) (v:Value) (Q:VK),Inv X pins σ H s->zbw x v->r x H Q →
  wpAny (model X.prog X.w) X.A (f v) (EP X pins σ Q) X.xe s
def zdN(X:Cx)(f:Value)(r:List V->Hp->VK->Prop):Prop :=
 ∀(pins:Z3) (s:Shared) (σ:St) (H:Hp) (xs:List V) (us:List Value) (Q:VK),Inv X pins σ H s->Vals xs us->r xs H Q →
  wpAny (model X.prog X.w) X.A (call f us) (EP X pins σ Q) X.xe s
def tOp(r:R2)(ta tb:TE):TE:=fun σ H Q=>ta σ H fun x H1=>tb σ H1 fun y H2=>r x y H2 Q
def tUn(r:V->Hp->VK->Prop)(ta:TE):TE:=fun σ H Q=>ta σ H fun x H1=>r x H1 Q
def rI(C:Int->Int->Prop)(g:Int->Int->V):R2:=fun x y H Q=>∃i j,x=.int i/\y=.int j/\C i j/\Q (g i j) H
def rI0(g:Int->Int->V):R2:=fun x y H Q=>∃i j,x=.int i/\y=.int j/\Q (g i j) H
def rU(g:Int->V):V->Hp->VK->Prop:=fun x H Q=>∃i,x=.int i/\Q (g i) H
section
variable{X:Cx}{a b c:Expr}{ta tb tc:TE}{pos:Pos}
def zvB(ha:PE X a ta)(hb:PE X b tb){pins:Z3}{s:Shared}{σ:St}{H:Hp}{R:V->V->Hp->Prop}(I:Inv X pins σ H s)
  (h:ta σ H fun x H1=>tb σ H1 fun y H2=>R x y H2) {Q:Z5} {f:Value->Value->Sem Value}
  (hf:∀v u s2 x y H2,Inv X pins σ H2 s2->zbw x v->zbw y u->R x y H2->wpAny (model X.prog X.w) X.A (f v u) Q X.xe s2) :
  wpAny (model X.prog X.w) X.A (eval a X.env) (fun v s₁=>wpAny (model X.prog X.w) X.A (eval b X.env) (fun u s₂=>wpAny (model X.prog X.w) X.A (f v u) Q X.xe s₂) X.xe s₁) X.xe s:=by
 refine thn (ha pins s σ H _ I h) fun v s1 ⟨x,H1,I1,r1,q1⟩=>?_
 refine thn (hb pins s1 σ H1 _ I1 q1) fun u s2 ⟨y,H2,I2,r2,q2⟩=>?_
 exact hf v u s2 x y H2 I2 r1 r2 q2
def zsc{op:Operator}{r:R2}(ho:OpR X (binaryOp op) r)(ha:PE X a ta)(hb:PE X b tb):PE X (.BinOp a op b pos) (tOp r ta tb):=by
 intro pins s σ H Q I h;exact wpAny_BinOp (zvB ha hb I h fun v u s2 x y H2 I2 rx ry q=>ho pins s2 σ H2 x y v u Q I2 rx ry q)
def zuR{op:UnaryOp}{r:V->Hp->VK->Prop}(ho:UnR X (unaryOp op) r)(ha:PE X a ta):PE X (.UnaryOp op a pos) (tUn r ta):=by
 intro pins s σ H Q I h;exact UnaryOp_ (thn (ha pins s σ H _ I h) fun v s1 ⟨x,H1,I1,r1,q1⟩=>ho pins s1 σ H1 x v Q I1 r1 q1)
def opI{f:Value->Value->Sem Value}{C:Int->Int->Prop}{g:Int->Int->Int}
  (rule:∀(i j:Int) (t u:Tok) (s:Shared) (Q:Z5) (E:Z5),C i j->Q (.int (g i j) s.toks) { s with toks:=s.toks+1 }->wpAny (model X.prog X.w) X.A (f (.int i t) (.int j u)) Q E s) :
  OpR X f (rI C fun i j=>.int (g i j)):=by
 intro pins s σ H x y v u Q I rx ry h;obtain ⟨i,j,rfl,rfl,hc,q⟩:=h;obtain ⟨t,rfl⟩:=rx;obtain ⟨t',rfl⟩:=ry;exact rule i j t t' s _ _ hc ⟨.int (g i j),H,I.tok _,⟨_,rfl⟩,q⟩
def zwx{f:Value->Value->Sem Value}{g:Int->Int->Int}
  (rule:∀(i j:Int) (t u:Tok) (s:Shared) (Q:Z5) (E:Z5),Q (.int (g i j) s.toks) { s with toks:=s.toks+1 }->wpAny (model X.prog X.w) X.A (f (.int i t) (.int j u)) Q E s) :
  OpR X f (rI0 fun i j=>.int (g i j)):=by
 intro pins s σ H x y v u Q I rx ry h;obtain ⟨i,j,rfl,rfl,q⟩:=h;obtain ⟨t,rfl⟩:=rx;obtain ⟨t',rfl⟩:=ry;exact rule i j t t' s _ _ ⟨.int (g i j),H,I.tok _,⟨_,rfl⟩,q⟩
def ztL{f:Value->Value->Sem Value}{g:Int->Int->Bool}
  (rule:∀(i j:Int) (t u:Tok) (s:Shared) (Q:Z5) (E:Z5),Q (.bool (g i j)) s->wpAny (model X.prog X.w) X.A (f (.int i t) (.int j u)) Q E s) :
  OpR X f (rI0 fun i j=>.bl (g i j)):=by
 intro pins s σ H x y v u Q I rx ry h;obtain ⟨i,j,rfl,rfl,q⟩:=h;obtain ⟨t,rfl⟩:=rx;obtain ⟨t',rfl⟩:=ry;exact rule i j t t' s _ _ ⟨.bl (g i j),H,I,rfl,q⟩
def zzh(i j:Int):Prop:=0<j/\j<1073741824
def zvL(i j:Int):Prop:=(-(2 ^ 64)<i/\i<2 ^ 64)\/(-(2 ^ 64)<j/\j<2 ^ 64)
def zvL.ok{i j:Int}(h:zvL i j):IntMulOk i j:=by
 rcases h with ⟨h1,h2⟩ | ⟨h1,h2⟩
 ·exact .of_left (intBits_le_64 h1 h2)
 ·exact .of_right (intBits_le_64 h1 h2)
def zsq:OpR X (binaryOp .Add) (rI0 fun i j=>.int (i+j)):=zwx fun _ _ _ _ _ _ _ q=>add_int q
def zsl:OpR X (binaryOp .Sub) (rI0 fun i j=>.int (i-j)):=zwx fun _ _ _ _ _ _ _ q=>sub_int q
def zsm:OpR X (binaryOp .Mult) (rI zvL fun i j=>.int (i*j)):=opI fun _ _ _ _ _ _ _ hc q=>mul_int q hc.ok
def zpH:OpR X (binaryOp .FloorDiv) (rI zzh fun i j=>.int (i / j)):=opI fun i j _ _ _ _ _ hc q=>by
 have h1:(0:Int)<j:=hc.1;have h2:j<1073741824:=hc.2;exact floordiv_int (by omega) (by rw [Int.fdiv_eq_ediv_of_nonneg i (by omega)];exact q) (.inl (PyProof.noPylong_small (by omega)))
def zsn:OpR X (binaryOp .Mod) (rI (fun _ j=>0<j) fun i j=>.int (i % j)):=opI fun i j _ _ _ _ _ hc q=>by
 have h1:(0:Int)<j:=hc;exact mod_int' (by omega) (by rw [Int.fmod_eq_emod_of_nonneg i (by omega)];exact q)
def unI{f:Value->Sem Value}{g:Int->Int}
  (rule:∀(i:Int) (t:Tok) (s:Shared) (Q:Z5) (E:Z5),Q (.int (g i) s.toks) { s with toks:=s.toks+1 }->wpAny (model X.prog X.w) X.A (f (.int i t)) Q E s) :
  UnR X f (rU fun i=>.int (g i)):=by
 intro pins s σ H x v Q I rx h;obtain ⟨i,rfl,q⟩:=h;obtain ⟨t,rfl⟩:=rx;exact rule i t s _ _ ⟨.int (g i),H,I.tok _,⟨_,rfl⟩,q⟩
def zq7:UnR X (unaryOp .USub) (rU fun i=>.int (-i)):=unI fun _ _ _ _ _ q=>neg_int q
end
section
variable{X:Cx}{a b c:Expr}{ta tb tc:TE}{pos:Pos}
def zoy{pins:Z3}{σ:St}{H:Hp}{s:Shared}{Q:VK}{k k':Bool}(I:Inv X pins σ H s)(q:Q (.bl k) H)(e:k=k'):EP X pins σ Q (.bool k') s:=by
 subst e;exact ⟨.bl k,H,I,rfl,q⟩
def zuU:OpR X (compareOp .Lt) (rI0 fun i j=>.bl (decide (i<j))):=ztL fun _ _ _ _ _ _ _ q=>lt_int q
def zuV:OpR X (compareOp .LtE) (rI0 fun i j=>.bl (decide (i<=j))):=ztL fun _ _ _ _ _ _ _ q=>le_int q
def zuW:OpR X (compareOp .Gt) (rI0 fun i j=>.bl (decide (j<i))):=ztL fun _ _ _ _ _ _ _ q=>gt_int q
def zuX:OpR X (compareOp .GtE) (rI0 fun i j=>.bl (decide (j<=i))):=ztL fun _ _ _ _ _ _ _ q=>ge_int q
def zso:OpR X (compareOp .Is) (fun x y H Q=>y=.non/\Q (.bl (decide (x=.non))) H):=by
 intro pins s σ H x y v u Q I rx ry h;obtain ⟨rfl,q⟩:=h;cases ry;refine is_none_gen (zoy I q ?_)
 cases x<;>first
  | (cases rx;rfl)
  | (obtain ⟨t,rfl⟩:=rx;rfl)
def zpG:OpR X (compareOp .IsNot) (fun x y H Q=>y=.non/\Q (.bl (!decide (x=.non))) H):=by
 intro pins s σ H x y v u Q I rx ry h;obtain ⟨rfl,q⟩:=h;cases ry;refine isnot_none_gen (zoy I q ?_)
 cases x<;>first
  | (cases rx;rfl)
  | (obtain ⟨t,rfl⟩:=rx;rfl)
def zk7{op:CmpOp}{r:R2}(ho:OpR X (compareOp op) r)(ha:PE X a ta)(hb:PE X b tb)(hm:behindInMarks op b=false):PE X (.Compare a [op] [b] pos) (tOp r ta tb):=by
 intro pins s σ H Q I h;exact wpAny_Compare1 (zvB ha hb I h fun v u s2 x y H2 I2 rx ry q=>ho pins s2 σ H2 x y v u Q I2 rx ry q) hm
def zoV(t:TE):TT:=fun σ H Q=>t σ H fun x H'=>∃k,x=.bl k/\Q k H'
def zkV{op:CmpOp}{r:R2}(ho:OpR X (compareOp op) r)(ha:PE X a ta)(hb:PE X b tb)(hm:behindInMarks op b=false):PT X (.Compare a [op] [b] pos) (zoV (tOp r ta tb)):=by
 intro pins s σ H Q I h
 refine wpAny_isTrue_Compare1 (thn (ha pins s σ H _ I h) fun v s1 ⟨x,H1,I1,r1,q1⟩=>thn (hb pins s1 σ H1 _ I1 q1) fun u s2 ⟨y,H2,I2,r2,q2⟩ =>
  thn (ho pins s2 σ H2 x y v u _ I2 r1 r2 q2) fun c s3 ⟨z,H3,I3,r3,k,e,q3⟩=>?_) hm
 subst e;cases r3;exact ybj ⟨H3,I3,q3⟩
def zkz(r r':R2)(ta tb tc:TE):TE:=fun σ H Q=>ta σ H fun x H1=>tb σ H1 fun y H2=>r x y H2 fun z H3=>∃k,z=.bl k ∧
 (if k=true then tc σ H3 fun w' H4=>r' y w' H4 Q else Q (.bl false) H3)
def zna{op op':CmpOp}{r r':R2}(ho:OpR X (compareOp op) r)(ho':OpR X (compareOp op') r')(ha:PE X a ta)(hb:PE X b tb)(hc:PE X c tc)
  (hm:lastMarks [op,op'] [b,c]=false:=by with_unfolding_all rfl):PE X (.Compare a [op,op'] [b,c] pos) (zkz r r' ta tb tc):=by
 intro pins s σ H Q I h
 refine Compare_chain (thn (ha pins s σ H _ I h) fun v s1 ⟨x,H1,I1,r1,q1⟩=>chain_link (thn (hb pins s1 σ H1 _ I1 q1) fun u s2 ⟨y,H2,I2,r2,q2⟩ =>
  thn (ho pins s2 σ H2 x y v u _ I2 r1 r2 q2) fun d s3 ⟨z,H3,I3,r3,k,e,q3⟩=>?_)) hm
 subst e;cases r3;refine ybj ?_
 cases k with
 | false=>exact ite_ff ⟨.bl false,H3,I3,rfl,q3⟩
 | true=>exact ite_tt (chain_last (thn (hc pins s3 σ H3 _ I3 q3) fun w' s4 ⟨z',H4,I4,r4,q4⟩=>ho' pins s4 σ H4 y z' u w' Q I4 r2 r4 q4))
def zmX{op op':CmpOp}{r r':R2}(ho:OpR X (compareOp op) r)(ho':OpR X (compareOp op') r')(ha:PE X a ta)(hb:PE X b tb)(hc:PE X c tc)
  (hm:lastMarks [op,op'] [b,c]=false:=by with_unfolding_all rfl):PT X (.Compare a [op,op'] [b,c] pos) (zoV (zkz r r' ta tb tc)):=by
 intro pins s σ H Q I h
 refine isTrue_chain (thn (ha pins s σ H _ I h) fun v s1 ⟨x,H1,I1,r1,q1⟩=>test_link (thn (hb pins s1 σ H1 _ I1 q1) fun u s2 ⟨y,H2,I2,r2,q2⟩ =>
  thn (ho pins s2 σ H2 x y v u _ I2 r1 r2 q2) fun d s3 ⟨z,H3,I3,r3,k,e,q3⟩=>?_)) hm
 subst e;cases r3;refine ybj ?_
 cases k with
 | false =>
  obtain ⟨k',e',q'⟩:=q3;cases e';exact ite_ff ⟨H3,I3,q'⟩
 | true =>
  refine ite_tt (test_last (thn (hc pins s3 σ H3 _ I3 q3) fun w' s4 ⟨z',H4,I4,r4,q4⟩=>thn (ho' pins s4 σ H4 y z' u w' _ I4 r2 r4 q4) fun d' s5 ⟨z2,H5,I5,r5,k2,e2,q5⟩=>?_));subst e2;cases r5;exact ybj ⟨H5,I5,q5⟩
def zi3:(sizeLine:Nat)<2 ^ 63:=by rw [sizeLine_eq];decide
def zjL:OpR X (binaryOp .Add) (fun x y H Q=>∃i j,x=.str i/\y=.str j/\i.length+j.length<=sizeLine/\Q (.str (i++j)) H):=by
 intro pins s σ H x y v u Q I rx ry h;obtain ⟨i,j,rfl,rfl,hz,q⟩:=h;obtain ⟨t,rfl⟩:=rx;obtain ⟨t',rfl⟩:=ry;exact add_str (fun t' tk=>⟨.str (i++j),H,I.tok _,⟨_,rfl⟩,q⟩) hz
def zgS{x:V}{us:List Value}(r:Vals [x] us):∃u,us=[u]/\zbw x u:=by
 cases r with
 | cons r1 r2=>cases r2;exact ⟨_,rfl,r1⟩
def zt4{x y:V}{us:List Value}(r:Vals [x,y] us):∃u w',us=[u,w']/\zbw x u/\zbw y w':=by
 cases r with
 | cons r1 r2 =>
  cases r2 with
  | cons r3 r4=>cases r4;exact ⟨_,_,rfl,r1,r3⟩
def zmc(hc:X.calm=true):zdN X (.builtin "min") (fun xs H Q=>∃i j,xs=[.int i,.int j]/\Q (.int (if j<i then j else i)) H):=by
 intro pins s σ H xs us Q I r h;obtain ⟨i,j,rfl,q⟩:=h;obtain ⟨u,w',rfl,⟨t,rfl⟩,⟨t',rfl⟩⟩:=zt4 r;refine min_two_ints (I.ok.hd hc) fun h' tk k=>⟨_,H,I.kept k,?_,q⟩
 by_cases hj:j<i
 ·rw [if_pos hj,if_pos hj];exact ⟨_,rfl⟩
 ·rw [if_neg hj,if_neg hj];exact ⟨_,rfl⟩
end
end L2
namespace L2
open PySem PySem.Spec PyProof.Rows
structure ObjM(h:Heap)(x dx C:Addr)(mA:Z6):Prop where
 obj:h.get? x=some (PySem.W.instObj C dx)
 ns:h.Ns1 dx mA
 ne:dx≠x
def zlv{h:Heap}{dx:Addr}{mA:Z6}(n:h.Ns1 dx mA):∃od,h.get? dx=some od/\∀name,PySem.W.lookIn name od=some (mA name):=by
 obtain ⟨o,es,ep,ho,hd,hk,_,hm⟩:=n;refine ⟨o,ho,fun name=>?_⟩;have e:=hm name;unfold nsFind findBy at e;rw [<-Array.find?_toList] at e;unfold PySem.W.lookIn;rw [hd];dsimp only;split
 ·rename_i y q;rw [q] at e;exact congrArg some e
 ·rename_i q;rw [q] at e
  have a:es.toList.any (·.refKey)=false:=by
   rw [List.any_eq_false];intro y hy;obtain ⟨z,t,hkey⟩:=hk y (Array.mem_toList_iff.mp hy);simp [DictEntry.refKey,hkey]
  have a':¬ es.toList.any (·.refKey)=true:=by rw [a];exact ybd
  rw [if_neg a'];exact congrArg some e
def ObjM.look{h:Heap}{x dx C:Addr}{mA:Z6}(I:ObjM h x dx C mA):∃od,PySem.W.InstAt h x (PySem.W.instObj C dx) C (some od)/\∀name,PySem.W.lookIn name od=some (mA name) :=
 let ⟨od,ho,hl⟩:=zlv I.ns
 ⟨od,⟨I.obj,rfl,rfl,ho⟩,hl⟩
section
variable{prog:Program}{w:World}{A:Around}{E:Z5}{s:Shared}{K:PySem.W.Frag}{x dx C f:Addr}{mA:Z6}{name:Str}{v:Value}
def zqj{expr:Bool}{Q:Z5}(X:K.In s.heap)(I:ObjM s.heap x dx C mA)(hg:PySem.W.plainGet K C name=true)(hh:PySem.W.hasDictIn K C=true)
  (ha:PySem.W.findIn K (.ref C) name=some none) (hv:mA name=some v) (hv':PySem.W.handedIn v=true) (h:Q v { s with toks:=s.toks+1 }) :
  wpAny (model prog w) A (getAttr (.ref x) name expr) Q E s:=by
 obtain ⟨od,J,hl⟩:=I.look;exact PySem.W.get_value X J (ycJ hg).1 (PySem.W.findObj_own hh ha rfl (by rw [hl,hv])) hv' h
def znE{pl:Sem Bool}{Q:Value×List Value->Shared->Prop}(X:K.In s.heap)(I:ObjM s.heap x dx C mA)(hg:PySem.W.plainGet K C name=true)
  (hf:PySem.W.findIn K (.ref C) name=some (some (.ref f))) (ht:PySem.W.isFn K (.ref f)=true) (hv:mA name=none) (h:Q (.ref f,[.ref x]) s) :
  wpAny (model prog w) A (getMethod (.ref x) name pl) Q E s:=by
 obtain ⟨od,J,hl⟩:=I.look;exact PySem.W.method_fn X J (ycJ hg).1 (ycJ hg).2 hf (ybT.mp ht) (by show (PySem.W.lookIn name od).map (·.isSome)=some false;rw [hl,hv];rfl) h
def zpg{ns:List Str}{Q:Unit->Shared->Prop}(X:K.In s.heap)(I:ObjM s.heap x dx C mA)
  (hs:PySem.W.findIn K (.ref C) "__setattr__" = some (some (.builtin "object.__setattr__"))) (hp:PySem.W.plainOver K C=true) (ht:PySem.W.takerIn K C name=some none) (hh:PySem.W.hasDictIn K C=true)
  (hw:PySem.Within mA ns) (hsz:ns.length<=sizeLine)
  (h:∀h',ObjM h' x dx C (fun y=>if y=name then some v else mA y)->Heap.SameBut dx s.heap h'->Q () { s with heap:=h',toks:=s.toks+2 }) :
  wpAny (model prog w) A (setAttr (.ref x) name v) Q E s:=by
 obtain ⟨od,J,hl⟩:=I.look;refine PySem.W.set_plain X J hs (PySem.W.osa_open (s:={ s with toks:=s.toks+1 }) (r:=none) X J hp ht fun b=>?_);obtain ⟨cd,hc,hd'⟩:=PySem.W.any_some hh;have hx:s.heap.get? x=some ⟨.ref C,some dx,.plain,#[]⟩:=I.obj;refine yac (yaj (yac (yac (wpAny_loadPart hx (yac (PySem.W.Looks.here (s:={ s with toks:=s.toks+1 }) (PySem.W.looks_clsIn X hc) ?_))))));rw [hd'];refine yaj (a:=some dx) (yac (yaj (yac ?_)));refine wpAny_nsSet1 (s:={ s with toks:=s.toks+1 }) I.ns fun h' hn2 hs2=>?_
 obtain ⟨oD,esD,epD,hoD,hdD,hcD⟩:=hn2.count (PySem.Within.cons name v hw);refine yac (wpAny_lookBehind hoD (by rw [hdD];exact pastItsLine_dict (yah hcD (by rw [yai];omega))) ?_);exact yaj (h _ ⟨(hs2.2 _ (Ne.symm I.ne)).trans I.obj,hn2,I.ne⟩ hs2)
def znp{R:Result->Shared->Prop}{vs:List Value}{kw:List (Str×Value)}(X:K.In s.heap)(hm:PySem.W.makesIn K C=true)
  (hi:PySem.W.findIn K (.ref C) "__init__" = some (some (.ref f))) (hf:PySem.W.typeIn K (.ref f)=some (.type "function"))
  (h:codeAny (model prog w) (A.under (.builtin "type.__call__" ⟨.ref C::vs,kw⟩)) (.call (.ref f) ⟨.ref (s.heap.objs.size+1)::vs,kw⟩) (PySem.W.InitBack (s.heap.objs.size+1) R)
   { s with heap:=(s.heap.push PySem.W.emptyDict).push (PySem.W.instObj C s.heap.objs.size) }) :
  codeAny (model prog w) A (.call (.ref C) ⟨vs,kw⟩) R s:=by
 obtain ⟨hh,g,d,t,os⟩:=s;exact PySem.W.make_core (PySem.W.makes_of X hm) (PySem.W.looks_findIn X hi) (fun self=>PySem.W.bind_fn X self hf) (.inl rfl) h
end
def zdD(f:Str)(v:V):List (Str×V)->List (Str×V)
 | []=>[(f,v)]
 | (g,x)::r=>if g=f then (g,v)::r else (g,x)::zdD f v r
theorem zff(f g:Str)(v:V):∀fs:List (Str×V),(zdD f v fs).lookup g=if g=f then some v else fs.lookup g
 | []=>by
  show List.lookup g [(f,v)]=_
  by_cases h:g=f
  ·have hb:(g == f)=true:=ybT.mpr h;simp only [List.lookup,hb,if_pos h]
  ·have hb:(g == f)=false:=ybh.mpr h;simp only [List.lookup,hb,if_neg h]
 | (k,x)::r=>by
  have ih:=zff f g v r;rw [show zdD f v ((k,x)::r)=(if k=f then (k,v)::r else (k,x)::zdD f v r) from rfl]
  by_cases hk:k=f
  ·rw [if_pos hk]
   by_cases h:g=k
   ·have hb:(g == k)=true:=ybT.mpr h;simp only [List.lookup,hb,if_pos (h.trans hk)]
   ·have hb:(g == k)=false:=ybh.mpr h;simp only [List.lookup,hb,if_neg (fun e:g=f=>h (e.trans hk.symm))]
  ·rw [if_neg hk]
   by_cases h:g=k
   ·have hb:(g == k)=true:=ybT.mpr h;simp only [List.lookup,hb,if_neg (fun e:g=f=>hk (h.symm.trans e))]
   ·have hb:(g == k)=false:=ybh.mpr h;simp only [List.lookup,hb];exact ih
theorem zfh(f:Str)(v:V):∀fs:List (Str×V),f∈(zdD f v fs).map (·.1)/\∀g,g∈fs.map (·.1)->g∈(zdD f v fs).map (·.1)
 | []=>⟨by simp [zdD],fun g h=>by simp at h⟩
 | (k,x)::r=>by
  obtain ⟨i1,i2⟩:=zfh f v r;rw [show zdD f v ((k,x)::r)=(if k=f then (k,v)::r else (k,x)::zdD f v r) from rfl]
  by_cases hk:k=f
  ·rw [if_pos hk];subst hk;exact ⟨by simp,fun g h=>by simpa using h⟩
  ·rw [if_neg hk];refine ⟨?_,fun g h=>?_⟩
   ·rw [yaw];exact yap _ i1
   ·rw [yaw] at h ⊢
    rcases yav.mp h with e | e
    ·exact yav.mpr (.inl e)
    ·exact yap _ (i2 g e)
theorem zfg(f:Str)(v:V):∀fs:List (Str×V),(zdD f v fs).length<=fs.length+1
 | []=>by simp [zdD]
 | (k,x)::r=>by
  have ih:=zfg f v r;rw [show zdD f v ((k,x)::r)=(if k=f then (k,v)::r else (k,x)::zdD f v r) from rfl]
  by_cases hk:k=f
  ·rw [if_pos hk,yai,yai];omega
  ·rw [if_neg hk,yai,yai];omega
def zmw.some_of{v:V}{o:Option Value}(r:zmw (some v) o):∃u,o=some u/\zbw v u:=by
 cases o with
 | none=>exact (show False from r).elim
 | some u=>exact ⟨u,rfl,r⟩
def zmw.none_of{o:Option Value}(r:zmw none o):o=none:=by
 cases o with
 | none=>rfl
 | some u=>exact (show False from r).elim
def zlR{v:V}{u:Value}(r:zbw v u):PySem.W.handedIn u=true:=by
 cases v with
 | non=>cases (show u=Value.none from r);rfl
 | bl b=>cases (show u=Value.bool b from r);rfl
 | int i=>obtain ⟨t,e⟩:=(show ∃t,u=Value.int i t from r);cases e;rfl
 | str x=>obtain ⟨t,e⟩:=(show ∃t,u=Value.str x t from r);cases e;rfl
 | byt b=>obtain ⟨t,e⟩:=(show ∃t,u=Value.bytes b t from r);cases e;rfl
 | flt b=>obtain ⟨t,e⟩:=(show ∃t,u=Value.float b t from r);cases e;rfl
 | ref a=>cases (show u=Value.ref a from r);rfl
 | ty n=>cases (show u=Value.type n from r);rfl
section
variable{P:Program}{w:World}{H H':Hp}{h h':Heap}{a C dx:Addr}{fs fs':List (Str×V)}
def zgB(hok:HOk P w H h)(e:H a=some (.ins C dx fs)):∃mA,ObjM h a dx C mA/\(∀f,zmw (fs.lookup f) (mA f))/\PySem.Within mA (fs.map (·.1))/\fs.length<=1000/\H dx=some (.own a):=by
 obtain ⟨d,z,ne,ob,mA,n,r,q⟩:=(show zb3 P w H h a (.ins C dx fs) from hok a _ e);exact ⟨mA,⟨ob,n,ne⟩,r,q,z,d⟩
end
structure Cls(K:PySem.W.Frag)(C:Addr):Prop where
 pg:PySem.W.plainGet K C Str.empty=true
 hd:PySem.W.hasDictIn K C=true
 po:PySem.W.plainOver K C=true
 sa:PySem.W.findIn K (.ref C) "__setattr__" = some (some (.builtin "object.__setattr__"))
def Cls.get{K:PySem.W.Frag}{C:Addr}(c:Cls K C)(f:Str):PySem.W.plainGet K C f=true:=c.pg
def zdB(K:PySem.W.Frag)(C:Addr)(f:Str):Prop:=PySem.W.findIn K (.ref C) f=some none
def zdB.taker{K:PySem.W.Frag}{C:Addr}{f:Str}(n:zdB K C f):PySem.W.takerIn K C f=some none:=by
 unfold PySem.W.takerIn;rw [show PySem.W.findIn K (.ref C) f=some none from n];rfl
structure Meth(K:PySem.W.Frag)(C:Addr)(m:Str)(f:Addr):Prop where
 at_:PySem.W.findIn K (.ref C) m=some (some (.ref f))
 fn:PySem.W.isFn K (.ref f)=true
 kp:PySem.W.keepIn K (.ref f)=true
section
variable{X:Cx}{pins:Z3}{σ:St}{H:Hp}{s:Shared}{a C dx:Addr}{fs:List (Str×V)}{f:Str}{v:V}{A:Around}{E:Z5}
def zjV{b:Bool}{Q:Z5}(I:Inv X pins σ H s)(e:H a=some (.ins C dx fs))(c:Cls X.K C)(n:zdB X.K C f)(l:fs.lookup f=some v)
  (h:∀u s',Inv X pins σ H s'->zbw v u->Q u s'):wpAny (model X.prog X.w) A (getAttr (.ref a) f b) Q E s:=by
 obtain ⟨mA,O,r,_,_,_⟩:=zgB I.hok e;obtain ⟨u,hu,ru⟩:=zmw.some_of (v:=v) (o:=mA f) (by rw [<-l];exact r f);exact zqj I.kIn O (c.get f) c.hd n hu (zlR ru) (h u _ (I.tok _) ru)
def zfY{m:Str}{g:Addr}{pl:Sem Bool}{Q:Value×List Value->Shared->Prop}(I:Inv X pins σ H s)(e:H a=some (.ins C dx fs))(c:Cls X.K C)(k:Meth X.K C m g)(l:fs.lookup m=none)
  (h:Q (.ref g,[.ref a]) s):wpAny (model X.prog X.w) A (getMethod (.ref a) m pl) Q E s:=by
 obtain ⟨mA,O,r,_,_,_⟩:=zgB I.hok e;have hn:mA m=none:=zmw.none_of (by rw [<-l];exact r m);exact znE I.kIn O (c.get m) k.at_ k.fn hn h
def zjD{y:V}{u:Value}{Q:Unit->Shared->Prop}(I:Inv X pins σ H s)(e:H a=some (.ins C dx fs))(c:Cls X.K C)(n:zdB X.K C f)(hl:fs.length<1000)(ry:zbw y u)
  (h:∀s',Inv X pins σ (upd H a (.ins C dx (zdD f y fs))) s'->Q () s'):wpAny (model X.prog X.w) A (setAttr (.ref a) f u) Q E s:=by
 obtain ⟨mA,O,r,wi,_,ho⟩:=zgB I.hok e
 have hz:(fs.map (·.1)).length<=sizeLine:=by rw [yae,sizeLine_eq];omega
 refine zpg I.kIn O c.sa c.po n.taker c.hd wi hz fun h' O' sb=>h _ ?_
 have hd:∃o,h'.get? dx=some o:=let ⟨o,_,_,e',_⟩:=O'.ns;⟨o,e'⟩
 refine I.write (x:=a) (e:=dx) (by rw [e];exact True.intro) (.inr ho) (fun b q hb z=>(sb.2 b hb).trans z) hd ?_;refine ⟨by rw [zaq O.ne];exact ho,?_,O.ne,O'.obj,_,O'.ns,fun g=>?_,fun g hg=>?_⟩
 ·have:=zfg f y fs;omega
 ·show zmw ((zdD f y fs).lookup g) (if g=f then some u else mA g);rw [zff]
  by_cases q:g=f
  ·rw [if_pos q,if_pos q];exact ry
  ·rw [if_neg q,if_neg q];exact r g
 ·by_cases q:g=f
  ·rw [q];exact (zfh f y fs).1
  ·refine (zfh f y fs).2 g (wi g fun z=>hg ?_);show (if g=f then some u else mA g)=none;rw [if_neg q];exact z
def Inv.made(I:Inv X pins σ H s):Inv X pins σ (upd (upd H s.heap.objs.size (.own (s.heap.objs.size+1))) (s.heap.objs.size+1) (.ins C s.heap.objs.size []))
  { s with heap:=(s.heap.push PySem.W.emptyDict).push (PySem.W.instObj C s.heap.objs.size) }:=by
 have e1:(s.heap.push PySem.W.emptyDict).get? s.heap.objs.size=some PySem.W.emptyDict:=yax s.heap rfl
 have e2:((s.heap.push PySem.W.emptyDict).push (PySem.W.instObj C s.heap.objs.size)).get? (s.heap.objs.size+1)=some (PySem.W.instObj C s.heap.objs.size):=by
  have:=yax (s.heap.push PySem.W.emptyDict) (o:=PySem.W.instObj C s.heap.objs.size) rfl
  rwa [ya9] at this
 have e3:(s.heap.push PySem.W.emptyDict).Ns s.heap.objs.size (fun _=>none):=⟨PySem.W.emptyDict,#[],_,e1,rfl,(fun e he=>absurd he (by simp)),fun _=>rfl⟩;have I1:=I.laid (a:=s.heap.objs.size) (o:=.own (s.heap.objs.size+1)) (h':=s.heap.push PySem.W.emptyDict) (t':=s.toks) (fun b u q=>yaf _ q) (yam _) ⟨_,e1⟩;refine I1.laid (a:=s.heap.objs.size+1) (o:=.ins C s.heap.objs.size []) (t':=s.toks) (fun b u q=>yaf _ q) (ycQ (ya9 _ _)) ?_;have ne:s.heap.objs.size≠s.heap.objs.size+1:=yaG (ybS _);refine ⟨by rw [zaq ne,zaW],yby _,ne,e2,fun _=>none,(Heap.Ns1.of_empty e3).at fun o q=>yaf _ q,fun _=>True.intro,fun y hy=>absurd rfl hy⟩
def zqB{prog:Program}{w:World}{env:Env}{e:Expr}{f:Str}{pos:Pos}{s:Shared}{Q:Z5}(hb:attributeBase e f env (eval e env)=eval e env)
  (h:wpAny (model prog w) A (eval e env) (fun o s₁=>wpAny (model prog w) A (getAttr o f true) Q E s₁) E s):wpAny (model prog w) A (eval (.Attribute e f pos) env) Q E s :=
 Attribute_any_ h (by rw [arm_eval_Attribute,hb])
end
def zwq(K:PySem.W.Frag)(ta:TE)(f:Str):TE:=fun σ H Q=>ta σ H fun x H1=>∃a C dx fs v,x=.ref a/\H1 a=some (.ins C dx fs)/\Cls K C/\zdB K C f/\fs.lookup f=some v/\Q v H1
def zym(K:PySem.W.Frag)(ta tv:TE)(f:Str):TS:=fun D σ H=>tv σ H fun y H1=>ta σ H1 fun x H2=>∃a C dx fs,x=.ref a/\H2 a=some (.ins C dx fs)/\Cls K C/\zdB K C f/\fs.length<1000 ∧
 D.nx σ (upd H2 a (.ins C dx (zdD f y fs)))
def zxE(X:Cx)(op:Operator)(rd:V->V->Hp->VK->Prop):Prop :=
 ∀(pins:Z3) (s:Shared) (σ:St) (H:Hp) (x y:V) (u v:Value) (Q:VK),Inv X pins σ H s->zbw x u->zbw y v->rd x y H Q->wpAny (model X.prog X.w) X.A (inplaceOp op u v) (EP X pins σ Q) X.xe s
section
variable{X:Cx}{o e value:Expr}{f:Str}{pos pos' tpos:Pos}{ta tv:TE}
def zhg(he:PE X e ta)(hb:attributeBase e f X.env (eval e X.env)=eval e X.env):PE X (.Attribute e f pos) (zwq X.K ta f):=by
 intro pins s σ H Q I h;refine zqB hb (thn (he pins s σ H _ I h) fun u s1 ⟨x,H1,I1,rx,a,C,dx,fs,v,ex,ea,c,n,l,q⟩=>?_);subst ex;obtain rfl:u=Value.ref a:=rx;exact zjV I1 ea c n l fun u' s2 I2 ru=>⟨v,H1,I2,ru,q⟩
def zoi(ha:PE X o ta)(hv:PE X value tv)(hs:swapsWith value (some (.Attribute o f pos')) pos.line X.env=pure false):PS X (.Assign [.Attribute o f pos'] value pos) (zym X.K ta tv f):=by
 intro pins s σ H D I h;refine plainObj_wpAny_Assign_Attribute (thn (hv pins s σ H _ I h) fun u s1 ⟨y,H1,I1,ry,q⟩=>thn (ha pins s1 σ H1 _ I1 q) fun ov s2 ⟨x,H2,I2,rx,a,C,dx,fs,ex,ea,c,n,l,q2⟩=>?_) hs;subst ex;obtain rfl:ov=Value.ref a:=rx;exact zjD I2 ea c n l ry fun s3 I3=>⟨σ,_,I3,q2⟩
def zww:V->V->Hp->VK->Prop:=fun x y H Q=>∃i j,x=.int i/\y=.int j/\Q (.int (i+j)) H
def zwv:V->V->Hp->VK->Prop:=fun x y H Q=>∃i j,x=.int i/\y=.int j/\Q (.int (i-j)) H
def zs9:zxE X .Add zww:=by
 rintro pins s σ H x y u v Q I rx ry ⟨i,j,rfl,rfl,q⟩;obtain ⟨t,rfl⟩:=(show ∃t,u=Value.int i t from rx);obtain ⟨t',rfl⟩:=(show ∃t',v=Value.int j t' from ry);exact PyProof.Rows.iadd_int ⟨.int (i+j),H,I.tok _,⟨_,rfl⟩,q⟩
def zs8:zxE X .Sub zwv:=by
 rintro pins s σ H x y u v Q I rx ry ⟨i,j,rfl,rfl,q⟩;obtain ⟨t,rfl⟩:=(show ∃t,u=Value.int i t from rx);obtain ⟨t',rfl⟩:=(show ∃t',v=Value.int j t' from ry);exact PyProof.Rows.isub_int ⟨.int (i-j),H,I.tok _,⟨_,rfl⟩,q⟩
end
section
variable{X:Cx}{pins:Z3}{σ:St}{H:Hp}{s:Shared}{A:Around}{E:Z5}{Q:Z5}{c:Value}{b:Bool}
inductive TyOf(K:PySem.W.Frag)(H:Hp):V->Value->Prop where
 | non:TyOf K H .non (.type "NoneType")
 | bl (x:Bool):TyOf K H (.bl x) (.type "bool")
 | int (i:Int):TyOf K H (.int i) (.type "int")
 | str (x:Str):TyOf K H (.str x) (.type "str")
 | flt (x:UInt64):TyOf K H (.flt x) (.type "float")
 | lst {a:Addr} {xs:List V} (e:H a=some (.lst xs)):TyOf K H (.ref a) (.type "list")
 | frz {a:Addr} {o:Obj} {xs:List V} (e:H a=some (.frz o (.lst xs))):TyOf K H (.ref a) (.type "list")
 | tup {a:Addr} {xs:List V} (e:H a=some (.tup xs)):TyOf K H (.ref a) (.type "tuple")
 | dK {a:Addr} {kvs:List (Key×V)} (e:H a=some (.dK kvs)):TyOf K H (.ref a) (.type "dict")
 | dT {a:Addr} {kvs:List (List Key×V)} (e:H a=some (.dT kvs)):TyOf K H (.ref a) (.type "dict")
 | ins {a C dx:Addr} {fs:List (Str×V)} (e:H a=some (.ins C dx fs)) (cl:Cls K C) (ha:PySem.W.findIn K (.ref C) "__class__" = some (some (.builtin "object.__class__")))
   (hn:PySem.W.specialIn K (.builtin "object.__class__") "__get__" = some (some (.builtin "getset_descriptor.__get__"))) (htk:PySem.W.takesIn K (.builtin "object.__class__")=some true)
   (hm:PySem.W.mroIn K C (.type "object")=some true):TyOf K H (.ref a) (.ref C)
def zlH{x:V}{u t:Value}(I:Inv X pins σ H s)(rx:zbw x u)(ty:TyOf X.K H x t)(e:PySem.W.kitOne X.K t c=some b)(h:∀tk,Q (.bool b) { s with toks:=tk }) :
  wpAny (model X.prog X.w) A (call (.builtin "isinstance") [u,c]) Q E s:=by
 cases ty with
 | non=>cases (show u=Value.none from rx);exact ya7 PySem.W.kitx_none I.kIn True.intro e (fun z=>nomatch z) h
 | bl y=>cases (show u=Value.bool y from rx);exact ya7 PySem.W.kitx_bool I.kIn True.intro e (fun z=>nomatch z) h
 | int i=>obtain ⟨t,q⟩:=(show ∃t,u=Value.int i t from rx);cases q;exact ya7 PySem.W.kitx_int I.kIn True.intro e (fun z=>nomatch z) h
 | str y=>obtain ⟨t,q⟩:=(show ∃t,u=Value.str y t from rx);cases q;exact ya7 PySem.W.kitx_str I.kIn True.intro e (fun z=>nomatch z) h
 | flt y=>obtain ⟨t,q⟩:=(show ∃t,u=Value.float y t from rx);cases q;exact ya7 PySem.W.kitx_float I.kIn True.intro e (fun z=>nomatch z) h
 | @lst a xs ea =>
  cases (show u=Value.ref a from rx);obtain ⟨_,_,n,_,h1⟩:=(show zb3 X.prog X.w H s.heap a (.lst xs) from I.hok a _ ea);exact ya7 PySem.W.kitx_list I.kIn ⟨_,h1,rfl⟩ e (fun z=>nomatch z) h
 | @frz a ob xs ea =>
  cases (show u=Value.ref a from rx);obtain ⟨_,_,_,n,_,h1⟩:=(show zb3 X.prog X.w H s.heap a (.frz ob (.lst xs)) from I.hok a _ ea);exact ya7 PySem.W.kitx_list I.kIn ⟨_,h1,rfl⟩ e (fun z=>nomatch z) h
 | @tup a xs ea =>
  cases (show u=Value.ref a from rx);obtain ⟨_,_,_,p⟩:=(show zb3 X.prog X.w H s.heap a (.tup xs) from I.hok a _ ea);obtain ⟨o,h1,h2,_⟩:=p;exact ya7 PySem.W.kitx_tuple I.kIn ⟨o,h1,h2⟩ e (fun z=>nomatch z) h
 | @dK a kvs ea =>
  cases (show u=Value.ref a from rx);obtain ⟨_,_,vs,_,p⟩:=(show zb3 X.prog X.w H s.heap a (.dK kvs) from I.hok a _ ea);obtain ⟨o,es,ep,h1,h2,_⟩:=p;exact ya7 PySem.W.kitx_dict I.kIn ⟨o,h1,h2.1⟩ e (fun z=>nomatch z) h
 | @dT a kvs ea =>
  cases (show u=Value.ref a from rx);obtain ⟨_,_,xs,_,o,es,ep,h1,h2,_⟩:=(show zb3 X.prog X.w H s.heap a (.dT kvs) from I.hok a _ ea);exact ya7 PySem.W.kitx_dict I.kIn ⟨o,h1,h2.1⟩ e (fun z=>nomatch z) h
 | @ins a C dx fs ea cl ha hn htk hm =>
  cases (show u=Value.ref a from rx);obtain ⟨mA,O,_⟩:=zgB I.hok ea;obtain ⟨od,J,_⟩:=O.look;exact ya7 (PySem.W.kitx_own (cl.get _) cl.hd ha hn htk hm) I.kIn J e (fun z=>nomatch z) h
end
end L2
namespace L2
open PySem PySem.Spec PyProof.Rows
structure Room(k:Nat)(A:Around):Prop where
 hd:A.handled=none
 dp:A.depth+3*k+5<recursionLimit
 un:A.units+16*k+200<cLine
def Room.mono{j k:Nat}{A:Around}(r:Room k A)(h:j<=k):Room j A:=⟨r.hd,by have:=r.dp;omega,by have:=r.un;omega⟩
theorem Room.deeper{k:Nat}{A:Around}(r:Room (k+1) A)(env:Env):Room k (A.deeper env) :=
 ⟨r.hd,by have:=r.dp;show A.depth+1+3*k+5<_;omega,by have:=r.un;show A.units+3+16*k+200<_;omega⟩
def zjQ{A:Around}{C:Addr}{us:List Value}{kw:List (Str×Value)}:(A.under (.builtin "type.__call__" ⟨.ref C::us,kw⟩)).depth=A.depth+1:=by
 first | rfl | simp [Around.under,Code.weight,Code.isCreation,Code.isGuard,Code.isCaller,Code.frames,Code.isFrame,guardIds]
def zjP{A:Around}{C:Addr}{us:List Value}{kw:List (Str×Value)}:(A.under (.builtin "type.__call__" ⟨.ref C::us,kw⟩)).units=A.units+1:=by
 first | rfl | simp [Around.under,Code.cUnits,Code.frames,Code.isFrame]
def Room.make{k:Nat}{A:Around}(r:Room (k+1) A)(C:Addr)(us:List Value)(kw:List (Str×Value)):Room k (A.under (.builtin "type.__call__" ⟨.ref C::us,kw⟩)) :=
 ⟨r.hd,by have:=r.dp;rw [zjQ];omega,by have:=r.un;rw [zjP];omega⟩
theorem Room.depth{k:Nat}{A:Around}(r:Room k A):A.depth<recursionLimit:=by have:=r.dp;omega
theorem Room.units{k:Nat}{A:Around}(r:Room k A):A.units+64<cLine:=by have:=r.un;omega
def zup:TA:=fun _ H Q=>Q [] H
def zuv(ta:TE)(tr:TA):TA:=fun σ H Q=>ta σ H fun x H1=>tr σ H1 fun xs H2=>Q (x::xs) H2
section
variable{X:Cx}{e:Expr}{es:List Expr}{te:TE}{t:TA}{pos:Pos}
def ze7:PA X [] zup:=fun _ _ _ _ H Q I h=>Calls.spliced_nil ⟨[],H,I,.nil,h⟩
def zcO(ha:PE X e te)(hr:PA X es t)(hs:starEach (e::es) X.env=(false,eval e X.env)::starEach es X.env:=by rfl):PA X (e::es) (zuv te t):=by
 intro pos pins s σ H Q I h;rw [hs];show wpAny _ _ (spliced ((false,eval e X.env)::backTo pos (starEach es X.env))) _ _ s;refine Calls.spliced_cons (thn (ha pins s σ H _ I h) fun u s1 ⟨x,H1,I1,r1,q1⟩=>?_);exact thn (hr pos pins s1 σ H1 _ I1 q1) fun us s2 ⟨xs,H2,I2,r2,q2⟩=>⟨x::xs,H2,I2,.cons r1 r2,q2⟩
def zyd(t:TA):TE:=fun σ H Q=>t σ H fun xs H1=>xs.length<=sizeLine/\∀p,H1 p=none->Q (.ref p) (upd H1 p (.tup xs))
def zyi(t:TA):TE:=fun σ H Q=>t σ H fun xs H1=>xs.length<=sizeLine/\∀p,H1 p=none->Q (.ref p) (upd H1 p (.lst xs))
def zr9{x1}(h:PA X es t):PE X (.Tuple es x1 pos) (zyd t):=by
 intro pins s σ H Q I hq;refine wpAny_Tuple_spliced (thn (h pos pins s σ H _ I hq) fun us s1 ⟨xs,H1,I1,r,z,q⟩=>⟨by rw [<-r.length];exact z,?_⟩);have hf:H1 s1.heap.objs.size=none:=I1.hok.fresh (yam _);refine ⟨.ref s1.heap.objs.size,upd H1 s1.heap.objs.size (.tup xs),I1.laid (t':=s1.toks) (fun b u e=>yaf _ e) (yam _) ?_,rfl,q _ hf⟩;exact ⟨z,us,r,⟨_,yax _ rfl,rfl,_,rfl⟩⟩
def zsg(h:PA X es t):PE X (.List es pos) (zyi t):=by
 intro pins s σ H Q I hq;refine wpAny_List_spliced (thn (h pos pins s σ H _ I hq) fun us s1 ⟨xs,H1,I1,r,z,q⟩=>⟨by rw [<-r.length];exact z,?_⟩);have hf:H1 s1.heap.objs.size=none:=I1.hok.fresh (yam _);refine ⟨.ref s1.heap.objs.size,upd H1 s1.heap.objs.size (.lst xs),I1.laid (t':=s1.toks) (fun b u e=>yaf _ e) (yam _) ?_,rfl,q _ hf⟩;exact ⟨z,us,0,r,yax _ rfl⟩
end
abbrev Sp:=List V->Hp->VK->XK->Prop
abbrev CXT:=List Env->Hp->Shared->XK->Value->Shared->Prop
structure Env0(P:Program)(w:World)(K:PySem.W.Frag)(mg:Z6)(base:Heap)(A:Around)(outer:List Env)(s:Shared)(H:Hp):Prop where
 frames:A.frames=some outer
 mod:Mod K mg base
 bs:∀b o,base.get? b=some o->s.heap.get? b=some o/\H b=none
 bsz:base.objs.size<=s.heap.objs.size
 funs:s.heap.FunFrames base outer
 frf:∀b∈frs outer,H b=none
 hok:HOk P w H s.heap
 bare:AllBare s.gens
def CE(outer:List Env)(P:Program)(w:World)(H:Hp)(s:Shared)(Q:VK)(u:Value)(s':Shared):Prop :=
 ∃v H',s'.os=s.os/\AllBare s'.gens/\Un (frs outer) [] H H' s.heap s'.heap/\HOk P w H' s'.heap/\zbw v u/\Q v H'
def CR(CX:CXT)(outer:List Env)(P:Program)(w:World)(H:Hp)(s:Shared)(Q:VK)(E:XK)(r:Result)(s':Shared):Prop :=
 match r with
 | .ok (.ret u)=>CE outer P w H s Q u s'
 | .ok _=>False
 | .error e=>CX outer H s E e s'
structure FnOk(P:Program)(w:World)(K:PySem.W.Frag)(mg:Z6)(base:Heap)(CX:CXT)(k:Nat)(f:Addr)(fd:FuncData)(ps:List Str)(sp:Sp):Prop where
 len:∀vs H Q E,sp vs H Q E->vs.length=ps.length
 run:∀(A:Around) (outer:List Env) (s:Shared) (H:Hp) (args:Args) (us:List Value) (vs:List V) (Q:VK) (E:XK),Room k A->Env0 P w K mg base A outer s H->BindsTo s fd args (ps.zip us)->Vals vs us->sp vs H Q E →
  codeAny (model P w) A (.call (.ref f) args) (CR CX outer P w H s Q E) s
theorem FnOk.mono{P:Program}{w:World}{K:PySem.W.Frag}{mg:Z6}{base:Heap}{CX:CXT}{j k:Nat}{f:Addr}{fd:FuncData}{ps:List Str}{sp:Sp}(F:FnOk P w K mg base CX j f fd ps sp)(h:j<=k) :
  FnOk P w K mg base CX k f fd ps sp:=⟨F.len,fun A outer s H args us vs Q E hr=>F.run A outer s H args us vs Q E (hr.mono h)⟩
def FnOk.imp{P:Program}{w:World}{K:PySem.W.Frag}{mg:Z6}{base:Heap}{CX:CXT}{k:Nat}{f:Addr}{fd:FuncData}{ps:List Str}{sp sp':Sp}(F:FnOk P w K mg base CX k f fd ps sp)
  (h:∀vs H Q E,sp' vs H Q E->sp vs H Q E):FnOk P w K mg base CX k f fd ps sp' :=
 ⟨fun vs H Q E q=>F.len vs H Q E (h _ _ _ _ q),fun A outer s H args us vs Q E hr he hb hv hs=>F.run A outer s H args us vs Q E hr he hb hv (h _ _ _ _ hs)⟩
def Env0.make{P:Program}{w:World}{K:PySem.W.Frag}{mg:Z6}{base:Heap}{A:Around}{outer:List Env}{s:Shared}{H:Hp}(e:Env0 P w K mg base A outer s H)(C:Addr)(us:List Value)(kw:List (Str×Value)) :
  Env0 P w K mg base (A.under (.builtin "type.__call__" ⟨.ref C::us,kw⟩)) outer s H:=⟨by first | exact e.frames | (simpa [Around.under,Code.envs,Code.isFrame,pushEnvs] using e.frames),e.mod,e.bs,e.bsz,e.funs,e.frf,e.hok,e.bare⟩
section
variable{X:Cx}{pins:Z3}{σ:St}{H:Hp}{s s':Shared}
def Inv.env0(I:Inv X pins σ H s):Env0 X.prog X.w X.K X.mg X.base X.A X.stack s H :=
 ⟨I.ok.frames,I.ok.mod,I.bs,yah I.ok.bsz I.sz,I.stack,I.stkFree,I.hok,I.bare⟩
def Inv.after{Q:VK}{u:Value}(I:Inv X pins σ H s)(h:CE X.stack X.prog X.w H s Q u s'):EP X pins σ Q u s':=by
 obtain ⟨v,H',os,bare,un,hok,r,q⟩:=h;obtain ⟨hh,g,d,t,os'⟩:=s';obtain rfl:os'=s.os:=os;exact ⟨v,H',I.call (h':=hh) (g':=g) (d':=d) (t':=t) (ch:=[]) un hok bare (fun b z=>absurd z (by simp)),r,q⟩
end
def zbQ(K:PySem.W.Frag)(fd:FuncData)(ps:List Str)(ds:List Value):Prop :=
 ∀(s:Shared) (us:List Value),K.In s.heap->(us++ds).length=ps.length->BindsTo s fd ⟨us,[]⟩ (ps.zip (us++ds))
def zbQ.all{K:PySem.W.Frag}{fd:FuncData}{ps:List Str}(h:∀us:List Value,us.length=ps.length->bindArgs fd ⟨us,[]⟩=pure (ps.zip us)):zbQ K fd ps []:=fun s us _ hl=>by
 rw [yaY] at hl ⊢;exact .of_eq (h us hl)
def ztB(CX:CXT)(X:Cx)(E:XK):Prop:=∀(pins:Z3) (σ:St) (H:Hp) (s:Shared) (e:Value) (s':Shared),Inv X pins σ H s->CX X.stack H s E e s'->X.xe e s'
section
variable{X:Cx}{CX:CXT}{k:Nat}{f C:Addr}{fd:FuncData}{ps:List Str}{sp:Sp}{dvs:List V}{ds:List Value}{E:XK}{x m:Str}{p pos apos:Pos}{e o:Expr}{es:List Expr}{ta:TE}{t:TA}
structure Mk(K:PySem.W.Frag)(C f:Addr):Prop where
 makes:PySem.W.makesIn K C=true
 init:PySem.W.findIn K (.ref C) "__init__" = some (some (.ref f))
 fn:PySem.W.isFn K (.ref f)=true
 kp:PySem.W.keepIn K (.ref C)=true
end
section
variable{X:Cx}{CX:CXT}{k:Nat}{f C:Addr}{fd:FuncData}{ps ks:List Str}{sp:Sp}{E:XK}{x m:Str}{p pos apos kpos:Pos}{e o:Expr}{es:List Expr}{kws:List Keyword}{te ta:TE}{t tk:TA}{nm:Option Str}
variable{g:List Value->List Value->List Value}{gV:List V->List V->List V}
end
structure FnScope(N P:List Str)(sc:Scope):Prop where
 kind:sc.kind=.function
 co:sc.isCoroutine=false
 gen:sc.isGenerator=false
 nd:N.Nodup
 pre:N.take P.length=P
 par:∀x∈P,sc.names.lookup x=some .local\/sc.names.lookup x=some .cell
 nofree:∀y∈sc.names,y.2≠.free
theorem zhN{kindOf:Str->Option NameKind}{x:Str}:∀{binds:List (Str×Value)} {m:Z6},(∀v,(x,v) ∉ binds)->bindL kindOf binds m x=m x
 | [],_,_=>rfl
 | (n,v)::r,m,h=>by
  unfold bindL;rw [zhN fun w hw=>h w (yap _ hw)];split
  ·have:x≠n:=by rintro rfl;exact h v yat
   simp [this]
  ·rfl
theorem zhP{kindOf:Str->Option NameKind}{x:Str}:∀{binds:List (Str×Value)} {m:Z6},(∀v,(x,v) ∉ binds)->bindC kindOf binds m x=m x
 | [],_,_=>rfl
 | (n,v)::r,m,h=>by
  unfold bindC;rw [zhP fun w hw=>h w (yap _ hw)];split
  ·rfl
  ·have:x≠n:=by rintro rfl;exact h v yat
   simp [this]
theorem zhO{kindOf:Str->Option NameKind}{x:Str}{v:Value}:∀{P:List Str} {vs:List Value} {i:Nat} {m:Z6},P.Nodup->P[i]?=some x->vs[i]?=some v->kindOf x=some .local →
  bindL kindOf (P.zip vs) m x=some v
 | [],_,_,_,_,h,_,_=>by simp at h
 | _::_,[],_,_,_,_,h,_=>by simp at h
 | p::P,w::vs,0,m,nd,h1,h2,hk=>by
  simp at h1 h2;subst h1;subst h2;show bindL kindOf ((p,w)::P.zip vs) m p=_;unfold bindL;rw [zhN fun v hv=>(ybs.mp nd).1 (List.of_mem_zip hv).1,if_pos hk];simp
 | p::P,w::vs,i+1,m,nd,h1,h2,hk=>by
  show bindL kindOf ((p,w)::P.zip vs) m x=_;unfold bindL;exact zhO (i:=i) (ybs.mp nd).2 (by simpa using h1) (by simpa using h2) hk
theorem zhQ{kindOf:Str->Option NameKind}{x:Str}{v:Value}:∀{P:List Str} {vs:List Value} {i:Nat} {m:Z6},P.Nodup->P[i]?=some x->vs[i]?=some v->kindOf x≠some .local →
  bindC kindOf (P.zip vs) m x=some v
 | [],_,_,_,_,h,_,_=>by simp at h
 | _::_,[],_,_,_,_,h,_=>by simp at h
 | p::P,w::vs,0,m,nd,h1,h2,hk=>by
  simp at h1 h2;subst h1;subst h2;show bindC kindOf ((p,w)::P.zip vs) m p=_;unfold bindC;rw [zhP fun v hv=>(ybs.mp nd).1 (List.of_mem_zip hv).1,if_neg hk];simp
 | p::P,w::vs,i+1,m,nd,h1,h2,hk=>by
  show bindC kindOf ((p,w)::P.zip vs) m x=_;unfold bindC;exact zhQ (i:=i) (ybs.mp nd).2 (by simpa using h1) (by simpa using h2) hk
def zeW(N:List Str)(vs:List V):St:=vs.map some++List.replicate (N.length-vs.length) none
def zl1(CX:CXT)(P:Program)(w:World)(K:PySem.W.Frag)(mg:Z6)(base:Heap)(N:List Str)(qual:Str)(scope:Scope)(f:Addr)(cd:Value)(A:Around)(outer:List Env)(s:Shared)(H:Hp)(E:XK):Cx where
 prog:=P
 w:=w
 K:=K
 mg:=mg
 base:=base
 A:=A.deeper (envOfC qual scope s.heap.objs.size f cd)
 N:=N
 s₀:=s
 H₀:=H
 env:=envOfC qual scope s.heap.objs.size f cd
 outer:=outer
 stack:=envOfC qual scope s.heap.objs.size f cd::outer
 ex:=[]
 calm:=true
 fn:=fun _=>true
 pn:=[]
 xe:=fun e s'=>wpAny (model P w) (A.deeper (envOfC qual scope s.heap.objs.size f cd)) (leaving (envOfC qual scope s.heap.objs.size f cd) e) (fun _ s''=>CX outer H s E e s'') (fun e' s''=>CX outer H s E e' s'') s'
def zjo{sc:Scope}{n:Nat}{x:Str}(h:sc.names.lookup x=some .cell):∃c,(cellsFrom n sc.names []).lookup x=some c:=by
 have q:=PySem.W.cellsFrom_some sc.names n [] (.inl h);exact Option.isSome_iff_exists.mp q
def zlK{CX:CXT}{P:Program}{w:World}{K:PySem.W.Frag}{mg:Z6}{base:Heap}{N ps:List Str}{qual:Str}{scope:Scope}{f:Addr}{cd:Value}{A:Around}{outer:List Env}{s s1:Shared}{H:Hp}{E:XK}{us:List Value}{vs:List V}
  (S:FnScope N ps scope) (hd:A.handled=none) (e0:Env0 P w K mg base A outer s H) (hl:vs.length=ps.length) (r:Vals vs us)
  (x:InCallC s s.heap.objs.size (bindL (envOfC qual scope s.heap.objs.size f cd).kindOf (ps.zip us) fun _=>none) (cellsFrom (s.heap.objs.size+1) scope.names []) (bindC (envOfC qual scope s.heap.objs.size f cd).kindOf (ps.zip us) fun _=>none) s1) :
  Inv (zl1 CX P w K mg base N qual scope f cd A outer s H E) [] (zeW N vs) H s1:=by
 have hpl:ps.length<=N.length:=by have:=congrArg List.length S.pre;rw [ybu] at this;omega
 obtain ⟨h1,tk,rfl,hk⟩:=x.done;have noA:∀b:Addr,b ∉ (zl1 CX P w K mg base N qual scope f cd A outer s H E).ex:=fun b z=>absurd (show b∈([]:List Addr) from z) (by simp)
 refine ⟨⟨e0.mod,S.kind,rfl,rfl,yam _,fun y z c h1 h2=>?_,fun y hy=>?_,fun y c _ h=>?_,fun _=>hd,Around.frames_deeper e0.frames,.inr ⟨rfl,rfl⟩,fun b z=>absurd z (noA b),e0.bs,e0.bsz,fun b _ _=>noA b,fun b z=>absurd z (noA b),e0.funs,e0.frf⟩,
  rfl,e0.bare,Un.kept hk,⟨_,x.toInCall.ns,fun i y v h1 h2 h3=>?_⟩,fun y c h=>⟨_,x.cell y c h⟩,e0.hok.fresh (yam _),fun y c h=>?_,fun p hp=>absurd (show p∈([]:Z3) from hp) (by simp),e0.hok.kept hk,?_⟩
 ·exact name_of_addr x.apart (yaK h1) (yaK h2)
 ·have hy:scope.names.lookup y=some .cell\/scope.names.lookup y=some .free:=hy
  rcases hy with hy | hy
  ·exact zjo hy
  ·exact absurd rfl (S.nofree _ (yaK hy))
 ·exact ycP (x.above y c (yaK h))
 ·have hi:i<vs.length:=by
   unfold zeW at h2
   by_cases hi:i<vs.length
   ·exact hi
   ·rw [yaq (by simpa using hi)] at h2;rw [yba] at h2
    split at h2<;>cases h2
  have ha:vs[i]?=some v:=by
   unfold zeW at h2;rw [yaz (by simpa using hi),yak] at h2
   cases e:vs[i]? with
   | none=>rw [e] at h2;cases h2
   | some a=>rw [e] at h2;cases h2;rfl
  obtain ⟨u,hu,rv⟩:=r.get ha
  have hp:ps[i]?=some y:=by
   rw [<-S.pre,ybM (by omega)];exact h1
  have ndP:ps.Nodup:=by rw [<-S.pre];exact S.nd.sublist (List.take_sublist _ _)
  refine ⟨u,rv,?_⟩
  rcases S.par y (yb6 hp) with k | k
  ·exact .inl ⟨k,zhO ndP hp hu k⟩
  ·obtain ⟨c,e⟩:=zjo (n:=s.heap.objs.size+1) k;refine .inr ⟨.inl k,c,e,?_⟩;have q:=x.cell y c e;rw [zhQ ndP hp hu (by show scope.names.lookup y≠_;rw [k];decide)] at q;exact q
 ·exact e0.hok.fresh (ycP (x.above y c (yaK h)))
 ·unfold zeW;show _=N.length;rw [yao,yae,yaD];omega
def ztc{CX:CXT}{P:Program}{w:World}{K:PySem.W.Frag}{mg:Z6}{base:Heap}{k:Nat}{f:Addr}{name qual:Str}{params:Arguments}{body:List Stmt}{scope:Scope}{dV kV doc pm cdv ct oc:Value}{an od:Option Addr}
  {osl:Array (Option Value)} {N ps:List Str} {sp:Sp} (lk:K.lookup f=some ⟨oc,od,.func (PySem.W.fnOf name qual params body scope dV kV doc pm an cdv ct),osl⟩) (hcd:PySem.W.codeIn K cdv qual=true) (S:FnScope N ps scope)
  (len:∀vs H Q E,sp vs H Q E->vs.length=ps.length)
  (hbody:∀(A:Around) (outer:List Env) (s:Shared) (H:Hp) (vs:List V) (Q:VK) (E:XK),Room k (A.deeper (envOfC qual scope s.heap.objs.size f cdv))->sp vs H Q E →
   ∃t,PSs (zl1 CX P w K mg base N qual scope f cdv A outer s H E) body t/\t { nx:=fun _ H'=>Q .non H',rt:=Q } (zeW N vs) H) :
  FnOk P w K mg base CX (k+1) f (PySem.W.fnOf name qual params body scope dV kV doc pm an cdv ct) ps sp:=by
 refine ⟨len,fun A outer s H args us vs Q E hr e0 hb r hsp=>?_⟩;have hl:=len _ _ _ _ hsp;have KX:K.In s.heap:=e0.mod.kin.keeps fun b o e=>(e0.bs b o e).1
 have lim:s.heap.NoLimit:=e0.mod.nolimit.keeps fun b o e=>(e0.bs b o e).1
 have hkind:∀y∈ps.zip us,scope.names.lookup y.1=some .local\/(scope.names.lookup y.1=some .cell/\((cellsFrom (s.heap.objs.size+1) scope.names []).lookup y.1).isSome=true):=fun ⟨n,v⟩ hy=>by
  rcases S.par n (List.of_mem_zip hy).1 with q | q
  ·exact .inl q
  ·exact .inr ⟨q,PySem.W.cellsFrom_some _ _ _ (.inl q)⟩
 refine codeAny_call_function hr.depth (KX _ _ lk) rfl S.co S.gen rfl (PySem.W.codeRec_of KX hcd) (hb _ _ _ _ ?_);refine wpAny_newFunctionEnv_cells S.kind hkind fun env he s1 x=>?_
 subst he;refine ⟨lim.keeps x.toInCall.keep,codeAny_func ?_⟩;obtain ⟨t,ht,hq⟩:=hbody A outer s H vs Q E (hr.deeper _) hsp;have I:Inv (zl1 CX P w K mg base N qual scope f cdv A outer s H E) [] (zeW N vs) H s1:=zlK S hr.hd e0 hl r x;refine ybt (ht [] s1 (zeW N vs) H _ I hq) (fun fl s' hs=>?_) fun e s' hs=>hs
 have fin:∀{σ':St} {H':Hp} {v:V} {u:Value},Inv (zl1 CX P w K mg base N qual scope f cdv A outer s H E) [] σ' H' s'->zbw v u->Q v H'->CE outer P w H s Q u s' :=
  fun {σ' H' v u} J rv q=>⟨v,H',J.os,J.bare,J.base,J.hok,rv,q⟩
 cases fl with
 | ret u =>
  obtain ⟨v,σ',H',J,rv,q⟩:=hs;exact fin J rv q
 | next =>
  obtain ⟨σ',H',J,q⟩:=hs;exact fin (v:=V.non) (u:=Value.none) J rfl q
 | brk =>
  obtain ⟨_,_,_,q⟩:=hs;exact False.elim q
 | cont =>
  obtain ⟨_,_,_,q⟩:=hs;exact False.elim q
end L2
namespace L2
open PySem PySem.Spec PyProof.Rows
section
variable{X:Cx}{x:Str}{p pos:Pos}{e:Expr}{es:List Expr}{t:TA}{id T:String}{r:List V->Hp->VK->Prop}
def tCB(r:List V->Hp->VK->Prop)(t:TA):TE:=fun σ H Q=>t σ H fun vs H1=>r vs H1 Q
def zgq(hc:zdN X (.builtin id) r)(hg:Gl X x)(hm:X.mg x=none)(hv:bootBuiltins x=some (.builtin id))(ha:PA X (e::es) t)(hn:x ≠ "__name__":=by decide)(hdb:(x == ("__debug__":Str))=false:=by decide)
  (he:starEach (e::es) X.env=(false,eval e X.env)::starEach es X.env:=by rfl) (hpl:(backTo pos (starEach es X.env)).any (·.1)=false:=by rfl):PE X (.Call (.Name x p) (e::es) [] pos) (tCB r t):=by
 intro pins s σ H Q I h;refine ybV (zdz I hg hm hv ?_ hn hdb);exact PyProof.Rows.callWith_builtin1 (thn (ha pos pins s σ H _ I h) fun us s1 ⟨vs,H1,I1,r1,q1⟩=>hc pins s1 σ H1 vs us Q I1 r1 q1) he hpl
def ze6(hc:zdN X (.type T) r)(hg:Gl X x)(hm:X.mg x=none)(hv:bootBuiltins x=some (.type T))(ha:PA X (e::es) t)(hn:x ≠ "__name__":=by decide)(hdb:(x == ("__debug__":Str))=false:=by decide)
  (he:starEach (e::es) X.env=(false,eval e X.env)::starEach es X.env:=by rfl) (hpl:(backTo pos (starEach es X.env)).any (·.1)=false:=by rfl):PE X (.Call (.Name x p) (e::es) [] pos) (tCB r t):=by
 intro pins s σ H Q I h;refine ybV (zdz I hg hm hv ?_ hn hdb);exact yaS (thn (ha pos pins s σ H _ I h) fun us s1 ⟨vs,H1,I1,r1,q1⟩=>hc pins s1 σ H1 vs us Q I1 r1 q1) he hpl
end
end L2
namespace HT
open PySem PyProof.Rows
section
open PySem.SeqAt
open PySem.AutoSeq1 (wpAny_loadPart')
open PySem.MeetsSeq PySem.MeetsSeq2 PySem.MeetsSeq3
end
section
variable{prog:Program}{w:World}{A:Around}{E:Z5}{s:Shared}
def zqw{t b:Addr}{vs ws:List Value}{Q:Z5}(ht:IsTup s.heap t vs.toArray)(hb:IsTup s.heap b ws.toArray)(hv:vs≠[])
  (h1:ws=[]->Q (.ref t) s) (h2:ws≠[]->Q (.ref s.heap.objs.size) { s with heap:=s.heap.push { cls:=.type "tuple",data:=.seq (vs++ws).toArray } })
  (hsz:vs.length+ws.length<=sizeLine):wpAny (model prog w) A (binaryOp .Add (.ref t) (.ref b)) Q E s:=by
 obtain ⟨⟨cls,dd,data,sl⟩,ho,hc,n,hd⟩:=id ht;obtain ⟨⟨cls2,dd2,data2,sl2⟩,ho2,hc2,n2,hd2⟩:=id hb;simp only at hc hd hc2 hd2;subst hc hd hc2 hd2
 have e:vs.toArray++ws.toArray=(vs++ws).toArray:=by simp
 by_cases hw:ws=[]
 ·exact concat_meets ⟨_,ho,rfl⟩ ⟨_,ho2,rfl⟩ noFill_tuple_add seq_tuple_add ycq yck (yce _ _)
   (tuple_addW1 t b vs.toArray ws.toArray n n2 dd dd2 sl sl2 (by simpa using hv) (by simp [hw])) ⟨ho,ho2,h1 hw⟩
 ·refine concat_meets ⟨_,ho,rfl⟩ ⟨_,ho2,rfl⟩ noFill_tuple_add seq_tuple_add ycq yck (yce _ _)
   (tuple_addW2 t b vs.toArray ws.toArray n n2 dd dd2 sl sl2 (by simpa using hv) (by simpa using hw) (by rw [yal,yal];exact hsz)) ⟨ho,ho2,?_⟩
  rw [e];exact h2 hw
def sIx(n d:Nat):Option Int->Nat
 | none=>d
 | some v=>if v<0 then (v+(n:Int)).toNat else min v.toNat n
def zeY(n d k:Nat):sIx n d (some (k:Int))=min k n:=by
 show (if (k:Int)<0 then ((k:Int)+(n:Int)).toNat else min (k:Int).toNat n)=min k n;rw [if_neg (by omega),yaC]
def zrU(n d:Nat)(hd:d<=n)(o:Option Int):sIx n d o<=n:=by
 cases o with
 | none=>exact hd
 | some v =>
  show (if v<0 then (v+(n:Int)).toNat else min v.toNat n)<=n
  by_cases hv:v<0
  ·rw [if_pos hv];omega
  ·rw [if_neg hv];exact Nat.min_le_right _ _
def zma(v:Int)(n d:Nat):(if v<0 then max (v+(n:Int)) 0 else min v (n:Int))=((sIx n d (some v):Nat):Int):=by
 show (if v<0 then max (v+(n:Int)) 0 else min v (n:Int))=(((if v<0 then (v+(n:Int)).toNat else min v.toNat n):Nat):Int)
 by_cases hv:v<0
 ·simp only [if_pos hv];omega
 ·simp only [if_neg hv];omega
def zkf(lo hi:Option Int)(n:Nat):Builtin.Slice.sliceAdjust lo hi 1 (n:Int)=(((sIx n 0 lo:Nat):Int),((sIx n n hi:Nat):Int)):=by
 have h1:¬ ((1:Int)<0):=by omega
 unfold Builtin.Slice.sliceAdjust;simp only [h1,ybW];refine Prod.ext ?_ ?_
 ·cases lo with
  | none=>rfl
  | some v=>exact zma v n 0
 ·cases hi with
  | none=>rfl
  | some v=>exact zma v n n
def zjK(i j:Nat):Builtin.Slice.slicePlaces (i:Int) (j:Int) 1=j-i:=by
 unfold Builtin.Slice.slicePlaces
 have h1:(1:Int) > 0:=by omega
 simp only [h1,yb7,Int.ediv_one]
 split<;>omega
def zfN{v:Value}{o:Option Int}{Q:Option Int->Shared->Prop}(p:IsPart v o)(h:Q o s):wpAny (model prog w) A (Builtin.Slice.slicePartIndex v) Q E s:=by
 cases p with
 | none=>exact slicePart_none h
 | int i t=>exact slicePart_int h
def zcZ{sl:Addr}{vl vu:Value}{lo hi:Option Int}{n:Nat}{Q:Int×Int×Nat->Shared->Prop}(hs:s.heap.IsSliceOf sl vl vu .none)(pl:IsPart vl lo)(pu:IsPart vu hi)
  (h:Q (((sIx n 0 lo:Nat):Int),1,sIx n n hi-sIx n 0 lo) s):wpAny (model prog w) A (Builtin.Slice.sliceApplied (.ref sl) (pure (n:Int))) Q E s:=by
 obtain ⟨os,hos,hcs,hds⟩:=id hs;unfold Builtin.Slice.sliceApplied Builtin.Slice.sliceFields;refine yac (yac (ybz hos hds (x:=vl) rfl (yac (ybz hos hds (x:=vu) rfl (yac (ybz hos hds (x:=.none) rfl (yaj ?_)))))));refine yac (slicePart_none ?_);show wpAny _ _ (if ((1:Int) == 0)=true then _ else _) _ _ s;rw [if_neg (by decide)];refine yac (zfN pl (yac (zfN pu (yac (yaj ?_)))));show wpAny _ _ (match Builtin.Slice.sliceAdjust lo hi 1 (n:Int) with | (lo,hi)=>pure (lo,(1:Int),Builtin.Slice.slicePlaces lo hi 1)) _ _ s;rw [zkf lo hi n];show wpAny _ _ (pure (((sIx n 0 lo:Nat):Int),(1:Int),Builtin.Slice.slicePlaces ((sIx n 0 lo:Nat):Int) ((sIx n n hi:Nat):Int) 1)) _ _ s;rw [zjK];exact yaj h
def zm2(xs:Array Value)(i k:Nat):((List.range k).filterMap fun (m:Nat)=>xs[((i:Int)+(m:Int)*1).toNat]?).toArray=((xs.toList.drop i).take k).toArray:=by
 have e:(fun (m:Nat)=>xs[((i:Int)+(m:Int)*1).toNat]?)=fun m=>xs[i+m]?:=by
  funext m
  have:((i:Int)+(m:Int)*1).toNat=i+m:=by omega
  rw [this]
 rw [e];have:=pick_run xs i k;rw [List.filterMap_map] at this;have e2:((fun x=>xs[x]?)∘fun x=>i+x)=fun m=>xs[i+m]?:=rfl
 rw [e2] at this;rw [this]
def zen{t sl:Addr}{items:Array Value}{vl vu:Value}{lo hi:Option Int}{Q:Z5}(ht:IsTup s.heap t items)(hs:s.heap.IsSliceOf sl vl vu .none)(pl:IsPart vl lo)(pu:IsPart vu hi)
  (hw:¬ (sIx items.size 0 lo=0/\sIx items.size items.size hi=items.size))
  (h:Q (.ref s.heap.objs.size) { s with heap:=s.heap.push { cls:=.type "tuple",data:=.seq ((items.toList.drop (sIx items.size 0 lo)).take (sIx items.size items.size hi-sIx items.size 0 lo)).toArray } })
  (hsz:items.size<=sizeLine):wpAny (model prog w) A (getItem (.ref t) (.ref sl)) Q E s:=by
 have htake:sizeOk (.seq ((items.toList.drop (sIx items.size 0 lo)).take (sIx items.size items.size hi-sIx items.size 0 lo)).toArray):=by
  show ((items.toList.drop (sIx items.size 0 lo)).take (sIx items.size items.size hi-sIx items.size 0 lo)).toArray.size<=sizeLine;rw [yal,ybu,ybE,ycH];omega
 have hj:sIx items.size items.size hi<=items.size:=zrU _ _ (yam _) hi;obtain ⟨os,hos,hcs,hds⟩:=id hs;have hTs:s.TypeIs (.ref sl) "slice":=⟨os,hos,hcs⟩;unfold getItem
 try with_reducible refine yb2 ?_
 first | refine yac (yaj ?_) | skip
 refine yac (wpAny_sequenceKey ht.typeIs (by decide) ?_)
 refine yac (ybb (name:=Str.ofString "__getitem__") ht.typeIs yaZ
  (ybn yaZ ht.typeIs entry_tuple_getitem ?_ (args_tuple_getitem _ _)))
 show wpAny _ _ (Builtin.Tuple.tupleItemsOf (.ref t) >>= _) _ _ s;refine yac (tupleItemsOf_ ht ?_);refine yac (wpAny_typeOf hTs ?_);rw [if_pos (by decide)];refine yac (zcZ hs pl pu ?_)
 have hno:¬ ((((sIx items.size 0 lo:Nat):Int) == 0&&(1:Int) == 1&&(sIx items.size items.size hi-sIx items.size 0 lo) == items.size)=true):=by
  intro q;rw [yab,yab] at q;have q1:((sIx items.size 0 lo:Nat):Int)=0:=eq_of_beq q.1.1;have q2:sIx items.size items.size hi-sIx items.size 0 lo=items.size:=eq_of_beq q.2;exact hw ⟨by omega,by omega⟩
 show wpAny _ _ (if (((sIx items.size 0 lo:Nat):Int) == 0&&(1:Int) == 1&&(sIx items.size items.size hi-sIx items.size 0 lo) == items.size)=true then _ else _) _ _ s;rw [if_neg hno,zm2]
 first
  | exact yac (m:=Builtin.Tuple.tupleExact _) (ybk (yaj ⟨_,rfl,yaj h⟩) htake)
  | exact yac (m:=Builtin.Tuple.tupleExact _) (ybk (yac (yaj (yaj ⟨_,rfl,yaj h⟩))) htake)
  | exact yac (yac (m:=Builtin.Tuple.tupleExact _) (ybk (yaj (yaj ⟨_,rfl,yaj h⟩)) htake))
  | exact yac (yac (m:=Builtin.Tuple.tupleExact _) (ybk (yaj ⟨_,rfl,yaj h⟩) htake))
end
end HT
namespace L2
open PySem PySem.Spec PyProof.Rows
abbrev TO:=St->Hp->(Option Int->Hp->Prop)->Prop
def PO(X:Cx)(e:Option Expr)(t:TO):Prop :=
 ∀(pins:Z3) (s:Shared) (σ:St) (H:Hp) (Q:Option Int->Hp->Prop),Inv X pins σ H s->t σ H Q →
  wpAny (model X.prog X.w) X.A (evalPart e X.env) (fun u s'=>∃o H',Inv X pins σ H' s'/\IsPart u o/\Q o H') X.xe s
def zky:TO:=fun _ H Q=>Q none H
def zrf(t:TE):TO:=fun σ H Q=>t σ H fun x H1=>∃i,x=.int i/\Q (some i) H1
section
variable{X:Cx}{e:Expr}{te:TE}{lo hi:Option Expr}{tl th:TO}{pos p2:Pos}
def zpx:PO X none zky:=by
 intro pins s σ H Q I h;rw [evalPart_none];exact yaj ⟨none,H,I,.none,h⟩
def zpw(h:PE X e te):PO X (some e) (zrf te):=by
 intro pins s σ H Q I hw;rw [evalPart_some];refine thn (h pins s σ H _ I hw) fun u s1 ⟨x,H1,I1,r1,q1⟩=>?_
 obtain ⟨i,rfl,q⟩:=q1;obtain ⟨t,rfl⟩:=r1;exact ⟨some i,H1,I1,.int i t,q⟩
def SlR(X:Cx)(r:V->Option Int->Option Int->Hp->VK->Prop):Prop :=
 ∀(pins:Z3) (s:Shared) (σ:St) (H:Hp) (x:V) (v vl vu:Value) (lo hi:Option Int) (sl:Addr) (Q:VK),Inv X pins σ H s->zbw x v->s.heap.IsSliceOf sl vl vu .none->IsPart vl lo->IsPart vu hi->r x lo hi H Q →
  ∃T id,typeLookup (.type T) "__getitem__" = pure (some (.builtin id))/\s.TypeIs v T/\wpAny (model X.prog X.w) X.A (getItem v (.ref sl)) (EP X pins σ Q) X.xe s
def tSl(r:V->Option Int->Option Int->Hp->VK->Prop)(te:TE)(tl th:TO):TE:=fun σ H Q=>te σ H fun x H1=>tl σ H1 fun l H2=>th σ H2 fun u H3=>r x l u H3 Q
def zm6{r:V->Option Int->Option Int->Hp->VK->Prop}(hr:SlR X r)(he:PE X e te)(hl:PO X lo tl)(hu:PO X hi th):PE X (.Subscript e (.Slice lo hi none p2) pos) (tSl r te tl th):=by
 intro pins s σ H Q I h;refine Subscript_ (thn (he pins s σ H _ I h) fun v s1 ⟨x,H1,I1,r1,q1⟩=>?_);refine wpAny_Slice (thn (hl pins s1 σ H1 _ I1 q1) fun vl s2 ⟨l,H2,I2,pl,q2⟩=>thn (hu pins s2 σ H2 _ I2 q2) fun vu s3 ⟨u,H3,I3,pu,q3⟩=>?_);rw [evalPart_none];refine yaj ?_;have I4:Inv X pins σ H3 { s3 with heap:=s3.heap.push { cls:=.type "slice",data:=.fields #[vl,vu,.none] } }:=I3.kept (t':=s3.toks) fun b ob q=>yaf _ q
 obtain ⟨T,id,hT,ht,hg⟩:=hr pins { s3 with heap:=s3.heap.push { cls:=.type "slice",data:=.fields #[vl,vu,.none] } } σ H3 x v vl vu l u s3.heap.objs.size Q I4 r1 (Heap.IsSliceOf.new ..) pl pu q3;show wpAny (model X.prog X.w) X.A (subscriptTail e (.Slice lo hi none p2) v (.ref s3.heap.objs.size)) (EP X pins σ Q) X.xe { s3 with heap:=s3.heap.push { cls:=.type "slice",data:=.fields #[vl,vu,.none] } };exact tail_any (ops:=[.ref s3.heap.objs.size,v]) ht hT hg (by with_unfolding_all rfl)
def zoD(xs:List V)(lo hi:Option Int):List V:=(xs.drop (HT.sIx xs.length 0 lo)).take (HT.sIx xs.length xs.length hi-HT.sIx xs.length 0 lo)
def zfx(xs:List V)(lo hi:Option Int):(zoD xs lo hi).length<=xs.length:=by
 unfold zoD;rw [ybu,ybE];omega
def zyn(K:PySem.W.Frag):V->Option Int->Option Int->Hp->VK->Prop:=fun x lo hi H Q=>∃a xs,x=.ref a/\SqT K H a xs ∧
 ¬ (HT.sIx xs.length 0 lo=0/\HT.sIx xs.length xs.length hi=xs.length)/\∀p,H p=none->Q (.ref p) (upd H p (.tup (zoD xs lo hi)))
def zrA:SlR X (zyn X.K):=by
 intro pins s σ H x v vl vu lo hi sl Q I rx hs pl pu h;obtain ⟨a,xs,rfl,hx,hw,q⟩:=h;cases rx;obtain ⟨its,r,ht,hz⟩:=I.tuple hx
 have hlen:its.toArray.size=xs.length:=by rw [yal];exact r.length.symm
 refine ⟨"tuple",_,yaZ.lookup,ht.typeIs,?_⟩;refine HT.zen ht hs pl pu (by rw [hlen];exact hw) ?_ (by rw [hlen];exact hz);rw [hlen];refine ⟨.ref s.heap.objs.size,_,I.laid (t':=s.toks) (o:=.tup (zoD xs lo hi)) (fun b ob q=>yaf _ q) (yam _) ?_,rfl,q _ (I.hok.fresh (yam _))⟩;exact ⟨yah (zfx xs lo hi) hz,_,(r.drop (HT.sIx xs.length 0 lo)).take (HT.sIx xs.length xs.length hi-HT.sIx xs.length 0 lo),IsTup.new _ _⟩
def zuN(K:PySem.W.Frag):R2:=fun x y H Q=>∃a b xs ys,x=.ref a/\y=.ref b/\SqT K H a xs/\SqT K H b ys/\xs≠[]/\xs.length+ys.length<=sizeLine ∧
 (ys=[]->Q (.ref a) H)/\(ys≠[]->∀p,H p=none->Q (.ref p) (upd H p (.tup (xs++ys))))
def Vals.nil_iff{xs:List V}{us:List Value}(r:Vals xs us):us=[]↔xs=[]:=by
 cases r with
 | nil=>simp
 | cons _ _=>simp
def zpI:OpR X (binaryOp .Add) (zuN X.K):=by
 intro pins s σ H x y v u Q I rx ry h;obtain ⟨a,b,xs,ys,rfl,rfl,ha,hb,hx,hz,q1,q2⟩:=h;cases rx;cases ry;obtain ⟨its,r1,p1,_⟩:=I.tuple ha;obtain ⟨its2,r2,p2,_⟩:=I.tuple hb;refine HT.zqw p1 p2 (fun z=>hx (r1.nil_iff.mp z)) (fun z=>⟨.ref a,H,I,rfl,q1 (r2.nil_iff.mp z)⟩) (fun z=>?_) (by rw [<-r1.length,<-r2.length];exact hz);refine ⟨.ref s.heap.objs.size,_,I.laid (t':=s.toks) (o:=.tup (xs++ys)) (fun b ob q=>yaf _ q) (yam _) ?_,rfl,q2 (fun w=>z (r2.nil_iff.mpr w)) _ (I.hok.fresh (yam _))⟩;exact ⟨by rw [yao];exact hz,_,r1.append r2,IsTup.new _ _⟩
end
end L2
namespace L2
open PySem PySem.Spec PyProof.Rows
def ixN(n:Nat)(i:Int):Option Nat:=if 0<=i then (if i<n then some i.toNat else none) else if -(n:Int)<=i then some (i+n).toNat else none
def atI{α:Type}(xs:List α)(i:Int):Option α:=(ixN xs.length i).bind fun j=>xs[j]?
def zqc{n:Nat}{i:Int}{j:Nat}(h:ixN n i=some j):seqIndex? i n=some j/\j<n/\-(n:Int)<=i/\i<n:=by
 unfold ixN at h
 by_cases h0:0<=i
 ·rw [if_pos h0] at h
  by_cases h1:i<n
  ·rw [if_pos h1] at h;have e:i.toNat=j:=Option.some.inj h;exact ⟨by rw [seqIndex_of h0 h1,e],by omega,by omega,h1⟩
  ·rw [if_neg h1] at h;cases h
 ·rw [if_neg h0] at h
  by_cases h1:-(n:Int)<=i
  ·rw [if_pos h1] at h;have e:(i+n).toNat=j:=Option.some.inj h;exact ⟨by rw [seqIndex_neg (by omega) h1,e],by omega,h1,by omega⟩
  ·rw [if_neg h1] at h;cases h
def zml{α:Type}{xs:List α}{i:Int}{v:α}(h:atI xs i=some v):∃j,seqIndex? i xs.length=some j/\xs[j]?=some v/\j<xs.length/\-(xs.length:Int)<=i/\i<xs.length:=by
 unfold atI at h
 cases e:ixN xs.length i with
 | none=>rw [e] at h;cases h
 | some j =>
  rw [e] at h;obtain ⟨h1,h2,h3,h4⟩:=zqc e;exact ⟨j,h1,h,h2,h3,h4⟩
def zjr{α:Type}(xs:List α)(v:α):atI (xs++[v]) (-1)=some v:=by
 have hl:(xs++[v]).length=xs.length+1:=by simp
 have e:ixN (xs++[v]).length (-1)=some xs.length:=by
  unfold ixN;rw [hl,if_neg (by decide),if_pos (by omega)];congr 1;omega
 unfold atI;rw [e];show (xs++[v])[xs.length]?=some v;simp
def zgN(b:Expr):Prop:=∀o i,subscripted b false o i=operate [o,i] (getItem o i)
def IxR(X:Cx)(r:R2):Prop :=
 ∀(value slice:Expr) (pins:Z3) (s:Shared) (σ:St) (H:Hp) (x y:V) (v u:Value) (Q:VK),Inv X pins σ H s->zbw x v->zbw y u->r x y H Q →
  subscripted slice false v u=operate [v,u] (getItem v u)->wpAny (model X.prog X.w) X.A (subscriptTail value slice v u) (EP X pins σ Q) X.xe s
def MtR(X:Cx)(id:String)(r:V->List V->Hp->VK->Prop):Prop :=
 ∀(pins:Z3) (s:Shared) (σ:St) (H:Hp) (x:V) (xs:List V) (v:Value) (us:List Value) (Q:VK),Inv X pins σ H s->zbw x v->Vals xs us->r x xs H Q →
  wpAny (model X.prog X.w) X.A (call (.builtin id) (v::us)) (EP X pins σ Q) X.xe s
section
variable{X:Cx}{a b:Expr}{ta tb:TE}{pos:Pos}
def zsh{r:R2}(hr:IxR X r)(ha:PE X a ta)(hb:PE X b tb)(hs:zgN b):PE X (.Subscript a b pos) (tOp r ta tb):=by
 intro pins s σ H Q I h;exact Subscript_ (zvB ha hb I h fun v u s2 x y H2 I2 rx ry q=>hr a b pins s2 σ H2 x y v u Q I2 rx ry q (hs _ _))
def zyr(K:PySem.W.Frag):R2:=fun x y H Q=>∃p xs i v,x=.ref p/\y=.int i/\SqL K H p xs/\atI xs i=some v/\Q v H
def zyq(K:PySem.W.Frag):R2:=fun x y H Q=>∃p xs i v,x=.ref p/\y=.int i/\SqT K H p xs/\atI xs i=some v/\Q v H
def zlE:IxR X (zyr X.K):=by
 intro value slice pins s σ H x y v u Q I rx ry h hs;obtain ⟨p,xs,i,z,rfl,rfl,hq,he,q⟩:=h;cases rx;obtain ⟨t,rfl⟩:=ry;obtain ⟨its,r,pl,hz⟩:=I.list hq;obtain ⟨j,h1,h2,h3,h4,h5⟩:=zml he;obtain ⟨w,ew,rw'⟩:=r.get h2;have hl:=r.length;have hn:=zi3;have fin:EP X pins σ Q w s:=⟨z,H,I,rw',q⟩
 by_cases h0:0<=i
 ·have hj:i.toNat=j:=by
   rw [seqIndex_of h0 h5] at h1;exact Option.some.inj h1
  exact item_listR pl.isList h0 (by omega) (by rw [hj];simpa using ew) fin hs
 ·have hj:(i+(its.toArray.size:Int)).toNat=j:=by
   rw [seqIndex_neg (by omega) h4] at h1;rw [yal,<-hl];exact Option.some.inj h1
  exact ycr (x:=w) pl.isList.typeIs slot_list_getitem.lookup
   (wpAny_getItem_list_neg (Q:=fun r s'=>r=w/\EP X pins σ Q r s') pl.isList (by omega) (by rw [yal]<;>omega) (by omega) (by rw [hj];simpa using ew) ⟨rfl,fin⟩) hs
def zs2:IxR X (zyq X.K):=by
 intro value slice pins s σ H x y v u Q I rx ry h hs;obtain ⟨p,xs,i,z,rfl,rfl,hq,he,q⟩:=h;cases rx;obtain ⟨t,rfl⟩:=ry;obtain ⟨its,r,pl,hz⟩:=I.tuple hq;obtain ⟨j,h1,h2,h3,h4,h5⟩:=zml he;obtain ⟨w,ew,rw'⟩:=r.get h2;have hl:=r.length;have hn:=zi3;have fin:EP X pins σ Q w s:=⟨z,H,I,rw',q⟩
 exact ycr (x:=w) pl.typeIs slot_tuple_getitem.lookup
  (getItem_tuple (j:=j) (Q:=fun r s'=>r=w/\EP X pins σ Q r s') pl (by omega) (by omega) (by rw [yal,<-hl];exact h1) (by simpa using ew) ⟨rfl,fin⟩) hs
def zg1(lo hi:Option Int)(n:Nat):(sliceBounds lo hi none n).1=((HT.sIx n 0 lo:Nat):Int)/\(sliceBounds lo hi none n).2.1=((HT.sIx n n hi:Nat):Int)/\(sliceBounds lo hi none n).2.2=1:=by
 refine ⟨?_,?_,rfl⟩
 ·cases lo with
  | none=>simp [sliceBounds,HT.sIx]
  | some i =>
   simp only [sliceBounds,HT.sIx,Option.getD_none,show (1:Int) > 0 by decide,yb7]
   by_cases h:i<0
   ·simp only [h,yb7]<;>omega
   ·simp only [h,ybW]<;>omega
 ·cases hi with
  | none=>simp [sliceBounds,HT.sIx]
  | some i =>
   simp only [sliceBounds,HT.sIx,Option.getD_none,show (1:Int) > 0 by decide,yb7]
   by_cases h:i<0
   ·simp only [h,yb7]<;>omega
   ·simp only [h,ybW]<;>omega
def zge(its:List Value)(lo hi:Option Int):slicePick its.toArray lo hi none=((its.drop (HT.sIx its.length 0 lo)).take (HT.sIx its.length its.length hi-HT.sIx its.length 0 lo)).toArray:=by
 obtain ⟨h1,h2,h3⟩:=zg1 lo hi its.toArray.size;unfold slicePick;rw [h1,h2,h3]
 simp only [sliceRange_one,pick_run,yal]<;>rfl
def zyo(K:PySem.W.Frag):V->Option Int->Option Int->Hp->VK->Prop:=fun x lo hi H Q=>∃a xs,x=.ref a/\SqL K H a xs/\∀p,H p=none->Q (.ref p) (upd H p (.lst (zoD xs lo hi)))
def zo8:SlR X (zyo X.K):=by
 intro pins s σ H x v vl vu lo hi sl Q I rx hs pl pu h;obtain ⟨a,xs,rfl,hx,q⟩:=h;cases rx;obtain ⟨its,r,ht,hz⟩:=I.list hx;have hlen:=r.length;refine ⟨"list",_,slot_list_getitem.lookup,ht.isList.typeIs,?_⟩;refine wpAny_getItem_list_slice ht.isList hs pl pu .none (by simp) ?_ (by rw [yal]<;>omega);rw [zge,<-hlen];refine ⟨.ref s.heap.objs.size,_,I.laid (t':=s.toks) (o:=.lst (zoD xs lo hi)) (fun b ob q=>yaf _ q) (yam _) ?_,rfl,q _ (I.hok.fresh (yam _))⟩;exact ⟨yah (zfx xs lo hi) hz,_,0,(r.drop (HT.sIx xs.length 0 lo)).take (HT.sIx xs.length xs.length hi-HT.sIx xs.length 0 lo),yax _ rfl⟩
def zdh:zdN X (.builtin "len") (fun xs H Q=>∃p ys,xs=[.ref p]/\(SqL X.K H p ys\/SqT X.K H p ys)/\Q (.int ys.length) H):=by
 intro pins s σ H xs us Q I r h;obtain ⟨p,ys,rfl,hq,q⟩:=h;obtain ⟨u,rfl,rx⟩:=zgS r;cases rx;have hn:=zi3
 rcases hq with hq | hq
 ·obtain ⟨its,r',pl,hz⟩:=I.list hq;have hlen:=r'.length;exact Calls.call_len_list pl.isList (by simp only [yal]<;>omega) ⟨.int ys.length,H,I.tok _,⟨s.toks+1,by rw [yal,hlen]⟩,q⟩
 ·obtain ⟨its,r',pl,hz⟩:=I.tuple hq;have hlen:=r'.length;exact len_tuple pl (by simp only [yal]<;>omega) ⟨.int ys.length,H,I.tok _,⟨s.toks+1,by rw [yal,hlen]⟩,q⟩
def zhJ:zdN X (.builtin "len") (fun xs H Q=>∃z,xs=[.str z]/\z.length<=sizeLine/\Q (.int z.length) H):=by
 intro pins s σ H xs us Q I r h;obtain ⟨z,rfl,hz,q⟩:=h;obtain ⟨u,rfl,t,rfl⟩:=zgS r;have hn:=zi3;exact len_str (by omega) ⟨.int z.length,H,I.tok _,⟨_,rfl⟩,q⟩
def zeH:zdN X (.type "list") (fun xs H Q=>∃p ys,xs=[.ref p]/\(SqL X.K H p ys\/SqT X.K H p ys)/\∀l,H l=none->Q (.ref l) (upd H l (.lst ys))):=by
 intro pins s σ H xs us Q I r h;obtain ⟨p,ys,rfl,hq,q⟩:=h;obtain ⟨u,rfl,rx⟩:=zgS r;cases rx
 have fin:∀(its:List Value),Vals ys its->ys.length<=sizeLine->∀(h':Heap) (c':Nat),(∀b o',s.heap.get? b=some o'->h'.get? b=some o') →
   h'.get? s.heap.objs.size=some { cls:=.type "list",dict:=none,data:=.seq its.toArray c',slots:=#[] }->EP X pins σ Q (.ref s.heap.objs.size) { s with heap:=h' }:=fun its r' hz h' c' kp e =>
  ⟨.ref s.heap.objs.size,_,I.laid (t':=s.toks) kp (yam _) (show zb3 X.prog X.w _ h' _ (.lst ys) from ⟨hz,its,c',r',e⟩),rfl,q _ (I.hok.fresh (yam _))⟩
 rcases hq with hq | hq
 ·obtain ⟨its,r',pl,hz⟩:=I.list hq;have hlen:=r'.length;obtain ⟨o,ho,hc,n,hd⟩:=pl.isList;exact call_list_seq p (.inl rfl) ho hc hd (fun h' c' kp e=>fin its r' hz h' c' kp e) (by simp only [yal]<;>omega)
 ·obtain ⟨its,r',pl,hz⟩:=I.tuple hq;have hlen:=r'.length;obtain ⟨o,ho,hc,n,hd⟩:=pl;exact call_list_seq p (.inr rfl) ho hc hd (fun h' c' kp e=>fin its r' hz h' c' kp e) (by simp only [yal]<;>omega)
def zd6:zdN X (.type "tuple") (fun xs H Q=>∃p ys,xs=[.ref p]/\((SqL X.K H p ys/\∀l,H l=none->Q (.ref l) (upd H l (.tup ys)))\/(SqT X.K H p ys/\Q (.ref p) H))):=by
 intro pins s σ H xs us Q I r h;obtain ⟨p,ys,rfl,h⟩:=h;obtain ⟨u,rfl,rx⟩:=zgS r;cases rx
 rcases h with ⟨hq,q⟩ | ⟨hq,q⟩
 ·obtain ⟨its,r',pl,hz⟩:=I.list hq;have hlen:=r'.length;refine call_tuple_list pl.isList (fun h' kp=>?_) (by simp only [yal]<;>omega);have I1:Inv X pins σ H { s with heap:=h' }:=I.kept (t':=s.toks) kp
  have I2:Inv X pins σ (upd H h'.objs.size (.tup ys)) { s with heap:=h'.push { cls:=.type "tuple",data:=.seq its.toArray } } :=
   I1.laid (t':=s.toks) (fun b o e=>yaf _ e) (yam _) (show zb3 X.prog X.w _ _ _ (.tup ys) from ⟨hz,its,r',IsTup.new _ _⟩)
  exact ⟨.ref h'.objs.size,_,I2,rfl,q _ (I1.hok.fresh (yam _))⟩
 ·obtain ⟨its,r',pl,hz⟩:=I.tuple hq;exact call_tuple_same pl ⟨.ref p,H,I,rfl,q⟩
def tyV(K:PySem.W.Frag)(T:String)(x:V)(H:Hp):Prop:=match x with
 | .str _=>T = "str"
 | .int _=>T = "int"
 | .ref p=>(T = "list" /\ ∃xs,SqL K H p xs)\/(T = "tuple" /\ ∃o,K.lookup p=some o/\o.cls=.type "tuple" /\ o.dict=none) ∨
   (T = "dict" /\ ((∃kvs,H p=some (.dK kvs))\/∃kvs,H p=some (.dT kvs)))\/(T = "set" /\ ∃S n,H p=some (.set S n))
 | _=>False
def zq9{pins:Z3}{σ:St}{H:Hp}{s:Shared}{T:String}{x:V}{v:Value}(I:Inv X pins σ H s)(r:zbw x v)(ty:tyV X.K T x H) :
  s.TypeIs v T/\∀a,v=.ref a->∃ob,s.heap.get? a=some ob/\ob.dict=none:=by
 cases x with
 | str z =>
  obtain ⟨t,rfl⟩:=r;cases (show T = "str" from ty);exact ⟨typeIs_str s z t,fun _ e=>nomatch e⟩
 | int i =>
  obtain ⟨t,rfl⟩:=r;cases (show T = "int" from ty);exact ⟨ycG s i t,fun _ e=>nomatch e⟩
 | ref p =>
  cases r
  rcases ty with ⟨rfl,xs,hq⟩ | ⟨rfl,o,hk,hc,hd⟩ | ⟨rfl,hk⟩ | ⟨rfl,S,n,hk⟩
  ·obtain ⟨its,_,pl,_⟩:=I.list hq;refine ⟨pl.isList.typeIs,fun a e=>?_⟩;cases e;obtain ⟨o,n,e,c,hd,_⟩:=pl;exact ⟨o,e,hd⟩
  ·refine ⟨⟨o,I.kIn p o hk,hc⟩,fun a e=>?_⟩;cases e;exact ⟨o,I.kIn _ o hk,hd⟩
  ·have z:∃o,s.heap.get? p=some o/\o.ExactDict:=by
    rcases hk with ⟨kvs,hk⟩ | ⟨kvs,hk⟩
    ·obtain ⟨_,_,_,_,o,_,_,e,ex,_⟩:=I.hok p _ hk;exact ⟨o,e,ex⟩
    ·obtain ⟨_,_,_,_,o,_,_,e,ex,_⟩:=I.hok p _ hk;exact ⟨o,e,ex⟩
   obtain ⟨o,e,ex⟩:=z;refine ⟨⟨o,e,ex.1⟩,fun a e2=>?_⟩;cases e2;exact ⟨o,e,ex.2.1⟩
  ·obtain ⟨o,_,_,_,e,ex,_⟩:=I.hok p _ hk;refine ⟨⟨o,e,ex.1⟩,fun a e2=>?_⟩;cases e2;exact ⟨o,e,ex.2.1⟩
 | _=>exact False.elim ty
def tBM(K:PySem.W.Frag)(T:String)(r:V->List V->Hp->VK->Prop)(to:TE)(t:TA):TE:=fun σ H Q=>to σ H fun x H1=>tyV K T x H1/\t σ H1 fun xs H2=>r x xs H2 Q
variable{o e:Expr}{es:List Expr}{to:TE}{t:TA}{name:Str}{apos cpos:Pos}{T id:String}{r:V->List V->Hp->VK->Prop}
def zpE(pa:PlainAttrs T)(slot:Slot T name id)(hty:typeOf (.builtin id)=pure (.type "method_descriptor"))(hm:MtR X id r)(ho:PE X o to)(ha:PA X (e::es) t)
  (hbase:attributeBase o name X.env (eval o X.env)=eval o X.env:=by rfl)
  (hfew:((backTo cpos (starEach (e::es) X.env)).all (fun x=>!x.1)&&(backToKw cpos (keywordEach [] X.env)).all (fun x=>x.1.isSome)
   && decide ((e::es).length+([]:List Keyword).length+(if ([]:List Keyword).isEmpty then 0 else 1)<30))=true:=by rfl)
  (hline:(apos.endLine == cpos.line)=true:=by rfl) (hs:starEach (e::es) X.env=(false,eval e X.env)::starEach es X.env:=by rfl) (hplain:(backTo cpos (starEach es X.env)).any (·.1)=false:=by rfl) :
  PE X (.Call (.Attribute o name apos) (e::es) [] cpos) (tBM X.K T r to t):=by
 intro pins s σ H Q I h;refine wpAny_Call_method_late hbase hfew hline rfl (thn (ho pins s σ H _ I h) fun v s1 ⟨x,H1,I1,r1,ty,q1⟩=>?_);obtain ⟨h1,h2⟩:=zq9 I1 r1 ty;refine ⟨T,id,pa,slot,hty,h1,h2,?_⟩;have hA:=ha cpos pins s1 σ H1 _ I1 q1;rw [hs] at hA ⊢;refine Calls.callWith_builtin (by show (false||(backTo cpos (starEach es X.env)).any (·.1))=false;rw [hplain]<;>rfl) (Calls.evalArgs_plain ?_);exact thn hA fun us s2 ⟨vs,H2,I2,r2,q2⟩=>hm pins s2 σ H2 x vs v us Q I2 r1 r2 q2
end
end L2
namespace L2
open PySem PySem.Spec PyProof.Rows
def MtM(X:Cx)(id:String)(r:V->List V->Hp->VK->Prop):Prop :=
 ∀(pins:Z3) (s:Shared) (σ:St) (H:Hp) (x:V) (xs:List V) (v:Value) (us:List Value) (Q:VK),Inv X pins σ H s->zbw x v->Vals xs us->r x xs H Q →
  wpAny (model X.prog X.w) X.A (call (.builtin id) (v::us)) (EP X pins σ Q) X.xe s
theorem Vals.one:∀{x:V} {us:List Value},Vals [x] us->∃u,us=[u]/\zbw x u
 | _,_,.cons r .nil=>⟨_,rfl,r⟩
theorem Vals.rep{xs:List V}{us:List Value}(h:Vals xs us):∀k:Nat,Vals (List.replicate k xs).flatten (List.replicate k us).flatten
 | 0=>.nil
 | k+1=>by
  rw [ya8,ya8,ybv,ybv];exact Vals.append h (Vals.rep h k)
theorem zfr(its:List Value):∀(k:Nat) (acc:List Value),
  List.foldl (fun x1 x2=>x1++x2) acc.toArray (List.replicate k its.toArray)=(acc++(List.replicate k its).flatten).toArray
 | 0,acc=>by simp
 | k+1,acc=>by
  have e:acc.toArray++its.toArray=(acc++its).toArray:=by simp
  have e2:(acc++its)++(List.replicate k its).flatten=acc++(List.replicate (k+1) its).flatten:=by
   rw [ya8,ybv,yb4]
  rw [<-e2,<-zfr its k (acc++its),<-e,ya8,List.foldl_cons]
section
variable{X:Cx}{pins:Z3}{σ:St}{H:Hp}{s:Shared}{l b:Addr}{xs ys zs:List V}
def Inv.lset{its its':List Value}{n:Nat}{f:Array Value->Array Value}{t':Nat}(I:Inv X pins σ H s)(hH:H l=some (.lst xs))
  (e:s.heap.get? l=some { cls:=.type "list",data:=.seq its.toArray n }) (hf:f its.toArray=its'.toArray) (hv:Vals ys its') (hz:ys.length<=sizeLine) :
  Inv X pins σ (upd H l (.lst ys)) { s with heap:=s.heap.update l (Obj.mapSeq f),toks:=t' }:=by
 have q:=PySem.IsL.update e f;rw [hf] at q;refine I.write (x:=l) (e:=l) (by rw [hH];exact trivial) (.inl rfl) (fun b' u hb hu=>(Heap.get?_update_other s.heap (Obj.mapSeq f) (Ne.symm hb)).trans hu) ⟨_,q⟩ ?_;exact ⟨hz,its',_,hv,q⟩
def Inv.lnew{its:List Value}{t':Nat}(I:Inv X pins σ H s)(hv:Vals ys its)(hz:ys.length<=sizeLine) :
  Inv X pins σ (upd H s.heap.objs.size (.lst ys)) { s with heap:=s.heap.push { cls:=.type "list",data:=.seq its.toArray },toks:=t' } :=
 I.laid (fun _ _ q=>yaf _ q) (yam _) ⟨hz,its,0,hv,yax _ rfl⟩
theorem Inv.fresh(I:Inv X pins σ H s):H s.heap.objs.size=none:=I.hok.fresh (yam _)
def Inv.lstM(I:Inv X pins σ H s)(hH:H l=some (.lst xs)):xs.length<=sizeLine/\∃(its:List Value) (n:Nat),Vals xs its/\xs.length=its.length/\s.heap.get? l=some { cls:=.type "list",data:=.seq its.toArray n }:=by
 obtain ⟨z,its,n,r,e⟩:=I.hok l _ hH;exact ⟨z,its,n,r,r.length,e⟩
def ziZ{n:Nat}(h:n<=sizeLine):Builtin.List.listTooLong n=false:=by
 unfold Builtin.List.listTooLong;exact yaX (by omega)
end
section
variable{X:Cx}
def zpp:V->List V->Hp->VK->Prop:=fun x vs H Q=>∃l xs y,x=.ref l/\vs=[y]/\H l=some (.lst xs)/\xs.length<sizeLine/\Q .non (upd H l (.lst (xs++[y])))
def zlj:MtM X "list.append" zpp:=by
 intro pins s σ H x vs v us Q I rx rv h;obtain ⟨l,xs,y,rfl,rfl,hH,hz,q⟩:=h;cases rx;obtain ⟨u,rfl,ru⟩:=rv.one;obtain ⟨z,its,n,r,hl,e⟩:=I.lstM hH;refine ycs F.slot_list_append ⟨_,e,rfl⟩ F.entry_list_append (F.args_list_append_2 _ _) (PySem.list_append l its.toArray n u (by rw [yal];omega)) ⟨e,?_⟩;refine ⟨.non,_,I.lset (its':=its++[u]) hH e (by simp) (r.append (.cons ru .nil)) ?_,rfl,q⟩;rw [yao,yaQ];omega
def zpo:V->List V->Hp->VK->Prop:=fun x vs H Q=>∃l b xs zs,x=.ref l/\vs=[.ref b]/\H l=some (.lst xs)/\H b=some (.lst zs)/\xs.length+zs.length<=sizeLine/\Q .non (upd H l (.lst (xs++zs)))
def zli:MtM X "list.extend" zpo:=by
 intro pins s σ H x vs v us Q I rx rv h;obtain ⟨l,b,xs,zs,rfl,rfl,hH,hB,hz,q⟩:=h;cases rx;obtain ⟨u,rfl,ru⟩:=rv.one;cases ru;obtain ⟨z,its,n,r,hl,e⟩:=I.lstM hH;obtain ⟨z2,its2,n2,r2,hl2,e2⟩:=I.lstM hB
 have hsz:its.toArray.size+its2.toArray.size<=sizeLine:=by rw [yal,yal];omega
 have hlong:¬ (!its.toArray.isEmpty&&Builtin.List.listTooLong (its.toArray.size+its2.toArray.size))=true:=by
  rw [ziZ hsz,Bool.and_false];exact ybd
 refine ycs F.slot_list_extend ⟨_,e,rfl⟩ F.entry_list_extend (F.args_list_extend_2 _ _)
  (AutoSeq1.list_extend_list_list_0 l its.toArray n b its2.toArray n2 hlong (by rw [yal];omega) (by omega)) ⟨e,e2,?_⟩
 refine ⟨.non,_,I.lset (its':=its++its2) hH e (by simp) (r.append r2) ?_,rfl,q⟩;rw [yao];omega
def zys:R2:=fun x y H Q=>∃l b xs zs,x=.ref l/\y=.ref b/\H l=some (.lst xs)/\H b=some (.lst zs)/\xs.length+zs.length<=sizeLine/\∀p,H p=none->Q (.ref p) (upd H p (.lst (xs++zs)))
def zsp:OpR X (binaryOp .Add) zys:=by
 intro pins s σ H x y v u Q I rx ry h;obtain ⟨l,b,xs,zs,rfl,rfl,hH,hB,hz,q⟩:=h;cases rx;cases ry;obtain ⟨z,its,n,r,hl,e⟩:=I.lstM hH;obtain ⟨z2,its2,n2,r2,hl2,e2⟩:=I.lstM hB;refine PySem.P.add_list e e2 ?_ (by rw [yal,yal];omega)
 have ea:its.toArray++its2.toArray=(its++its2).toArray:=by simp
 rw [ea];exact ⟨.ref _,_,I.lnew (t':=s.toks) (r.append r2) (by rw [yao];omega),rfl,q _ I.fresh⟩
def zyp:R2:=fun x y H Q=>∃l k xs,x=.ref l/\y=.int k/\H l=some (.lst xs)/\-(2 ^ 63)<=k/\k<2 ^ 63/\xs.length*k.toNat<=sizeLine ∧
 ∀p,H p=none->Q (.ref p) (upd H p (.lst (List.replicate k.toNat xs).flatten))
def zik{α:Type}(xs:List α)(k:Nat):(List.replicate k xs).flatten.length=k*xs.length:=by
 induction k with
 | zero=>simp
 | succ k ih=>rw [ya8,ybv,yao,ih,ybX,Nat.add_comm]
def zok:OpR X (binaryOp .Mult) zyp:=by
 intro pins s σ H x y v u Q I rx ry h;obtain ⟨l,k,xs,rfl,rfl,hH,h1,h2,hz,q⟩:=h;cases rx;obtain ⟨t,rfl⟩:=ry;obtain ⟨z,its,n,r,hl,e⟩:=I.lstM hH
 have hlen:its.toArray.size*k.toNat<=sizeLine:=by rw [yal,<-hl];exact hz
 have hcap:¬ its.toArray.size*k.toNat > (2 ^ 63-1) / 8:=by
  have:(sizeLine:Nat)<=(2 ^ 63-1) / 8:=by decide
  omega
 have hfit:¬ (!Builtin.List.listFitsIndex k)=true:=by
  rw [fitsIndex_both h1 h2];exact ybd
 have hlong:¬ Builtin.List.listTooLong (its.toArray.size*k.toNat)=true:=by
  rw [ziZ hlen];exact ybd
 have hnew:List.foldl (fun x1 x2=>x1++x2) #[] (List.replicate (if its.toArray.isEmpty=true then 0 else k.toNat) its.toArray)=(List.replicate k.toNat its).flatten.toArray:=by
  have f0:∀m:Nat,List.foldl (fun x1 x2=>x1++x2) #[] (List.replicate m its.toArray)=(List.replicate m its).flatten.toArray:=fun m=>by
   have:=zfr its m [];rwa [ybA] at this
  rw [f0]
  cases its with
  | nil=>simp
  | cons a r'=>rw [if_neg (by simp)]
 refine yb9 (T:="list") (U:="int") (by decide) ⟨_,e,rfl⟩ (fun s'=>ycG s' k t) noFill_list_mul F.fills_int_mul ybY repeat_list F.slot_int_index.lookup
  (ycs ybY (ycG s k t) F.entry_int_rmul (yc0 _ _) (int___rmul___int_list k t l its.toArray n)
   ⟨e,rfl,⟨_,e,rfl⟩,ycs F.slot_list_mul ⟨_,e,rfl⟩ F.entry_list_mul (F.args_list_mul_2 _ _) (AutoListH.list___mul___list_int_3 l its.toArray n k t hfit hcap hlong) ⟨e,?_⟩⟩)
 rw [hnew];exact ⟨.ref _,_,I.lnew (t':=s.toks) (r.rep k.toNat) (by rw [zik,ybo];exact hz),rfl,q _ I.fresh⟩
end
section
variable{prog:Program}{w:World}{A:Around}{E:Z5}{s:Shared}
end
section
variable{X:Cx}
end
end L2
namespace Att
open PySem PySem.W PySem.Calls PyProof.Rows
def zfl{P:Params}{h:Heap}:∀(ns:List Int) (vs:List Value),WellAll P h vs (ns.map WData.int)->IntsAre vs ns:=by
 intro ns
 induction ns with
 | nil =>
  intro vs w;rw [List.map_nil] at w;cases w;exact .nil
 | cons n ns ih =>
  intro vs w;rw [yaw] at w
  cases w with
  | cons a b =>
   cases a;exact .cons _ _ (ih _ b)
def zkJ{l:OpenLaw}{n:Nat}(hn:l.most=some n){P:Params}{h:Heap}{args:List WData}{vals:List Value}
  (hpre:l.row.toRowW.claim.pre args=true) (hwl:WellAll P h vals args) :
  ∃a vs ns,vals=[Value.ref a]/\args=[WData.list (ns.map WData.int)]/\h.get? a=some { cls:=.type "list",data:=.seq vs.toArray }/\IntsAre vs ns/\ns.length<=n:=by
 have hsh:WShape.hasAll [] args [.list .int]=true:=(pre_splitW hpre).1;have hc:l.pre.holds [] { args:=args }=true:=(pre_splitW hpre).2;obtain ⟨d,r,rfl,h1,h2⟩:=hasAllW_cons hsh;obtain rfl:=hasAllW_nil h2;obtain ⟨xs,rfl,h3⟩:=hasW_list h1;obtain ⟨ns,rfl⟩:=items_int h3
 have hlen:ns.length<=n:=by
  unfold OpenLaw.pre at hc
  have h4:(WTm.not (.lt (.lit (.int (n:Int))) (.len (.arg 0)))).holds [] { args:=[.list (ns.map .int)] }=true:=by
   have h4:=(holds_andW hc).1;rwa [hn] at h4
  have h5:=condW_of h4 (w_not (w_lt w_lit (w_len_list (w_arg rfl))));rw [yae] at h5;refine Nat.le_of_not_lt fun q=>?_
  have q':(n:Int)<((ns.length:Nat):Int):=by omega
  first
   | (rw [yaB q'] at h5;exact absurd h5 (by decide))
   | (simp at h5;omega)
 cases hwl with
 | cons w1 w2 =>
  cases w2
  cases w1 with
  | list ho hall=>exact ⟨_,_,ns,rfl,rfl,ho,zfl ns _ hall,hlen⟩
def zkZ(l:OpenLaw)(args:List WData):l.row.toRowW.claim.post args (.bool true) args=true :=
 postW_of (r:=l.row.toRowW) (X:=(true == true))
  (show WShape.has [] (.bool true) .bool=true by first | rfl | decide | simp [WShape.has,WShape.arms,WShape.armsAll])
  (show (WTm.eq .res (.lit (.bool true))).value [] { args:=args,res:=some (.bool true),after:=args }=some (.bool (true == true)) from w_eq_bool (w_res rfl) w_lit) rfl
def ziA{l:OpenLaw}{n:Nat}{q:Program}{loose:List Str}{XP:(Str->Option Value)->Heap->Prop}{YP:World->Heap->Prop}{d:DefRec}
  (hn:l.most=some n) (hdf:d.params.defaults=[])
  (call:∀(w:World) (s₀ s₁:Shared) (mg mb:Z6) (fa:Addr) (o:Obj) (pm cd doc:Value) (a:Addr) (vs:List Value) (ns:List Int),
   Ground q loose [] XP w s₀ mg mb s₁.heap->YP w s₁.heap →
   s₁.heap.get? fa=some o->o.data=.func (docDef d.name d.params d.body d.scope pm cd doc)->s₁.heap.CodeRec cd d.name->mg d.name=some (.ref fa) →
   s₁.heap.get? a=some { cls:=.type "list",data:=.seq vs.toArray }->IntsAre vs ns->ns.length<=n->s₁.gens=#[] →
   codeAny (model l.prog w) callerA (.call (.ref fa) ⟨[.ref a],[]⟩) (fun r s'=>r=.ok (.ret (.bool true))/\OldK s₁.heap s'.heap/\s'.os=s₁.os/\AllBare s'.gens) s₁) :
  WalkO q loose XP YP l.row.toRowW d [] (fun f vs=>PySem.call f vs):=by
 intro w s₀ s₁ mg mb G Y fa o pm cd doc dV kV ho hd hcd hD hmg hg args vals as hpre hlay hrd hwl hlo;obtain rfl:dV=.none:=Dflts.none hD hdf;obtain rfl:kV=.none:=Dflts.noKw hD;obtain ⟨a,vs,ns,rfl,rfl,hobj,hints,hlen⟩:=zkJ hn hpre hwl;refine enter_call (codeAny_mono (call w s₀ s₁ mg mb fa o pm cd doc a vs ns G Y ho (fd_plain hd) hcd hmg hobj hints hlen hg) fun r s' hq=>?_);obtain ⟨rfl,h2,h3,h4⟩:=hq;exact ⟨.inl ⟨.bool true,.bool true,[],rfl,fun _=>rfl,.bool true,zkZ l _,fun _=>⟨List.Pairwise.nil,fun _ hm=>(nomatch hm)⟩⟩,h2,h3,h4⟩
section
variable{prog:Program}{w:World}{A:Around}{E:Z5}{s:Shared}{K:Frag}
end
end Att
namespace L2
open PySem PySem.Spec PyProof.Rows
theorem zgR:∀{vs:List Value} {ns:List Int},IntsAre vs ns->Vals (ns.map V.int) vs
 | _,_,.nil=>.nil
 | _,_,.cons n t h=>.cons ⟨t,rfl⟩ (zgR h)
def zt2(H:Hp):Prop:=∀b,H b=none\/∃o xs,H b=some (.frz o (.lst xs))
def znt{P:Program}{w:World}{K:PySem.W.Frag}{mg mb:Z6}{CX:CXT}{k:Nat}{fa a:Addr}{fd:FuncData}{x:Str}{sp:Sp}{s₁:Shared}{vs:List Value}{ns:List Int}
  (KX:K.In s₁.heap) (hns:s₁.heap.Ns mainGlobals mg) (hb:s₁.heap.Ns builtinsNs mb) (hbb:∀x:Str,x ≠ "__name__" -> mb x=bootBuiltins x) (hlim:s₁.heap.NoLimit) (hg:s₁.gens=#[])
  (ha:s₁.heap.get? a=some { cls:=.type "list",data:=.seq vs.toArray }) (hi:IntsAre vs ns) (hl:ns.length<=sizeLine) (hr:Room k callerA)
  (F:∀base:Heap,K.In base->base.Ns mainGlobals mg->FnOk P w K mg base CX k fa fd [x] sp) (hbind:∀(s:Shared) (u:Value),BindsTo s fd ⟨[u],[]⟩ [(x,u)])
  (hsp:∀H:Hp,zt2 H->SqL K H a (ns.map V.int)->sp [.ref a] H (fun v _=>v=.bl true) fun _ _ _=>False)
  (hCX:∀H e s',CX [] H s₁ (fun _ _ _=>False) e s'->False) :
  codeAny (model P w) callerA (.call (.ref fa) ⟨[.ref a],[]⟩) (fun r s'=>r=.ok (.ret (.bool true))/\OldK s₁.heap s'.heap/\s'.os=s₁.os/\AllBare s'.gens) s₁:=by
 have rv:=zgR hi;have lenV:=hi.length
 have core:∀H:Hp,zt2 H->SqL K H a (ns.map V.int)->HOk P w H s₁.heap->(∀b,H b≠none->b=a)->(H a≠none->K.lookup a=none) →
   codeAny (model P w) callerA (.call (.ref fa) ⟨[.ref a],[]⟩) (fun r s'=>r=.ok (.ret (.bool true))/\OldK s₁.heap s'.heap/\s'.os=s₁.os/\AllBare s'.gens) s₁:=by
  intro H hO hS hok hA hK;have zdK:∀{b:Addr} {o:Obj},s₁.heap.get? b=some o->H b=none->(znC s₁.heap H).get? b=some o:=fun e n=>znB e n
  have noA:∀{b:Addr} {o:Obj} {es:Array DictEntry} {ep:Nat},s₁.heap.get? b=some o->o.data=.dict es ep->H b=none:=fun {b o es ep} e d=>by
   cases q:H b with
   | none=>rfl
   | some u =>
    have e':b=a:=hA b (by rw [q];simp);subst e';rw [ha] at e;cases e;have d':Data.seq vs.toArray _=Data.dict es ep:=d;cases d'
  have nsK:∀{b:Addr} {m:Z6},s₁.heap.Ns b m->(znC s₁.heap H).Ns b m:=fun {b m} ⟨o,es,ep,e,d,r⟩=>⟨o,es,ep,zdK e (noA e d),d,r⟩
  have hKb:K.In (znC s₁.heap H):=fun b o e=>zdK (KX b o e) (by
   cases q:H b with
   | none=>rfl
   | some u =>
    have e':b=a:=hA b (by rw [q];simp);subst e'
    rw [hK (by rw [q];simp)] at e;cases e)
  have hM:Mod K mg (znC s₁.heap H):=⟨hKb,nsK hns,⟨mb,nsK hb,hbb⟩,let ⟨mc,h1,h2⟩:=hlim;⟨mc,nsK h1,h2⟩⟩;have e0:Env0 P w K mg (znC s₁.heap H) callerA [] s₁ H:=⟨rfl,hM,fun b o e=>zpK e,ycQ (zlP _ _),trivial,fun b hb=>absurd (show b∈([]:List Addr) from hb) (by simp),hok,.of_eq hg⟩;refine codeAny_mono ((F _ hKb (nsK hns)).run callerA [] s₁ H ⟨[.ref a],[]⟩ [.ref a] [.ref a] _ _ hr e0 (hbind s₁ (.ref a)) (.cons rfl .nil) (hsp H hO hS)) fun r s' h=>?_
  cases r with
  | error e=>exact (hCX H e s' h).elim
  | ok fl =>
   cases fl with
   | next=>exact False.elim h
   | brk=>exact False.elim h
   | cont=>exact False.elim h
   | ret u =>
    obtain ⟨v,H',os,bare,un,hok',r',q⟩:=h;have q':v=.bl true:=q;subst q';obtain rfl:u=Value.bool true:=r';refine ⟨rfl,OldK.of_keep fun b o e=>?_,os,bare⟩
    cases q:H b with
    | none=>exact un.keep b o e q (by intro z;exact absurd (show b∈([]:List Addr) from z) (by simp)) (by simp)
    | some u =>
     rcases hO b with z | ⟨ob,xs,z⟩
     ·rw [q] at z;cases z
     ·have z2:=un.frzs b ob _ z;obtain ⟨e1,_⟩:=hok b _ z;obtain ⟨e2,_⟩:=hok' b _ z2;rw [e] at e1;cases e1;exact e2
 cases hk:K.lookup a with
 | some o =>
  have e:=KX a o hk;rw [ha] at e;cases e;refine core (fun _=>none) (fun _=>.inl rfl) (.inr ⟨_,vs.toArray,_,hk,rfl,rfl,rfl,by rw [yal,lenV];exact hl,by simpa using rv⟩) (fun b u z=>by have z':(none:Option HO)=some u:=z;cases z') (fun b z=>absurd rfl z) fun z=>absurd rfl z
 | none =>
  refine core (fun b=>if b=a then some (.frz { cls:=.type "list",data:=.seq vs.toArray } (.lst (ns.map V.int))) else none) (fun b=>?_) (.inl (.inr ⟨{ cls:=.type "list",data:=.seq vs.toArray },if_pos rfl⟩)) (fun b u z=>?_) (fun b z=>?_) fun _=>hk
  ·by_cases hb:b=a
   ·exact .inr ⟨_,_,if_pos hb⟩
   ·exact .inl (if_neg hb)
  ·by_cases hb:b=a
   ·have z':=(if_pos hb).symm.trans z;cases z';subst hb;exact ⟨ha,by rw [yae];exact hl,vs,_,rv,ha⟩
   ·have z':=(if_neg hb).symm.trans z;cases z'
  ·by_cases hb:b=a
   ·exact hb
   ·exact absurd (if_neg hb) z
end L2
namespace L2
open PySem PySem.Spec PyProof.Rows
def zoL{l:PySem.W.OpenLaw}{n k:Nat}{q:Program}{loose:List Str}{XP:(Str->Option Value)->Heap->Prop}{YP:World->Heap->Prop}{d:DefRec}{K:Params->PySem.W.Frag}{CX:World->CXT}{sp:World->Sp}{x:Str}
  (hn:l.most=some n) (hn2:n<=sizeLine) (hdf:d.params.defaults=[]) (hr:Room k callerA)
  (hY:∀(w:World) (h:Heap),YP w h->(K w.params).In h)
  (F:∀(w:World) (mg:Z6) (fa:Addr) (h:Heap),(K w.params).In h->h.Ns mainGlobals mg->mg d.name=some (.ref fa) →
   ∃fd:FuncData,(∀(s:Shared) (u:Value),BindsTo s fd ⟨[u],[]⟩ [(x,u)]) ∧
    ∀base:Heap,(K w.params).In base->base.Ns mainGlobals mg->FnOk l.prog w (K w.params) mg base (CX w) k fa fd [x] (sp w))
  (hsp:∀(w:World) (H:Hp) (a:Addr) (ns:List Int),ns.length<=n->zt2 H->SqL (K w.params) H a (ns.map V.int)->sp w [.ref a] H (fun v _=>v=.bl true) fun _ _ _=>False)
  (hCX:∀(w:World) (H:Hp) (s:Shared) (e:Value) (s':Shared),CX w [] H s (fun _ _ _=>False) e s'->False) :
  PySem.W.WalkO q loose XP YP l.row.toRowW d [] (fun f vs=>PySem.call f vs):=by
 refine Att.ziA hn hdf fun w s₀ s₁ mg mb fa o pm cd doc a vs ns G Y ho hd hcd hmg hobj hints hlen hg=>?_
 have KX:=hY w _ Y;obtain ⟨fd,hb,hF⟩:=F w mg fa _ KX G.T.g hmg;exact znt KX G.T.g G.T.b G.T.builtins G.T.nolimit hg hobj hints (yah hlen hn2) hr hF hb (fun H hO hS=>hsp w H a ns hlen hO hS) fun H e s'=>hCX w H s₁ e s'
end L2
namespace L2
open PySem PySem.Spec PyProof.Rows
def zbG(s:Stmt):Arguments:=match s with
 | .FunctionDef _ a _ _ _ _ _ _ _ _=>a
 | _=>{ posonlyargs:=[],args:=[],vararg:=none,kwonlyargs:=[],kw_defaults:=[],kwarg:=none,defaults:=[] }
def zbt(s:Stmt):List Stmt:=match s with
 | .FunctionDef _ _ b _ _ _ _ _ _ _=>b
 | _=>[]
def zab(s:Stmt):Scope:=match s with
 | .FunctionDef _ _ _ _ _ _ sc _ _ _=>sc
 | _=>{ kind:=.function,names:=[],isGenerator:=false,isCoroutine:=false }
structure Fun(K:PySem.W.Frag)(x qual:Str)(st:Stmt)(f:Addr)(fd:FuncData):Prop where
 ex:∃(oc:Value) (od:Option Addr) (kV doc pm:Value) (an:Option Addr) (cdv ct:Value) (osl:Array (Option Value)),
  fd=PySem.W.fnOf x qual (zbG st) (zbt st) (zab st) .none kV doc pm an cdv ct/\K.lookup f=some ⟨oc,od,.func fd,osl⟩/\PySem.W.codeIn K cdv qual=true
 kp:PySem.W.keepIn K (.ref f)=true
section
variable{P:Program}{w:World}{K:PySem.W.Frag}{mg:Z6}{base:Heap}
def Fun.binds{x qual:Str}{st:Stmt}{f:Addr}{fd:FuncData}{ps:List Str}(F:Fun K x qual st f fd)
  (h:∀(kV doc pm:Value) (an:Option Addr) (cdv ct:Value) (us:List Value),us.length=ps.length->bindArgs (PySem.W.fnOf x qual (zbG st) (zbt st) (zab st) .none kV doc pm an cdv ct) ⟨us,[]⟩=pure (ps.zip us)):zbQ K fd ps []:=by
 obtain ⟨oc,od,kV,doc,pm,an,cdv,ct,osl,rfl,lk,hcd⟩:=F.ex;exact .all (h kV doc pm an cdv ct)
def zox{x qual:Str}{st:Stmt}{f:Addr}{oc:Value}{od an:Option Addr}{osl:Array (Option Value)}{kV doc pm cdv ct:Value}(l:K.lookup f=some ⟨oc,od,.func (PySem.W.fnOf x qual (zbG st) (zbt st) (zab st) .none kV doc pm an cdv ct),osl⟩)
  (c:PySem.W.codeIn K cdv qual=true) (k:PySem.W.keepIn K (.ref f)=true):Fun K x qual st f (PySem.W.fnOf x qual (zbG st) (zbt st) (zab st) .none kV doc pm an cdv ct):=⟨⟨oc,od,kV,doc,pm,an,cdv,ct,osl,rfl,l,c⟩,k⟩
end
section
variable{X:Cx}
end
def zot{A B:Prop}(h:B):if false=true then A else B:=by
 rw [if_neg ybd];exact h
def zos{A B:Prop}(h:A):if true=true then A else B:=by
 rw [if_pos rfl];exact h
end L2
namespace L2
open PySem PySem.Spec PyProof.Rows
def zj8{scope:Scope}{env:Env}(h:∀y∈scope.names,y.2=.free->∃c,env.cells.lookup y.1=some c) :
  ∃cl,closureFor scope env=pure cl/\(∀y c,cl.lookup y=some c->env.cells.lookup y=some c)/\∀y,(y,NameKind.free)∈scope.names->∃c,cl.lookup y=some c:=by
 unfold closureFor
 have key:∀(l:List (Str×NameKind)) (cs:List (Str×Addr)),(∀y∈l,y.2=.free->∃c,env.cells.lookup y.1=some c)->(∀y c,cs.lookup y=some c->env.cells.lookup y=some c) →
   ∃cl,(forIn l cs fun (x:Str×NameKind) (r:List (Str×Addr))=>(if (x.2 == NameKind.free)=true then (do let c ← cellOf env x.1;pure (ForInStep.yield ((x.1,c)::r))) else pure (ForInStep.yield r):Sem (ForInStep (List (Str×Addr)))))=pure cl ∧
    (∀y c,cl.lookup y=some c->env.cells.lookup y=some c)/\(∀y,(y,NameKind.free)∈l->∃c,cl.lookup y=some c)/\(∀y c,cs.lookup y=some c->∃c',cl.lookup y=some c'):=by
  intro l
  induction l with
  | nil=>intro cs _ hc;exact ⟨cs,rfl,hc,fun y hy=>by simp at hy,fun y c e=>⟨c,e⟩⟩
  | cons p l ih =>
   intro cs hl hc;obtain ⟨n,k⟩:=p
   by_cases hk:(k == NameKind.free)=true
   ·have ek:k=.free:=eq_of_beq hk;obtain ⟨c,ec⟩:=hl (n,k) yat ek
    obtain ⟨cl,e1,e2,e3,e4⟩:=ih ((n,c)::cs) (fun y hy=>hl y (yap _ hy)) (fun y c' e=>by
     rw [yay] at e
     cases hq:y == n with
     | true=>rw [hq] at e;cases e;rw [eq_of_beq hq];exact ec
     | false=>rw [hq] at e;exact hc y c' e)
    refine ⟨cl,?_,e2,fun y hy=>?_,fun y c' e=>?_⟩
    ·rw [ycK];show ((if (k == NameKind.free)=true then _ else _) >>= _)=_;rw [if_pos hk]
     have ecell:cellOf env n=pure c:=by unfold cellOf;rw [ec]
     show (cellOf env n >>= _) >>= _=_;rw [ecell];simpa using e1
    ·rcases yav.mp hy with z | hy
     ·cases z;exact e4 n c (by rw [yay];simp)
     ·exact e3 y hy
    ·cases hq:y == n with
     | true=>exact e4 y c (by rw [yay,hq])
     | false=>exact e4 y c' (by rw [yay,hq];exact e)
   ·obtain ⟨cl,e1,e2,e3,e4⟩:=ih cs (fun y hy=>hl y (yap _ hy)) hc;refine ⟨cl,?_,e2,fun y hy=>?_,e4⟩
    ·rw [ycK];show ((if (k == NameKind.free)=true then _ else _) >>= _)=_;rw [if_neg hk];simpa using e1
    ·rcases yav.mp hy with z | hy
     ·cases z;exact absurd rfl hk
     ·exact e3 y hy
 obtain ⟨cl,e1,e2,e3,_⟩:=key scope.names [] h (fun y c e=>by simp at e);refine ⟨cl,?_,e2,e3⟩;show ((forIn scope.names [] _:Sem (List (Str×Addr))) >>= _)=_;have e1':=congrArg (fun m=>m >>= (pure:List (Str×Addr)->Sem (List (Str×Addr)))) e1;simpa using e1
def PIf(X:Cx)(ifs:List Expr)(t:TT):Prop :=
 ∀(pins:Z3) (s:Shared) (σ:St) (H:Hp) (Q:Bool->Hp->Prop),Inv X pins σ H s->t σ H Q →
  wpAny (model X.prog X.w) X.A (forIn ifs true fun c r=>if r=true then do let ok ← isTrue c X.env (eval c X.env);pure (ForInStep.yield ok) else pure (ForInStep.yield r)) (TP X pins σ Q) X.xe s
def zyc:TT:=fun _ H Q=>Q true H
def zpA{X:Cx}:PIf X [] zyc:=fun _ _ _ H _ I h=>wpAny_tests_nil ⟨H,I,h⟩
def zpz{X:Cx}{c:Expr}{t:TT}(h:PT X c t):PIf X [c] t:=fun pins s σ H Q I hw=>wpAny_tests_one (h pins s σ H Q I hw)
theorem zew{scope:Scope}{env:Env}:∀{names:List (Str×NameKind)} {y:Str},(y,NameKind.free)∈names->(∀z∈names,z.1=y->z.2=.free) →
  (names.map fun (n,k)=>if (k == NameKind.free&&env.scope.kind == .function&&env.kindOf n == some .cell) then (n,NameKind.cell) else (n,k)).lookup y=some .cell ∨
  (names.map fun (n,k)=>if (k == NameKind.free&&env.scope.kind == .function&&env.kindOf n == some .cell) then (n,NameKind.cell) else (n,k)).lookup y=some .free
 | [],_,h,_=>by simp at h
 | (n,k)::r,y,h,u=>by
  rw [yaw];show List.lookup y ((if (k == NameKind.free&&env.scope.kind == .function&&env.kindOf n == some .cell)=true then (n,NameKind.cell) else (n,k))::_)=_\/List.lookup y ((if (k == NameKind.free&&env.scope.kind == .function&&env.kindOf n == some .cell)=true then (n,NameKind.cell) else (n,k))::_)=_
  cases hq:y == n with
  | true =>
   have e:n=y:=(eq_of_beq hq).symm;have ek:k=.free:=u (n,k) yat e
   by_cases hc:(k == NameKind.free&&env.scope.kind == .function&&env.kindOf n == some .cell)=true
   ·rw [if_pos hc];left;simp [yay,hq]
   ·rw [if_neg hc];right;simp [yay,hq,ek]
  | false =>
   have hy:(y,NameKind.free)∈r:=by
    rcases yav.mp h with z | z
    ·cases z;simp at hq
    ·exact z
   have ih:=zew (scope:=scope) (env:=env) hy fun z hz=>u z (yap _ hz)
   by_cases hc:(k == NameKind.free&&env.scope.kind == .function&&env.kindOf n == some .cell)=true
   ·rw [if_pos hc];simpa [yay,hq] using ih
   ·rw [if_neg hc];simpa [yay,hq] using ih
def Inv.track{X:Cx}{pins:Z3}{σ:St}{H:Hp}{s:Shared}{D:Addr}{o:HO}(I:Inv X pins σ H s)(hn:H D=none)(h1:X.s₀.heap.objs.size<=D)(h2:D≠X.env.locals)(h3:∀x c,X.env.cells.lookup x=some c->c≠D)(h4:∀p∈X.pn++pins,p.1≠D)
  (new:zb3 X.prog X.w (upd H D o) s.heap D o):Inv X pins σ (upd H D o) s:=by
 have nD:∀b u,H b=some u->b≠D:=fun b u e=>zaC e hn
 obtain ⟨h',g',d',t',o'⟩:=s;refine I.step (h':=h') (g':=g') (d':=d') (t':=t') (ch:=[D]) (fun b hb=>?_) (fun b o _ _ _ e _=>e) (fun b o _ _ _ e _=>⟨o.slots,e⟩) (fun b o hc e n=>?_) (fun b o _ e=>⟨o,e⟩) (fun b xs e=>?_) (fun b o u e=>?_) (fun b ps e=>?_) (fun m hm=>hm) (fun b u e=>?_) I.bare
 ·have e:b=D:=by simpa using hb
  subst e;exact ⟨.inr h1,h2,h3,h4⟩
 ·rw [zaq (fun z=>hc (by simp [z]))];exact n
 ·rw [zaq (nD _ _ e)];exact e
 ·rw [zaq (nD _ _ e)];exact e
 ·exact ⟨#[],by rw [zaq (nD _ _ e),e];simp⟩
 ·by_cases hb:b=D
  ·subst hb;rw [zaW] at e;cases e;exact new
  ·rw [zaq hb] at e
   exact (I.hok b u e).stay (fun _ _ _ q=>q) (fun c q=>by rw [zaq (nD _ _ q)];exact q) fun c xs q=>by rw [zaq (nD _ _ q)];exact q
section
variable{X:Cx}{elt iter:Expr}{x:Str}{px pos:Pos}{ifs:List Expr}{scope:Scope}{caps:List (Str×Nat)}{wi:TI}{tt:TT}{te:TE}
abbrev lob(its:List Value)(k:Nat):Obj:={ cls:=.type "list",data:=.seq its.toArray k }
end
end L2
namespace L2
open PySem PySem.Spec PyProof.Rows
section
variable{X:Cx}{elt iter:Expr}{x:Str}{px pos:Pos}{ifs:List Expr}{scope:Scope}{caps:List (Str×Nat)}{wi:TI}{tt:TT}{te:TE}
end
end L2
namespace L2
open PySem PySem.Spec PyProof.Rows
section
variable{prog:Program}{w:World}{A:Around}{R:Result->Shared->Prop}{s:Shared}
theorem znq{elt target iter:Expr}{ifs:List Expr}{scope:Scope}{pos:Pos}{it acc:Value}{env:Env}(I:Nat->Shared->Prop)
  (turn:∀n s,I n s->wpAny (model prog w) A (pyNext it) (fun r s₁=>match r with
   | none=>R (.ok .next) s₁
   | some v=>wpAny (model prog w) A (letOwnedTupleGo target it v) (fun _ s₀=>wpAny (model prog w) A (assign target env v) (fun _ s₂ =>
     wpAny (model prog w) A (forIn ifs true fun c r=>if r=true then do let ok ← isTrue c env (eval c env);pure (ForInStep.yield ok) else pure (ForInStep.yield r)) (fun ok s₃ =>
      if ok=true then wpAny (model prog w) A (eval elt env) (fun x s₄ =>
       wpAny (model prog w) A (call (.builtin "list.append") [acc,x]) (fun _ s₅=>∃m,m<n/\I m s₅) (notedBy (model prog w) A env fun e s'=>R (.error e) s') s₄) (notedBy (model prog w) A env fun e s'=>R (.error e) s') s₃
      else ∃m,m<n/\I m s₃) (notedBy (model prog w) A env fun e s'=>R (.error e) s') s₂) (notedBy (model prog w) A env fun e s'=>R (.error e) s') s₀) (notedBy (model prog w) A env fun e s'=>R (.error e) s') s₁) (notedBy (model prog w) A env fun e s'=>R (.error e) s') s)
  (n:Nat) (h:I n s):codeAny (model prog w) A (.compLoop (.ListComp elt [⟨target,iter,ifs,0⟩] scope pos) 0 it acc env) R s:=by
 refine codeAny_loop rfl I (fun n s hI=>?_) n h;show wpAny _ A ((compTurn (.ListComp elt [⟨target,iter,ifs,0⟩] scope pos) 0 it acc env).onRaise (fun x=>do noteFrame x env;theTreesLotGoes x)) _ _ s;refine wpAny_noted ?_;rw [compTurn_list];refine yac (wpAny_standAt (yac (ybt (turn n s hI) (fun r s₁ h₁=>?_) fun _ _ h'=>h')))
 cases r with
 | none=>exact yaj h₁
 | some v =>
  refine yac (ybt h₁ (fun _ s₀ h₀=>?_) fun _ _ h'=>h');refine yac (ybt h₀ (fun _ s₂ h₂=>yac (ybt h₂ (fun ok s₃ h₃=>?_) fun _ _ h'=>h')) fun _ _ h'=>h')
  cases ok with
  | false=>exact yaj ⟨rfl,h₃⟩
  | true =>
   exact yac (yac (ybt h₃ (fun x s₄ h₄=>yac (ybt h₄ (fun _ s₅ h₅=>yaj (yaj ⟨rfl,h₅⟩)) fun _ _ h'=>h')) fun _ _ h'=>h'))
end
theorem zbh:∀(names:List (Str×NameKind)) (n:Nat) (acc:List (Str×Addr)),cellsFrom n names acc=cellsFrom n names []++acc
 | [],_,_=>rfl
 | (x,k)::r,n,acc=>by
  unfold cellsFrom;split
  ·rw [zbh r (n+1) ((x,n)::acc),zbh r (n+1) [(x,n)]];simp
  ·exact zbh r n acc
theorem zcV:∀(names:List (Str×NameKind)) (n:Nat) {x:Str} {c:Addr},(x,c)∈cellsFrom n names []->(x,NameKind.cell)∈names
 | [],_,_,_,h=>by cases h
 | (y,k)::r,n,x,c,h=>by
  unfold cellsFrom at h;split at h
  ·rename_i hk;rw [zbh] at h
   rcases ybL.mp h with h | h
   ·exact yap _ (zcV r _ h)
   ·rw [yaO] at h;cases h;rw [ybT.mp hk];exact yat
  ·exact yap _ (zcV r _ h)
theorem zcg{α:Type}{x:Str}:∀{l m:List (Str×α)},(l++m).lookup x=(l.lookup x).or (m.lookup x)
 | [],m=>rfl
 | (y,a)::l,m=>by
  rw [ycx,yay,yay]
  cases x == y with
  | true=>rfl
  | false=>exact zcg
theorem zcc:∀(names:List (Str×NameKind)) (n:Nat) {x:Str},(x,NameKind.cell)∈names->∃c,(cellsFrom n names []).lookup x=some c
 | [],_,_,h=>by cases h
 | (y,k)::r,n,x,h=>by
  unfold cellsFrom;split
  ·rename_i hk;rw [zbh,zcg]
   rcases yav.mp h with e | h
   ·cases e
    cases hq:(cellsFrom (n+1) r []).lookup y with
    | some c=>exact ⟨c,rfl⟩
    | none=>exact ⟨n,by simp [yay]⟩
   ·obtain ⟨c,e⟩:=zcc r (n+1) h;rw [e];exact ⟨c,rfl⟩
  ·rename_i hk
   rcases yav.mp h with e | h
   ·cases e;exact absurd rfl hk
   ·exact zcc r n h
def zcz{M:Model}{A:Around}{E:Z5}{s:Shared}{scope:Scope}{globals:Addr}{closure:List (Str×Addr)}{qual:Str}{func:Option Addr}{code:Value}{outer:Env}{builtins:Addr}{Q:Env->Shared->Prop}
  (hQ:∀h',h'.Ns s.heap.objs.size (fun _=>none)->(∀b o,s.heap.get? b=some o->h'.get? b=some o)->CellsOk h' (s.heap.objs.size+1) (cellsFrom (s.heap.objs.size+1) scope.names []) →
   Q (newEnv scope s.heap.objs.size globals (cellsFrom (s.heap.objs.size+1) scope.names []++closure) qual func code (some outer) builtins) { s with heap:=h' }) :
  wpAny M A (newFunctionEnv scope globals closure [] qual func code (some outer) builtins) Q E s:=by
 simp only [newFunctionEnv,Option.isSome_some,yb7];refine yac (wpAny_alloc ?_);refine yac (wpAny_layCells _ (fun name kind cells=>by cases hkc:kind == NameKind.cell<;>simp [hkc]) _ _ _ _ ?_);have ok:=cellsFrom_ok scope.names (s.heap.push { cls:=.type "dict",data:=.dict #[] }) (s.heap.objs.size+1) [] ⟨fun _ _ hm=>(nomatch hm),List.Pairwise.nil⟩ (by rw [ya9];exact yam _);rw [ya9] at ok;rw [show ({ s with heap:=s.heap.push { cls:=.type "dict",data:=.dict #[] } }:Shared).heap.objs.size=s.heap.objs.size+1 from ya9 ..];rw [zbh];simp only [List.forIn_nil];refine yac (yaj (yaj ?_));exact hQ _ ((Heap.Ns.new s.heap (.type "dict")).keeps (pushCells_keeps _ _)) (fun b o e=>pushCells_keeps _ _ b o (yaf _ e)) ok
structure CompScopeG(sc scope:Scope)(N:List Str)(xs:List Str)(caps:List (Str×Nat)):Prop where
 nd:(scope.names.map (·.1)).Nodup
 kind:scope.kind=.function
 names:∀y∈scope.names,y.2=.local->scope.names.lookup y.1=some .local
 free:∀y∈scope.names,y.2=.free->sc.names.lookup y.1=some .cell\/sc.names.lookup y.1=some .free
 cap:∀p∈caps,N[p.2]?=some p.1/\(p.1,NameKind.free)∈scope.names/\sc.names.lookup p.1≠some .local
 uniq:∀p∈caps,∀z∈scope.names,z.1=p.1->z.2=.free
def zbk(X:Cx)(xs:List Str)(caps:List (Str×Nat))(scope:Scope)(cl:List (Str×Addr))(C:Addr)(s:Shared)(H:Hp)(ex:List Addr):Cx :=
 { X with N:=xs++caps.map (·.1),s₀:=s,H₀:=H,env:=compEnvC scope cl C X.env,outer:=X.stack,ex:=ex,fn:=fun x=>decide (scope.names.lookup x=some .cell),pn:=[],xe:=fun _ _=>False }
abbrev capσ(σ:St)(n:Nat)(caps:List (Str×Nat)):St:=List.replicate n none++caps.map fun p=>(σ[p.2]?).join
def ziP(wi:TI)(g:TG)(tt:TT)(te:TE)(n:Nat)(caps:List (Str×Nat)):TE:=fun σ H Q=>wi σ H fun J H1=>∃W:Nat->Nat->List V->St->Hp->Prop,(∃m,W 0 m [] (capσ σ n caps) H1)/\∀i m ys σ' H,W i m ys σ' H →
 ys.length<=sizeLine/\((J.stop i H/\∀p,H p=none->Q (.ref p) (upd H p (.lst ys))) ∨
 (J.go i H/\∀x H',J.yld i H x H'->g x σ' H' fun σ2 H2=>tt σ2 H2 fun ok H3=>if ok=true then te σ2 H3 fun y H4=>∃m',m'<m/\W (i+1) m' (ys++[y]) σ2 H4 else ∃m',m'<m/\W (i+1) m' ys σ2 H3))
section
variable{X:Cx}{elt iter tg:Expr}{xs:List Str}{pos:Pos}{ifs:List Expr}{scope:Scope}{caps:List (Str×Nat)}{wi:TI}{g:TG}{tt:TT}{te:TE}
structure OwnC(X:Cx)(scope:Scope)(lo:Nat)(h:Heap)(cl:List (Str×Addr)):Prop where
 sort:∀y c,cl.lookup y=some c->X.env.cells.lookup y=some c\/(h.IsCell c none/\lo<=c)
 inj:∀y z c,cl.lookup y=some c->cl.lookup z=some c->y=z
 has:∀y,((y,NameKind.free)∈scope.names\/(y,NameKind.cell)∈scope.names)->∃c,cl.lookup y=some c
 own:∀y c,scope.names.lookup y=some .cell->cl.lookup y=some c->lo<=c
 free:∀y,(y,NameKind.free)∈scope.names->∃c,cl.lookup y=some c/\X.env.cells.lookup y=some c
def zg8{scope:Scope}{env:Env}{y:Str}(h:(relabel scope env).names.lookup y=some .cell\/(relabel scope env).names.lookup y=some .free):(y,NameKind.free)∈scope.names\/(y,NameKind.cell)∈scope.names:=by
 have go:∀k,(relabel scope env).names.lookup y=some k->(k=.cell\/k=.free)->(y,NameKind.free)∈scope.names\/(y,NameKind.cell)∈scope.names:=fun k e hk=>by
  have hm:=yaK e;obtain ⟨⟨n,k0⟩,hp,e2⟩:=yan.mp hm
  by_cases hq:(k0 == .free&&env.scope.kind == .function&&env.kindOf n == some .cell)=true
  ·have e3:(n,NameKind.cell)=(y,k):=by rw [<-e2];show _=if _ then _ else _;rw [if_pos hq]
   cases e3
   have:k0=.free:=by simp only [yab] at hq;exact eq_of_beq hq.1.1
   subst this;exact .inl hp
  ·have e3:(n,k0)=(y,k):=by rw [<-e2];show _=if _ then _ else _;rw [if_neg hq]
   cases e3
   rcases hk with rfl | rfl
   ·exact .inr hp
   ·exact .inl hp
 rcases h with h | h
 ·exact go _ h (.inl rfl)
 ·exact go _ h (.inr rfl)
theorem zhp:∀{l:List (Str×NameKind)},(l.map (·.1)).Nodup->∀{x:Str} {a b:NameKind},(x,a)∈l->(x,b)∈l->a=b
 | [],_,_,_,_,h,_=>by cases h
 | p::l,nd,x,a,b,h,h'=>by
  rw [yaw,ybs] at nd
  rcases yav.mp h with h | h<;>rcases yav.mp h' with h' | h'
  ·rw [<-h'] at h;exact (Prod.mk.inj h).2
  ·exact absurd (yan.mpr ⟨_,h',by rw [<-h]⟩) nd.1
  ·exact absurd (yan.mpr ⟨_,h,by rw [<-h']⟩) nd.1
  ·exact zhp nd.2 h h'
def zla{X:Cx}{scope:Scope}{lo n:Nat}{h:Heap}{cl:List (Str×Addr)}(nd:(scope.names.map (·.1)).Nodup)(hn:lo<=n)(hinj:∀x y c,X.env.cells.lookup x=some c->X.env.cells.lookup y=some c->x=y)
  (hcl:∀y c,cl.lookup y=some c->X.env.cells.lookup y=some c) (hlo:∀y c,X.env.cells.lookup y=some c->c<lo) (hhas:∀y,(y,NameKind.free)∈scope.names->∃c,cl.lookup y=some c) (ok:CellsOk h n (cellsFrom n scope.names [])) :
  OwnC X scope lo h (cellsFrom n scope.names []++cl):=by
 have sort:∀y c,(cellsFrom n scope.names []++cl).lookup y=some c->((cellsFrom n scope.names []).lookup y=some c)\/((cellsFrom n scope.names []).lookup y=none/\cl.lookup y=some c):=fun y c e=>by
  rw [zcg] at e
  cases hq:(cellsFrom n scope.names []).lookup y with
  | some c'=>rw [hq] at e;exact .inl e
  | none=>rw [hq] at e;exact .inr ⟨rfl,e⟩
 refine ⟨fun y c e=>?_,fun y z c e e'=>?_,fun y hy=>?_,fun y c hy e=>?_,fun y hy=>?_⟩
 ·rcases sort y c e with z | ⟨_,z⟩
  ·have:=ok.empty y c (yaK z);exact .inr ⟨this.1,yah hn this.2⟩
  ·exact .inl (hcl y c z)
 ·rcases sort y c e with a | ⟨_,a⟩<;>rcases sort z c e' with b | ⟨_,b⟩
  ·exact name_of_addr ok.apart (yaK a) (yaK b)
  ·have h1:=(ok.empty y c (yaK a)).2;have h2:=hlo z c (hcl z c b);exact absurd (yar h2 (yah hn h1)) (yaT _)
  ·have h1:=(ok.empty z c (yaK b)).2;have h2:=hlo y c (hcl y c a);exact absurd (yar h2 (yah hn h1)) (yaT _)
  ·exact hinj y z c (hcl y c a) (hcl z c b)
 ·rw [zcg]
  cases hq:(cellsFrom n scope.names []).lookup y with
  | some c=>exact ⟨c,rfl⟩
  | none =>
   rcases hy with hy | hy
   ·exact hhas y hy
   ·obtain ⟨c,e⟩:=zcc scope.names n hy;rw [hq] at e;cases e
 ·obtain ⟨c',e'⟩:=zcc scope.names n (yaK hy);rw [zcg,e'] at e;have:c'=c:=Option.some.inj e;subst this;exact yah hn (ok.empty y c' (yaK e')).2
 ·obtain ⟨c,e⟩:=hhas y hy;refine ⟨c,?_,hcl y c e⟩;rw [zcg]
  cases hq:(cellsFrom n scope.names []).lookup y with
  | some c' =>
   have:=zcV scope.names n (yaK hq);cases zhp nd hy this
  | none=>exact e
def zl7{pins:Z3}{σ:St}{H:Hp}{s s':Shared}{cl:List (Str×Addr)}{C:Addr}{fp:List Addr}(S:CompScopeG X.env.scope scope X.N xs caps)(hu:∀p∈caps,∀z∈scope.names,z.1=p.1->z.2=.free)
  (I:Inv X pins σ H s) (hcl:OwnC X scope s.heap.objs.size s'.heap cl)
  (hf:∀b∈fp,zmr X pins H b) (hlt:∀b∈fp,b<s.heap.objs.size) (hC:s.heap.objs.size<=C) (ho:s'.os=s.os) (hg:s'.gens=s.gens) (hk:∀b o,s.heap.get? b=some o->s'.heap.get? b=some o) (hn:s'.heap.Ns C (fun _=>none)) :
  Inv (zbk X xs caps scope cl C s H fp) [] (capσ σ xs.length caps) H s':=by
 have cellK:∀y c,cl.lookup y=some c->∃v,s'.heap.IsCell c v:=fun y c e=>by
  rcases hcl.sort y c e with z | z
  ·obtain ⟨v,o,q,d⟩:=I.cell y c z;exact ⟨v,o,hk _ _ q,d⟩
  ·exact ⟨none,z.1⟩
 refine ⟨⟨I.ok.mod,S.kind,I.ok.glob,I.ok.blt,hC,hcl.inj,fun y hy=>hcl.has y (zg8 hy),fun y c z e=>hcl.own y c (yau z) e,I.ok.hd,I.ok.frames,.inl rfl,fun b hb=>⟨yaG (yar (hlt b hb) hC),fun y c e=>(hcl.sort y c e).elim (fun z=>(hf b hb).2.2.2.2.1 y c z) fun z=>ya6 (yar (hlt b hb) z.2)⟩,
  I.bs,yah I.ok.bsz I.sz,fun b o e hb=>?_,fun b hb hm=>?_,I.stack,I.stkFree⟩,ho,by rw [hg];exact I.bare,Un.kept hk,⟨_,hn,fun i y v h1 h2 h3=>?_⟩,fun y c e=>cellK y c e,I.hok.fresh hC,fun y c e=>(hcl.sort y c e).elim (I.freeC y c) fun z=>I.hok.fresh z.2,fun p hp=>absurd (show p∈([]:Z3) from hp) (by simp),I.hok.kept hk,?_⟩
 ·rcases (hf b hb).2.2.2.1 with z | z
  ·exact I.ok.noex b o e z
  ·exact absurd (yar (yas e) (yah I.ok.bsz z)) (yaT _)
 ·rcases yav.mp (I.stkSub b hm) with z | z
  ·exact (hf b hb).2.1 z
  ·exact (hf b hb).2.2.1 z
 ·have hi:¬ i<xs.length:=fun hi=>by
   have h2':(capσ σ xs.length caps)[i]?=some (some v):=h2;rw [yaz (by rw [yaD];exact hi),yba] at h2'
   split at h2'<;>cases h2'
  ·have h1':(caps.map (·.1))[i-xs.length]?=some y:=by
    have h1':(xs++caps.map (·.1))[i]?=some y:=h1;rwa [yaq (by omega)] at h1'
   rw [yak] at h1'
   have h2':(caps.map fun p=>(σ[p.2]?).join)[i-xs.length]?=some (some v):=by
    have h2':(capσ σ xs.length caps)[i]?=some (some v):=h2;rw [yaq (by rw [yaD];omega),yaD] at h2';exact h2'
   rw [yak] at h2'
   cases hp:caps[i-xs.length]? with
   | none=>rw [hp] at h1';cases h1'
   | some p =>
    rw [hp] at h1' h2';have ey:p.1=y:=Option.some.inj h1';have ev:(σ[p.2]?).join=some v:=Option.some.inj h2';subst ey;have hmem:p∈caps:=yb6 hp;obtain ⟨c1,c2,c3⟩:=S.cap p hmem
    have eσ:σ[p.2]?=some (some v):=by
     cases q:σ[p.2]? with
     | none=>rw [q] at ev;cases ev
     | some w=>rw [q] at ev;have:w=some v:=ev;rw [this]
    have hfr:=S.free _ c2 rfl;have hv:Vis X.env.scope p.1:=hfr.elim (fun z=>.inr (.inl z)) (fun z=>.inr (.inr z));obtain ⟨m,_,hl⟩:=I.loc;obtain ⟨u,r,l⟩:=hl p.2 p.1 v c1 eσ hv;refine ⟨u,r,.inr ⟨zew (scope:=scope) (env:=X.env) c2 (hu p hmem),?_⟩⟩;obtain ⟨c,ec,ec2⟩:=hcl.free p.1 c2;refine ⟨c,ec,?_⟩
    rcases l with ⟨z,_⟩ | ⟨_,c',ec',hcell⟩
    ·exact absurd z c3
    ·have:c'=c:=by rw [ec2] at ec';exact (Option.some.inj ec').symm
     subst this;obtain ⟨o,q,d⟩:=hcell;exact ⟨o,hk _ _ q,d⟩
 ·simp [zbk,capσ]
def zhI{use:Option (Value->Sem Unit)}{Qf:Z5}{R:VK}{pins:Z3}{s:Shared}{σ:St}{H:Hp}(hc:X.calm=true)(S:CompScopeG X.env.scope scope X.N xs caps)(hi:PI X tg iter wi)(hg:∀cl C s H fp,PG (zbk X xs caps scope cl C s H fp) tg g)
  (ht:∀cl C s H fp,PIf (zbk X xs caps scope cl C s H fp) ifs tt) (he:∀cl C s H fp,PE (zbk X xs caps scope cl C s H fp) elt te)
  (hs:∀v,foldedSetIterable iter X.env v=pure v) (I:Inv X pins σ H s) (h:ziP wi g tt te xs.length caps σ H R)
  (fin:∀(D C:Addr) (s4:Shared) (m4:Z6) (H6:Hp) (r:Flow),s4.heap.Ns C m4->(∀{σ':St} {H7:Hp} {s5:Shared} {h':Heap},Inv X pins σ' H7 s5->Heap.SameBut C s5.heap h'->H7 C=none->Inv X pins σ' H7 { s5 with heap:=h' })->H6 C=none->C≠X.env.locals->(∀y c,X.env.cells.lookup y=some c->C≠c)->Inv X pins σ H6 s4->R (.ref D) H6->compPost (model X.prog X.w) X.A X.xe use Qf (.ref D) C (.ok r) s4) :
  wpAny (model X.prog X.w) X.A (comprehension (.ListComp elt [⟨tg,iter,ifs,0⟩] scope pos) scope X.env (firstIterPos [⟨tg,iter,ifs,0⟩] pos) (newList []) false (eval iter X.env) use) Qf X.xe s:=by
 obtain ⟨cl,hclos,hcl,hhas⟩:=zj8 (scope:=scope) (env:=X.env) fun y hy hf=>I.ok.has y.1 (S.free y hy hf)
 refine wpAny_comprehension_free (use:=use) rfl hs hclos S.kind S.names (thn (hi pins s σ H _ I h) fun v s1 h1=>thn h1 fun itv s2 h2=>?_);obtain ⟨it,fp,tn,J,H2,rfl,I2,T,st2,f2,W,⟨m0,w0⟩,turn⟩:=h2;refine ybk (zcz (fun h₁ hns₁ hsb₁ hok₁=>?_));dsimp only at hns₁ hsb₁ hok₁ ⊢;generalize hHp:s2.heap.push { cls:=.type "list",dict:=none,data:=.seq ([]:List Value).toArray }=Hq at hns₁ hsb₁ hok₁ ⊢
 have hCe:Hq.objs.size=s2.heap.objs.size+1:=by rw [<-hHp,ya9]
 have hDC:s2.heap.objs.size≠Hq.objs.size:=by rw [hCe];exact yaG (ybS _)
 have hC:s2.heap.objs.size<=Hq.objs.size:=by rw [hCe];exact yct _
 have old:∀b o,s2.heap.get? b=some o->h₁.get? b=some o:=fun b o e=>hsb₁ b o (hHp ▸ yaf _ e)
 have hacc:h₁.get? s2.heap.objs.size=some (lob [] 0):=hsb₁ _ _ (hHp ▸ yax _ rfl)
 have cellX:∀y c,X.env.cells.lookup y=some c->c<s2.heap.objs.size:=fun y c e=>by obtain ⟨v,q⟩:=I2.cell y c e;exact q.lt
 have oc:=zla (X:=X) (lo:=s2.heap.objs.size+1) S.nd (by rw [hCe];exact yct _) I.ok.inj hcl (fun y c e=>yc1 (cellX y c e)) hhas hok₁;generalize hcl2:cellsFrom (Hq.objs.size+1) scope.names []++cl=cl2 at oc ⊢;have oc':OwnC X scope s2.heap.objs.size h₁ cl2:=⟨fun y c e=>(oc.sort y c e).imp id fun z=>⟨z.1,yc2 z.2⟩,oc.inj,oc.has,fun y c a e=>yc2 (oc.own y c a e),oc.free⟩
 have hlt:∀b∈fp,b<s2.heap.objs.size:=fun b hb=>by obtain ⟨o,e,_⟩:=T.obj 0 _ st2 b hb;exact yas e
 generalize hY:zbk X xs caps scope cl2 Hq.objs.size s2 H2 fp=Y;have PEY:PE Y elt te:=hY ▸ he cl2 _ s2 H2 fp;have PIY:PIf Y ifs tt:=hY ▸ ht cl2 _ s2 H2 fp;have PGY:PG Y tg g:=hY ▸ hg cl2 _ s2 H2 fp
 have I3:Inv Y [] (capσ σ xs.length caps) H2 { s2 with heap:=h₁ }:=by
  rw [<-hY];exact zl7 S S.uniq I2 oc' f2 hlt hC rfl rfl old hns₁
 have eYenv:Y.env=compEnvC scope cl2 Hq.objs.size X.env:=by rw [<-hY];rfl
 have eYloc:Y.env.locals=Hq.objs.size:=by rw [eYenv];rfl
 have eYfs:Y.fs=frs X.stack:=by rw [<-hY];rfl
 have eYprog:Y.prog=X.prog:=by rw [<-hY];rfl
 have eYw:Y.w=X.w:=by rw [<-hY];rfl
 have eYK:Y.K=X.K:=by rw [<-hY];rfl
 have eYA:Y.A=X.A:=by rw [<-hY];rfl
 have eYc:Y.calm=true:=by rw [<-hY];exact hc
 have eYex:Y.ex=fp:=by rw [<-hY];rfl
 have eYs:Y.s₀=s2:=by rw [<-hY];rfl
 have eYH:Y.H₀=H2:=by rw [<-hY];rfl
 have eYpn:Y.pn=[]:=by rw [<-hY];rfl
 have eYcell:∀y c,Y.env.cells.lookup y=some c->X.env.cells.lookup y=some c\/s2.heap.objs.size+1<=c:=fun y c e=>(oc.sort y c (by rwa [eYenv] at e)).imp id (·.2)
 have eYxe:∀e s',¬ Y.xe e s':=fun e s' z=>by rwa [<-hY] at z
 have stkX:∀b∈frs X.stack,b<s2.heap.objs.size:=fun b hb=>by
  rcases yav.mp (I2.stkSub b hb) with z | z
  ·rw [z];exact I2.lt
  ·refine Nat.not_le.mp fun hle=>I2.nofs hle z
 have pinX:∀p∈X.pn++pins,p.1<s2.heap.objs.size:=fun p hp=>yas (I2.pin p hp).1
 have fpY:∀{H':Hp} {its:List Value} {k:Nat},(∀b∈fp,H' b=none)->∀b∈fp,zmr Y [(s2.heap.objs.size,lob its k)] H' b:=fun {H' its k} hn b hb=>by
  refine ⟨hn b hb,by rw [eYloc];exact yaG (yar (hlt b hb) hC),?_,.inl (by rw [eYex];exact hb),fun y c e=>(eYcell y c e).elim (fun z=>(f2 b hb).2.2.2.2.1 y c z) fun z=>ya6 (yar (hlt b hb) (yc2 z)),fun p hp=>?_⟩
  ·rw [eYfs];intro hm
   rcases yav.mp (I2.stkSub b hm) with z | z
   ·exact (f2 b hb).2.1 z
   ·exact (f2 b hb).2.2.1 z
  ·rw [eYpn] at hp
   have e:p=(s2.heap.objs.size,lob its k):=by simpa using hp
   rw [e];exact ya6 (hlt b hb)
 have pinD:∀{H':Hp} {σ':St} {s':Shared} {its:List Value} {k:Nat},Inv Y [] σ' H' s'->s'.heap.get? s2.heap.objs.size=some (lob its k)->H' s2.heap.objs.size=none->Inv Y [(s2.heap.objs.size,lob its k)] σ' H' s':=fun {H' σ' s' its k} I' e n =>
  I'.pins_of fun p hp=>by
   have ep:p=(s2.heap.objs.size,lob its k):=by simpa using hp
   subst ep;refine ⟨e,n,by rw [eYloc];exact hDC,?_,fun v z=>?_⟩
   ·rw [eYfs];exact fun hm=>yaT _ (stkX _ hm)
   ·have z':Data.seq its.toArray k=Data.cell v:=z;cases z'
 have loop:codeAny (model X.prog X.w) X.A (.compLoop (.ListComp elt [⟨tg,iter,ifs,0⟩] scope pos) 0 (.ref it) (.ref s2.heap.objs.size) (compEnvC scope cl2 Hq.objs.size X.env))
   (compPost (model X.prog X.w) X.A X.xe use Qf (.ref s2.heap.objs.size) Hq.objs.size) { s2 with heap:=h₁ }:=by
  refine znq (fun n s'=>∃i σx H' ys its k,Inv Y [(s2.heap.objs.size,lob its k)] σx H' s'/\tn i s'.heap/\(∀b∈fp,H' b=none)/\Vals ys its/\W i n ys σx H') ?_ m0
   ⟨0,capσ σ xs.length caps,H2,[],[],0,pinD I3 hacc (I2.hok.fresh (yam _)),T.keep _ _ _ st2 fun b hb o e=>old b o e,fun b hb=>(f2 b hb).1,.nil,w0⟩
  rintro n s3 ⟨i,σx,H3,ys,its,k,J3,st3,fr3,rv,w3⟩;obtain ⟨hz,hcase⟩:=turn i n ys σx H3 w3
  rcases hcase with ⟨stop,q⟩ | ⟨go,step⟩
  ·have hd:=T.done Y eYprog eYw eYK eYc i _ s3 _ H3 (notedBy (model X.prog X.w) X.A (compEnvC scope cl2 Hq.objs.size X.env) fun e s'=>compPost (model X.prog X.w) X.A X.xe use Qf (.ref s2.heap.objs.size) Hq.objs.size (.error e) s') J3 (fpY fr3) st3 stop;rw [eYA] at hd;refine thn hd fun r s4 ⟨hr,J4⟩=>?_
   subst hr;obtain ⟨m4,hn4,_⟩:=J4.loc
   have hn4':s4.heap.Ns Hq.objs.size m4:=by rw [<-eYloc];exact hn4
   have hnC:H3 Hq.objs.size=none:=by rw [<-eYloc];exact J4.free
   have hk5:HOk X.prog X.w H3 s4.heap:=by rw [<-eYprog,<-eYw];exact J4.hok
   have u5:Un (frs X.stack) fp H2 H3 s2.heap s4.heap:=by
    have ub:=J4.base;rwa [eYfs,eYex,eYH,eYs] at ub
   have J5:Inv X pins σ H3 s4:=I2.call' (s':=s4) (ch:=fp) (by have:=J4.os;rwa [eYs] at this) u5 hk5 J4.bare fun b hb=>⟨(f2 b hb).2.2.2.1,(f2 b hb).2.1,(f2 b hb).2.2.2.2.1,(f2 b hb).2.2.2.2.2⟩
   have hp4:=J4.pin (s2.heap.objs.size,lob its k) (yaM _ yat);have hD5:s4.heap.get? s2.heap.objs.size=some (lob its k):=hp4.1;have J6:Inv X pins σ (upd H3 s2.heap.objs.size (.lst ys)) s4:=J5.track hp4.2.1 I2.sz (ya6 I2.lt) (fun y c e=>yaG (cellX y c e)) (fun p hp=>yaG (pinX p hp)) (show zb3 X.prog X.w _ s4.heap _ (.lst ys) from ⟨hz,its,k,rv,hD5⟩);have hCloc:Hq.objs.size≠X.env.locals:=ya6 (yar I2.lt hC);exact fin _ Hq.objs.size s4 m4 _ _ hn4' (fun {σ'} {H7} {s5} {h'} J sb' hn=>J.turned (t':=s5.toks) (it:=Hq.objs.size) (fun b o hb e=>(sb'.2 b hb).trans e) hn hCloc (.inr (yah I2.sz hC)) (fun y c e=>yaG (yar (cellX y c e) hC)) (fun p hp=>yaG (yar (pinX p hp) hC))) (by rw [zaq (Ne.symm hDC)];exact hnC) hCloc (fun y c e=>ya6 (yar (cellX y c e) hC)) J6 (q _ hp4.2.1)
  ·have hd:=T.item Y eYprog eYw eYK eYc i _ s3 _ H3 (notedBy (model X.prog X.w) X.A (compEnvC scope cl2 Hq.objs.size X.env) fun e s'=>compPost (model X.prog X.w) X.A X.xe use Qf (.ref s2.heap.objs.size) Hq.objs.size (.error e) s') J3 (fpY fr3) st3 go;rw [eYA] at hd;refine thn hd fun r s4 ⟨u,hr,h4⟩=>?_
   subst hr;refine thn h4 fun _ s5 ⟨v4,H4,J4,r4,y4,st5,fr4⟩=>?_
   have J4':=J4.pinned (fp:=fp) (fpY fr4) (T.obj _ _ st5);have ha:=PGY _ s5 σx H4 v4 u _ J4' r4 (step v4 H4 y4);rw [eYprog,eYw,eYA,eYenv] at ha;refine ybt ha (fun _ s5' ⟨σ5,H5,J5',q5⟩=>?_) fun e s' z=>(eYxe _ _ z).elim
   have ht5:=PIY _ s5' σ5 H5 _ J5' q5;rw [eYprog,eYw,eYA,eYenv] at ht5;refine ybt ht5 (fun ok s6 ⟨H6,J6,q6⟩=>?_) fun e s' z=>(eYxe _ _ z).elim
   have back:∀{H7:Hp} {s7:Shared},Inv Y ([(s2.heap.objs.size,lob its k)]++zhf fp s5.heap) σ5 H7 s7->tn (i+1) s7.heap/\∀b∈fp,H7 b=none:=fun {H7 s7} J7 =>
    ⟨T.keep _ _ _ st5 fun b hb o e=>(J7.pin (b,o) (yaM _ (yaM _ (zdk hb e)))).1,fun b hb=>by
     obtain ⟨o,e,d⟩:=T.obj _ _ st5 b hb
     exact (J7.pin (b,o) (yaM _ (yaM _ (zdk hb e)))).2.1⟩
   cases ok with
   | false =>
    rw [if_neg ybd] at q6;rw [if_neg ybd];obtain ⟨m',hm',w6⟩:=q6;exact ⟨m',hm',i+1,σ5,H6,ys,its,k,J6.unpinned,(back J6).1,(back J6).2,rv,w6⟩
   | true =>
    rw [if_pos rfl] at q6;rw [if_pos rfl];have he6:=PEY _ s6 _ H6 _ J6 q6;rw [eYprog,eYw,eYA,eYenv] at he6;refine ybt he6 (fun u7 s7 ⟨v7,H7,J7,r7,m',hm',w7⟩=>?_) fun e s' z=>(eYxe _ _ z).elim
    obtain ⟨st7,fr7⟩:=back J7;have hp7:=(J7.unpinned).pin (s2.heap.objs.size,lob its k) (yaM _ yat);have hl:=rv.length;refine append_at (hsz:=by show its.toArray.size<=sizeLine;rw [yal];omega) hp7.1 fun h8 sb8 hD8=>?_
    have J7':Inv Y [] σ5 H7 s7:=J7.unpinned.pins_of fun p hp=>absurd hp (by simp)
    have J8:Inv Y [] σ5 H7 { s7 with heap:=h8 }:=J7'.turned (t':=s7.toks) (it:=s2.heap.objs.size) (fun b o hb e=>(sb8.2 b hb).trans e) hp7.2.1 (by rw [eYloc];exact hDC) (.inr (by rw [eYs];exact yam _)) (fun y c e=>(eYcell y c e).elim (fun z=>yaG (cellX y c z)) fun z=>ya6 z) (fun p hp=>by rw [eYpn] at hp;simp at hp)
    have hD8':h8.get? s2.heap.objs.size=some (lob (its++[u7]) (k+1)):=by rw [hD8];simp [lob]
    exact ⟨m',hm',i+1,σ5,H7,ys++[v7],its++[u7],k+1,pinD J8 hD8' hp7.2.1,T.keep _ _ _ st7 fun b hb o e=>(sb8.2 b (yaG (hlt b hb))).trans e,fr7,rv.append (.cons r7 .nil),w7⟩
 exact codeAny_compStart_list loop (T.self X.A 0 _ _ _ (T.keep _ _ _ st2 fun b hb o e=>old b o e) loop)
def zm9(hc:X.calm=true)(S:CompScopeG X.env.scope scope X.N xs caps)(hi:PI X tg iter wi)(hg:∀cl C s H fp,PG (zbk X xs caps scope cl C s H fp) tg g)
  (ht:∀cl C s H fp,PIf (zbk X xs caps scope cl C s H fp) ifs tt) (he:∀cl C s H fp,PE (zbk X xs caps scope cl C s H fp) elt te)
  (hs:∀v,foldedSetIterable iter X.env v=pure v:=by intro _;rfl):PE X (.ListComp elt [⟨tg,iter,ifs,0⟩] scope pos) (ziP wi g tt te xs.length caps):=by
 intro pins s σ H Q I h;rw [eval_ListComp];exact zhI (use:=none) hc S hi hg ht he hs I h fun D C s4 m4 H6 r hn tr hC _ _ J6 q=>⟨m4,hn,fun h5 sb=>⟨.ref D,H6,tr J6 sb hC,rfl,q⟩⟩
def zmZ{k0:Nat}{y0:Str}{py spos:Pos}(hc:X.calm=true)(S:CompScopeG X.env.scope scope X.N xs caps)(hN0:X.N.Nodup)(hi0:X.N[k0]?=some y0)(hx0:Loc X.env.scope y0)(hi:PI X tg iter wi)(hg:∀cl C s H fp,PG (zbk X xs caps scope cl C s H fp) tg g)
  (ht:∀cl C s H fp,PIf (zbk X xs caps scope cl C s H fp) ifs tt) (he:∀cl C s H fp,PE (zbk X xs caps scope cl C s H fp) elt te)
  (hsw:swapsWith (.ListComp elt [⟨tg,iter,ifs,0⟩] scope pos) (some (.Name y0 py)) spos.line X.env=pure true)
  (hf0:X.fn y0=true\/X.env.scope.names.lookup y0=some .local)
  (hs:∀v,foldedSetIterable iter X.env v=pure v):PS X (.Assign [.Name y0 py] (.ListComp elt [⟨tg,iter,ifs,0⟩] scope pos) spos) (zoX (ziP wi g tt te xs.length caps) (zjW k0)):=by
 intro pins s σ H DD I h;rw [exec_Assign_Name_used _ _ _ _ hsw];refine yac (wpAny_standAt (yac ?_));show wpAny _ X.A (do let _ ← comprehension (.ListComp elt [⟨tg,iter,ifs,0⟩] scope pos) scope X.env _ (newList []) false (eval iter X.env) (some (assign (.Name y0 py) X.env))) _ _ s;refine yac (ybt (zhI (use:=some (assign (.Name y0 py) X.env)) (Qf:=fun _ s'=>SP X pins DD .next s') hc S hi hg ht he hs I h fun D C s4 m4 H6 r hn tr hC hl hce J6 q=>?_) (fun _ s' hq=>yaj (yaj hq)) fun _ _ e=>e);show wpAny _ X.A (assign (.Name y0 py) X.env (.ref D)) _ X.xe s4;refine wpAny_assign_Name (zgZ (i:=k0) J6 hN0 hi0 hx0 (v:=.ref D) rfl (fun s5 J7 ⟨a,sb,ha⟩=>?_) hf0);have haC:C≠a:=ha.elim (fun z=>by rw [z];exact hl) fun z=>hce _ _ z
 exact ⟨m4,hn.sameBut sb haC,fun h' sb'=>⟨_,_,tr J7 sb' hC,q⟩⟩
end
end L2
namespace ST
open PySem PySem.SetTable
end ST
namespace ST
open PySem PySem.SetTable
end ST
namespace ST
open PySem PySem.SetTable
end ST
namespace ST
open PySem PySem.Spec PyProof.Rows
section
variable{prog:Program}{w:World}{A:Around}{E:Z5}{s:Shared}
end
end ST
namespace ST
open PySem PySem.Spec PyProof.Rows
section
variable{prog:Program}{w:World}{A:Around}{E:Z5}{s:Shared}
end
end ST
namespace ST
open PySem PySem.Spec PyProof.Rows
section
variable{prog:Program}{w:World}{A:Around}{R:Result->Shared->Prop}{s:Shared}
end
end ST
namespace PySem
section
variable{prog:Program}{w:World}{A:Around}{E:Z5}{s:Shared}
end
end PySem
namespace L2
open PySem PySem.Spec PyProof.Rows
section
variable{X:Cx}{a b c:Expr}{ta tb tc:TE}{pos:Pos}
def ziy:zdN X (.builtin "isinstance") (fun xs H Q=>∃x t c k,xs=[x,.ty c]/\TyOf X.K H x t/\PySem.W.kitOne X.K t (.type c)=some k/\Q (.bl k) H):=by
 intro pins s σ H xs us Q I r h;obtain ⟨x,t,c,k,rfl,ty,e,q⟩:=h
 cases r with
 | cons r1 rr =>
  cases rr with
  | cons r2 r3 =>
   cases r3;cases (show _=Value.type c from r2);exact zlH I r1 ty e fun tk=>⟨.bl k,H,I.tok tk,rfl,q⟩
def zgo(bs:List Bool):((List.range bs.length).all fun i=>(bs[i]?).getD true)=bs.all id:=by
 rw [ybN,ybe,ybe];constructor
 ·intro h b hb;obtain ⟨i,hi,e⟩:=ycC.mp hb;have:=h i (yaE.mpr hi);rwa [yaa hi,e] at this
 ·intro h i hi;have hi':=yaE.mp hi;rw [yaa hi'];exact h _ (ybp hi')
def ziz(hc:X.calm=true):zdN X (.builtin "all") (fun xs H Q=>∃(p:Addr) (bs:List Bool),xs=[.ref p]/\SqL X.K H p (bs.map V.bl)/\Q (.bl (bs.all id)) H):=by
 intro pins s σ H xs us Q I r h;obtain ⟨p,bs,rfl,hq,q⟩:=h;obtain ⟨u,rfl,rx⟩:=zgS r;cases rx;obtain ⟨its,rv,pl,hz⟩:=I.list hq;have hl:=pl.isList
 have hlt:p<s.heap.objs.size:=by obtain ⟨_,e,_⟩:=hl;exact yas e
 have hn:its.length=bs.length:=by have:=rv.length;rw [yae] at this;exact this.symm
 refine call_all_walk (yb3 hl ?_);refine ⟨s.heap.objs.size,[s.heap.objs.size,p],[s.heap.objs.size],its.toArray.size,_,_,fun i=>(bs[i]?).getD true,rfl,Walks.list (A:=X.A.in1) (I.ok.hd hc) _ p (yaG hlt) its.toArray,⟨⟨_,yax _ rfl,rfl,rfl⟩,hl.push _⟩,fun i v s' Q' E' hP hQ=>?_,fun h' tk hk=>?_⟩
 ·have hv:its[i]?=some v:=by simpa using hP
  have hi:i<bs.length:=by rw [<-hn];exact (yag.mp hv).1
  obtain ⟨u,hu,ru⟩:=rv.get (i:=i) (x:=.bl bs[i]) (by rw [yak,yaa hi];rfl);rw [hv] at hu;cases hu;cases (show v=Value.bool bs[i] from ru);refine ybj ?_;have hQ':Q' ((bs[i]?).getD true) s':=hQ;rwa [yaa hi] at hQ'
 ·rw [yal,hn,zgo];refine ⟨.bl _,H,I.kept (t':=tk) fun b o e=>?_,rfl,q⟩;exact hk b o (fun hm=>by rw [yaO.mp hm] at e;exact yaT _ (yas e)) (yaf _ e)
def zii:OpR X (compareOp .IsNot) (fun x y H Q=>∃i j,x=.bl i/\y=.bl j/\Q (.bl (!decide (i=j))) H):=by
 intro pins s σ H x y v u Q I rx ry h;obtain ⟨i,j,rfl,rfl,q⟩:=h;cases rx;cases ry;show wpAny _ _ (isSame (Value.bool i) (Value.bool j) >>= fun r=>pure (Value.bool (!r))) _ _ s;refine yac (wpAny_isSame_plain (by rfl) (yaj ?_));refine ⟨.bl (!decide (i=j)),H,I,?_,q⟩;show _=Value.bool _;congr 1
 cases i<;>cases j<;>rfl
def znf:OpR X (binaryOp .Add) (fun x y H Q=>∃(a b:Addr) (ys:List V),x=.ref a/\y=.ref b/\SqT X.K H a []/\SqT X.K H b ys/\Q (.ref b) H):=by
 intro pins s σ H x y v u Q I rx ry h;obtain ⟨a,b,ys,rfl,rfl,ha,hb,q⟩:=h;cases rx;cases ry;obtain ⟨its,r1,p1,_⟩:=I.tuple ha;obtain ⟨its2,r2,p2,_⟩:=I.tuple hb;cases r1;obtain ⟨⟨cls,dd,data,sl⟩,ho,hc,n,hd⟩:=id p1;obtain ⟨⟨cls2,dd2,data2,sl2⟩,ho2,hc2,n2,hd2⟩:=id p2;simp only at hc hd hc2 hd2;subst hc hd hc2 hd2
 exact concat_meets ⟨_,ho,rfl⟩ ⟨_,ho2,rfl⟩ noFill_tuple_add seq_tuple_add ycq yck (yce _ _)
  (tuple_addW0 a b ([]:List Value).toArray its2.toArray n n2 dd dd2 sl sl2 (by rfl)) ⟨ho,ho2,⟨.ref b,H,I,rfl,q⟩⟩
end
end L2
namespace PySem
open PySem.Spec PyProof.Rows
def zdy:fillsNumberSlot (.type "tuple") "mul" = pure false :=
 fillsNumberSlot_seq (id:="tuple.__mul__") (r:=some (.builtin "tuple.__rmul__")) ycy.lookup (by decide +kernel) F.slot_tuple_rmul.lookup (by decide +kernel)
def zfP:seqRepeat? (.type "tuple")=pure (some (.builtin "tuple.__mul__")):=by
 have e1:=seqSlot_of (T:="tuple") (name:="__mul__") (id:="tuple.__mul__") ycy.lookup (by decide +kernel);have e2:=seqSlot_of (T:="tuple") (name:="__rmul__") (id:="tuple.__rmul__") F.slot_tuple_rmul.lookup (by decide +kernel);unfold seqRepeat?;rw [e1,e2];rfl
def zeA(a:Int)(t:Tok)(l:Addr)(o:Obj){its:Array Value}{n:Nat}(hc:o.cls=.type "tuple")(hdd:o.data=.seq its n) :
  Meets (Builtin.«int.__rmul__» ⟨[.int a t,.ref l],[]⟩) (fun _ R s=>s.heap.get? l=some o/\R (.ok (.ret Value.notImplemented)) s) :=
 .of_wp fun prog w A R s h=>by
  obtain ⟨c,d,dt,sl⟩:=o;simp only at hc hdd;subst hc hdd;obtain ⟨hp,g,dr,tk,os⟩:=s;obtain ⟨hl,h⟩:=h
  wp_walk
  exact ⟨_,rfl,h⟩
section
variable{prog:Program}{w:World}{A:Around}{E:Z5}{s:Shared}
def zgU{a:Addr}{o:Obj}{its:Array Value}{n:Nat}{k:Int}{t:Tok}{P:Fin->Shared->Prop}(ho:s.heap.get? a=some o)(hc:o.cls=.type "tuple")(hd:o.data=.seq its n)(hne:its.isEmpty=false)(h2:2<=k)(hz:(its.size:Int)*k<=1000000)(hk:k<=1000)
  (h:P (.done (.ret (.ref s.heap.objs.size))) { s with heap:=s.heap.push { cls:=.type "tuple",data:=.seq ((List.replicate k.toNat its).foldl (·++·) #[]) } }) (hsz:((List.replicate k.toNat its).foldl (·++·) #[]).size<=sizeLine) :
  wpAny (model prog w) A (Builtin.«tuple.__mul__» ⟨[.ref a,.int k t],[]⟩) P E s:=by
 show wpAny _ _ (asIndex (.int k t) >>= _) _ _ s;refine yac ?_;unfold asIndex;refine yac (yaj ?_);dsimp only;refine yaj ?_
 have e0:(decide (k < -(2 ^ 63))||decide (k ≥ 2 ^ 63))=false:=by
  rw [Bool.or_eq_false_iff];refine ⟨yaX ?_,yaX ?_⟩
  ·omega
  ·omega
 rw [e0];simp only [yaU,ybW];refine yac (ycR ho hd ?_)
 have e1:(its.isEmpty||k == 1)=false:=by rw [hne,Bool.false_or];simp;omega
 rw [e1];simp only [yaU,ybW]
 have e2:(decide (k<=0)||its.isEmpty)=false:=by rw [hne,Bool.or_false];exact yaX (by omega)
 rw [e2];simp only [yaU,ybW];rw [if_neg (by omega)]
 have e3:Builtin.Tuple.tupleTooMany (its.size*k)=false:=by
  unfold Builtin.Tuple.tupleTooMany;refine yaX ?_
  have:(1000000:Int)<=(sizeLine:Int):=by decide
  omega
 rw [e3];simp only [yaU,ybW];unfold Builtin.Tuple.tupleExact;exact yac (ybk (yaj h) hsz)
def zgT{a:Addr}{o:Obj}{its:Array Value}{n:Nat}{t:Tok}{P:Fin->Shared->Prop}(ho:s.heap.get? a=some o)(hc:o.cls=.type "tuple")(hd:o.data=.seq its n)(h:P (.done (.ret (.ref a))) s) :
  wpAny (model prog w) A (Builtin.«tuple.__mul__» ⟨[.ref a,.int 1 t],[]⟩) P E s:=by
 show wpAny _ _ (asIndex (.int 1 t) >>= _) _ _ s;refine yac ?_;unfold asIndex;refine yac (yaj ?_);dsimp only;refine yaj ?_
 have e0:(decide ((1:Int) < -(2 ^ 63))||decide ((1:Int) ≥ 2 ^ 63))=false:=by decide
 rw [e0];simp only [yaU,ybW];refine yac (ycR ho hd ?_)
 have e1:(its.isEmpty||(1:Int) == 1)=true:=by simp
 rw [e1];simp only [yb7];unfold Builtin.Tuple.tupleIsExact;refine yac (yac (wpAny_typeOf (T:="tuple") ⟨o,ho,hc⟩ (yaj ?_)));simp only [ybF,yb7];exact yac (yc4 (yaj h))
def zpQ{a:Addr}{o:Obj}{its:Array Value}{n:Nat}{k:Int}{t:Tok}{Q:Z5}(ho:s.heap.get? a=some o)(hc:o.cls=.type "tuple")(hd:o.data=.seq its n)(hne:its.isEmpty=false)(h2:2<=k)(hz:(its.size:Int)*k<=1000000)(hk:k<=1000)
  (h:Q (.ref s.heap.objs.size) { s with heap:=s.heap.push { cls:=.type "tuple",data:=.seq ((List.replicate k.toNat its).foldl (·++·) #[]) } }) (hsz:((List.replicate k.toNat its).foldl (·++·) #[]).size<=sizeLine) :
  wpAny (model prog w) A (binaryOp .Mult (.ref a) (.int k t)) Q E s:=by
 have hT:s.TypeIs (.ref a) "tuple":=⟨o,ho,hc⟩
 refine yb9 (T:="tuple") (U:="int") (by decide) hT (fun s'=>ycG s' k t) zdy F.fills_int_mul ybY zfP F.slot_int_index.lookup
  (ycs ybY (ycG s k t) F.entry_int_rmul (yc0 _ _) (zeA k t a o hc hd) ⟨ho,rfl,hT,?_⟩)
 exact ybn ycy hT F.entry_tuple_mul (zgU ho hc hd hne h2 hz hk ⟨_,rfl,h⟩ hsz) (F.args_tuple_mul_2 _ _)
def znj{a:Addr}{o:Obj}{its:Array Value}{n:Nat}{t:Tok}{Q:Z5}(ho:s.heap.get? a=some o)(hc:o.cls=.type "tuple")(hd:o.data=.seq its n)(h:Q (.ref a) s):wpAny (model prog w) A (binaryOp .Mult (.ref a) (.int 1 t)) Q E s:=by
 have hT:s.TypeIs (.ref a) "tuple":=⟨o,ho,hc⟩
 refine yb9 (T:="tuple") (U:="int") (by decide) hT (fun s'=>ycG s' 1 t) zdy F.fills_int_mul ybY zfP F.slot_int_index.lookup
  (ycs ybY (ycG s 1 t) F.entry_int_rmul (yc0 _ _) (zeA 1 t a o hc hd) ⟨ho,rfl,hT,?_⟩)
 exact ybn ycy hT F.entry_tuple_mul (zgT ho hc hd ⟨_,rfl,h⟩) (F.args_tuple_mul_2 _ _)
end
end PySem
namespace L2
open PySem PySem.Spec PyProof.Rows
inductive D where
 | non | bl (b:Bool) | int (i:Int) | str (x:Str) | tup (l:List D) | lst (l:List D)
section
variable{X:Cx}
def zpF:OpR X (binaryOp .Mult) (fun x y H Q=>∃(p:Addr) (k:Int) (xs:List V),x=.ref p/\y=.int k/\SqT X.K H p xs/\xs≠[]/\2<=k/\k<=1000/\xs.length<=1000/\∀l,H l=none->Q (.ref l) (upd H l (.tup (List.replicate k.toNat xs).flatten))):=by
 intro pins s σ H x y v u Q I rx ry h;obtain ⟨p,k,xs,rfl,rfl,hq,hne,h2,hk,hx,q⟩:=h;cases rx;obtain ⟨t,rfl⟩:=ry;obtain ⟨its,rv,⟨o,ho,hc,n,hd⟩,_⟩:=I.tuple hq;have hl:=rv.length
 have hnew:(List.replicate k.toNat its.toArray).foldl (·++·) #[]=(List.replicate k.toNat its).flatten.toArray:=by
  have:=zfr its k.toNat [];rwa [ybA] at this
 have hsz:(List.replicate k.toNat its).flatten.length<=1000000:=by
  rw [zik];exact yah (ybJ (show k.toNat<=1000 by omega) (show its.length<=1000 by omega)) (by decide)
 have hline:(1000000:Nat)<=sizeLine:=by decide
 refine zpQ ho hc hd ?_ h2 ?_ hk ?_ ?_
 ·have:its≠[]:=fun z=>hne (by cases xs with | nil=>rfl | cons a r=>rw [z] at hl;cases hl)
  simpa using this
 ·rw [yal];have:=Int.mul_le_mul (show (its.length:Int)<=1000 by omega) hk (by omega) (by omega);omega
 ·rw [hnew];refine ⟨.ref s.heap.objs.size,_,I.laid (t':=s.toks) (o:=.tup (List.replicate k.toNat xs).flatten) (fun b ob q=>yaf _ q) (yam _) ?_,rfl,q _ (I.hok.fresh (yam _))⟩;refine ⟨?_,_,rv.rep k.toNat,IsTup.new _ _⟩;rw [zik] at hsz ⊢;rw [<-hl] at hsz;omega
 ·rw [hnew,yal];omega
end
end L2
namespace HT
open PySem PySem.Spec PyProof.Rows L2
section
variable{prog:Program}{w:World}{A:Around}{E:Z5}{s:Shared}
def zeo{t sl:Addr}{items:Array Value}{vl vu:Value}{lo hi:Option Int}{Q:Z5}(ht:IsTup s.heap t items)(hs:s.heap.IsSliceOf sl vl vu .none)(pl:IsPart vl lo)(pu:IsPart vu hi)
  (h1:sIx items.size 0 lo=0) (h2:sIx items.size items.size hi=items.size) (h:Q (.ref t) s):wpAny (model prog w) A (getItem (.ref t) (.ref sl)) Q E s:=by
 obtain ⟨os,hos,hcs,hds⟩:=id hs;have hTs:s.TypeIs (.ref sl) "slice":=⟨os,hos,hcs⟩;unfold getItem
 try with_reducible refine yb2 ?_
 first | refine yac (yaj ?_) | skip
 refine yac (wpAny_sequenceKey ht.typeIs (by decide) ?_)
 refine yac (ybb (name:=Str.ofString "__getitem__") ht.typeIs yaZ
  (ybn yaZ ht.typeIs entry_tuple_getitem ?_ (args_tuple_getitem _ _)))
 show wpAny _ _ (Builtin.Tuple.tupleItemsOf (.ref t) >>= _) _ _ s;refine yac (tupleItemsOf_ ht ?_);refine yac (wpAny_typeOf hTs ?_);rw [if_pos (by decide)];refine yac (zcZ hs pl pu ?_);rw [h1,h2];show wpAny _ _ (if ((((0:Nat):Int) == 0&&(1:Int) == 1&&(items.size-0) == items.size)=true) then _ else _) _ _ s;rw [if_pos (by simp)];unfold Builtin.Tuple.tupleIsExact;refine yac (yac (wpAny_typeOf ht.typeIs (yaj ?_)));simp only [ybF,yb7];refine yac (yc4 ?_)
 first
  | exact yaj ⟨_,rfl,yaj h⟩
  | exact yac (yaj (yaj ⟨_,rfl,yaj h⟩))
end
end HT
namespace L2
open PySem PySem.Spec PyProof.Rows
def zjC{X:Cx}:SlR X (fun x lo hi H Q=>∃(a:Addr) (xs:List V),x=.ref a/\SqT X.K H a xs/\HT.sIx xs.length 0 lo=0/\HT.sIx xs.length xs.length hi=xs.length/\Q (.ref a) H):=by
 intro pins s σ H x v vl vu lo hi sl Q I rx hs pl pu h;obtain ⟨a,xs,rfl,hx,h1,h2,q⟩:=h;cases rx;obtain ⟨its,r,ht,hz⟩:=I.tuple hx
 have hlen:its.toArray.size=xs.length:=by rw [yal];exact r.length.symm
 refine ⟨"tuple",_,yaZ.lookup,ht.typeIs,?_⟩;exact HT.zeo ht hs pl pu (by rw [hlen];exact h1) (by rw [hlen];exact h2) ⟨.ref a,H,I,rfl,q⟩
end L2
namespace L2
open PySem PySem.Spec PyProof.Rows
mutual
def D.py:D->PyData
 | .non=>.none
 | .bl b=>.bool b
 | .int i=>.int i
 | .str x=>.str x
 | .tup l=>.tuple (D.pys l)
 | .lst l=>.list (D.pys l)
def D.pys:List D->List PyData
 | []=>[]
 | d::l=>d.py::D.pys l
end
mutual
def D.fit:Nat->D->Bool
 | _,.non=>true
 | _,.bl _=>false
 | _,.int _=>true
 | _,.str x=>PyData.strOk x
 | 0,.tup _=>false
 | n+1,.tup l=>D.fits n l
 | 0,.lst _=>false
 | n+1,.lst l=>D.fits n l
def D.fits:Nat->List D->Bool
 | _,[]=>true
 | n,d::l=>d.fit n&&D.fits n l
end
theorem D.fits_iff{n:Nat}:∀{l:List D},D.fits n l=true↔∀d∈l,d.fit n=true
 | []=>by simp [D.fits]
 | d::l=>by simp [D.fits,D.fits_iff (l:=l)]
mutual
theorem D.lay:∀{n:Nat} {d:D},d.fit n=true->d.py.canLay0=true/\d.py.depth<=n
 | _,.non,_=>⟨rfl,yby _⟩
 | _,.bl _,h=>by simp [D.fit] at h
 | _,.int _,_=>⟨rfl,yby _⟩
 | _,.str x,h=>⟨by simpa [D.fit,D.py,PyData.canLay0] using h,yby _⟩
 | 0,.tup _,h=>by simp [D.fit] at h
 | 0,.lst _,h=>by simp [D.fit] at h
 | n+1,.tup l,h=>by
  have h':D.fits n l=true:=by simpa [D.fit] using h
  obtain ⟨a,b⟩:=D.lays h';exact ⟨by simpa [D.py,PyData.canLay0] using a,by simp only [D.py,PyData.depth];omega⟩
 | n+1,.lst l,h=>by
  have h':D.fits n l=true:=by simpa [D.fit] using h
  obtain ⟨a,b⟩:=D.lays h';exact ⟨by simpa [D.py,PyData.canLay0] using a,by simp only [D.py,PyData.depth];omega⟩
theorem D.lays:∀{n:Nat} {l:List D},D.fits n l=true->PyData.canLayAll0 (D.pys l)=true/\PyData.depthAll (D.pys l)<=n
 | _,[],_=>⟨rfl,yby _⟩
 | n,d::l,h=>by
  simp only [D.fits,yab] at h;obtain ⟨a,b⟩:=D.lay h.1;obtain ⟨c,e⟩:=D.lays h.2;exact ⟨by simp [D.pys,PyData.canLayAll0,a,c],by simp only [D.pys,PyData.depthAll];omega⟩
end
section
variable{X:Cx}
def zid{h:Heap}{v:Value}{d:PyData}{as:List Addr}(hl:d.canLay0=true)(r:Reads h v d as):SeqAt.readOf h v=d:=by
 have hx:∃d as,Reads h v d as:=⟨d,as,r⟩;unfold SeqAt.readOf;rw [dif_pos hx];obtain ⟨bs,rb⟩:=hx.choose_spec;exact (SeqAt.Reads.unique _ _ _ _ _ hl r rb).symm
end
end L2
namespace L2
open PySem PySem.Spec PyProof.Rows
def zld:Option Int->Value->Bool
 | none,.none=>true
 | some i,v=>Value.isInt i v
 | _,_=>false
theorem zbc:∀{k:Option Int} {v:Value},zld k v=true->(k=none/\v=.none)\/∃i t,k=some i/\v=.int i t
 | none,v,h=>by
  cases v<;>simp [zld] at h
  exact .inl ⟨rfl,rfl⟩
 | some i,v,h=>by
  obtain ⟨t,e⟩:=Value.isInt_shape (k:=i) (v:=v) (by simpa [zld] using h);exact .inr ⟨i,t,rfl,e⟩
def zi0:Int:=reduceHash 0xFCA86420
def zlQ{prog:Program}{w:World}{A:Around}{E:Z5}{s:Shared}{Q:Int->Shared->Prop}(h:Q zi0 { s with toks:=s.toks+1 }):wpAny (model prog w) A (pyHash .none) Q E s :=
 PySem.W.pyHash_slot (T:="NoneType") rfl F.slot_NoneType_hash F.entry_NoneType_hash (F.args_NoneType_hash_1 _) (beq_builtin_none _) (.inl rfl) (yac (yaj (yac (wpAny_mkInt (yaj ⟨_,_,rfl,h⟩)))))
def zef(prog:Program)(w:World):KeyKind prog w (Option Int) where
 is:=zld
 hash:=fun k=>match k with | none=>zi0 | some i=>hashInt i
 inj:=fun v a b ha hb=>by
  rcases zbc ha with ⟨rfl,rfl⟩ | ⟨i,t,rfl,rfl⟩<;>rcases zbc hb with ⟨rfl,e⟩ | ⟨j,u,rfl,e⟩<;>cases e<;>rfl
 byValue:=fun k v h=>by
  rcases zbc h with ⟨rfl,rfl⟩ | ⟨i,t,rfl,rfl⟩<;>rfl
 pyHash:=fun {A E s k v Q} h hq=>by
  rcases zbc h with ⟨rfl,rfl⟩ | ⟨i,t,rfl,rfl⟩
  ·exact zlQ hq
  ·exact wpAny_pyHash_int hq
 eqBool:=fun {A E s a b u v Q} ha hb hq=>by
  rcases zbc ha with ⟨rfl,rfl⟩ | ⟨i,t,rfl,rfl⟩<;>rcases zbc hb with ⟨rfl,rfl⟩ | ⟨j,u,rfl,rfl⟩
  ·unfold PySem.eqBool;refine yb2 ?_;refine wpAny_ite_split (fun _=>yac (yc4 (yaj (by simpa using hq)))) (fun z=>absurd rfl z)
  ·exact SeqAt.EqAt.none_int j u prog w E Q (by simpa using hq)
  ·exact SeqAt.EqAt.int_none i t prog w E Q (by simpa using hq)
  ·refine SeqAt.EqAt.int_int i t j u prog w E Q ?_
   have e:decide (some i=some j)=(i == j):=by
    rw [ybN];simp
   rw [<-e];exact hq
 «strs»:=fun k x t v h=>by
  rcases zbc h with ⟨_,e⟩ | ⟨i,u,_,e⟩<;>cases e
abbrev NK:=Int×List (Option Int)
def zee:Option Int->PyData | none=>.none | some i=>.int i
def zd8(prog:Program)(w:World)(h:Heap)(k:NK)(a:Addr):Prop:=∃o items n t b,h.get? a=some o/\o.cls=.type "tuple" /\ o.data=.seq items n/\items.toList=[.int k.1 t,.ref b]/\IsTupleKey (zef prog w) h k.2 b
section
variable{prog:Program}{w:World}{A:Around}{E:Z5}{s:Shared}
def zni(prog:Program)(w:World)(k:NK):Int:=reduceHash (Builtin.Tuple.tupleHashOf [hashInt k.1,tupleKeyHash (zef prog w) k.2])
def zd8.typeIs{k:NK}{a:Addr}(x:zd8 prog w s.heap k a):s.TypeIs (.ref a) "tuple":=let ⟨o,_,_,_,_,ho,hc,_⟩:=x;⟨o,ho,hc⟩
theorem zdE{h:Heap}:∀{l:Z4} {vs:List Value},ItemsAre (zef prog w) l vs->ReadsAll h vs (l.map zee) []
 | _,_,.nil=>.nil
 | _,_,.cons h1 r=>by
  rcases zbc h1 with ⟨rfl,rfl⟩ | ⟨i,t,rfl,rfl⟩
  ·exact .cons (as:=[]) (bs:=[]) .none (zdE r)
  ·exact .cons (as:=[]) (bs:=[]) (.int i t) (zdE r)
def zd8.reads{h:Heap}{k:NK}{a:Addr}(x:zd8 prog w h k a):Reads h (.ref a) (.tuple [.int k.1,.tuple (k.2.map zee)]) []:=by
 obtain ⟨o,items,n,t,b,ho,hc,hd,hi,ob,its,m,hob,hcb,hdb,hib⟩:=x;refine .tuple ho hc hd ?_;rw [hi];exact .cons (as:=[]) (bs:=[]) (.int _ _) (.cons (as:=[]) (bs:=[]) (.tuple hob hcb hdb (zdE hib)) .nil)
theorem zhk:∀{l m:Z4},PyData.eqvAll (l.map zee) (m.map zee)=decide (l=m)
 | [],[]=>by simp [PyData.eqvAll]
 | [],_::_=>by simp [PyData.eqvAll]
 | _::_,[]=>by simp [PyData.eqvAll]
 | x::l,y::m=>by
  have ih:=zhk (l:=l) (m:=m);simp only [yaw,PyData.eqvAll,ih]
  cases x<;>cases y<;>simp [zee,PyData.eqv]
  rw [ybN];simp
theorem zeN:∀{l:Z4},PyData.canLayAll0 (l.map zee)=true/\PyData.depthAll (l.map zee)=0
 | []=>⟨rfl,rfl⟩
 | x::l=>by
  obtain ⟨a,b⟩:=zeN (l:=l)
  cases x<;>simp [zee,PyData.canLayAll0,PyData.depthAll,PyData.canLay0,PyData.depth,a,b]
def zdV(prog:Program)(w:World):HeapKind prog w NK where
 is:=zd8 prog w
 hash:=zni prog w
 draws:=fun k=>1+(k.2.length+1)+1
 room:=fun A=>A.units+8<cLine
 inj:=fun {h a x y} hx hy=>by
  obtain ⟨o,items,n,t,b,ho,hc,hd,hi,kx⟩:=hx;obtain ⟨o',items',n',t',b',ho',hc',hd',hi',ky⟩:=hy;rw [ho] at ho';cases ho';rw [hd] at hd';cases hd';rw [hi] at hi';simp only [List.cons.injEq,Value.int.injEq,Value.ref.injEq,and_true] at hi';obtain ⟨⟨e1,_⟩,e2⟩:=hi';subst e2;exact Prod.ext e1 (kx.inj ky)
 keeps:=fun {h h' k a d o es ep} x ho hd hs=>by
  obtain ⟨o1,items,n,t,b,ho1,hc,hd1,hi,kx⟩:=x;refine ⟨o1,items,n,t,b,(hs.2 a ?_).trans ho1,hc,hd1,hi,kx.keeps ho hd hs⟩;rintro rfl;rw [ho] at ho1;cases ho1;rw [hd] at hd1;cases hd1
 pyHash:=fun {A E s k a Q} hu x hq=>by
  have hT:=zd8.typeIs (prog:=prog) (w:=w) x;obtain ⟨o,items,n,t,b,ho,hc,hd,hi,kx⟩:=x;refine PySem.W.pyHash_slot (T:="tuple") hT F.slot_tuple_hash F.entry_tuple_hash (F.args_tuple_hash_1 _) (beq_builtin_none _) (.inr (by omega)) ?_;show wpAny _ _ (Builtin.Tuple.tupleItemsOf (.ref a) >>= _) _ _ s;refine yac (ycR ho hd ?_);refine yac ?_;rw [<-ycS,hi];refine wpAny_forIn_list _ (fun zco (r:Array Int) s'=>(zco=[.int k.1 t,.ref b]/\r.toList=[]/\s'=s)\/(zco=[.ref b]/\r.toList=[hashInt k.1]/\s'={ s with toks:=s.toks+1 })\/(zco=[]/\r.toList=[hashInt k.1,tupleKeyHash (zef prog w) k.2]/\s'={ s with toks:=s.toks+1+(k.2.length+1) })) _ ?_ ?_ _ _ (.inl ⟨rfl,rfl,rfl⟩)
  ·rintro x zco r s' (⟨e,hr,rfl⟩ | ⟨e,hr,rfl⟩ | ⟨e,hr,rfl⟩)
   ·injection e with e1 e2
    subst e1 e2;refine yac (wpAny_pyHash_int ?_)
    first
     | exact yaj (.inr (.inl ⟨rfl,by simp [hr],rfl⟩))
     | exact yac (yaj (yaj (.inr (.inl ⟨rfl,by simp [hr],rfl⟩))))
   ·injection e with e1 e2
    subst e1 e2;refine yac (wpAny_pyHash_tuple (A:=A.in1) (by show A.units+1<cLine;omega) kx ?_)
    first
     | exact yaj (.inr (.inr ⟨rfl,by simp [hr],rfl⟩))
     | exact yac (yaj (yaj (.inr (.inr ⟨rfl,by simp [hr],rfl⟩))))
   ·cases e
  ·rintro r s' (⟨e,_⟩ | ⟨e,_⟩ | ⟨_,hr,rfl⟩)
   ·cases e
   ·cases e
   ·show wpAny _ _ (retInt (Builtin.Tuple.tupleHashOf r.toList)) _ _ _;rw [hr];refine yac (wpAny_mkInt (yaj ⟨_,_,rfl,?_⟩))
    have e:s.toks+1+(k.2.length+1)+1=s.toks+(1+(k.2.length+1)+1):=by omega
    show Q _ { s with toks:=s.toks+1+(k.2.length+1)+1 };rw [e];exact hq
 eqBool:=fun {A E s x y a b Q} hu hx hy hq=>by
  refine SeqAt.eqAt_reads _ _ A s (.ref a) (.ref b) [] [] hx.reads hy.reads ?_ ?_ ?_ prog w E Q ?_
  ·simp [PyData.canLay0,PyData.canLayAll0,zeN.1]
  ·simp [PyData.canLay0,PyData.canLayAll0,zeN.1]
  ·have h1:(PyData.tuple [.int x.1,.tuple (x.2.map zee)]).depth<=3:=by
    simp [PyData.depth,PyData.depthAll,zeN.2]
   have:min (PyData.tuple [.int x.1,.tuple (x.2.map zee)]).depth (PyData.tuple [.int y.1,.tuple (y.2.map zee)]).depth<=3:=yah (Nat.min_le_left _ _) h1;omega
  ·have e:(PyData.tuple [.int x.1,.tuple (x.2.map zee)]).eqv (.tuple [.int y.1,.tuple (y.2.map zee)])=decide (x=y):=by
    simp only [PyData.eqv,PyData.eqvAll,zhk];rw [ybN];simp [Prod.ext_iff]
   rw [e];exact hq
 quiet:=fun {A E s k a Q} x hq=>by
  have hT:=zd8.typeIs (prog:=prog) (w:=w) x;obtain ⟨o,items,n,t,b,ho,hc,hd,hi,kx⟩:=x;have hTb:=kx.typeIs;obtain ⟨ob,its,m,hob,hcb,hdb,hib⟩:=kx
  have low:wpAny (model prog w) A (eqIsQuiet 7 (.ref b)) (fun r s'=>r=true/\s'=s) E s:=by
   unfold eqIsQuiet;refine yac (wpAny_specialOf hTb F.slot_tuple_eq.lookup ?_);show wpAny _ _ (isInstance (.ref b) (.type "tuple") >>= _) _ _ s;refine yac (ycz hTb isSubtype_tuple_tuple ?_);simp only [ycF,yaU,ybW];refine yac (ybU hob hdb (yac ?_));show wpAny _ _ (forIn its _ _) _ _ s;rw [<-ycS];refine wpAny_forIn_list _ (fun zco r s'=>r.1=none/\s'=s/\∀v∈zco,carriedByValue v=true) _ ?_ ?_ _ _ ⟨rfl,rfl,hib.byValue⟩
   ·rintro v zco r s' ⟨hr,rfl,hall⟩;rw [eqIsQuiet_byValue _ (hall v yat)];refine yac (yaj ?_);simp only [ycF,yaU,ybW];exact yaj ⟨rfl,rfl,fun z hz=>hall z (yap _ hz)⟩
   ·rintro ⟨r1,r2⟩ s' ⟨hr,rfl,_⟩;simp only at hr;subst hr;exact yaj ⟨rfl,rfl⟩
  unfold eqIsQuiet;refine yac (wpAny_specialOf hT F.slot_tuple_eq.lookup ?_);show wpAny _ _ (isInstance (.ref a) (.type "tuple") >>= _) _ _ s;refine yac (ycz hT isSubtype_tuple_tuple ?_);simp only [ycF,yaU,ybW];refine yac (ybU ho hd (yac ?_));show wpAny _ _ (forIn items _ _) _ _ s;rw [<-ycS,hi];refine wpAny_forIn_list _ (fun zco r s'=>r.1=none/\s'=s/\(zco=[.int k.1 t,.ref b]\/zco=[.ref b]\/zco=[])) _ ?_ ?_ _ _ ⟨rfl,rfl,.inl rfl⟩
  ·rintro v zco r s' ⟨hr,rfl,(e | e | e)⟩
   ·injection e with e1 e2
    subst e1 e2;rw [eqIsQuiet_byValue _ rfl];refine yac (yaj ?_);simp only [ycF,yaU,ybW];exact yaj ⟨rfl,rfl,by simp⟩
   ·injection e with e1 e2
    subst e1 e2;refine yac (ybt low (fun r' s'' hz=>?_) fun _ _ z=>z);obtain ⟨rfl,rfl⟩:=hz;simp only [ycF,yaU,ybW];exact yaj ⟨rfl,rfl,by simp⟩
   ·cases e
  ·rintro ⟨r1,r2⟩ s' ⟨hr,rfl,_⟩;simp only at hr;subst hr;exact yaj hq
end
end L2
namespace L2
open PySem PySem.Spec PyProof.Rows
section
variable{σ:St}{H:Hp}{K:PySem.W.Frag}{te:TE}{tt:TT}{caps:List (Str×Nat)}{Q:VK}
end
end L2
namespace L2
open PySem PySem.Spec PyProof.Rows
def oV:Option Int->V | none=>.non | some i=>.int i
def DN(P:Program)(w:World)(a:Addr)(xs:List (NK×Addr×Value))(h:Heap):Prop :=
 ∃o es ep,h.get? a=some o/\o.ExactDict/\o.data=.dict es ep/\es.toList=xs.map (entryOfKey (zdV P w))/\(xs.map (·.1)).Nodup/\(a == sysModules)=false
def ziC(H:Hp)(kb:Addr)(k:NK):Prop:=∃b,H kb=some (.tup [.int k.1,.ref b])/\H b=some (.tup (k.2.map oV))
def zn6(H:Hp)(xs:List (NK×Addr×Value))(m:List (NK×V)):Prop:=Paired (fun (x:NK×Addr×Value) (p:NK×V)=>x.1=p.1/\ziC H x.2.1 x.1/\zbw p.2 x.2.2) xs m
def zjl{P:Program}{w:World}{a:Addr}{xs:List (NK×Addr×Value)}:∀h1 h2:Heap,DN P w a xs h1->(∀o,h1.get? a=some o->h2.get? a=some o)->DN P w a xs h2:=fun h1 h2 ⟨o,es,ep,e,r⟩ k=>⟨o,es,ep,k _ e,r⟩
section
variable{X:Cx}{pins:Z3}{σ:St}{H:Hp}{s:Shared}
theorem zeV:∀{l:Z4} {its:List Value},Vals (l.map oV) its->ItemsAre (zef X.prog X.w) l its
 | [],_,.nil=>.nil
 | none::l,_,.cons r t=>by
  cases r;exact .cons rfl (zeV t)
 | some i::l,_,.cons r t=>by
  obtain ⟨u,rfl⟩:=r;exact .cons (by simp [zef,zld,Value.isInt]) (zeV t)
def Inv.nest(I:Inv X pins σ H s){kb:Addr}{k:NK}(h:ziC H kb k):zd8 X.prog X.w s.heap k kb:=by
 obtain ⟨b,h1,h2⟩:=h;obtain ⟨its,rv,⟨o,ho,hc,n,hd⟩,_⟩:=I.tuple (SqT.of (K:=X.K) h1);obtain ⟨its2,rv2,⟨o2,ho2,hc2,n2,hd2⟩,_⟩:=I.tuple (SqT.of (K:=X.K) h2)
 cases rv with
 | cons r1 rr =>
  cases rr with
  | cons r2 rr =>
   cases rr;obtain ⟨t,rfl⟩:=r1;cases r2;exact ⟨o,_,n,t,b,ho,hc,hd,rfl,o2,_,n2,ho2,hc2,hd2,by simpa using zeV rv2⟩
def zn6.keys{xs:List (NK×Addr×Value)}{m:List (NK×V)}(I:Inv X pins σ H s):zn6 H xs m->∀x∈xs,zd8 X.prog X.w s.heap x.1 x.2.1:=by
 intro h
 induction h with
 | nil=>intro x hx;simp at hx
 | cons h t ih =>
  intro x hx
  rcases yav.mp hx with rfl | hx
  ·exact I.nest h.2.1
  ·exact ih x hx
def Inv.ndict(I:Inv X pins σ H s){a:Addr}{xs:List (NK×Addr×Value)}{m:List (NK×V)}(h:H a=some (.ext (DN X.prog X.w a xs)))(e:zn6 H xs m):s.heap.DictOfH (zdV X.prog X.w) a xs/\(a == sysModules)=false:=by
 obtain ⟨⟨o,es,ep,h1,h2,h3,h4,h5,h6⟩,_⟩:=I.hok a _ h;exact ⟨⟨o,es,ep,h1,h2,h3,h4,e.keys I,h5⟩,h6⟩
def zes{xs:List (NK×Addr×Value)}{m:List (NK×V)}(e:zn6 H xs m)(k:NK):(m.lookup k=none/\atKey xs k=none)\/∃c p,m.lookup k=some c/\atKey xs k=some p/\zbw c p.2:=by
 induction e with
 | nil=>exact .inl ⟨rfl,rfl⟩
 | @cons x p l1 l2 h t ih =>
  obtain ⟨h1,h2,h3⟩:=h
  by_cases hk:x.1=k
  ·refine .inr ⟨p.2,x.2,?_,?_,h3⟩
   ·obtain ⟨pk,pc⟩:=p;simp only at h1;subst h1;rw [yay,hk];simp
   ·simp [atKey,hk]
  ·have hk':¬ p.1=k:=by rw [<-h1];exact hk
   have e1:List.lookup k (p::l2)=List.lookup k l2:=by
    obtain ⟨pk,pc⟩:=p;rw [yay]
    have:(k == pk)=false:=by
     rw [ybh];exact fun z=>hk' z.symm
    rw [this]
   have e2:atKey (x::l1) k=atKey l1 k:=by simp [atKey,List.find?_cons,hk]
   rw [e1,e2];exact ih
def zol(hu:X.A.units+16<cLine):OpR X (compareOp .NotIn) (fun x y H Q=>∃kb a k xs m,x=.ref kb/\y=.ref a/\ziC H kb k/\H a=some (.ext (DN X.prog X.w a xs))/\zn6 H xs m/\Q (.bl (m.lookup k).isNone) H):=by
 intro pins s σ H x y v u Q I rx ry h;obtain ⟨kb,a,k,xs,m,rfl,rfl,hk,hx,he,q⟩:=h;cases rx;cases ry;obtain ⟨hm,hd⟩:=I.ndict hx he;refine wpAny_notIn_heap (knd:=zdV X.prog X.w) (k:=k) (by show X.A.units+1+8<cLine;omega) (I.nest hk) hd hm ⟨.bl _,H,I.tok _,?_,q⟩
 rcases zes he k with ⟨e1,e2⟩ | ⟨c,p,e1,e2,_⟩<;>rw [e1,e2]<;>rfl
def zs3(hu:X.A.units+16<cLine):IxR X (fun x y H Q=>∃a kb k xs m c,x=.ref a/\y=.ref kb/\ziC H kb k/\H a=some (.ext (DN X.prog X.w a xs))/\zn6 H xs m/\m.lookup k=some c/\Q c H):=by
 intro value slice pins s σ H x y v u Q I rx ry h hs;obtain ⟨a,kb,k,xs,m,c,rfl,rfl,hk,hx,he,hl,q⟩:=h;cases rx;cases ry;obtain ⟨hm,hd⟩:=I.ndict hx he
 rcases zes he k with ⟨e1,_⟩ | ⟨c',p,e1,e2,r⟩
 ·rw [e1] at hl;cases hl
 ·rw [e1] at hl;cases hl;exact ycr (x:=p.2) hm.typeIs slot_dict_getitem.lookup (wpAny_getItem_heap (knd:=zdV X.prog X.w) (k:=k) (by show X.A.units+1+8<cLine;omega) (I.nest hk) hm e2 ⟨rfl,c,H,I.tok _,r,q⟩) hs
def zpf(hu:X.A.units+16<cLine):zxD X (fun o i v H Q=>∃a kb k xs m,o=.ref a/\i=.ref kb/\ziC H kb k/\H a=some (.ext (DN X.prog X.w a xs))/\zn6 H xs m/\m.lookup k=none/\m.length<=1000000/\∀u,zbw v u->Q (upd H a (.ext (DN X.prog X.w a (xs++[(k,kb,u)]))))):=by
 intro pins s σ H o i v ov iv u Q I ro ri rv h;obtain ⟨a,kb,k,xs,m,rfl,rfl,hk,hx,he,hl,hz,q⟩:=h;cases ro;cases ri;obtain ⟨hm,hd⟩:=I.ndict hx he;have hlen:xs.length=m.length:=Paired.length he
 have e2:atKey xs k=none:=by
  rcases zes he k with ⟨_,e2⟩ | ⟨c',p,e1,_,_⟩
  ·exact e2
  ·rw [e1] at hl;cases hl
 refine wpAny_setItem_heap (knd:=zdV X.prog X.w) (k:=k) (by show X.A.units+1+8<cLine;omega) (I.nest hk) hm (fun h' hm' sb=>?_) (by rw [hlen];exact yah hz (by decide));rw [storedH_new e2] at hm';obtain ⟨o,es,ep,g1,g2,g3,g4,g5,g6⟩:=hm';have dn:DN X.prog X.w a (xs++[(k,kb,u)]) h':=⟨o,es,ep,g1,g2,g3,g4,g6,hd⟩;refine ⟨upd H a (.ext (DN X.prog X.w a (xs++[(k,kb,u)]))),?_,q u rv⟩;exact I.write (x:=a) (e:=a) (by rw [hx];trivial) (.inl rfl) (fun b o hb z=>(sb.2 b hb).trans z) ⟨_,g1⟩ ⟨dn,⟨_,g1⟩,zjl⟩
def zuu(P:Program)(w:World):TE:=fun _ H Q=>∀p,H p=none->Q (.ref p) (upd H p (.ext (DN P w p [])))
def zpD{pos:Pos}:PE X (.Dict [] [] pos) (zuu X.prog X.w):=fun pins s σ H Q I h=>by
 have big:sysModules<s.heap.objs.size:=Nat.lt_trans (show sysModules<mainGlobals by decide) (I.mod.glob.keeps I.bk).lt;have hne:(s.heap.objs.size == sysModules)=false:=ybh.mpr (Ne.symm (yaG big));have dn:DN X.prog X.w s.heap.objs.size [] (s.heap.push { cls:=.type "dict",data:=.dict #[] }):=⟨_,#[],0,yax _ rfl,⟨rfl,rfl,rfl⟩,rfl,rfl,List.nodup_nil,hne⟩;refine wpAny_Dict_empty ⟨.ref s.heap.objs.size,upd H s.heap.objs.size (.ext (DN X.prog X.w s.heap.objs.size [])),?_,rfl,h _ (I.hok.fresh (yam _))⟩;exact I.laid (a:=s.heap.objs.size) (t':=s.toks) (fun _ _ q=>yaf _ q) (yam _) ⟨dn,⟨_,yax _ rfl⟩,zjl⟩
end
end L2
namespace S2
open PySem PySem.Spec PyProof.Rows L2
abbrev St:=L2.St
inductive D where
 | non | bl (b:Bool) | int (i:Int) | str (x:Str) | tup (l:List D) | lst (l:List D) | dic (l:List (D×D)) | ref (n:Nat) | exc (c:Str) | scr (l:List Int)
inductive Root where
 | slot (i:Nat) | fld (n:Nat) (f:Str) | obj (n:Nat) | far
 deriving DecidableEq
abbrev Ow:=Addr->Option Root
structure Cf where
 ad:Str->Addr
 K:PySem.W.Frag
 P:Program
 wo:PySem.World
instance:CoeFun Cf (fun _=>Str->Addr):=⟨Cf.ad⟩
structure Wd where
 H:Hp
 ow:Ow
 mu:List Addr
mutual
inductive Shd(cl:Cf)(w:Wd):V->D->Prop
 | non:Shd cl w .non .non
 | bl (b:Bool):Shd cl w (.bl b) (.bl b)
 | int (i:Int):Shd cl w (.int i) (.int i)
 | str (x:Str):Shd cl w (.str x) (.str x)
 | tup {a:Addr} {xs:List V} {ds:List D}:w.H a=some (.tup xs)->w.ow a=none->Shds cl w xs ds->Shd cl w (.ref a) (.tup ds)
 | lst {a:Addr} {xs:List V} {ds:List D}:w.H a=some (.lst xs)->w.ow a=none->Shds cl w xs ds->Shd cl w (.ref a) (.lst ds)
 | dicK {a:Addr} {kvs:List (Key×V)} {ds:List (D×D)}:w.H a=some (.dK kvs)->w.ow a=none->ShdK cl w kvs ds->Shd cl w (.ref a) (.dic ds)
 | ref {n:Nat} {a:Addr}:w.mu[n]?=some a->Shd cl w (.ref a) (.ref n)
 | scr {a:Addr} {o:Obj} {l:List Int}:w.H a=some (.frz o (.lst (l.map V.int)))->w.ow a=none->Shd cl w (.ref a) (.scr l)
 | scrK {a:Addr} {l:List Int}:(∀H:Hp,SqL cl.K H a (l.map V.int))->Shd cl w (.ref a) (.scr l)
 | exc {a:Addr} {c:Str} {ob:Obj}:w.H a=some (.frz ob (.own a))->w.ow a=none->ob.cls=.ref (cl c)->Shd cl w (.ref a) (.exc c)
inductive Shds(cl:Cf)(w:Wd):List V->List D->Prop
 | nil:Shds cl w [] []
 | cons {v:V} {d:D} {vs:List V} {ds:List D}:Shd cl w v d->Shds cl w vs ds->Shds cl w (v::vs) (d::ds)
inductive ShdK(cl:Cf)(w:Wd):List (Key×V)->List (D×D)->Prop
 | nil:ShdK cl w [] []
 | consI {i:Int} {v:V} {d:D} {vs:List (Key×V)} {ds:List (D×D)}:Shd cl w v d->ShdK cl w vs ds->ShdK cl w ((.inl i,v)::vs) ((.int i,d)::ds)
 | consS {x:Str} {v:V} {d:D} {vs:List (Key×V)} {ds:List (D×D)}:Shd cl w v d->ShdK cl w vs ds->ShdK cl w ((.inr x,v)::vs) ((.str x,d)::ds)
end
structure Fut(w w':Wd):Prop where
 keep:∀a o,w.H a=some o->w.ow a=none->w'.H a=some o/\w'.ow a=none
 mu:∀(n:Nat) (a:Addr),w.mu[n]?=some a->w'.mu[n]?=some a
def Fut.refl(w:Wd):Fut w w:=⟨fun _ _ h k=>⟨h,k⟩,fun _ _ h=>h⟩
def Fut.trans{w w1 w2:Wd}(a:Fut w w1)(b:Fut w1 w2):Fut w w2:=⟨fun c o h k=>b.keep c o (a.keep c o h k).1 (a.keep c o h k).2,fun n c h=>b.mu n c (a.mu n c h)⟩
mutual
theorem Shd.up{cl:Cf}{w w':Wd}(f:Fut w w'):∀{v:V} {d:D},Shd cl w v d->Shd cl w' v d
 | _,_,.non=>.non
 | _,_,.bl b=>.bl b
 | _,_,.int i=>.int i
 | _,_,.str x=>.str x
 | _,_,.tup e k r=>.tup (f.keep _ _ e k).1 (f.keep _ _ e k).2 (Shds.up f r)
 | _,_,.lst e k r=>.lst (f.keep _ _ e k).1 (f.keep _ _ e k).2 (Shds.up f r)
 | _,_,.dicK e k r=>.dicK (f.keep _ _ e k).1 (f.keep _ _ e k).2 (ShdK.up f r)
 | _,_,.ref e=>.ref (f.mu _ _ e)
 | _,_,.scr e k=>.scr (f.keep _ _ e k).1 (f.keep _ _ e k).2
 | _,_,.scrK h=>.scrK h
 | _,_,.exc e k h=>.exc (f.keep _ _ e k).1 (f.keep _ _ e k).2 h
theorem Shds.up{cl:Cf}{w w':Wd}(f:Fut w w'):∀{vs:List V} {ds:List D},Shds cl w vs ds->Shds cl w' vs ds
 | _,_,.nil=>.nil
 | _,_,.cons r t=>.cons (Shd.up f r) (Shds.up f t)
theorem ShdK.up{cl:Cf}{w w':Wd}(f:Fut w w'):∀{vs:List (Key×V)} {ds:List (D×D)},ShdK cl w vs ds->ShdK cl w' vs ds
 | _,_,.nil=>.nil
 | _,_,.consI r t=>.consI (Shd.up f r) (ShdK.up f t)
 | _,_,.consS r t=>.consS (Shd.up f r) (ShdK.up f t)
end
section
variable{cl:Cf}{w:Wd}
theorem Shds.length:∀{vs:List V} {ds:List D},Shds cl w vs ds->vs.length=ds.length
 | _,_,.nil=>rfl
 | _,_,.cons _ t=>by rw [yai,yai,Shds.length t]
theorem Shds.get:∀{vs:List V} {ds:List D},Shds cl w vs ds->∀{i:Nat} {v:V},vs[i]?=some v->∃d,ds[i]?=some d/\Shd cl w v d
 | _,_,.nil,i,v,e=>by simp at e
 | _,_,.cons r _,0,v,e=>by simp at e;subst e;exact ⟨_,rfl,r⟩
 | _,_,.cons _ t,i+1,v,e=>by
  obtain ⟨d,h1,h2⟩:=Shds.get t (i:=i) (v:=v) (by simpa using e);exact ⟨d,by simpa using h1,h2⟩
theorem Shds.at:∀{vs:List V} {ds:List D},Shds cl w vs ds->∀{i:Nat} {d:D},ds[i]?=some d->∃v,vs[i]?=some v/\Shd cl w v d
 | _,_,.nil,i,v,e=>by simp at e
 | _,_,.cons r _,0,v,e=>by simp at e;subst e;exact ⟨_,rfl,r⟩
 | _,_,.cons _ t,i+1,v,e=>by
  obtain ⟨d,h1,h2⟩:=Shds.at t (i:=i) (d:=v) (by simpa using e);exact ⟨d,by simpa using h1,h2⟩
theorem Shds.append:∀{vs ws:List V} {ds es:List D},Shds cl w vs ds->Shds cl w ws es->Shds cl w (vs++ws) (ds++es)
 | _,_,_,_,.nil,s=>s
 | _,_,_,_,.cons r t,s=>.cons r (Shds.append t s)
theorem Shds.take:∀{vs:List V} {ds:List D} (n:Nat),Shds cl w vs ds->Shds cl w (vs.take n) (ds.take n)
 | _,_,0,_=>.nil
 | _,_,_+1,.nil=>.nil
 | _,_,n+1,.cons r t=>.cons r (Shds.take n t)
theorem Shds.drop:∀{vs:List V} {ds:List D} (n:Nat),Shds cl w vs ds->Shds cl w (vs.drop n) (ds.drop n)
 | _,_,0,s=>s
 | _,_,_+1,.nil=>.nil
 | _,_,n+1,.cons _ t=>Shds.drop n t
theorem Shds.flat{vs:List V}{ds:List D}(h:Shds cl w vs ds):∀n:Nat,Shds cl w (List.replicate n vs).flatten (List.replicate n ds).flatten
 | 0=>.nil
 | n+1=>by
  rw [ya8,ya8,ybv,ybv];exact Shds.append h (Shds.flat h n)
end
inductive Top(cl:Cf)(w:Wd):HO->D->Prop
 | lst {xs:List V} {ds:List D}:Shds cl w xs ds->Top cl w (.lst xs) (.lst ds)
 | dicK {kvs:List (Key×V)} {ds:List (D×D)}:ShdK cl w kvs ds->Top cl w (.dK kvs) (.dic ds)
theorem Top.up{cl:Cf}{w w':Wd}(f:Fut w w'){o:HO}{d:D}:Top cl w o d->Top cl w' o d
 | .lst h=>.lst (h.up f)
 | .dicK h=>.dicK (h.up f)
def zjs(cl:Cf)(w:Wd)(r:Root):Bool->V->D->Prop
 | false,v,d=>Shd cl w v d
 | true,v,d=>∃a o,v=.ref a/\w.ow a=some r/\w.H a=some o/\Top cl w o d
theorem zjs.keep{cl:Cf}{w w':Wd}(f:Fut w w'){r:Root}(k:∀a o,w.H a=some o->w.ow a=some r->w'.H a=some o/\w'.ow a=some r):∀{b:Bool} {v:V} {d:D},zjs cl w r b v d->zjs cl w' r b v d
 | false,_,_,h=>Shd.up f h
 | true,_,_,⟨a,o,e,h1,h2,t⟩=>⟨a,o,e,(k a o h2 h1).2,(k a o h2 h1).1,t.up f⟩
def oDn:Option Int->D | none=>.non | some i=>.int i
def nkD(k:NK):D:=.tup [.int k.1,.tup (k.2.map oDn)]
inductive ShdN(cl:Cf)(w:Wd):List (NK×V)->List (D×D)->Prop
 | nil:ShdN cl w [] []
 | cons {k:NK} {v:V} {d:D} {m:List (NK×V)} {ds:List (D×D)}:Shd cl w v d->ShdN cl w m ds->ShdN cl w ((k,v)::m) ((nkD k,d)::ds)
theorem ShdN.up{cl:Cf}{w w':Wd}(f:Fut w w'):∀{m:List (NK×V)} {ds:List (D×D)},ShdN cl w m ds->ShdN cl w' m ds
 | _,_,.nil=>.nil
 | _,_,.cons r t=>.cons (r.up f) (ShdN.up f t)
def zmx(w:Wd)(kb:Addr)(k:NK):Prop:=∃b,(w.H kb=some (.tup [.int k.1,.ref b])/\w.ow kb=none)/\w.H b=some (.tup (k.2.map oV))/\w.ow b=none
def zmx.up{w w':Wd}(f:Fut w w'){kb:Addr}{k:NK}(h:zmx w kb k):zmx w' kb k:=by
 obtain ⟨b,h1,h2⟩:=h;exact ⟨b,f.keep _ _ h1.1 h1.2,f.keep _ _ h2.1 h2.2⟩
def zmx.at{w:Wd}{kb:Addr}{k:NK}(h:zmx w kb k):ziC w.H kb k:=by
 obtain ⟨b,h1,h2⟩:=h;exact ⟨b,h1.1,h2.1⟩
def zju(w:Wd):List (NK×Addr×Value)->List (NK×V)->Prop:=Paired fun (x:NK×Addr×Value) (p:NK×V)=>x.1=p.1/\zmx w x.2.1 x.1/\zbw p.2 x.2.2
theorem zju.up{w w':Wd}(f:Fut w w'):∀{xs:List (NK×Addr×Value)} {m:List (NK×V)},zju w xs m->zju w' xs m
 | _,_,.nil=>.nil
 | _,_,.cons h t=>.cons ⟨h.1,h.2.1.up f,h.2.2⟩ (zju.up f t)
theorem zju.ents{w:Wd}:∀{xs:List (NK×Addr×Value)} {m:List (NK×V)},zju w xs m->zn6 w.H xs m
 | _,_,.nil=>.nil
 | _,_,.cons h t=>.cons ⟨h.1,h.2.1.at,h.2.2⟩ (zju.ents t)
theorem zju.snoc{w:Wd}{x:NK×Addr×Value}{p:NK×V}(h:x.1=p.1/\zmx w x.2.1 x.1/\zbw p.2 x.2.2):∀{xs:List (NK×Addr×Value)} {m:List (NK×V)},zju w xs m->zju w (xs++[x]) (m++[p])
 | _,_,.nil=>.cons h .nil
 | _,_,.cons h' t=>.cons h' (zju.snoc h t)
theorem ShdN.snoc{cl:Cf}{w:Wd}{k:NK}{v:V}{d:D}(h:Shd cl w v d):∀{m:List (NK×V)} {ds:List (D×D)},ShdN cl w m ds->ShdN cl w (m++[(k,v)]) (ds++[(nkD k,d)])
 | _,_,.nil=>.cons h .nil
 | _,_,.cons r t=>.cons r (ShdN.snoc h t)
def zzg(cl:Cf)(w:Wd)(r:Root)(v:V)(d:D):Prop:=∃a xs m ds,v=.ref a/\w.ow a=some r/\w.H a=some (.ext (DN cl.P cl.wo a xs))/\zju w xs m/\ShdN cl w m ds/\d=.dic ds
def ziD(cl:Cf)(w:Wd)(r:Root)(own:Bool)(v:V)(d:D):Prop:=(own=false/\Shd cl w v d)\/(own=true/\zzg cl w r v d)
def ziD.keep{cl:Cf}{w w':Wd}(f:Fut w w'){r:Root}(k:∀a o,w.H a=some o->w.ow a=some r->w'.H a=some o/\w'.ow a=some r){b:Bool}{v:V}{d:D}(h:ziD cl w r b v d):ziD cl w' r b v d:=by
 rcases h with ⟨e,h⟩ | ⟨e,a,xs,m,ds,e1,e2,e3,e4,e5,e6⟩
 ·exact .inl ⟨e,h.up f⟩
 ·exact .inr ⟨e,a,xs,m,ds,e1,(k a _ e3 e2).2,(k a _ e3 e2).1,e4.up f,e5.up f,e6⟩
structure Ob where
 cls:Str
 fs:List (Str×Bool×D)
abbrev Sto:=List Ob
def zdt(cl:Cf)(w:Wd)(n:Nat):List (Str×V)->List (Str×Bool×D)->Prop:=Paired fun p q=>p.1=q.1/\ziD cl w (.fld n q.1) q.2.1 p.2 q.2.2
def ztC(cl:Cf)(w:Wd)(n:Nat)(a:Addr)(ob:Ob):Prop:=w.ow a=some (.obj n)/\∃dx fs,w.H a=some (.ins (cl ob.cls) dx fs)/\zdt cl w n fs ob.fs
def zss(n:Nat):Option Root->Prop | some (.obj m)=>m=n | some (.fld m _)=>m=n | _=>False
theorem zdt.keep{cl:Cf}{w w':Wd}(f:Fut w w'){n:Nat}(k:∀a o,w.H a=some o->zss n (w.ow a)->w'.H a=some o/\w'.ow a=w.ow a):∀{fs:List (Str×V)} {gs:List (Str×Bool×D)},zdt cl w n fs gs->zdt cl w' n fs gs
 | _,_,.nil=>.nil
 | _,_,.cons ⟨e,h⟩ t=>.cons ⟨e,h.keep f fun a o ha hr=>by
   have:=k a o ha (by rw [hr];rfl)
   exact ⟨this.1,this.2.trans hr⟩⟩ (zdt.keep f k t)
theorem ztC.keep{cl:Cf}{w w':Wd}(f:Fut w w'){n:Nat}{a:Addr}{ob:Ob}(k:∀a o,w.H a=some o->zss n (w.ow a)->w'.H a=some o/\w'.ow a=w.ow a)(h:ztC cl w n a ob):ztC cl w' n a ob:=by
 obtain ⟨h1,dx,fs,h2,h3⟩:=h;have:=k a _ h2 (by rw [h1];rfl);exact ⟨this.2.trans h1,dx,fs,this.1,h3.keep f k⟩
structure Base where
 Fr:Hp
 fw:Ow
structure World'(cl:Cf)(B:Base)(w:Wd)(S:Sto):Prop where
 fr:∀a o,B.Fr a=some o->w.H a=some o/\w.ow a=B.fw a
 own:∀a r,w.ow a=some r->r=.far\/B.Fr a=none
 len:w.mu.length=S.length
 obj:∀(n:Nat) (ob:Ob),S[n]?=some ob->∃a,w.mu[n]?=some a/\ztC cl w n a ob
abbrev Env:=List (Option (Bool×D))
structure Rel(cl:Cf)(B:Base)(σ:St)(w:Wd)(ρ:Env)(S:Sto):Prop where
 wd:World' cl B w S
 len:σ.length=ρ.length
 slots:∀(i:Nat) (o:Bool) (d:D),ρ[i]?=some (some (o,d))->∃v,σ[i]?=some (some v)/\zjs cl w (.slot i) o v d
structure Grow(w w':Wd):Prop where
 keep:∀a o,w.H a=some o->w'.H a=some o/\w'.ow a=w.ow a
 new:∀a r,w'.ow a=some r->w.H a=none->w.ow a=some r\/r=.far
 mu:w'.mu=w.mu
def Grow.refl(w:Wd):Grow w w:=⟨fun _ _ h=>⟨h,rfl⟩,fun _ _ h _=>.inl h,rfl⟩
def Grow.fut{w w':Wd}(g:Grow w w'):Fut w w':=⟨fun a o h k=>⟨(g.keep a o h).1,(g.keep a o h).2.trans k⟩,fun n a h=>by rw [g.mu];exact h⟩
def World'.grow{cl:Cf}{B:Base}{w w':Wd}{S:Sto}(W:World' cl B w S)(g:Grow w w'):World' cl B w' S where
 fr:=fun a o h=>by
  obtain ⟨h1,h2⟩:=W.fr a o h;exact ⟨(g.keep a o h1).1,(g.keep a o h1).2.trans h2⟩
 own:=fun a r h=>by
  cases e:w.H a with
  | none=>exact (g.new a r h e).elim (W.own a r) .inl
  | some o=>exact W.own a r (by rw [<-(g.keep a o e).2];exact h)
 len:=by rw [g.mu];exact W.len
 obj:=fun n ob h=>by
  obtain ⟨a,e,x⟩:=W.obj n ob h;exact ⟨a,by rw [g.mu];exact e,x.keep g.fut fun a o ha _=>g.keep a o ha⟩
theorem Rel.grow{cl:Cf}{B:Base}{σ:St}{w w':Wd}{ρ:Env}{S:Sto}(R:Rel cl B σ w ρ S)(g:Grow w w'):Rel cl B σ w' ρ S where
 wd:=R.wd.grow g
 len:=R.len
 slots:=fun i o d h=>by
  obtain ⟨v,e,x⟩:=R.slots i o d h;exact ⟨v,e,x.keep g.fut fun a o ha hr=>⟨(g.keep a o ha).1,(g.keep a o ha).2.trans hr⟩⟩
def Wd.add(w:Wd)(p:Addr)(o:HO):Wd:=⟨upd w.H p o,fun a=>if a=p then none else w.ow a,w.mu⟩
def zaD{w:Wd}{p:Addr}(h:w.H p=none)(o:HO):Grow w (w.add p o) where
 keep:=fun a u ha=>by
  have n:a≠p:=zaC ha h;refine ⟨?_,?_⟩
  ·show upd w.H p o a=_;rw [zaq n];exact ha
  ·show (if a=p then none else w.ow a)=_;rw [if_neg n]
 new:=fun a r h1 h2=>by
  have h1':(if a=p then none else w.ow a)=some r:=h1;split at h1'
  ·cases h1'
  ·exact .inl h1'
 mu:=rfl
def zhT{w:Wd}{p:Addr}{o:HO}:(w.add p o).ow p=none:=if_pos rfl
def zmo{w:Wd}{p:Addr}{o:HO}:(w.add p o).H p=some o:=zaW
def Shd.newT{cl:Cf}{w:Wd}{p:Addr}{xs:List V}{ds:List D}(h:w.H p=none)(r:Shds cl w xs ds):Shd cl (w.add p (.tup xs)) (.ref p) (.tup ds):=.tup zmo zhT (r.up (zaD h _).fut)
def Shd.newL{cl:Cf}{w:Wd}{p:Addr}{xs:List V}{ds:List D}(h:w.H p=none)(r:Shds cl w xs ds):Shd cl (w.add p (.lst xs)) (.ref p) (.lst ds):=.lst zmo zhT (r.up (zaD h _).fut)
def Shd.newO{cl:Cf}{w:Wd}{p:Addr}{o:HO}{d:D}(h:w.H p=none)(r:Top cl w o d):Shd cl (w.add p o) (.ref p) d:=by
 have g:=(zaD h o).fut
 cases r with
 | lst r=>exact .lst zmo zhT (r.up g)
 | dicK r=>exact .dicK zmo zhT (r.up g)
inductive Out(α:Type) where
 | ok (a:α) (S:Sto) | exc (c:Str) (S:Sto) | bad
abbrev Fe:=Env->Sto->Out D
inductive Fo where
 | nx (ρ:Env) (S:Sto) | rt (d:D) (S:Sto) | bk (ρ:Env) (S:Sto) | ct (ρ:Env) (S:Sto) | ex (c:Str) (ρ:Env) (S:Sto) | bad
abbrev Fs:=Env->Sto->Fo
def tE(cl:Cf)(E:St->XK)(f:Fe):TE:=fun σ H Q=>∃B w ρ S,w.H=H/\Rel cl B σ w ρ S/\match f ρ S with
 | .ok d S'=>∀v w',Rel cl B σ w' ρ S'->Fut w w'->Shd cl w' v d->Q v w'.H
 | .exc c S'=>∀w',Rel cl B σ w' ρ S'->Fut w w'->E σ (.ref (cl c)) none w'.H
 | .bad=>False
def tN(cl:Cf)(E:St->XK)(f:Fe):TE:=fun σ H Q=>∃B w ρ S,w.H=H/\Rel cl B σ w ρ S/\match f ρ S with
 | .ok d S'=>∀p o w',Rel cl B σ w' ρ S'->Fut w w'->w'.H p=none->Top cl w' o d->Q (.ref p) (upd w'.H p o)
 | .exc c S'=>∀w',Rel cl B σ w' ρ S'->Fut w w'->E σ (.ref (cl c)) none w'.H
 | .bad=>False
def Hd(cl:Cf)(σ:St)(ρ:Env)(w:Wd)(v:V)(d:D):Prop:=Shd cl w v d\/∃i:Nat,ρ[i]?=some (some (true,d))/\σ[i]?=some (some v)
def tH(cl:Cf)(E:St->XK)(f:Fe):TE:=fun σ H Q=>∃B w ρ S,w.H=H/\Rel cl B σ w ρ S/\match f ρ S with
 | .ok d S'=>∀v w',Rel cl B σ w' ρ S'->Fut w w'->Hd cl σ ρ w' v d->Q v w'.H
 | .exc c S'=>∀w',Rel cl B σ w' ρ S'->Fut w w'->E σ (.ref (cl c)) none w'.H
 | .bad=>False
inductive TopV(cl:Cf)(w:Wd):V->D->Prop
 | sh {v:V} {d:D}:Shd cl w v d->TopV cl w v d
 | ow {a:Addr} {o:HO} {d:D}:w.H a=some o->Top cl w o d->TopV cl w (.ref a) d
def Hd.top{cl:Cf}{B:Base}{σ:St}{ρ:Env}{w:Wd}{S:Sto}{v:V}{d:D}(h:Hd cl σ ρ w v d)(R:Rel cl B σ w ρ S):TopV cl w v d:=by
 rcases h with h | ⟨i,h1,h2⟩
 ·exact .sh h
 ·obtain ⟨v',e,a,o,rfl,_,h3,t⟩:=R.slots i true d h1;rw [h2] at e;cases e;exact .ow h3 t
theorem Hd.up{cl:Cf}{σ:St}{ρ:Env}{w w':Wd}{v:V}{d:D}(f:Fut w w')(h:Hd cl σ ρ w v d):Hd cl σ ρ w' v d:=by
 rcases h with h | h
 ·exact .inl (h.up f)
 ·exact .inr h
def PE.imp{X:Cx}{e:Expr}{t t':TE}(h:PE X e t)(i:∀σ H Q,t' σ H Q->t σ H Q):PE X e t':=fun pins s σ H Q I q=>h pins s σ H Q I (i _ _ _ q)
def zur{cl:Cf}{E:St->XK}{f:Fe}{σ:St}{H:Hp}{Q:VK}(h:tE cl E f σ H Q):tN cl E f σ H Q:=by
 obtain ⟨B,w,ρ,S,e,R,h⟩:=h;refine ⟨B,w,ρ,S,e,R,?_⟩
 cases hf:f ρ S with
 | ok d S' =>
  rw [hf] at h;intro p o w' R' F' hp t;exact h (.ref p) (w'.add p o) (R'.grow (zaD hp o)) (F'.trans (zaD hp o).fut) (Shd.newO hp t)
 | exc c S'=>rwa [hf] at h
 | bad=>rwa [hf] at h
def zuq{cl:Cf}{E:St->XK}{f:Fe}{σ:St}{H:Hp}{Q:VK}(h:tH cl E f σ H Q):tE cl E f σ H Q:=by
 obtain ⟨B,w,ρ,S,e,R,h⟩:=h;refine ⟨B,w,ρ,S,e,R,?_⟩
 cases hf:f ρ S with
 | ok d S' =>
  rw [hf] at h;intro v w' R' F' t;exact h v w' R' F' (.inl t)
 | exc c S'=>rwa [hf] at h
 | bad=>rwa [hf] at h
end S2
namespace S2
open PySem PySem.Spec PyProof.Rows L2
def Out.bind{α β:Type}(o:Out α)(k:α->Sto->Out β):Out β:=match o with | .ok a S=>k a S | .exc c S=>.exc c S | .bad=>.bad
def Out.of{α:Type}(o:Option α)(S:Sto):Out α:=match o with | some a=>.ok a S | none=>.bad
@[simp] def Out.bind_ok{α β:Type}(a:α)(S:Sto)(k:α->Sto->Out β):(Out.ok a S).bind k=k a S:=rfl
@[simp] def Out.bind_exc{α β:Type}(c:Str)(S:Sto)(k:α->Sto->Out β):(Out.exc c S:Out α).bind k=.exc c S:=rfl
@[simp] def Out.bind_bad{α β:Type}(k:α->Sto->Out β):(Out.bad:Out α).bind k=.bad:=rfl
@[simp] def Out.of_some{α:Type}(a:α)(S:Sto):Out.of (some a) S=.ok a S:=rfl
def zae(i:Nat):Fe:=fun ρ S=>match ρ[i]? with | some (some (false,d))=>.ok d S | _=>.bad
def zah(i:Nat):Fe:=fun ρ S=>match ρ[i]? with | some (some (_,d))=>.ok d S | _=>.bad
def zag(d:D):Fe:=fun _ S=>.ok d S
def eUn(g:D->Option D)(f:Fe):Fe:=fun ρ S=>(f ρ S).bind fun a S1=>Out.of (g a) S1
def zaf(g:D->D->Option D)(f h:Fe):Fe:=fun ρ S=>(f ρ S).bind fun a S1=>(h ρ S1).bind fun b S2=>Out.of (g a b) S2
def isB:D->Option Bool | .bl b=>some b | _=>none
def eIf(c f h:Fe):Fe:=fun ρ S=>(c ρ S).bind fun d S1=>match isB d with | some true=>f ρ S1 | some false=>h ρ S1 | none=>.bad
def zfI(f h:Fe):Fe:=fun ρ S=>(f ρ S).bind fun d S1=>match isB d with | some true=>h ρ S1 | some false=>.ok (.bl false) S1 | none=>.bad
def eOr(f h:Fe):Fe:=fun ρ S=>(f ρ S).bind fun d S1=>match isB d with | some true=>.ok (.bl true) S1 | some false=>h ρ S1 | none=>.bad
def zho:D->Option D | .bl b=>some (.bl (!b)) | _=>none
def zan:List Fe->Env->Sto->Out (List D)
 | [],_,S=>.ok [] S
 | f::fs,ρ,S=>(f ρ S).bind fun d S1=>(zan fs ρ S1).bind fun ds S2=>.ok (d::ds) S2
def small(n:Nat):Bool:=decide (n<=100000)
def zcT(fs:List Fe):Fe:=fun ρ S=>(zan fs ρ S).bind fun ds S1=>if small ds.length then .ok (.tup ds) S1 else .bad
def zeF(fs:List Fe):Fe:=fun ρ S=>(zan fs ρ S).bind fun ds S1=>if small ds.length then .ok (.lst ds) S1 else .bad
def zaz(g:List D->Option D)(fs:List Fe):Fe:=fun ρ S=>(zan fs ρ S).bind fun ds S1=>Out.of (g ds) S1
def zbf{n:Nat}(h:small n=true):n<=sizeLine:=yah (yau h) (by decide)
def zct:Expr->Bool | .Starred _ _=>false | _=>true
def za9{e:Expr}{es:List Expr}{env:PySem.Env}(h:zct e=true):starEach (e::es) env=(false,eval e env)::starEach es env:=by
 cases e<;>first | rfl | cases h
theorem zbb{pos:Pos}{env:PySem.Env}:∀{es:List Expr},es.all zct=true->(backTo pos (starEach es env)).any (·.1)=false
 | [],_=>rfl
 | e::es,h=>by
  rw [ybH,yab] at h;rw [za9 h.1];show (false||(backTo pos (starEach es env)).any (·.1))=false;rw [zbb h.2];rfl
theorem zhe{pos:Pos}{env:PySem.Env}:∀{es:List Expr},es.all zct=true->(backTo pos (starEach es env)).all (fun x=>!x.1)=true
 | [],_=>rfl
 | e::es,h=>by
  rw [ybH,yab] at h;rw [za9 h.1];show (true&&(backTo pos (starEach es env)).all (fun x=>!x.1))=true;rw [zhe h.2];rfl
def zlZ{pos:Pos}{env:PySem.Env}{es:List Expr}(h:es.all zct=true)(hl:es.length<30):((backTo pos (starEach es env)).all (fun x=>!x.1)&&(backToKw pos (keywordEach [] env)).all (fun x=>x.1.isSome)
   && decide (es.length+([]:List Keyword).length+(if ([]:List Keyword).isEmpty then 0 else 1)<30))=true:=by
 rw [zhe h];show (true&&true&&decide (es.length+0+0<30))=true;simpa using hl
def Hds(cl:Cf)(σ:St)(ρ:Env)(w:Wd):List V->List D->Prop:=Paired (Hd cl σ ρ w)
def zmp(cl:Cf)(w:Wd):List V->List D->Prop:=Paired (TopV cl w)
theorem Hds.top{cl:Cf}{B:Base}{σ:St}{ρ:Env}{w:Wd}{S:Sto}(R:Rel cl B σ w ρ S):∀{vs:List V} {ds:List D},Hds cl σ ρ w vs ds->zmp cl w vs ds
 | _,_,.nil=>.nil
 | _,_,.cons h t=>.cons (h.top R) (Hds.top R t)
def tAs(cl:Cf)(E:St->XK)(fs:List Fe):TA:=fun σ H Q=>∃B w ρ S,w.H=H/\Rel cl B σ w ρ S/\match zan fs ρ S with
 | .ok ds S'=>∀vs w',Rel cl B σ w' ρ S'->Fut w w'->Shds cl w' vs ds->Q vs w'.H
 | .exc c S'=>∀w',Rel cl B σ w' ρ S'->Fut w w'->E σ (.ref (cl c)) none w'.H
 | .bad=>False
def tHs(cl:Cf)(E:St->XK)(fs:List Fe):TA:=fun σ H Q=>∃B w ρ S,w.H=H/\Rel cl B σ w ρ S/\match zan fs ρ S with
 | .ok ds S'=>∀vs w',Rel cl B σ w' ρ S'->Fut w w'->Hds cl σ ρ w' vs ds->Q vs w'.H
 | .exc c S'=>∀w',Rel cl B σ w' ρ S'->Fut w w'->E σ (.ref (cl c)) none w'.H
 | .bad=>False
def PA.imp{X:Cx}{es:List Expr}{t t':TA}(h:PA X es t)(i:∀σ H Q,t' σ H Q->t σ H Q):PA X es t':=fun pos pins s σ H Q I q=>h pos pins s σ H Q I (i _ _ _ q)
def PT.imp{X:Cx}{e:Expr}{t t':TT}(h:PT X e t)(i:∀σ H Q,t' σ H Q->t σ H Q):PT X e t':=fun pins s σ H Q I q=>h pins s σ H Q I (i _ _ _ q)
section
variable{X:Cx}{cl:Cf}{E:St->XK}{a b c e:Expr}{f h g:Fe}{pos:Pos}
def zrH{i:Nat}{x:Str}(hN:X.N[i]?=some x)(hv:Vis X.env.scope x)(hd:(x == ("__debug__":Str))=false)(hcd:(x == ("__classdict__":Str))=false):PE X (.Name x pos) (tE cl E (zae i)):=by
 refine PE.imp (zdx hN hv hd hcd) ?_;rintro σ H Q ⟨B,w,ρ,S,rfl,R,q⟩;unfold zae at q;split at q
 ·rename_i o d S' hm;split at hm
  ·rename_i d' he;cases hm;obtain ⟨v,e,r⟩:=R.slots i false d he;exact ⟨v,e,q v w R (Fut.refl _) r⟩
  ·cases hm
 ·rename_i hm;split at hm<;>cases hm
 ·exact q.elim
def zrQ{i:Nat}{x:Str}(hN:X.N[i]?=some x)(hv:Vis X.env.scope x)(hd:(x == ("__debug__":Str))=false)(hcd:(x == ("__classdict__":Str))=false):PE X (.Name x pos) (tH cl E (zah i)):=by
 refine PE.imp (zdx hN hv hd hcd) ?_;rintro σ H Q ⟨B,w,ρ,S,rfl,R,q⟩;unfold zah at q;split at q
 ·rename_i o d S' hm;split at hm
  ·rename_i b d' he;cases hm;obtain ⟨v,e,r⟩:=R.slots i b d he;refine ⟨v,e,q v w R (Fut.refl _) ?_⟩
   cases b with
   | false=>exact .inl r
   | true=>exact .inr ⟨i,he,e⟩
  ·cases hm
 ·rename_i hm;split at hm<;>cases hm
 ·exact q.elim
def zkH{v:V}{d:D}(h:PE X e (tC v))(hd:∀w,Shd cl w v d):PE X e (tE cl E (zag d)):=by
 refine PE.imp h ?_;rintro σ H Q ⟨B,w,ρ,S,rfl,R,q⟩;exact q v w R (Fut.refl _) (hd w)
def zkI(h:PE X e (tE cl E f)):PE X e (tH cl E f):=PE.imp h fun _ _ _=>zuq
def zdu(h:PE X e (tN cl E f)):PE X e (tE cl E f):=PE.imp h fun _ _ _=>zur
def OpD(X:Cx)(cl:Cf)(op:Value->Value->Sem Value)(g:D->D->Option D):Prop:=OpR X op fun x y H Q=>∃w d e r,w.H=H/\TopV cl w x d/\TopV cl w y e/\g d e=some r/\∀v w',Grow w w'->Shd cl w' v r->Q v w'.H
def UnD(X:Cx)(cl:Cf)(op:Value->Sem Value)(g:D->Option D):Prop:=UnR X op fun x H Q=>∃w d r,w.H=H/\TopV cl w x d/\g d=some r/\∀v w',Grow w w'->Shd cl w' v r->Q v w'.H
def zhU(X:Cx)(cl:Cf)(fv:Value)(g:List D->Option D):Prop:=zdN X fv fun xs H Q=>∃w ds r,w.H=H/\zmp cl w xs ds/\g ds=some r/\∀v w',Grow w w'->Shd cl w' v r->Q v w'.H
def ztE(X:Cx)(cl:Cf)(fv:Value)(g:List D->Option D):Prop:=zdN X fv fun xs H Q=>∃w ds r,w.H=H/\zmp cl w xs ds/\g ds=some r/\∀p o w',Grow w w'->w'.H p=none->Top cl w' o r->Q (.ref p) (upd w'.H p o)
def IxD(X:Cx)(cl:Cf)(g:D->D->Option D):Prop:=IxR X fun x y H Q=>∃w d e r,w.H=H/\TopV cl w x d/\TopV cl w y e/\g d e=some r/\∀v w',Grow w w'->Shd cl w' v r->Q v w'.H
def two{gg:D->D->Option D}{r2:R2}(hr:∀x y H Q,(∃w d e r,w.H=H/\TopV cl w x d/\TopV cl w y e/\gg d e=some r/\∀v w',Grow w w'->Shd cl w' v r->Q v w'.H)->r2 x y H Q)(σ:St)(H:Hp)(Q:VK)(q:tE cl E (zaf gg f h) σ H Q):tOp r2 (tH cl E f) (tH cl E h) σ H Q:=by
 obtain ⟨B,w,ρ,S,rfl,R,q⟩:=q;refine ⟨B,w,ρ,S,rfl,R,?_⟩;unfold zaf at q
 cases hf:f ρ S with
 | bad=>rwa [hf] at q
 | exc c S1=>rwa [hf] at q
 | ok d S1 =>
  rw [hf] at q;intro v w1 R1 F1 h1;refine ⟨B,w1,ρ,S1,rfl,R1,?_⟩;dsimp only [Out.bind] at q
  cases hh:h ρ S1 with
  | bad=>rwa [hh] at q
  | exc c S2=>rw [hh] at q;exact fun w2 R2 F2=>q w2 R2 (F1.trans F2)
  | ok e S2 =>
   rw [hh] at q;intro y w2 R2 F2 h2;dsimp only at q
   cases hg:gg d e with
   | none=>rw [hg] at q;exact q.elim
   | some r =>
    rw [hg] at q;exact hr _ _ _ _ ⟨w2,d,e,r,rfl,(h1.up F2).top R2,h2.top R2,hg,fun v' w' gr sh=>q v' w' (R2.grow gr) (F1.trans (F2.trans gr.fut)) sh⟩
def zog{op:Operator}{gg:D->D->Option D}(ho:OpD X cl (binaryOp op) gg)(ha:PE X a (tH cl E f))(hb:PE X b (tH cl E h)):PE X (.BinOp a op b pos) (tE cl E (zaf gg f h)) :=
 PE.imp (zsc ho ha hb) (two fun _ _ _ _ z=>z)
def zuI{gg:D->D->Option D}(ho:IxD X cl gg)(ha:PE X a (tH cl E f))(hb:PE X b (tH cl E h))(hs:zgN b):PE X (.Subscript a b pos) (tE cl E (zaf gg f h)) :=
 PE.imp (zsh ho ha hb hs) (two fun _ _ _ _ z=>z)
def zrP{op:CmpOp}{gg:D->D->Option D}(ho:OpD X cl (compareOp op) gg)(ha:PE X a (tH cl E f))(hb:PE X b (tH cl E h))(hm:behindInMarks op b=false):PE X (.Compare a [op] [b] pos) (tE cl E (zaf gg f h)) :=
 PE.imp (zk7 ho ha hb hm) (two fun _ _ _ _ z=>z)
def zuF{op:UnaryOp}{gg:D->Option D}(ho:UnD X cl (unaryOp op) gg)(ha:PE X a (tH cl E f)):PE X (.UnaryOp op a pos) (tE cl E (eUn gg f)):=by
 refine PE.imp (zuR ho ha) ?_;rintro σ H Q ⟨B,w,ρ,S,rfl,R,q⟩;refine ⟨B,w,ρ,S,rfl,R,?_⟩;unfold eUn at q
 cases hf:f ρ S with
 | bad=>rwa [hf] at q
 | exc c S1=>rwa [hf] at q
 | ok d S1 =>
  rw [hf] at q;intro v w1 R1 F1 h1;dsimp only [Out.bind] at q
  cases hg:gg d with
  | none=>rw [hg] at q;exact q.elim
  | some r =>
   rw [hg] at q;exact ⟨w1,d,r,rfl,h1.top R1,hg,fun v' w' gr sh=>q v' w' (R1.grow gr) (F1.trans gr.fut) sh⟩
def tTr(cl:Cf)(E:St->XK)(f:Fe):TT:=fun σ H Q=>∃B w ρ S,w.H=H/\Rel cl B σ w ρ S/\match f ρ S with
 | .ok d S'=>match isB d with
  | some b=>∀w',Rel cl B σ w' ρ S'->Fut w w'->Q b w'.H
  | none=>False
 | .exc c S'=>∀w',Rel cl B σ w' ρ S'->Fut w w'->E σ (.ref (cl c)) none w'.H
 | .bad=>False
def zdl{d:D}{b:Bool}(h:isB d=some b):d=.bl b:=by
 cases d<;>simp [isB] at h
 subst h;rfl
def zg2{w:Wd}{v:V}{b:Bool}(h:Shd cl w v (.bl b)):v=.bl b:=by cases h;rfl
def ziN{σ:St}{H:Hp}{Q:Bool->Hp->Prop}(q:tTr cl E f σ H Q):tB (tE cl E f) σ H Q:=by
 obtain ⟨B,w,ρ,S,rfl,R,q⟩:=q;refine ⟨B,w,ρ,S,rfl,R,?_⟩
 cases hf:f ρ S with
 | bad=>rwa [hf] at q
 | exc c S1=>rwa [hf] at q
 | ok d S1 =>
  rw [hf] at q;intro v w1 R1 F1 h1;dsimp only at q
  cases hb:isB d with
  | none=>rw [hb] at q;exact q.elim
  | some b =>
   rw [hb] at q;rw [zdl hb] at h1;exact ⟨b,zg2 h1,q w1 R1 F1⟩
def zbJ(h:PE X e (tE cl E f))(he:∀whole,isTrue e X.env whole=(do let v ← whole;standAt e.pos;holding [v] (truthy v))):PT X e (tTr cl E f) :=
 PT.imp (zr2 h he) fun _ _ _ q=>ziN q
def zkx{gg:D->D->Option D}{r2:R2}(hr:∀x y H Q,(∃w d e r,w.H=H/\TopV cl w x d/\TopV cl w y e/\gg d e=some r/\∀v w',Grow w w'->Shd cl w' v r->Q v w'.H)->r2 x y H Q){σ:St}{H:Hp}{Q:Bool->Hp->Prop}(q:tTr cl E (zaf gg f h) σ H Q):zoV (tOp r2 (tH cl E f) (tH cl E h)) σ H Q :=
 two hr σ H _ (ziN q)
def zrq{op:CmpOp}{gg:D->D->Option D}(ho:OpD X cl (compareOp op) gg)(ha:PE X a (tH cl E f))(hb:PE X b (tH cl E h))(hm:behindInMarks op b=false):PT X (.Compare a [op] [b] pos) (tTr cl E (zaf gg f h)) :=
 PT.imp (zkV ho ha hb hm) fun _ _ _ q=>zkx (fun _ _ _ _ z=>z) q
def PW.imp{X:Cx}{e:Expr}{t t':TT}(h:PW X e t)(i:∀σ H Q,t' σ H Q->t σ H Q):PW X e t':=fun whole pins s σ H Q I q=>h whole pins s σ H Q I (i _ _ _ q)
def zoU{σ:St}{H:Hp}{Q:Bool->Hp->Prop}(q:tTr cl E (zfI f h) σ H Q):zwr (tTr cl E f) (tTr cl E h) σ H Q:=by
 obtain ⟨B,w,ρ,S,rfl,R,q⟩:=q;refine ⟨B,w,ρ,S,rfl,R,?_⟩;unfold zfI at q
 cases hf:f ρ S with
 | bad=>rwa [hf] at q
 | exc c S1=>rwa [hf] at q
 | ok d S1 =>
  rw [hf] at q;dsimp only [Out.bind] at q ⊢
  cases hb:isB d with
  | none=>rw [hb] at q;exact q.elim
  | some b =>
   rw [hb] at q;intro w1 R1 F1
   cases b with
   | false=>exact zot (q w1 R1 F1)
   | true =>
    refine zos ⟨B,w1,ρ,S1,rfl,R1,?_⟩;dsimp only at q
    cases hh:h ρ S1 with
    | bad=>rwa [hh] at q
    | exc c S2=>rw [hh] at q;exact fun w2 R2 F2=>q w2 R2 (F1.trans F2)
    | ok e S2 =>
     rw [hh] at q;dsimp only at q ⊢
     cases hb2:isB e with
     | none=>rw [hb2] at q;exact q.elim
     | some b2=>rw [hb2] at q;exact fun w2 R2 F2=>q w2 R2 (F1.trans F2)
def zre{σ:St}{H:Hp}{Q:Bool->Hp->Prop}(q:tTr cl E (eOr f h) σ H Q):tOr (tTr cl E f) (tTr cl E h) σ H Q:=by
 obtain ⟨B,w,ρ,S,rfl,R,q⟩:=q;refine ⟨B,w,ρ,S,rfl,R,?_⟩;unfold eOr at q
 cases hf:f ρ S with
 | bad=>rwa [hf] at q
 | exc c S1=>rwa [hf] at q
 | ok d S1 =>
  rw [hf] at q;dsimp only [Out.bind] at q ⊢
  cases hb:isB d with
  | none=>rw [hb] at q;exact q.elim
  | some b =>
   rw [hb] at q;intro w1 R1 F1
   cases b with
   | true=>exact zos (q w1 R1 F1)
   | false =>
    refine zot ⟨B,w1,ρ,S1,rfl,R1,?_⟩;dsimp only at q
    cases hh:h ρ S1 with
    | bad=>rwa [hh] at q
    | exc c S2=>rw [hh] at q;exact fun w2 R2 F2=>q w2 R2 (F1.trans F2)
    | ok e S2 =>
     rw [hh] at q;dsimp only at q ⊢
     cases hb2:isB e with
     | none=>rw [hb2] at q;exact q.elim
     | some b2=>rw [hb2] at q;exact fun w2 R2 F2=>q w2 R2 (F1.trans F2)
def zoT{σ:St}{H:Hp}{Q:Bool->Hp->Prop}(q:tTr cl E (eUn zho f) σ H Q):zwp (tTr cl E f) σ H Q:=by
 obtain ⟨B,w,ρ,S,rfl,R,q⟩:=q;refine ⟨B,w,ρ,S,rfl,R,?_⟩;unfold eUn at q
 cases hf:f ρ S with
 | bad=>rwa [hf] at q
 | exc c S1=>rwa [hf] at q
 | ok d S1 =>
  rw [hf] at q;dsimp only [Out.bind] at q ⊢
  cases hb:isB d with
  | none =>
   have:zho d=none:=by cases d<;>simp [isB] at hb<;>rfl
   rw [this] at q;exact q.elim
  | some b =>
   rwa [zdl hb] at q
def zro(ha:PT X a (tTr cl E f)):PT X (.UnaryOp .Not a pos) (tTr cl E (eUn zho f)):=PT.imp (zr3 ha) fun _ _ _ q=>zoT q
def zrl{zco:List Expr}(ha:PT X a (tTr cl E f))(hb:PW X (.BoolOp .And (b::zco) pos) (tTr cl E h)):PW X (.BoolOp .And (a::b::zco) pos) (tTr cl E (zfI f h)):=PW.imp (zr1 ha hb) fun _ _ _ q=>zoU q
def zuy{zco:List Expr}(ha:PT X a (tTr cl E f))(hb:PW X (.BoolOp .Or (b::zco) pos) (tTr cl E h)):PW X (.BoolOp .Or (a::b::zco) pos) (tTr cl E (eOr f h)):=PW.imp (zuO ha hb) fun _ _ _ q=>zre q
def zrR{zco:List Expr}(ha:PE X a (tE cl E f))(hb:PE X (.BoolOp .And (b::zco) pos) (tE cl E h)):PE X (.BoolOp .And (a::b::zco) pos) (tE cl E (zfI f h)):=by
 refine PE.imp (zsj ha hb) ?_;rintro σ H Q ⟨B,w,ρ,S,rfl,R,q⟩;refine ⟨B,w,ρ,S,rfl,R,?_⟩;unfold zfI at q
 cases hf:f ρ S with
 | bad=>rwa [hf] at q
 | exc c S1=>rwa [hf] at q
 | ok d S1 =>
  rw [hf] at q;intro v w1 R1 F1 h1;dsimp only [Out.bind] at q
  cases hb:isB d with
  | none=>rw [hb] at q;exact q.elim
  | some b =>
   rw [hb] at q;rw [zdl hb] at h1;refine ⟨b,zg2 h1,?_⟩
   cases b with
   | false=>exact zot (q _ w1 R1 F1 (.bl false))
   | true =>
    refine zos ⟨B,w1,ρ,S1,rfl,R1,?_⟩;dsimp only at q
    cases hh:h ρ S1 with
    | bad=>rwa [hh] at q
    | exc c S2=>rw [hh] at q;exact fun w2 R2 F2=>q w2 R2 (F1.trans F2)
    | ok e S2=>rw [hh] at q;exact fun v w2 R2 F2=>q v w2 R2 (F1.trans F2)
def zuG{zco:List Expr}(ha:PE X a (tE cl E f))(hb:PE X (.BoolOp .Or (b::zco) pos) (tE cl E h)):PE X (.BoolOp .Or (a::b::zco) pos) (tE cl E (eOr f h)):=by
 refine PE.imp (zuS ha hb) ?_;rintro σ H Q ⟨B,w,ρ,S,rfl,R,q⟩;refine ⟨B,w,ρ,S,rfl,R,?_⟩;unfold eOr at q
 cases hf:f ρ S with
 | bad=>rwa [hf] at q
 | exc c S1=>rwa [hf] at q
 | ok d S1 =>
  rw [hf] at q;intro v w1 R1 F1 h1;dsimp only [Out.bind] at q
  cases hb:isB d with
  | none=>rw [hb] at q;exact q.elim
  | some b =>
   rw [hb] at q;rw [zdl hb] at h1;refine ⟨b,zg2 h1,?_⟩
   cases b with
   | true=>exact zos (q _ w1 R1 F1 (.bl true))
   | false =>
    refine zot ⟨B,w1,ρ,S1,rfl,R1,?_⟩;dsimp only at q
    cases hh:h ρ S1 with
    | bad=>rwa [hh] at q
    | exc c S2=>rw [hh] at q;exact fun w2 R2 F2=>q w2 R2 (F1.trans F2)
    | ok e S2=>rw [hh] at q;exact fun v w2 R2 F2=>q v w2 R2 (F1.trans F2)
def zrK(ha:PE X a (tE cl E f)):PE X (.UnaryOp .Not a pos) (tE cl E (eUn zho f)):=by
 refine PE.imp (zse ha) ?_;rintro σ H Q ⟨B,w,ρ,S,rfl,R,q⟩;refine ⟨B,w,ρ,S,rfl,R,?_⟩;unfold eUn at q
 cases hf:f ρ S with
 | bad=>rwa [hf] at q
 | exc c S1=>rwa [hf] at q
 | ok d S1 =>
  rw [hf] at q;intro v w1 R1 F1 h1;dsimp only [Out.bind] at q
  cases hb:isB d with
  | none =>
   have:zho d=none:=by cases d<;>simp [isB] at hb<;>rfl
   rw [this] at q;exact q.elim
  | some b =>
   rw [zdl hb] at q h1;exact ⟨b,zg2 h1,q _ w1 R1 F1 (.bl _)⟩
def zus{σ:St}{H:Hp}{Q:VK}(q:tE cl E (eIf g f h) σ H Q):tIf (tTr cl E g) (tE cl E f) (tE cl E h) σ H Q:=by
 obtain ⟨B,w,ρ,S,rfl,R,q⟩:=q;refine ⟨B,w,ρ,S,rfl,R,?_⟩;unfold eIf at q
 cases hg:g ρ S with
 | bad=>rwa [hg] at q
 | exc c S1=>rwa [hg] at q
 | ok d S1 =>
  rw [hg] at q;dsimp only [Out.bind] at q ⊢
  cases hb:isB d with
  | none=>rw [hb] at q;exact q.elim
  | some b =>
   rw [hb] at q;intro w1 R1 F1
   cases b with
   | true =>
    refine zos ⟨B,w1,ρ,S1,rfl,R1,?_⟩;dsimp only at q
    cases hh:f ρ S1 with
    | bad=>rwa [hh] at q
    | exc c S2=>rw [hh] at q;exact fun w2 R2 F2=>q w2 R2 (F1.trans F2)
    | ok e S2=>rw [hh] at q;exact fun v w2 R2 F2=>q v w2 R2 (F1.trans F2)
   | false =>
    refine zot ⟨B,w1,ρ,S1,rfl,R1,?_⟩;dsimp only at q
    cases hh:h ρ S1 with
    | bad=>rwa [hh] at q
    | exc c S2=>rw [hh] at q;exact fun w2 R2 F2=>q w2 R2 (F1.trans F2)
    | ok e S2=>rw [hh] at q;exact fun v w2 R2 F2=>q v w2 R2 (F1.trans F2)
def zuJ(hc:PT X c (tTr cl E g))(ha:PE X a (tE cl E f))(hb:PE X b (tE cl E h)):PE X (.IfExp c a b pos) (tE cl E (eIf g f h)):=PE.imp (zm8 hc ha hb) fun _ _ _ q=>zus q
def zet:PA X [] (tAs cl E []):=by
 refine PA.imp ze7 ?_;rintro σ H Q ⟨B,w,ρ,S,rfl,R,q⟩;exact q [] w R (Fut.refl _) .nil
def zby{es:List Expr}{fs:List Fe}(ha:PE X e (tE cl E f))(hr:PA X es (tAs cl E fs))(hs:starEach (e::es) X.env=(false,eval e X.env)::starEach es X.env):PA X (e::es) (tAs cl E (f::fs)):=by
 refine PA.imp (zcO ha hr hs) ?_;rintro σ H Q ⟨B,w,ρ,S,rfl,R,q⟩;refine ⟨B,w,ρ,S,rfl,R,?_⟩;unfold zan at q
 cases hf:f ρ S with
 | bad=>rwa [hf] at q
 | exc c S1=>rwa [hf] at q
 | ok d S1 =>
  rw [hf] at q;intro v w1 R1 F1 h1;refine ⟨B,w1,ρ,S1,rfl,R1,?_⟩;dsimp only [Out.bind] at q
  cases hh:zan fs ρ S1 with
  | bad=>rwa [hh] at q
  | exc c S2=>rw [hh] at q;exact fun w2 R2 F2=>q w2 R2 (F1.trans F2)
  | ok ds S2 =>
   rw [hh] at q;exact fun vs w2 R2 F2 h2=>q _ w2 R2 (F1.trans F2) (.cons (h1.up F2) h2)
def zoe:PA X [] (tHs cl E []):=by
 refine PA.imp ze7 ?_;rintro σ H Q ⟨B,w,ρ,S,rfl,R,q⟩;exact q [] w R (Fut.refl _) .nil
def zkE{es:List Expr}{fs:List Fe}(ha:PE X e (tH cl E f))(hr:PA X es (tHs cl E fs))(hs:starEach (e::es) X.env=(false,eval e X.env)::starEach es X.env):PA X (e::es) (tHs cl E (f::fs)):=by
 refine PA.imp (zcO ha hr hs) ?_;rintro σ H Q ⟨B,w,ρ,S,rfl,R,q⟩;refine ⟨B,w,ρ,S,rfl,R,?_⟩;unfold zan at q
 cases hf:f ρ S with
 | bad=>rwa [hf] at q
 | exc c S1=>rwa [hf] at q
 | ok d S1 =>
  rw [hf] at q;intro v w1 R1 F1 h1;refine ⟨B,w1,ρ,S1,rfl,R1,?_⟩;dsimp only [Out.bind] at q
  cases hh:zan fs ρ S1 with
  | bad=>rwa [hh] at q
  | exc c S2=>rw [hh] at q;exact fun w2 R2 F2=>q w2 R2 (F1.trans F2)
  | ok ds S2 =>
   rw [hh] at q;exact fun vs w2 R2 F2 h2=>q _ w2 R2 (F1.trans F2) (.cons (h1.up F2) h2)
def zrI{es:List Expr}{fs:List Fe}{k:Nat}(h:PA X es (tAs cl E fs)):PE X (.Tuple es k pos) (tE cl E (zcT fs)):=by
 refine PE.imp (zr9 h) ?_;rintro σ H Q ⟨B,w,ρ,S,rfl,R,q⟩;refine ⟨B,w,ρ,S,rfl,R,?_⟩;unfold zcT at q
 cases hf:zan fs ρ S with
 | bad=>rwa [hf] at q
 | exc c S1=>rwa [hf] at q
 | ok ds S1 =>
  rw [hf] at q;intro vs w1 R1 F1 h1;dsimp only [Out.bind] at q
  cases hz:small ds.length with
  | false=>rw [hz,if_neg (by decide)] at q;exact q.elim
  | true =>
   rw [hz,if_pos rfl] at q;refine ⟨by rw [h1.length];exact zbf hz,fun p hp=>?_⟩;exact q _ (w1.add p (.tup vs)) (R1.grow (zaD hp _)) (F1.trans (zaD hp _).fut) (Shd.newT hp h1)
def zrN{es:List Expr}{fs:List Fe}(h:PA X es (tAs cl E fs)):PE X (.List es pos) (tN cl E (zeF fs)):=by
 refine PE.imp (zsg h) ?_;rintro σ H Q ⟨B,w,ρ,S,rfl,R,q⟩;refine ⟨B,w,ρ,S,rfl,R,?_⟩;unfold zeF at q
 cases hf:zan fs ρ S with
 | bad=>rwa [hf] at q
 | exc c S1=>rwa [hf] at q
 | ok ds S1 =>
  rw [hf] at q;intro vs w1 R1 F1 h1;dsimp only [Out.bind] at q
  cases hz:small ds.length with
  | false=>rw [hz,if_neg (by decide)] at q;exact q.elim
  | true =>
   rw [hz,if_pos rfl] at q;refine ⟨by rw [h1.length];exact zbf hz,fun p hp=>?_⟩;exact q _ (.lst vs) w1 R1 F1 hp (.lst h1)
def zrh{fs:List Fe}{gg:List D->Option D}{r:List V->Hp->VK->Prop}(hr:∀xs H Q,(∃w ds r,w.H=H/\zmp cl w xs ds/\gg ds=some r/\∀v w',Grow w w'->Shd cl w' v r->Q v w'.H)->r xs H Q){σ:St}{H:Hp}{Q:VK}(q:tE cl E (zaz gg fs) σ H Q):tCB r (tHs cl E fs) σ H Q:=by
 obtain ⟨B,w,ρ,S,rfl,R,q⟩:=q;refine ⟨B,w,ρ,S,rfl,R,?_⟩;unfold zaz at q
 cases hf:zan fs ρ S with
 | bad=>rwa [hf] at q
 | exc c S1=>rwa [hf] at q
 | ok ds S1 =>
  rw [hf] at q;intro vs w1 R1 F1 h1;dsimp only [Out.bind] at q
  cases hg:gg ds with
  | none=>rw [hg] at q;exact q.elim
  | some d =>
   rw [hg] at q;exact hr _ _ _ ⟨w1,ds,d,rfl,h1.top R1,hg,fun v w' gr sh=>q v w' (R1.grow gr) (F1.trans gr.fut) sh⟩
def zuw{fs:List Fe}{gg:List D->Option D}{r:List V->Hp->VK->Prop}(hr:∀xs H Q,(∃w ds r,w.H=H/\zmp cl w xs ds/\gg ds=some r/\∀p o w',Grow w w'->w'.H p=none->Top cl w' o r->Q (.ref p) (upd w'.H p o))->r xs H Q){σ:St}{H:Hp}{Q:VK}(q:tN cl E (zaz gg fs) σ H Q):tCB r (tHs cl E fs) σ H Q:=by
 obtain ⟨B,w,ρ,S,rfl,R,q⟩:=q;refine ⟨B,w,ρ,S,rfl,R,?_⟩;unfold zaz at q
 cases hf:zan fs ρ S with
 | bad=>rwa [hf] at q
 | exc c S1=>rwa [hf] at q
 | ok ds S1 =>
  rw [hf] at q;intro vs w1 R1 F1 h1;dsimp only [Out.bind] at q
  cases hg:gg ds with
  | none=>rw [hg] at q;exact q.elim
  | some d =>
   rw [hg] at q;exact hr _ _ _ ⟨w1,ds,d,rfl,h1.top R1,hg,fun p o w' gr hp t=>q p o w' (R1.grow gr) (F1.trans gr.fut) hp t⟩
end
end S2
namespace S2
open PySem PySem.Spec PyProof.Rows L2
def Root.out:Option Root->Option Root | some (.slot _)=>some .far | o=>o
def Root.out_none{o:Option Root}:Root.out o=none↔o=none:=by
 cases o with
 | none=>exact ⟨fun h=>h,fun h=>h⟩
 | some r=>cases r<;>simp [Root.out]
def zfk:Option Root->Bool | some (.fld _ _)=>true | some (.obj _)=>true | _=>false
def Wd.inn(w:Wd):Wd:=⟨w.H,fun a=>Root.out (w.ow a),w.mu⟩
def Wd.base(w:Wd):Base:=⟨fun a=>if zfk (w.ow a)=true then none else w.H a,fun a=>Root.out (w.ow a)⟩
def Wd.back(w w':Wd):Wd:=⟨w'.H,fun a=>if (w.base.Fr a).isSome=true then w.ow a else Root.out (w'.ow a),w'.mu⟩
def zcA(w:Wd):Fut w w.inn:=⟨fun a o h k=>⟨h,by show Root.out (w.ow a)=none;rw [k];rfl⟩,fun _ _ h=>h⟩
def zhR{w:Wd}{a:Addr}{o:HO}(h:w.H a=some o)(k:zfk (w.ow a)=false):w.base.Fr a=some o:=by
 show (if zfk (w.ow a)=true then none else w.H a)=_;rw [k,if_neg (by decide)];exact h
def zpL{w:Wd}{a:Addr}{o:HO}(h:w.base.Fr a=some o):w.H a=some o/\zfk (w.ow a)=false:=by
 have h':(if zfk (w.ow a)=true then none else w.H a)=some o:=h;split at h'
 ·cases h'
 ·rename_i z;exact ⟨h',by simpa using z⟩
section
variable{cl:Cf}{B:Base}{σ:St}{w w':Wd}{ρ:Env}{S S':Sto}
def World'.enter(W:World' cl B w S):World' cl w.base w.inn S where
 fr:=fun a o h=>⟨(zpL h).1,rfl⟩
 own:=fun a r h=>by
  have h':Root.out (w.ow a)=some r:=h
  cases e:w.ow a with
  | none=>rw [e] at h';cases h'
  | some q =>
   cases q with
   | slot i=>rw [e] at h';cases h';exact .inl rfl
   | far=>rw [e] at h';cases h';exact .inl rfl
   | fld n f=>exact .inr (by show (if zfk (w.ow a)=true then none else w.H a)=none;rw [e];rfl)
   | obj n=>exact .inr (by show (if zfk (w.ow a)=true then none else w.H a)=none;rw [e];rfl)
 len:=W.len
 obj:=fun n ob h=>by
  obtain ⟨a,e,x⟩:=W.obj n ob h;refine ⟨a,e,x.keep (zcA w) fun a o ha hn=>⟨ha,?_⟩⟩;show Root.out (w.ow a)=w.ow a
  cases e:w.ow a with
  | none=>rfl
  | some q=>cases q with
   | slot i=>rw [e] at hn;exact hn.elim
   | _=>rfl
def zdK(W:World' cl B w S){a:Addr}{o:HO}(h:B.Fr a=some o):w.base.Fr a=some o:=by
 refine zhR (W.fr a o h).1 ?_
 cases e:w.ow a with
 | none=>rfl
 | some q =>
  rcases W.own a q e with rfl | z
  ·rfl
  ·rw [h] at z;cases z
def zdm(W':World' cl w.base w' S'):Fut w' (w.back w') where
 keep:=fun a o h k=>by
  refine ⟨h,?_⟩;show (if (w.base.Fr a).isSome=true then w.ow a else Root.out (w'.ow a))=none;split
  ·rename_i z;obtain ⟨u,hu⟩:=Option.isSome_iff_exists.mp z;have:=(W'.fr a u hu).2;rw [k] at this;exact Root.out_none.mp this.symm
  ·rw [k];rfl
 mu:=fun _ _ h=>h
def Rel.leave(R:Rel cl B σ w ρ S)(W':World' cl w.base w' S')(F:Fut w.inn w'):Rel cl B σ (w.back w') ρ S'/\Fut w (w.back w'):=by
 have fb:=zdm W';have ff:Fut w (w.back w'):=(zcA w).trans (F.trans fb)
 have in_:∀a o,w.base.Fr a=some o->(w.back w').H a=some o/\(w.back w').ow a=w.ow a:=fun a o h=>by
  refine ⟨(W'.fr a o h).1,?_⟩;show (if (w.base.Fr a).isSome=true then w.ow a else _)=_;rw [h];rfl
 refine ⟨⟨⟨fun a o h=>?_,fun a r h=>?_,W'.len,fun n ob h=>?_⟩,R.len,fun i o d h=>?_⟩,ff⟩
 ·have:=in_ a o (zdK R.wd h);exact ⟨this.1,this.2.trans (R.wd.fr a o h).2⟩
 ·cases hb:B.Fr a with
  | none=>exact .inr rfl
  | some o =>
   have:=(in_ a o (zdK R.wd hb)).2;rw [h] at this
   rcases R.wd.own a r this.symm with z | z
   ·exact .inl z
   ·rw [hb] at z;cases z
 ·obtain ⟨a,e,x⟩:=W'.obj n ob h;refine ⟨a,e,x.keep fb fun a o ha hn=>⟨ha,?_⟩⟩;show (if (w.base.Fr a).isSome=true then w.ow a else Root.out (w'.ow a))=_
  cases e:w'.ow a with
  | none=>rw [e] at hn;exact hn.elim
  | some q =>
   rcases W'.own a q e with rfl | z
   ·rw [e] at hn;exact hn.elim
   ·rw [z]
    cases q with
    | slot i=>rw [e] at hn;exact hn.elim
    | _=>rfl
 ·obtain ⟨v,e,x⟩:=R.slots i o d h;refine ⟨v,e,x.keep ff fun a u ha hr=>?_⟩;have:=in_ a u (zhR ha (by rw [hr];rfl));exact ⟨this.1,this.2.trans hr⟩
def Wd.del(w:Wd)(a:Addr):Wd:=⟨fun b=>if b=a then none else w.H b,w.ow,w.mu⟩
def zin{a:Addr}(k:w.ow a≠none):Fut w (w.del a) where
 keep:=fun b o h e=>⟨by
  show (if b=a then none else w.H b)=_
  rw [if_neg (fun z=>k (by rw [<-z];exact e))];exact h,e⟩
 mu:=fun _ _ h=>h
def zkn{a:Addr}{o:HO}(h:w.H a=some o):upd (w.del a).H a o=w.H:=by
 funext b
 by_cases e:b=a
 ·rw [e,zaW,h]
 ·rw [zaq e];show (if b=a then none else w.H b)=_;rw [if_neg e]
theorem Rel.del{a:Addr}(R:Rel cl B σ w ρ S)(k:w.ow a=some .far)(hb:B.Fr a=none):Rel cl B σ (w.del a) ρ S:=by
 have fd:Fut w (w.del a):=zin (by rw [k];exact yaV _)
 have kp:∀b o,w.H b=some o->b≠a->(w.del a).H b=some o:=fun b o h n=>by
  show (if b=a then none else w.H b)=_;rw [if_neg n];exact h
 refine ⟨⟨fun b o h=>⟨kp b o (R.wd.fr b o h).1 (fun z=>by rw [z,hb] at h;cases h),(R.wd.fr b o h).2⟩,R.wd.own,R.wd.len,fun n ob h=>?_⟩,R.len,fun i o d h=>?_⟩
 ·obtain ⟨c,e,x⟩:=R.wd.obj n ob h;exact ⟨c,e,x.keep fd fun b o hb' hn=>⟨kp b o hb' (fun z=>by rw [z,k] at hn;exact hn.elim),rfl⟩⟩
 ·obtain ⟨v,e,x⟩:=R.slots i o d h;exact ⟨v,e,x.keep fd fun b o hb' hr=>⟨kp b o hb' (fun z=>by rw [z,k] at hr;cases hr),hr⟩⟩
end
def zxC(cl:Cf)(w:Wd):Bool->V->D->Prop
 | false,v,d=>Shd cl w v d
 | true,v,d=>∃a o i,v=.ref a/\w.ow a=some (.slot i)/\w.H a=some o/\Top cl w o d
def zg0(cl:Cf)(n:Nat)(own:Bool)(G:List D->Sto->Out D):Sp:=fun vs H Q E=>vs.length=n/\∃B w ds S,w.H=H/\World' cl B w S/\Shds cl w vs ds/\match G ds S with
 | .ok d S'=>∀v w',World' cl B w' S'->Fut w w'->zxC cl w' own v d->Q v w'.H
 | .exc c S'=>∀w',World' cl B w' S'->Fut w w'->E (.ref (cl c)) none w'.H
 | .bad=>False
def zdi(CX:CXT)(X:Cx)(E:St->XK):Prop:=∀(pins:Z3) (σ:St) (H:Hp) (s:Shared) (e:Value) (s':Shared),Inv X pins σ H s->CX X.stack H s (E σ) e s'->X.xe e s'
def zgX(sp:Sp)(dvs:List V)(E:St->XK)(t:TA):TE:=fun σ H Q=>t σ H fun vs H1=>sp (vs++dvs) H1 Q (E σ)
section
variable{X:Cx}{CX:CXT}{k:Nat}{f C:Addr}{fd:FuncData}{ps:List Str}{sp:Sp}{dvs:List V}{ds:List Value}{E:St->XK}{x m:Str}{p pos apos:Pos}{e o:Expr}{es:List Expr}{ta:TE}{t:TA}
def zgk{pins:Z3}{σ:St}{H:Hp}{s:Shared}{Q:VK}{us:List Value}{vs:List V}(F:FnOk X.prog X.w X.K X.mg X.base CX k f fd ps sp)(hr:Room k X.A)(hb:zbQ X.K fd ps ds)(hd:Vals dvs ds)(hx:zdi CX X E)
  (I:Inv X pins σ H s) (r:Vals vs us) (h:sp (vs++dvs) H Q (E σ)):wpAny (model X.prog X.w) X.A (call (.ref f) us) (EP X pins σ Q) X.xe s:=by
 have r2:Vals (vs++dvs) (us++ds):=r.append hd
 have hl:(us++ds).length=ps.length:=by rw [<-r2.length];exact F.len _ _ _ _ h
 refine wpAny_call (codeAny_mono (F.run X.A X.stack s H ⟨us,[]⟩ (us++ds) (vs++dvs) Q (E σ) hr I.env0 (hb s us I.kIn hl) r2 h) fun r s' hq=>?_)
 cases r with
 | error e=>exact hx pins σ H s e s' I hq
 | ok fl =>
  cases fl with
  | ret u=>exact I.after hq
  | next=>exact False.elim hq
  | brk=>exact False.elim hq
  | cont=>exact False.elim hq
def znb(F:FnOk X.prog X.w X.K X.mg X.base CX k f fd ps sp)(hr:Room k X.A)(hg:Gl X x)(hm:X.mg x=some (.ref f))(hk:PySem.W.keepIn X.K (.ref f)=true)(hb:zbQ X.K fd ps ds)(hd:Vals dvs ds)(hx:zdi CX X E)
  (ha:PA X (e::es) t) (hdb:(x == ("__debug__":Str))=false) (he:starEach (e::es) X.env=(false,eval e X.env)::starEach es X.env) (hpl:(backTo pos (starEach es X.env)).any (·.1)=false) :
  PE X (.Call (.Name x p) (e::es) [] pos) (zgX sp dvs E t):=by
 intro pins s σ H Q I h;refine ybV (zej I hg hm ?_ hdb);refine ycT (h₀:=X.base) I.ok.mod.kin hk (thn (ha pos pins s σ H _ I h) fun us s1 ⟨vs,H1,I1,r,q⟩=>⟨I1.kIn,?_⟩) he hpl;exact zgk F hr hb hd hx I1 r q
def zk8(F:FnOk X.prog X.w X.K X.mg X.base CX k f fd ps sp)(hr:Room k X.A)(hg:Gl X x)(hm:X.mg x=some (.ref f))(hk:PySem.W.keepIn X.K (.ref f)=true)(hb:zbQ X.K fd ps ds)(hd:Vals dvs ds)(hx:zdi CX X E)
  (hdb:(x == ("__debug__":Str))=false):PE X (.Call (.Name x p) [] [] pos) (zgX sp dvs E zup):=by
 intro pins s σ H Q I h;refine ybV (zej I hg hm ?_ hdb);exact PySem.W.callWith_K0 I.kIn hk (zgk (us:=[]) F hr hb hd hx I .nil h)
end
def eFn(G:List D->Sto->Out D)(fs:List Fe):Fe:=fun ρ S=>(zan fs ρ S).bind fun ds S1=>G ds S1
section
variable{cl:Cf}{E:St->XK}{fs:List Fe}{G:List D->Sto->Out D}{σ:St}{H:Hp}{Q:VK}{n:Nat}
def zts(q:tE cl E (eFn G fs) σ H Q)(hn:fs.length=n):zgX (zg0 cl n false G) [] E (tAs cl E fs) σ H Q:=by
 obtain ⟨B,w,ρ,S,rfl,R,q⟩:=q;refine ⟨B,w,ρ,S,rfl,R,?_⟩;unfold eFn at q
 cases hf:zan fs ρ S with
 | bad=>rwa [hf] at q
 | exc c S1=>rwa [hf] at q
 | ok ds S1 =>
  rw [hf] at q;intro vs w1 R1 F1 h1;dsimp only [Out.bind] at q
  have hl:∀(fs:List Fe) (S S1:Sto) (ds:List D),zan fs ρ S=.ok ds S1->ds.length=fs.length:=by
   intro fs
   induction fs with
   | nil=>intro S S1 ds h;cases h;rfl
   | cons f fs ih =>
    intro S S1 ds h;unfold zan at h
    cases h1:f ρ S with
    | bad=>rw [h1] at h;cases h
    | exc c S2=>rw [h1] at h;cases h
    | ok d S2 =>
     rw [h1] at h;dsimp only [Out.bind] at h
     cases h2:zan fs ρ S2 with
     | bad=>rw [h2] at h;cases h
     | exc c S3=>rw [h2] at h;cases h
     | ok es S3=>rw [h2] at h;cases h;rw [yai,yai,ih S2 _ es h2]
  refine ⟨by rw [yaY,h1.length,hl fs S S1 ds hf];exact hn,w1.base,w1.inn,ds,S1,rfl,R1.wd.enter,by rw [yaY];exact h1.up (zcA w1),?_⟩
  cases hg:G ds S1 with
  | bad=>rwa [hg] at q
  | exc c S2 =>
   rw [hg] at q;intro w2 W2 F2;obtain ⟨R3,F3⟩:=R1.leave W2 F2;exact q (w1.back w2) R3 (F1.trans F3)
  | ok d S2 =>
   rw [hg] at q;intro v w2 W2 F2 r2;obtain ⟨R3,F3⟩:=R1.leave W2 F2;exact q v (w1.back w2) R3 (F1.trans F3) (Shd.up (zdm W2) r2)
def ztr(q:tN cl E (eFn G fs) σ H Q)(hn:fs.length=n):zgX (zg0 cl n true G) [] E (tAs cl E fs) σ H Q:=by
 obtain ⟨B,w,ρ,S,rfl,R,q⟩:=q;refine ⟨B,w,ρ,S,rfl,R,?_⟩;unfold eFn at q
 cases hf:zan fs ρ S with
 | bad=>rwa [hf] at q
 | exc c S1=>rwa [hf] at q
 | ok ds S1 =>
  rw [hf] at q;intro vs w1 R1 F1 h1;dsimp only [Out.bind] at q
  have hl:∀(fs:List Fe) (S S1:Sto) (ds:List D),zan fs ρ S=.ok ds S1->ds.length=fs.length:=by
   intro fs
   induction fs with
   | nil=>intro S S1 ds h;cases h;rfl
   | cons f fs ih =>
    intro S S1 ds h;unfold zan at h
    cases h1:f ρ S with
    | bad=>rw [h1] at h;cases h
    | exc c S2=>rw [h1] at h;cases h
    | ok d S2 =>
     rw [h1] at h;dsimp only [Out.bind] at h
     cases h2:zan fs ρ S2 with
     | bad=>rw [h2] at h;cases h
     | exc c S3=>rw [h2] at h;cases h
     | ok es S3=>rw [h2] at h;cases h;rw [yai,yai,ih S2 _ es h2]
  refine ⟨by rw [yaY,h1.length,hl fs S S1 ds hf];exact hn,w1.base,w1.inn,ds,S1,rfl,R1.wd.enter,by rw [yaY];exact h1.up (zcA w1),?_⟩
  cases hg:G ds S1 with
  | bad=>rwa [hg] at q
  | exc c S2 =>
   rw [hg] at q;intro w2 W2 F2;obtain ⟨R3,F3⟩:=R1.leave W2 F2;exact q (w1.back w2) R3 (F1.trans F3)
  | ok d S2 =>
   rw [hg] at q;intro v w2 W2 F2 r2;obtain ⟨R3,F3⟩:=R1.leave W2 F2;obtain ⟨a,o,i,rfl,k1,k2,t⟩:=r2;have hfr:w1.base.Fr a=none:=(W2.own a _ k1).elim (fun z=>by cases z) fun z=>z
   have k3:(w1.back w2).ow a=some .far:=by
    show (if (w1.base.Fr a).isSome=true then w1.ow a else Root.out (w2.ow a))=_;rw [hfr,k1];rfl
   have hb:B.Fr a=none:=by
    cases z:B.Fr a with
    | none=>rfl
    | some u=>rw [zdK R1.wd z] at hfr;cases hfr
   have hd:=zin (w:=w1.back w2) (a:=a) (by rw [k3];exact yaV _);have:=q a o ((w1.back w2).del a) (R3.del k3 hb) (F1.trans (F3.trans hd)) (if_pos rfl) ((t.up (zdm W2)).up hd);rwa [zkn (w:=w1.back w2) k2] at this
end
end S2
namespace S2
open PySem PySem.Spec PyProof.Rows L2
def frz1(ρ:Env)(i:Nat):Env:=match ρ[i]? with | some (some (true,d))=>ρ.set i (some (false,d)) | _=>ρ
def frz(is:List Nat)(ρ:Env):Env:=is.foldl frz1 ρ
def sFz(is:List Nat)(f:Fs):Fs:=fun ρ S=>f (frz is ρ) S
def sNx:Fs:=fun ρ S=>.nx ρ S
def sBk:Fs:=fun ρ S=>.bk ρ S
def zaj(f g:Fs):Fs:=fun ρ S=>match f ρ S with | .nx ρ' S'=>g ρ' S' | o=>o
def za6(i:Nat)(own:Bool)(f:Fe):Fs:=fun ρ S=>match f ρ S with | .ok d S'=>.nx (ρ.set i (some (own,d))) S' | .exc c S'=>.ex c ρ S' | .bad=>.bad
def zmQ(f:Fe):Fs:=fun ρ S=>match f ρ S with | .ok _ S'=>.nx ρ S' | .exc c S'=>.ex c ρ S' | .bad=>.bad
def zbx(f:Fe):Fs:=fun ρ S=>match f ρ S with | .ok d S'=>.rt d S' | .exc c S'=>.ex c ρ S' | .bad=>.bad
def zmP:Fs:=fun _ S=>.rt .non S
def zjE(i:Nat):Fs:=fun ρ S=>match ρ[i]? with | some (some (true,d))=>.rt d S | _=>.bad
def sIf(c:Fe)(f g:Fs):Fs:=fun ρ S=>match c ρ S with | .ok d S'=>(match isB d with | some true=>f ρ S' | some false=>g ρ S' | none=>.bad) | .exc x S'=>.ex x ρ S' | .bad=>.bad
def zjt(cl:Cf)(E:St->XK)(own:Bool)(B:Base)(w:Wd)(De:Ends):Fo->Prop
 | .nx ρ' S'=>∀σ' w',Rel cl B σ' w' ρ' S'->Fut w w'->De.nx σ' w'.H
 | .bk ρ' S'=>∀σ' w',Rel cl B σ' w' ρ' S'->Fut w w'->De.bk σ' w'.H
 | .ct ρ' S'=>∀σ' w',Rel cl B σ' w' ρ' S'->Fut w w'->De.ct σ' w'.H
 | .rt d S'=>∀v w',World' cl B w' S'->Fut w w'->zxC cl w' own v d->De.rt v w'.H
 | .ex c ρ' S'=>∀σ' w',Rel cl B σ' w' ρ' S'->Fut w w'->E σ' (.ref (cl c)) none w'.H
 | .bad=>False
theorem zjt.up{cl:Cf}{E:St->XK}{own:Bool}{B:Base}{w w1:Wd}{De:Ends}(f:Fut w w1):∀{o:Fo},zjt cl E own B w De o->zjt cl E own B w1 De o
 | .nx _ _,h=>fun σ' w' R F=>h σ' w' R (f.trans F)
 | .bk _ _,h=>fun σ' w' R F=>h σ' w' R (f.trans F)
 | .ct _ _,h=>fun σ' w' R F=>h σ' w' R (f.trans F)
 | .rt _ _,h=>fun v w' R F=>h v w' R (f.trans F)
 | .ex _ _ _,h=>fun σ' w' R F=>h σ' w' R (f.trans F)
 | .bad,h=>h
def tS(cl:Cf)(E:St->XK)(own:Bool)(f:Fs):TS:=fun De σ H=>∃B w ρ S,w.H=H/\Rel cl B σ w ρ S/\zjt cl E own B w De (f ρ S)
def PS.imp{X:Cx}{st:Stmt}{t t':TS}(h:PS X st t)(i:∀De σ H,t' De σ H->t De σ H):PS X st t':=fun pins s σ H De I q=>h pins s σ H De I (i _ _ _ q)
def PSs.imp{X:Cx}{st:List Stmt}{t t':TS}(h:PSs X st t)(i:∀De σ H,t' De σ H->t De σ H):PSs X st t':=fun pins s σ H De I q=>h pins s σ H De I (i _ _ _ q)
section
variable{cl:Cf}{B:Base}{σ:St}{w:Wd}{ρ:Env}{S:Sto}
def Rel.put{i:Nat}{v:V}{d:D}(R:Rel cl B σ w ρ S)(h:Shd cl w v d):Rel cl B (σ.set i (some v)) w (ρ.set i (some (false,d))) S where
 wd:=R.wd
 len:=by rw [yaJ,yaJ];exact R.len
 slots:=fun j o e hj=>by
  by_cases hij:i=j
  ·subst hij
   have hlt:i<ρ.length:=by
    have:=(yag.mp hj).1;rwa [yaJ] at this
   rw [yaA hlt] at hj;cases hj;exact ⟨v,by rw [yaA (by rw [R.len];exact hlt)],h⟩
  ·rw [yaP hij] at hj ⊢;exact R.slots j o e hj
def Wd.addAs(w:Wd)(p:Addr)(o:HO)(r:Root):Wd:=⟨upd w.H p o,fun a=>if a=p then some r else if w.ow a=some r then some .far else w.ow a,w.mu⟩
def zfp{p:Addr}{o:HO}{r:Root}(h:w.H p=none):Fut w (w.addAs p o r) where
 keep:=fun a u ha hk=>by
  have n:a≠p:=zaC ha h;refine ⟨?_,?_⟩
  ·show upd w.H p o a=_;rw [zaq n];exact ha
  ·show (if a=p then some r else if w.ow a=some r then some Root.far else w.ow a)=none;rw [if_neg n,if_neg (by rw [hk];exact fun z=>by cases z)];exact hk
 mu:=fun _ _ h=>h
theorem Rel.own{i:Nat}{p:Addr}{o:HO}{d:D}(R:Rel cl B σ w ρ S)(hp:w.H p=none)(t:Top cl w o d):Rel cl B (σ.set i (some (.ref p))) (w.addAs p o (.slot i)) (ρ.set i (some (true,d))) S:=by
 have ff:=zfp (w:=w) (p:=p) (o:=o) (r:=.slot i) hp
 have kp:∀a u,w.H a=some u->w.ow a≠some (.slot i)->(w.addAs p o (.slot i)).H a=some u/\(w.addAs p o (.slot i)).ow a=w.ow a:=fun a u ha hk=>by
  have n:a≠p:=zaC ha hp;refine ⟨?_,?_⟩
  ·show upd w.H p o a=_;rw [zaq n];exact ha
  ·show (if a=p then _ else if w.ow a=some (Root.slot i) then some Root.far else w.ow a)=_;rw [if_neg n,if_neg hk]
 have hBp:B.Fr p=none:=by
  cases z:B.Fr p with
  | none=>rfl
  | some u=>have:=(R.wd.fr p u z).1;rw [hp] at this;cases this
 refine ⟨⟨fun a u h=>?_,fun a r h=>?_,R.wd.len,fun n ob h=>?_⟩,by rw [yaJ,yaJ];exact R.len,fun j b e hj=>?_⟩
 ·have hne:w.ow a≠some (.slot i):=fun z=>by
   rcases R.wd.own a _ z with y | y
   ·cases y
   ·rw [h] at y;cases y
  have:=kp a u (R.wd.fr a u h).1 hne;exact ⟨this.1,this.2.trans (R.wd.fr a u h).2⟩
 ·have h':(if a=p then some (Root.slot i) else if w.ow a=some (Root.slot i) then some Root.far else w.ow a)=some r:=h;split at h'
  ·rename_i e;rw [e];exact .inr hBp
  ·split at h'
   ·cases h';exact .inl rfl
   ·exact R.wd.own a r h'
 ·obtain ⟨a,e,x⟩:=R.wd.obj n ob h;exact ⟨a,e,x.keep ff fun b u hb hn=>kp b u hb fun z=>by rwa [z] at hn⟩
 ·by_cases hij:i=j
  ·subst hij
   have hlt:i<ρ.length:=by
    have:=(yag.mp hj).1;rwa [yaJ] at this
   rw [yaA hlt] at hj;cases hj;exact ⟨.ref p,by rw [yaA (by rw [R.len];exact hlt)],p,o,rfl,if_pos rfl,zaW,t.up ff⟩
  ·rw [yaP hij] at hj ⊢;obtain ⟨v,e1,x⟩:=R.slots j b e hj;refine ⟨v,e1,x.keep ff fun a u ha hr=>?_⟩;have:=kp a u ha (by rw [hr];exact fun z=>hij (by cases z;rfl));exact ⟨this.1,this.2.trans hr⟩
def Wd.mut(w:Wd)(p:Addr)(o:HO):Wd:=⟨upd w.H p o,w.ow,w.mu⟩
def zfo{p:Addr}{o:HO}(h:w.ow p≠none):Fut w (w.mut p o) where
 keep:=fun a u ha hk=>⟨by
  show upd w.H p o a=_
  rw [zaq (fun z=>h (by rw [<-z];exact hk))];exact ha,hk⟩
 mu:=fun _ _ h=>h
theorem Rel.mut{i:Nat}{p:Addr}{o:HO}{d d0:D}(R:Rel cl B σ w ρ S)(hs:σ[i]?=some (some (.ref p)))(hk:w.ow p=some (.slot i))(t:Top cl w o d):Rel cl B σ (w.mut p o) (ρ.set i (some (true,d))) S:=by
 have ff:=zfo (w:=w) (p:=p) (o:=o) (by rw [hk];exact yaV _)
 have kp:∀a u,w.H a=some u->w.ow a≠some (.slot i)->(w.mut p o).H a=some u/\(w.mut p o).ow a=w.ow a:=fun a u ha hn=>⟨by
  show upd w.H p o a=_
  rw [zaq (fun z=>hn (by rw [z];exact hk))];exact ha,rfl⟩
 have hBp:B.Fr p=none:=(R.wd.own p _ hk).elim (fun z=>by cases z) fun z=>z
 refine ⟨⟨fun a u h=>?_,R.wd.own,R.wd.len,fun n ob h=>?_⟩,by rw [yaJ];exact R.len,fun j b e hj=>?_⟩
 ·have hne:w.ow a≠some (.slot i):=fun z=>by
   rcases R.wd.own a _ z with y | y
   ·cases y
   ·rw [h] at y;cases y
  have:=kp a u (R.wd.fr a u h).1 hne;exact ⟨this.1,(R.wd.fr a u h).2⟩
 ·obtain ⟨a,e,x⟩:=R.wd.obj n ob h;exact ⟨a,e,x.keep ff fun b u hb hn=>kp b u hb fun z=>by rwa [z] at hn⟩
 ·by_cases hij:i=j
  ·subst hij
   have hlt:i<ρ.length:=by
    have:=(yag.mp hj).1;rwa [yaJ] at this
   rw [yaA hlt] at hj;cases hj;exact ⟨.ref p,hs,p,o,rfl,hk,zaW,t.up ff⟩
  ·rw [yaP hij] at hj;obtain ⟨v,e1,x⟩:=R.slots j b e hj;refine ⟨v,e1,x.keep ff fun a u ha hr=>?_⟩;have:=kp a u ha (by rw [hr];exact fun z=>hij (by cases z;rfl));exact ⟨this.1,this.2.trans hr⟩
def Wd.free(w:Wd)(r:Root):Wd:=⟨w.H,fun a=>if w.ow a=some r then none else w.ow a,w.mu⟩
def znF{r:Root}:Fut w (w.free r) where
 keep:=fun a u ha hk=>⟨ha,by
  show (if w.ow a=some r then none else w.ow a)=none
  rw [hk];rfl⟩
 mu:=fun _ _ h=>h
theorem Top.shd{o:HO}{d:D}{a:Addr}(h:w.H a=some o)(k:w.ow a=none):Top cl w o d->Shd cl w (.ref a) d
 | .lst t=>.lst h k t
 | .dicK t=>.dicK h k t
theorem Rel.frz1(R:Rel cl B σ w ρ S)(i:Nat):∃w',w'.H=w.H/\Fut w w'/\Rel cl B σ w' (frz1 ρ i) S:=by
 unfold S2.frz1;split
 ·rename_i d hd;have ff:=znF (w:=w) (r:=.slot i);have kp:∀a u,w.H a=some u->w.ow a≠some (.slot i)->(w.free (.slot i)).H a=some u/\(w.free (.slot i)).ow a=w.ow a:=fun a u ha hn=>⟨ha,if_neg hn⟩
  refine ⟨w.free (.slot i),rfl,ff,⟨fun a u h=>?_,fun a r h=>?_,R.wd.len,fun n ob h=>?_⟩,by rw [yaJ];exact R.len,fun j b e hj=>?_⟩
  ·have hne:w.ow a≠some (.slot i):=fun z=>by
    rcases R.wd.own a _ z with y | y
    ·cases y
    ·rw [h] at y;cases y
   have:=kp a u (R.wd.fr a u h).1 hne;exact ⟨this.1,this.2.trans (R.wd.fr a u h).2⟩
  ·have h':(if w.ow a=some (Root.slot i) then none else w.ow a)=some r:=h;split at h'
   ·cases h'
   ·exact R.wd.own a r h'
  ·obtain ⟨a,e,x⟩:=R.wd.obj n ob h;exact ⟨a,e,x.keep ff fun b u hb hn=>kp b u hb fun z=>by rwa [z] at hn⟩
  ·by_cases hij:i=j
   ·subst hij;have hlt:i<ρ.length:=(yag.mp hd).1;rw [yaA hlt] at hj;cases hj;obtain ⟨v,e1,a,o,rfl,h1,h2,t⟩:=R.slots i true d hd;refine ⟨.ref a,e1,(t.up ff).shd h2 ?_⟩;show (if w.ow a=some (Root.slot i) then none else w.ow a)=none;rw [if_pos h1]
   ·rw [yaP hij] at hj;obtain ⟨v,e1,x⟩:=R.slots j b e hj;refine ⟨v,e1,x.keep ff fun a u ha hr=>?_⟩;have:=kp a u ha (by rw [hr];exact fun z=>hij (by cases z;rfl));exact ⟨this.1,this.2.trans hr⟩
 ·exact ⟨w,rfl,Fut.refl _,R⟩
theorem Rel.frz:∀(is:List Nat) {w:Wd} {ρ:Env},Rel cl B σ w ρ S->∃w',w'.H=w.H/\Fut w w'/\Rel cl B σ w' (frz is ρ) S
 | [],w,ρ,R=>⟨w,rfl,Fut.refl _,R⟩
 | i::is,w,ρ,R=>by
  obtain ⟨w1,e1,f1,R1⟩:=R.frz1 i;obtain ⟨w2,e2,f2,R2⟩:=Rel.frz is R1;exact ⟨w2,e2.trans e1,f1.trans f2,R2⟩
end
section
variable{X:Cx}{cl:Cf}{E:St->XK}{own:Bool}{st:Stmt}{zco:List Stmt}{f g:Fs}{e:Expr}{fe:Fe}{pos pos':Pos}
def zuB(is:List Nat)(h:PS X st (tS cl E own f)):PS X st (tS cl E own (sFz is f)):=by
 refine PS.imp h ?_;rintro De σ H ⟨B,w,ρ,S,rfl,R,q⟩;obtain ⟨w',e',f',R'⟩:=R.frz is;exact ⟨B,w',frz is ρ,S,e',R',zjt.up f' q⟩
def zrs:PSs X [] (tS cl E own sNx):=by
 refine PSs.imp zps ?_;rintro De σ H ⟨B,w,ρ,S,rfl,R,q⟩;exact q σ w R (Fut.refl _)
def zo6(h1:PS X st (tS cl E own f))(h2:PSs X zco (tS cl E own g)):PSs X (st::zco) (tS cl E own (zaj f g)):=by
 refine PSs.imp (zmY h1 h2) ?_;rintro De σ H ⟨B,w,ρ,S,rfl,R,q⟩;refine ⟨B,w,ρ,S,rfl,R,?_⟩;unfold zaj at q
 cases hf:f ρ S with
 | nx ρ' S' =>
  rw [hf] at q;intro σ' w' R' F';exact ⟨B,w',ρ',S',rfl,R',zjt.up F' q⟩
 | bk ρ' S'=>rwa [hf] at q
 | ct ρ' S'=>rwa [hf] at q
 | rt d S'=>rwa [hf] at q
 | ex c ρ' S'=>rwa [hf] at q
 | bad=>rwa [hf] at q
def zo3:PS X (.Pass pos) (tS cl E own sNx):=by
 refine PS.imp zpv ?_;rintro De σ H ⟨B,w,ρ,S,rfl,R,q⟩;exact q σ w R (Fut.refl _)
def zrv:PS X (.Break pos) (tS cl E own sBk):=by
 refine PS.imp zm0 ?_;rintro De σ H ⟨B,w,ρ,S,rfl,R,q⟩;exact q σ w R (Fut.refl _)
def zvG{i:Nat}{De:Ends}{σ:St}{H:Hp}(q:tS cl E own (za6 i false fe) De σ H):zoX (tE cl E fe) (zjW i) De σ H:=by
 obtain ⟨B,w,ρ,S,rfl,R,q⟩:=q;refine ⟨B,w,ρ,S,rfl,R,?_⟩;unfold za6 at q
 cases hf:fe ρ S with
 | bad=>rwa [hf] at q
 | exc c S1=>rw [hf] at q;exact fun w' R' F'=>q σ w' R' F'
 | ok d S1 =>
  rw [hf] at q;intro v w' R' F' h';exact q _ w' (R'.put h') F'
def ztx{i:Nat}{De:Ends}{σ:St}{H:Hp}(q:tS cl E own (za6 i true fe) De σ H):zoX (tN cl E fe) (zjW i) De σ H:=by
 obtain ⟨B,w,ρ,S,rfl,R,q⟩:=q;refine ⟨B,w,ρ,S,rfl,R,?_⟩;unfold za6 at q
 cases hf:fe ρ S with
 | bad=>rwa [hf] at q
 | exc c S1=>rw [hf] at q;exact fun w' R' F'=>q σ w' R' F'
 | ok d S1 =>
  rw [hf] at q;intro p o w' R' F' hp t;exact q _ (w'.addAs p o (.slot i)) (R'.own hp t) (F'.trans (zfp hp))
def zrx{i:Nat}{x:Str}(hN:X.N.Nodup)(hi:X.N[i]?=some x)(hx:Loc X.env.scope x)(he:PE X e (tE cl E fe))(hs:swapsWith e (some (.Name x pos')) pos.line X.env=pure false)(hf:X.fn x=true\/X.env.scope.names.lookup x=some .local):PS X (.Assign [.Name x pos'] e pos) (tS cl E own (za6 i false fe)) :=
 PS.imp (zkW hN hi hx he hs hf) fun _ _ _ q=>zvG q
def zkA{i:Nat}{x:Str}(hN:X.N.Nodup)(hi:X.N[i]?=some x)(hx:Loc X.env.scope x)(he:PE X e (tN cl E fe))(hs:swapsWith e (some (.Name x pos')) pos.line X.env=pure false)(hf:X.fn x=true\/X.env.scope.names.lookup x=some .local):PS X (.Assign [.Name x pos'] e pos) (tS cl E own (za6 i true fe)) :=
 PS.imp (zkW hN hi hx he hs hf) fun _ _ _ q=>ztx q
def zod(he:PE X e (tE cl E fe))(hs:swapsWith e none pos.line X.env=pure false):PS X (.Expr e pos) (tS cl E own (zmQ fe)):=by
 refine PS.imp (zie he hs) ?_;rintro De σ H ⟨B,w,ρ,S,rfl,R,q⟩;refine ⟨B,w,ρ,S,rfl,R,?_⟩;unfold zmQ at q
 cases hf:fe ρ S with
 | bad=>rwa [hf] at q
 | exc c S1=>rw [hf] at q;exact fun w' R' F'=>q σ w' R' F'
 | ok d S1=>rw [hf] at q;exact fun v w' R' F' _=>q σ w' R' F'
def zrr(he:PE X e (tE cl E fe)):PS X (.Return (some e) pos) (tS cl E false (zbx fe)):=by
 refine PS.imp (zkX he) ?_;rintro De σ H ⟨B,w,ρ,S,rfl,R,q⟩;refine ⟨B,w,ρ,S,rfl,R,?_⟩;unfold zbx at q
 cases hf:fe ρ S with
 | bad=>rwa [hf] at q
 | exc c S1=>rw [hf] at q;exact fun w' R' F'=>q σ w' R' F'
 | ok d S1=>rw [hf] at q;exact fun v w' R' F' h'=>q v w' R'.wd F' h'
def zo0(he:PE X e (tN cl E fe)):PS X (.Return (some e) pos) (tS cl E true (zbx fe)):=by
 refine PS.imp (zkX he) ?_;rintro De σ H ⟨B,w,ρ,S,rfl,R,q⟩;refine ⟨B,w,ρ,S,rfl,R,?_⟩;unfold zbx at q
 cases hf:fe ρ S with
 | bad=>rwa [hf] at q
 | exc c S1=>rw [hf] at q;exact fun w' R' F'=>q σ w' R' F'
 | ok d S1 =>
  rw [hf] at q;intro p o w' R' F' hp t;have ff:=zfp (w:=w') (p:=p) (o:=o) (r:=.slot 0) hp;exact q (.ref p) (w'.addAs p o (.slot 0)) (Rel.own (i:=0) R' hp t).wd (F'.trans ff) ⟨p,o,0,rfl,if_pos rfl,zaW,t.up ff⟩
def zoZ{i:Nat}{x:Str}(hN:X.N[i]?=some x)(hv:Vis X.env.scope x)(hd:(x == ("__debug__":Str))=false)(hcd:(x == ("__classdict__":Str))=false):PS X (.Return (some (.Name x pos')) pos) (tS cl E true (zjE i)):=by
 refine PS.imp (zkX (zdx hN hv hd hcd)) ?_;rintro De σ H ⟨B,w,ρ,S,rfl,R,q⟩;unfold zjE at q;split at q
 ·rename_i d hd;obtain ⟨v,e1,a,o,rfl,h1,h2,t⟩:=R.slots i true d hd;exact ⟨_,e1,q _ w R.wd (Fut.refl _) ⟨a,o,i,rfl,h1,h2,t⟩⟩
 ·exact q.elim
def zo1:PS X (.Return none pos) (tS cl E false zmP):=by
 refine PS.imp zpu ?_;rintro De σ H ⟨B,w,ρ,S,rfl,R,q⟩;exact q .non w R.wd (Fut.refl _) .non
def zuA{c:Expr}{a b:List Stmt}{fc:Fe}(hc:PT X c (tTr cl E fc))(ha:PSs X a (tS cl E own f))(hb:PSs X b (tS cl E own g)):PS X (.If c a b pos) (tS cl E own (sIf fc f g)):=by
 refine PS.imp (zuQ hc ha hb) ?_;rintro De σ H ⟨B,w,ρ,S,rfl,R,q⟩;refine ⟨B,w,ρ,S,rfl,R,?_⟩;unfold sIf at q
 cases hg:fc ρ S with
 | bad=>rwa [hg] at q
 | exc c S1=>rw [hg] at q;exact fun w' R' F'=>q σ w' R' F'
 | ok d S1 =>
  rw [hg] at q;dsimp only at q ⊢
  cases hb:isB d with
  | none=>rw [hb] at q;exact q.elim
  | some b =>
   rw [hb] at q;intro w1 R1 F1
   cases b with
   | true=>exact zos ⟨B,w1,ρ,S1,rfl,R1,zjt.up F1 q⟩
   | false=>exact zot ⟨B,w1,ρ,S1,rfl,R1,zjt.up F1 q⟩
end
def zh5(i:Nat)(fe:Fe):Fs:=fun ρ S=>match ρ[i]? with
 | some (some (true,.lst l))=>(match fe ρ S with
  | .ok d S'=>if small l.length then .nx (ρ.set i (some (true,.lst (l++[d])))) S' else .bad
  | .exc c S'=>.ex c ρ S' | .bad=>.bad)
 | _=>.bad
section
variable{X:Cx}{cl:Cf}{E:St->XK}{own:Bool}{e:Expr}{fe:Fe}{pos pos':Pos}
def zmK{n:Nat}(h:small n=true):n<sizeLine:=ycU (yau h) (by decide)
def Rel.list{B:Base}{σ:St}{w:Wd}{ρ:Env}{S:Sto}{i:Nat}{l:List D}(R:Rel cl B σ w ρ S)(h:ρ[i]?=some (some (true,.lst l))):∃a xs,σ[i]?=some (some (.ref a))/\w.ow a=some (.slot i)/\w.H a=some (.lst xs)/\Shds cl w xs l:=by
 obtain ⟨v,e1,a,o,rfl,h1,h2,t⟩:=R.slots i true _ h
 cases t with
 | lst t=>exact ⟨a,_,e1,h1,h2,t⟩
def zry{i:Nat}{x:Str}{ap cp:Pos}(hN:X.N[i]?=some x)(hv:Vis X.env.scope x)(hd:(x == ("__debug__":Str))=false)(hcd:(x == ("__classdict__":Str))=false)(he:PE X e (tE cl E fe))
  (hpl:zct e=true) (hln:(ap.endLine == cp.line)=true):PS X (.Expr (.Call (.Attribute (.Name x pos') "append" ap) [e] [] cp) pos) (tS cl E own (zh5 i fe)):=by
 refine PS.imp (zie (zpE (es:=[]) ycl PySem.F.slot_list_append PySem.F.type_list_append zlj (zdx hN hv hd hcd) (zcO he ze7 (za9 hpl)) (hfew:=zlZ (by simp [hpl]) (by simp)) (hline:=hln) (hs:=za9 hpl) (hplain:=rfl))) ?_;rintro De σ H ⟨B,w,ρ,S,rfl,R,q⟩;unfold zh5 at q;split at q
 ·rename_i l hl;obtain ⟨a,xs,e1,h1,h2,t⟩:=R.list hl;refine ⟨_,e1,.inl ⟨rfl,_,SqL.of h2⟩,B,w,ρ,S,rfl,R,?_⟩
  cases hf:fe ρ S with
  | bad=>rwa [hf] at q
  | exc c S1=>rw [hf] at q;exact fun w' R' F'=>q σ w' R' F'
  | ok d S1 =>
   rw [hf] at q;intro v w' R' F' h';dsimp only at q
   cases hz:small l.length with
   | false=>rw [hz,if_neg (by decide)] at q;exact q.elim
   | true =>
    rw [hz,if_pos rfl] at q;obtain ⟨a',xs',e1',h1',h2',t'⟩:=R'.list hl;rw [e1] at e1';cases e1';refine ⟨a,xs',v,rfl,rfl,h2',by rw [t'.length];exact zmK hz,?_⟩;exact q σ (w'.mut a (.lst (xs'++[v]))) (R'.mut (d0:=.non) e1 h1' (.lst (t'.append (.cons h' .nil)))) (F'.trans (zfo (by rw [h1'];exact yaV _)))
 ·exact q.elim
end
end S2
namespace L2
open PySem PySem.Spec PyProof.Rows
section
variable{prog:Program}{w:World}{A:Around}{E:Z5}{s:Shared}
def zmC{it t:Addr}{j:Nat}{vs:Array Value}{v:Value}{Q:Z5}(st:s.heap.IsTupleIter it t j)(tp:s.heap.IsTuple t vs)(e:vs[j]?=some v)
  (q:∀h',h'.IsTupleIter it t (j+1)->Heap.SameBut it s.heap h'->Q v { s with heap:=h' }):wpAny (model prog w) A (Builtin.SmallTypes.nextOf (.ref it)) Q E s:=by
 obtain ⟨o1,g1,c1,d1⟩:=id st;obtain ⟨o2,g2,_,n2,d2⟩:=tp;unfold Builtin.SmallTypes.nextOf;refine yac (ybb (name:=Str.ofString "__next__") st.typeIs ybD (ybn ybD st.typeIs F.entry_tuple_iterator_next ?_ (F.args_tuple_iterator_next_1 _)));show wpAny _ _ (field (.ref it) 0 >>= _) _ _ s;refine yac (ybz g1 d1 (x:=.ref t) rfl ?_);show wpAny _ _ (if (Value.ref t == Value.none)=true then _ else _) _ _ s;rw [if_neg (show ¬ ((Value.ref t == Value.none)=true) from fun z=>ybd z)];show wpAny _ _ (field (.ref it) 1 >>= _) _ _ s;refine yac (ybz g1 d1 (x:=.int j 0) rfl ?_);show wpAny _ _ (seqItems? (.ref t) >>= _) _ _ s;refine yac (ybU g2 d2 ?_);simp only [yaC,e];refine yac (wpAny_setField g1 d1 (by simp) (yaj ⟨v,rfl,yaj (q _ ?_ (Heap.SameBut.update ..))⟩));refine ⟨_,Heap.get?_update_self _ g1 (Obj.isFreed_of_fields (Obj.data_mapFields d1 _)),(Obj.cls_mapFields ..).trans c1,?_⟩;rw [Obj.data_mapFields d1];simp [rawInt]
def zkp{it t:Addr}{j:Nat}{vs:Array Value}{Q:Z5}(hh:A.handled=none)(st:s.heap.IsTupleIter it t j)(tp:s.heap.IsTuple t vs)(e:vs[j]?=none)
  (q:∀h' x,Heap.ExtBut it s.heap h'->(∃o,h'.get? x=some o/\o.cls=.type "StopIteration")->E (.ref x) { s with heap:=h' }):wpAny (model prog w) A (Builtin.SmallTypes.nextOf (.ref it)) Q E s:=by
 obtain ⟨o1,g1,c1,d1⟩:=id st;obtain ⟨o2,g2,_,n2,d2⟩:=tp;unfold Builtin.SmallTypes.nextOf;refine yac (ybb (name:=Str.ofString "__next__") st.typeIs ybD (ybn ybD st.typeIs F.entry_tuple_iterator_next ?_ (F.args_tuple_iterator_next_1 _)));show wpAny _ _ (field (.ref it) 0 >>= _) _ _ s;refine yac (ybz g1 d1 (x:=.ref t) rfl ?_);show wpAny _ _ (if (Value.ref t == Value.none)=true then _ else _) _ _ s;rw [if_neg (show ¬ ((Value.ref t == Value.none)=true) from fun z=>ybd z)];show wpAny _ _ (field (.ref it) 1 >>= _) _ _ s;refine yac (ybz g1 d1 (x:=.int j 0) rfl ?_);show wpAny _ _ (seqItems? (.ref t) >>= _) _ _ s;refine yac (ybU g2 d2 ?_);simp only [yaC,e];refine yac (yc4 (yac (wpAny_setField g1 d1 (by simp) ?_)));show wpAny _ _ (newExc (.type "StopIteration") [] >>= _) _ _ _;refine yac ?_;simp only [newExc,newTuple];refine yac (ybk ?_ (by size_fits));refine yac (m:=firstArgMember _ _) (wpAny_of_eq (a:=Value.none) ?_ ?_)
 ·first | rfl | (simp only [firstArgMember];rfl)
 refine ybk ?_ (by size_fits);simp only [raiseNew];refine yac (wpAny_handled ?_)
 first | rw [show A.in1.handled=none from hh] | rw [hh]
 refine yac (yaj (wpAny_throw (q _ _ (((Heap.SameBut.update ..).extBut.push _).push _) ⟨_,yax _ rfl,rfl⟩)))
def zhF(hh:A.handled=none)(it t:Addr)(ne:t≠it)(vs:Array Value):Draws prog w A it [it,t] vs.size (fun j v=>vs[j]?=some v) (fun j h=>h.IsTupleIter it t j/\h.IsTuple t vs) where
 live:=fun _ _ st=>by obtain ⟨⟨o,ho,_⟩,_⟩:=st;exact ⟨o,ho⟩
 frame:=fun _ _ _ st hk=>⟨st.1.at fun o e=>hk it (by simp) o e,by obtain ⟨o,ho,r⟩:=st.2;exact ⟨o,hk t (by simp) o ho,r⟩⟩
 item:=fun j s Q E hj st hQ=>zmC st.1 st.2 (v:=vs[j]) (by simp [hj]) fun h' st' sb=>hQ _ h' s.toks (by simp [hj]) ⟨st',by obtain ⟨o,ho,r⟩:=st.2;exact ⟨o,(sb.2 t ne).trans ho,r⟩⟩ sb
 done:=fun s Q E st hE=>zkp hh st.1 st.2 (by simp) hE
def zhE(l:Addr)(items:Array Value)(n:Nat)(dct:Option Addr)(sl:Array (Option Value)) :
  Meets (Builtin.«enumerate.__new__» ⟨[.type "enumerate",.ref l],[]⟩) (fun _ R s=>s.heap.get? l=some { cls:=.type "tuple",dict:=dct,data:=.seq items n,slots:=sl } ∧
   R (.ok (.ret (.ref (s.heap.push { cls:=.type "tuple_iterator",data:=.fields #[.ref l,.int 0 0] }).objs.size)))
    { s with heap:=(s.heap.push { cls:=.type "tuple_iterator",data:=.fields #[.ref l,.int 0 0] }).push { cls:=.type "enumerate",data:=.fields #[.none,.bool false,.ref s.heap.objs.size,rawInt 0,.none,.none] } }) :=
 .of_wp fun prog w A R s h=>by
  obtain ⟨hp,g,d,tk,os⟩:=s;obtain ⟨hl,h⟩:=h;have hsub:=sub_enumerate;have hT:Heap.IsTuple (Shared.heap ⟨hp,g,d,tk,os⟩) l items:=⟨_,hl,rfl,n,rfl⟩
  wp_walk using ycf hl
  refine wpAny_stack_any fun st=>yaj ?_
  split
  ·rename_i c _ _ _ _ _
   cases (c == Value.type "enumerate")<;>(wp_walk using ycf hl,yci hT;exact ⟨_,rfl,h⟩)
  ·wp_walk using ycf hl,yci hT;exact ⟨_,rfl,h⟩
def zgK{l:Addr}{items:Array Value}{Q:Z5}(hL:s.heap.IsTuple l items)
  (h:∀h',IsEnum h' (s.heap.objs.size+1) s.heap.objs.size 0 .none->h'.IsTupleIter s.heap.objs.size l 0->h'.objs.size=s.heap.objs.size+2->(∀b o,s.heap.get? b=some o->h'.get? b=some o)->Q (.ref (s.heap.objs.size+1)) { s with heap:=h' }) :
  wpAny (model prog w) A (call (.type "enumerate") [.ref l]) Q E s:=by
 obtain ⟨⟨c,dct,dt,sl⟩,hl,hc,n,hd⟩:=hL;simp only at hc hd;subst hc hd;refine callType_new F.called_enumerate (by decide) (F.typeCall_enumerate_1 _) (F.newCall_enumerate_1 _) (fun obj=>F.args_object_init_2 obj _) F.entry_enumerate_new (zhE l items n dct sl) ⟨hl,?_⟩;generalize hp1:s.heap.push { cls:=.type "tuple_iterator",data:=.fields #[.ref l,.int 0 0] }=h1
 have hz:h1.objs.size=s.heap.objs.size+1:=by rw [<-hp1];exact ya9 ..
 have k1:∀b o,s.heap.get? b=some o->h1.get? b=some o:=fun b o x=>by rw [<-hp1];exact yaf _ x
 have i1:h1.get? s.heap.objs.size=some { cls:=.type "tuple_iterator",data:=.fields #[.ref l,.int 0 0] }:=by rw [<-hp1];exact yax _ rfl
 show _/\_;rw [hz]
 have he:IsEnum (h1.push { cls:=.type "enumerate",data:=.fields #[.none,.bool false,.ref s.heap.objs.size,rawInt 0,.none,.none] }) (s.heap.objs.size+1) s.heap.objs.size 0 .none:=by
  rw [<-hz];exact yax _ rfl
 exact ⟨⟨_,he,rfl⟩,h _ he ⟨_,yaf _ i1,rfl,rfl⟩ (by rw [ya9,hz]) fun b o x=>yaf _ (k1 b o x)⟩
end
section
variable{X:Cx}{pins:Z3}{σ:St}{H:Hp}{s:Shared}
def Inv.turnedL{t':Nat}{h':Heap}{ch:List Addr}(I:Inv X pins σ H s)(k:∀b o,b ∉ ch->s.heap.get? b=some o->h'.get? b=some o)(hf:∀b∈ch,zmr X pins H b):Inv X pins σ H { s with heap:=h',toks:=t' }:=by
 have nit:∀b u,H b=some u->b ∉ ch:=fun b u e z=>by rw [(hf b z).1] at e;cases e
 refine I.step (g':=s.gens) (d':=s.drawn) (ch:=ch) (fun b hb=>?_) (fun b o _ _ hc e _=>k b o hc e) (fun b o _ _ hc e _=>⟨o.slots,k b o hc e⟩) (fun _ _ _ _ n=>n) (fun b o hc e=>⟨o,k b o hc e⟩) (fun _ _ e=>e) (fun _ _ _ e=>e) (fun b ps e=>⟨#[],by rw [e];simp⟩) (fun m hm=>?_) (fun b u e=>?_) I.bare
 ·obtain ⟨f0,f1,f2,f3,f4,f5⟩:=hf b hb;exact ⟨f3,f1,f4,f5⟩
 ·obtain ⟨o,es,ep,ho,r⟩:=hm;exact ⟨o,es,ep,k _ o (fun z=>(hf _ z).2.1 rfl) ho,r⟩
 ·refine (I.hok b u e).stay (fun c v hc q=>k c v ?_ q) (fun _ q=>q) fun _ _ q=>q
  rcases hc with z | z
  ·rw [z];exact nit b u e
  ·exact nit c _ z
def ItE(S:Hp->Addr->List V->Prop)(a:Addr):It :=
 ⟨fun i H=>∃xs x,S H a xs/\xs[i]?=some x,fun i H x H'=>∃t y,x=.ref t/\H t=none/\H'=upd H t (.tup [.int (i:Int),y])/\∀xs,S H a xs->xs[i]?=some y,fun i H=>∃xs,S H a xs/\xs.length<=i⟩
def zji{i:Nat}{e it T:Addr}{h1 h2:Heap}{tk:Nat}{x:Value}{y:V}(I:Inv X pins σ H s)(hf:∀b∈[e,it],zmr X pins H b)(hT:T=s.heap.objs.size)(te:h1.get? T=some { cls:=.type "tuple",data:=.seq #[.int i tk,x] })
  (k:∀b o,b≠e->b≠it->s.heap.get? b=some o->h1.get? b=some o) (sb:Heap.SameBut e h1 h2) (ne:T≠e) (ry:zbw y x):Inv X pins σ (upd H T (.tup [.int (i:Int),y])) { s with heap:=h2,toks:=tk+1 }/\H T=none:=by
 have fr:H T=none:=by rw [hT];exact I.hok.fresh (yam _)
 refine ⟨?_,fr⟩
 have I1:Inv X pins σ H { s with heap:=h2,toks:=tk+1 }:=I.turnedL (ch:=[e,it]) (fun b o hb q=>by
  simp only [yav,yaF,ybP,not_or] at hb
  exact (sb.2 b hb.1).trans (k b o hb.1 hb.2 q)) hf
 refine I1.track fr (by rw [hT];exact I.sz) (by rw [hT];exact ya6 I.lt) (fun z c q=>?_) (fun p hp=>?_) ?_
 ·obtain ⟨v,cq⟩:=I.cell z c q;rw [hT];exact yaG cq.lt
 ·rw [hT];exact yaG (yas (I.pin p hp).1)
 ·refine ⟨by show 2<=sizeLine;decide,[.int i tk,x],.cons ⟨tk,rfl⟩ (.cons ry .nil),?_⟩;exact ⟨_,(sb.2 T ne).trans te,rfl,_,rfl⟩
def zjz{P:Program}{w:World}{K:PySem.W.Frag}{elts:List Expr}{x1:Nat}{pos:Pos}(a it e:Addr)(hei:e≠it):Turn P w K (.Tuple elts x1 pos) (ItE (SqL K) a) [e,it] e (fun i h=>(∃old,IsEnum h e it (i:Int) old)/\h.IsListIter it a i) where
 mem:=by simp
 obj:=fun i h st b hb=>by
  obtain ⟨⟨old,he⟩,o,ho,c,d⟩:=st;simp only [yav,yaF,ybP] at hb
  rcases hb with rfl | rfl
  ·exact ⟨_,he,fun v z=>by cases z⟩
  ·exact ⟨o,ho,fun v z=>by rw [d] at z;cases z⟩
 keep:=fun i h h' st k=>by
  obtain ⟨⟨old,he⟩,hi⟩:=st;exact ⟨⟨old,k e (by simp) _ he⟩,hi.at fun o q=>k it (by simp) o q⟩
 item:=by
  intro X hP hw hK hc i pins s σ H E I hf st hg;subst hP hw hK;obtain ⟨xs,x,hq,hx⟩:=hg;obtain ⟨⟨old,he⟩,hi⟩:=st;obtain ⟨its,rv,p,hz⟩:=I.list hq;obtain ⟨u,hu,ru⟩:=rv.get hx;refine wpAny_pyNext_enum_item he hi p.isList (x:=u) (by simpa using hu) hei fun h1 ho hi1 ht1 hz1 k1=>?_
  have neT:s.heap.objs.size≠e:=ya6 (yas he);refine ⟨_,rfl,wpAny_letOwnedTupleGo_enum ho fun h2 he2 sb=>?_⟩;obtain ⟨I2,fr⟩:=zji (h2:=h2) (y:=x) I hf rfl ht1 k1 sb neT ru;refine ⟨.ref s.heap.objs.size,_,I2,rfl,⟨_,x,rfl,fr,rfl,fun ys hy=>by rw [I.list_inj hy hq];exact hx⟩,⟨⟨u,by simpa using he2⟩,hi1.at fun o q=>(sb.2 it (Ne.symm hei)).trans q⟩,fun b hb=>?_⟩;rw [zaq]
  ·exact (hf b hb).1
  ·rintro rfl;simp only [yav,yaF,ybP] at hb
   rcases hb with z | z
   ·exact neT z
   ·obtain ⟨o,q,_⟩:=hi;exact absurd (yas q) (by rw [<-z];exact yaT _)
 done:=by
  intro X hP hw hK hc i pins s σ H E I hf st hg;subst hP hw hK;obtain ⟨xs,hq,hx⟩:=hg;obtain ⟨⟨old,he⟩,hi⟩:=st;obtain ⟨its,rv,p,hz⟩:=I.list hq;have hl:=rv.length;obtain ⟨f0,f1,f2,f3,f4,f5⟩:=hf it (by simp);exact wpAny_pyNext_enum_end (I.ok.hd hc) he hi p.isList (by simp;omega) fun h' eb=>⟨rfl,I.turned (t':=s.toks) (fun b o hb q=>eb b o hb q) f0 f1 f3 f4 f5⟩
 self:=fun _ _ _ _ _ st h=>by
  obtain ⟨⟨old,he⟩,_⟩:=st;exact ycu he h
def zjy{P:Program}{w:World}{K:PySem.W.Frag}{elts:List Expr}{x1:Nat}{pos:Pos}(a it e:Addr)(hei:e≠it):Turn P w K (.Tuple elts x1 pos) (ItE (SqT K) a) [e,it] e (fun i h=>(∃old,IsEnum h e it (i:Int) old)/\h.IsTupleIter it a i) where
 mem:=by simp
 obj:=fun i h st b hb=>by
  obtain ⟨⟨old,he⟩,o,ho,c,d⟩:=st;simp only [yav,yaF,ybP] at hb
  rcases hb with rfl | rfl
  ·exact ⟨_,he,fun v z=>by cases z⟩
  ·exact ⟨o,ho,fun v z=>by rw [d] at z;cases z⟩
 keep:=fun i h h' st k=>by
  obtain ⟨⟨old,he⟩,hi⟩:=st;exact ⟨⟨old,k e (by simp) _ he⟩,hi.at fun o q=>k it (by simp) o q⟩
 item:=by
  intro X hP hw hK hc i pins s σ H E I hf st hg;subst hP hw hK;obtain ⟨xs,x,hq,hx⟩:=hg;obtain ⟨⟨old,he⟩,hi⟩:=st;obtain ⟨its,rv,p,hz⟩:=I.tuple hq;obtain ⟨u,hu,ru⟩:=rv.get hx
  have hlt:i<its.toArray.size:=by
   have:=(yag.mp hu).1;simpa using this
  have nat':a≠it:=by
   rintro rfl;obtain ⟨o,q,c,_⟩:=hi;obtain ⟨o2,q2,c2,_⟩:=id p;rw [q] at q2;cases q2;rw [c] at c2;simp at c2
  have nae:e ∉ [it,a]:=by
   simp only [yav,yaF,ybP,not_or];refine ⟨hei,?_⟩;rintro rfl;obtain ⟨o2,q2,c2,_⟩:=id p;rw [he] at q2;cases q2;simp at c2
  refine wpAny_pyNext_enum_itemD (D:=zhF (A:=X.A.in1) (I.ok.hd hc) it a nat' its.toArray) he ⟨hi,show s.heap.IsTuple a its.toArray from p⟩ hlt hei nae fun u' h1 tk hu' ho hi1 ht1 hz1 k1=>?_
  have eu:u'=u:=by
   have:its[i]?=some u':=by simpa using hu'
   rw [hu] at this;exact (Option.some.inj this).symm
  subst eu;have neT:s.heap.objs.size≠e:=ya6 (yas he);refine ⟨_,rfl,wpAny_letOwnedTupleGo_enum ho fun h2 he2 sb=>?_⟩;obtain ⟨I2,fr⟩:=zji (h2:=h2) (y:=x) I hf rfl ht1 k1 sb neT ru;refine ⟨.ref s.heap.objs.size,_,I2,rfl,⟨_,x,rfl,fr,rfl,fun ys hy=>by rw [I.tuple_inj hy hq];exact hx⟩,⟨⟨u',by simpa using he2⟩,hi1.1.at fun o q=>(sb.2 it (Ne.symm hei)).trans q⟩,fun b hb=>?_⟩;rw [zaq]
  ·exact (hf b hb).1
  ·rintro rfl;simp only [yav,yaF,ybP] at hb
   rcases hb with z | z
   ·exact neT z
   ·obtain ⟨o,q,_⟩:=hi;exact absurd (yas q) (by rw [<-z];exact yaT _)
 done:=by
  intro X hP hw hK hc i pins s σ H E I hf st hg;subst hP hw hK;obtain ⟨xs,hq,hx⟩:=hg;obtain ⟨⟨old,he⟩,hi⟩:=st;obtain ⟨its,rv,p,hz⟩:=I.tuple hq;have hl:=rv.length;obtain ⟨f0,f1,f2,f3,f4,f5⟩:=hf it (by simp);have ty:s.TypeIs (.ref e) "enumerate":=⟨_,he,rfl⟩;unfold pyNext;refine yac (wpAny_attempt (ybb (name:=Str.ofString "__next__") ty F.slot_enumerate_next (ybn F.slot_enumerate_next ty F.entry_enumerate_next ?_ (F.args_enumerate_next_1 _))));show wpAny _ _ (field (.ref e) 2 >>= _) _ _ _;refine yac (ybz he rfl (x:=.ref it) rfl ?_);refine yac (zkp (I.ok.hd hc) hi (show s.heap.IsTuple a its.toArray from p) (by simp;omega) fun h' x eb hx'=>?_);obtain ⟨o,ho,hcl⟩:=hx';refine yac (ycz (T:="StopIteration") (b:=true) ⟨o,ho,hcl⟩ isSubtype_stop ?_);exact yaj ⟨rfl,I.turned (t':=s.toks) (fun b o hb q=>eb b o hb q) f0 f1 f3 f4 f5⟩
 self:=fun _ _ _ _ _ st h=>by
  obtain ⟨⟨old,he⟩,_⟩:=st;exact ycu he h
def zhM:bootBuiltins "enumerate" = some (.type "enumerate"):=by decide +kernel
def zxv(S:Hp->Addr->List V->Prop)(ta:TA):TI:=fun σ H R=>ta σ H fun vs H1=>∃a,vs=[.ref a]/\(∃xs,S H1 a xs)/\R (ItE S a) H1
def zm4{K:PySem.W.Frag}{elts:List Expr}{x1:Nat}{tp:Pos}{a:Expr}{ta:TA}{p pos:Pos}(hg:Gl X "enumerate")(hm:X.mg "enumerate" = none)(ha:PA X [a] ta)(hK:X.K=K:=by rfl)(hs:starEach [a] X.env=[(false,eval a X.env)]:=by rfl) :
  PI X (.Tuple elts x1 tp) (.Call (.Name "enumerate" p) [a] [] pos) (zxv (SqL K) ta):=by
 subst hK;intro pins s σ H R I h;refine Call_ (zdz I hg hm zhM (yaS (thn (ha pos pins s σ H _ I h) fun us s1 ⟨vs,H1,I1,r1,q1⟩=>?_) hs rfl));obtain ⟨b,e,⟨xs,hq⟩,q⟩:=q1;subst e
 cases r1 with
 | cons r rr =>
  cases rr;cases r;obtain ⟨its,rv,pl,hz⟩:=I1.list hq;refine call_enumerate_list pl.isList fun h' he hi hz' k=>ycu he ?_
  refine ⟨s1.heap.objs.size+1,[s1.heap.objs.size+1,s1.heap.objs.size],_,_,H1,rfl,I1.kept (t':=s1.toks) k,zjz b _ _ (Nat.succ_ne_self _),⟨⟨_,he⟩,hi⟩,fun c hb=>?_,q⟩;simp only [yav,yaF,ybP] at hb
  have hc:s1.heap.objs.size<=c:=by rcases hb with rfl | rfl<;>omega
  exact I1.fpOk hc (I1.hok.fresh hc)
def zm3{K:PySem.W.Frag}{elts:List Expr}{x1:Nat}{tp:Pos}{a:Expr}{ta:TA}{p pos:Pos}(hg:Gl X "enumerate")(hm:X.mg "enumerate" = none)(ha:PA X [a] ta)(hK:X.K=K:=by rfl)(hs:starEach [a] X.env=[(false,eval a X.env)]:=by rfl) :
  PI X (.Tuple elts x1 tp) (.Call (.Name "enumerate" p) [a] [] pos) (zxv (SqT K) ta):=by
 subst hK;intro pins s σ H R I h;refine Call_ (zdz I hg hm zhM (yaS (thn (ha pos pins s σ H _ I h) fun us s1 ⟨vs,H1,I1,r1,q1⟩=>?_) hs rfl));obtain ⟨b,e,⟨xs,hq⟩,q⟩:=q1;subst e
 cases r1 with
 | cons r rr =>
  cases rr;cases r;obtain ⟨its,rv,pl,hz⟩:=I1.tuple hq;refine zgK (show s1.heap.IsTuple b its.toArray from pl) fun h' he hi hz' k=>ycu he ?_
  refine ⟨s1.heap.objs.size+1,[s1.heap.objs.size+1,s1.heap.objs.size],_,_,H1,rfl,I1.kept (t':=s1.toks) k,zjy b _ _ (Nat.succ_ne_self _),⟨⟨_,he⟩,hi⟩,fun c hb=>?_,q⟩;simp only [yav,yaF,ybP] at hb
  have hc:s1.heap.objs.size<=c:=by rcases hb with rfl | rfl<;>omega
  exact I1.fpOk hc (I1.hok.fresh hc)
def Itq(lo c:Int)(n:Nat):It:=⟨fun i _=>i<n,fun i H x H'=>H'=H/\x=.int (lo+i*c),fun i _=>n<=i⟩
def zh0{P:Program}{w:World}{K:PySem.W.Frag}{tg:Expr}(it:Addr)(lo c:Int)(n:Nat):Turn P w K tg (Itq lo c n) [it] it (fun i h=>IsRangeIter h it (lo+(i:Nat)*c) ((n:Int)-(i:Nat)) c) where
 mem:=by simp
 obj:=fun i h st b hb=>by
  have e:b=it:=by simpa using hb
  subst e;exact ⟨_,st,fun v z=>by cases z⟩
 keep:=fun i h h' st k=>k it (by simp) _ st
 item:=by
  intro X hP hw hK hc i pins s σ H E I hf st hg;subst hP hw hK;obtain ⟨f0,f1,f2,f3,f4,f5⟩:=hf it (by simp);have W:=Walks.range (prog:=X.prog) (w:=X.w) (I.ok.hd hc) it lo c n;refine W.item i s _ _ hg st fun v h' tk hv st' kk=>?_
  obtain ⟨t,rfl⟩:=hv;have I1:Inv X pins σ H { s with heap:=h',toks:=tk }:=I.turned (fun b o hb e=>kk b o (by simpa using hb) e) f0 f1 f3 f4 f5;exact ⟨_,rfl,znD (s:={ s with heap:=h',toks:=tk }) (n:="range_iterator") st' rfl rfl (by decide) ⟨.int (lo+i*c),H,I1,⟨t,rfl⟩,⟨rfl,rfl⟩,st',fun b hb=>(hf b hb).1⟩⟩
 done:=by
  intro X hP hw hK hc i pins s σ H E I hf st hg;subst hP hw hK;obtain ⟨f0,f1,f2,f3,f4,f5⟩:=hf it (by simp);exact wpAny_pyNext_range_end (I.ok.hd hc) st (by have:n<=i:=hg;omega) fun h' eb=>⟨rfl,I.turned (t':=s.toks) (fun b o hb e=>eb b o hb e) f0 f1 f3 f4 f5⟩
 self:=fun _ _ _ _ _ st h=>wpAny_pyIter_rangeiter st h
def zvn(ta:TA):TI:=fun σ H R=>ta σ H fun vs H1=>∃j c:Int,vs=[.int 0,.int j,.int c]/\0<=j/\j<=1000/\1<=c/\c<=1000/\R (Itq 0 c ((j+c-1) / c).toNat) H1
def zk1{tg a b c:Expr}{ta:TA}{p pos:Pos}(hg:Gl X "range")(hm:X.mg "range" = none)(ha:PA X [a,b,c] ta)(hs:starEach [a,b,c] X.env=(false,eval a X.env)::starEach [b,c] X.env:=by rfl)(hs2:(backTo pos (starEach [b,c] X.env)).any (·.1)=false:=by rfl) :
  PI X tg (.Call (.Name "range" p) [a,b,c] [] pos) (zvn ta):=by
 intro pins s σ H R I h;refine Call_ (zdz I hg hm boot_range (yaS (thn (ha pos pins s σ H _ I h) fun us s1 ⟨vs,H1,I1,r1,q1⟩=>?_) hs hs2));obtain ⟨j,k,e,j0,j1,k0,k1,q⟩:=q1;subst e
 cases r1 with
 | cons r rr =>
  cases rr with
  | cons r' rr =>
   cases rr with
   | cons r'' rr =>
    cases rr;obtain ⟨t,rfl⟩:=r;obtain ⟨t',rfl⟩:=r';obtain ⟨t'',rfl⟩:=r'';have hsz:=rangeSize_pos (len:=j) k0 j0
    have hsm:Builtin.Range.small 0 j k=true:=by
     have h1:(j+k-1) / k<=j+k-1:=Int.ediv_le_self _ (by omega);have h2:0<=(j+k-1) / k:=Int.ediv_nonneg (by omega) (by omega);unfold Builtin.Range.small;rw [hsz];simp only [Builtin.Range.rangeFitsLong,yab,ycL,ybw,ybT];refine ⟨by omega,.inr ?_⟩;rw [if_pos (by omega)];simp only [yab,ybw];omega
    refine call_range_3 (by omega) ?_ (Or.inl (PyProof.noPylong_small (by omega)));generalize hp1:s1.heap.push { cls:=.type "range",data:=.fields #[.int 0 t,.int j t',.int k t''] }=h1
    have hr:IsRange h1 s1.heap.objs.size 0 j k t t' t'':=by rw [<-hp1];exact IsRange.new ..
    have k1':∀b o,s1.heap.get? b=some o->h1.get? b=some o:=fun b o x=>by rw [<-hp1];exact yaf _ x
    have I2:Inv X pins σ H1 { s1 with heap:=h1,toks:=s1.toks }:=I1.kept k1';refine wpAny_pyIter_range hr hsm ?_;refine ⟨h1.objs.size,[h1.objs.size],_,_,H1,rfl,I2.kept (t':=s1.toks) fun b o e=>yaf _ e,zh0 _ 0 k ((j+k-1) / k).toNat,?_,fun b hb=>?_,q⟩
    ·rw [hsz];have h2:0<=(j+k-1) / k:=Int.ediv_nonneg (by omega) (by omega)
     have e2:((((j+k-1) / k).toNat:Nat):Int)-((0:Nat):Int)=(j+k-1) / k:=by omega
     have e1:(0:Int)+((0:Nat):Int)*k=0:=by simp
     show IsRangeIter _ _ (0+((0:Nat):Int)*k) ((((j+k-1) / k).toNat:Int)-((0:Nat):Int)) k;rw [e1,e2];exact yax _ rfl
    ·have e:b=h1.objs.size:=by simpa using hb
     subst e;exact I2.fpOk (yam _) (I2.hok.fresh (yam _))
end
end L2
namespace S2
open PySem PySem.Spec PyProof.Rows L2
structure ItOk(cl:Cf)(w:Wd)(J:It)(ds:List D):Prop where
 go:∀w',Fut w w'->∀i,i<ds.length->J.go i w'.H
 stop:∀w',Fut w w'->J.stop ds.length w'.H
 yld:∀w',Fut w w'->∀i d x H',ds[i]?=some d->J.yld i w'.H x H'->∃w'',w''.H=H'/\Grow w' w''/\Shd cl w'' x d
abbrev Fi:=Env->Sto->Out (List D)
def tI(cl:Cf)(E:St->XK)(f:Fi):TI:=fun σ H R'=>∃B w ρ S,w.H=H/\Rel cl B σ w ρ S/\match f ρ S with
 | .ok ds S'=>∀J w',Rel cl B σ w' ρ S'->Fut w w'->ItOk cl w' J ds->R' J w'.H
 | .exc c S'=>∀w',Rel cl B σ w' ρ S'->Fut w w'->E σ (.ref (cl c)) none w'.H
 | .bad=>False
def PI.imp{X:Cx}{tg it:Expr}{t t':TI}(h:PI X tg it t)(i:∀σ H Q,t' σ H Q->t σ H Q):PI X tg it t':=fun pins s σ H Q I q=>h pins s σ H Q I (i _ _ _ q)
inductive Tg where | one (i:Nat) | tup (is:List Nat)
def zey:List Nat->List D->Env->Option Env
 | [],[],ρ=>some ρ
 | i::is,d::ds,ρ=>zey is ds (ρ.set i (some (false,d)))
 | _,_,_=>none
def Tg.put:Tg->Env->D->Option Env
 | .one i,ρ,d=>some (ρ.set i (some (false,d)))
 | .tup is,ρ,.tup ds=>zey is ds ρ
 | .tup _,_,_=>none
def tG(cl:Cf)(n:Nat)(tg:Tg):TG:=fun v σ H Q=>∃B w ρ S d ρ',w.H=H/\Rel cl B σ w ρ S/\Shd cl w v d/\tg.put ρ d=some ρ'/\∀σ',σ'.length=σ.length->σ'.drop n=σ.drop n->Rel cl B σ' w ρ' S->Q σ' w.H
def PG.imp{X:Cx}{tg:Expr}{t t':TG}(h:PG X tg t)(i:∀v σ H Q,t' v σ H Q->t v σ H Q):PG X tg t':=fun pins s σ H v u Q I r q=>h pins s σ H v u Q I r (i _ _ _ _ q)
def zfq(tg:Tg)(body:Fs):List D->Env->Sto->Fo
 | [],ρ,S=>.nx ρ S
 | d::ds,ρ,S=>match tg.put ρ d with
  | none=>.bad
  | some ρ1=>match body ρ1 S with
   | .nx ρ' S'=>zfq tg body ds ρ' S'
   | .ct ρ' S'=>zfq tg body ds ρ' S'
   | .bk ρ' S'=>.nx ρ' S'
   | o=>o
def zgg(tg:Tg)(it:Fi)(body:Fs):Fs:=fun ρ S=>match it ρ S with
 | .ok ds S'=>zfq tg body ds ρ S'
 | .exc c S'=>.ex c ρ S'
 | .bad=>.bad
section
variable{X:Cx}{cl:Cf}{E:St->XK}{own:Bool}{e iter tg:Expr}{body:List Stmt}{fb:Fs}{fi:Fi}{fc:Fe}{t:Tg}{pos:Pos}
def zjk{α:Type}{n i:Nat}{l:List α}{a:α}(h:i<n):(l.set i a).drop n=l.drop n:=by
 refine ybr fun k=>?_
 rw [ybl,ybl,yaP (by omega)]
def zrF{n i:Nat}{x:Str}(hin:i<n)(hN:X.N.Nodup)(hi:X.N[i]?=some x)(hx:Loc X.env.scope x)(hf:X.fn x=true\/X.env.scope.names.lookup x=some .local):PG X (.Name x pos) (tG cl n (.one i)):=by
 refine PG.imp (zk4 hN hi hx hf) ?_;rintro v σ H Q ⟨B,w,ρ,S,d,ρ',rfl,R,h,hp,q⟩;cases hp;exact q _ (yaJ ..) (zjk hin) (R.put h)
def tGs(cl:Cf)(n:Nat)(is:List Nat):TGs:=fun vs σ H Q=>∃B w ρ S ds ρ',w.H=H/\Rel cl B σ w ρ S/\Shds cl w vs ds/\zey is ds ρ=some ρ'/\∀σ',σ'.length=σ.length->σ'.drop n=σ.drop n->Rel cl B σ' w ρ' S->Q σ' w.H
def zpe{n:Nat}:PGs X [] (tGs cl n []):=by
 intro pins s σ H vs us Q I r h;obtain ⟨B,w,ρ,S,ds,ρ',rfl,R,hs,hp,q⟩:=h
 cases hs with
 | nil =>
  cases hp;exact zpC pins s σ w.H [] us Q I r ⟨rfl,q σ rfl rfl R⟩
 | cons _ _=>cases hp
def zmM{n i:Nat}{is:List Nat}{x:Str}{es:List Expr}(hin:i<n)(hN:X.N.Nodup)(hi:X.N[i]?=some x)(hx:Loc X.env.scope x)(hf:X.fn x=true\/X.env.scope.names.lookup x=some .local)(h2:PGs X es (tGs cl n is)):PGs X (.Name x pos::es) (tGs cl n (i::is)):=by
 intro pins s σ H vs us Q I r h;obtain ⟨B,w,ρ,S,ds,ρ',rfl,R,hs,hp,q⟩:=h;refine zm5 (zk4 hN hi hx hf) h2 rfl pins s σ w.H vs us Q I r ?_
 cases hs with
 | nil=>cases hp
 | cons h t =>
  rename_i v d vs ds;exact ⟨v,vs,rfl,B,w,_,S,ds,ρ',rfl,R.put h,t,hp,fun σ' e1 e2=>q σ' (e1.trans (yaJ ..)) (e2.trans (zjk hin))⟩
def zrE{es:List Expr}{n k:Nat}{is:List Nat}(hc:X.calm=true)(h:PGs X es (tGs cl n is))(hn:(assignEach es X.env).length=is.length)(hst:(assignEach es X.env).findIdx? (·.1)=none):PG X (.Tuple es k pos) (tG cl n (.tup is)):=by
 refine PG.imp (zr7 hc h hn hst) ?_;rintro v σ H Q ⟨B,w,ρ,S,d,ρ',rfl,R,h,hp,q⟩
 cases h with
 | tup e k r =>
  have hl:∀(is:List Nat) (ds:List D) (ρ ρ':Env),zey is ds ρ=some ρ'->ds.length=is.length:=by
   intro is
   induction is with
   | nil=>intro ds ρ ρ' h;cases ds with
    | nil=>rfl
    | cons _ _=>cases h
   | cons i is ih=>intro ds ρ ρ' h;cases ds with
    | nil=>cases h
    | cons d ds=>rw [yai,yai,ih ds _ _ h]
  rename_i a xs ds;refine ⟨a,xs,rfl,SqT.of e,by rw [r.length];exact hl is ds ρ ρ' hp,B,w,ρ,S,ds,ρ',rfl,R,r,hp,q⟩
 | _=>cases hp
def zrt{n:Nat}(hp:PassesOwn (model X.prog X.w) X.A X.env X.xe)(hc:X.calm=true)(hi:PI X tg iter (tI cl E fi))(hg:PG X tg (tG cl n t))(hb:PSs X body (tS cl E own fb))(hs:∀x,foldedSetIterable iter X.env x=pure x):PS X (.For tg iter body [] pos) (tS cl E own (zgg t fi fb)):=by
 refine PS.imp (zr4 hp hc hi hg hb hs) ?_;rintro De σ H ⟨B,w,ρ,S,rfl,R,q⟩;refine ⟨B,w,ρ,S,rfl,R,?_⟩;unfold zgg at q
 cases hf:fi ρ S with
 | bad=>rwa [hf] at q
 | exc c S1=>rw [hf] at q;exact fun w' R' F'=>q σ w' R' F'
 | ok ds S1 =>
  rw [hf] at q;intro J w0 R0 F0 hJ;dsimp only at q;refine ⟨fun i m σ' H'=>m=ds.length-i/\i<=ds.length/\∃w1 ρ1 S2,w1.H=H'/\Fut w0 w1/\Rel cl B σ' w1 ρ1 S2/\zjt cl E own B w1 De (zfq t fb (ds.drop i) ρ1 S2),⟨ds.length,by simp,yby _,w0,ρ,S1,rfl,Fut.refl _,R0,by rw [ycZ];exact zjt.up F0 q⟩,?_⟩;rintro i m σ1 H1 ⟨rfl,hi,w1,ρ1,S2,rfl,F1,R1,q1⟩
  by_cases hlt:i<ds.length
  ·obtain ⟨d,hd⟩:∃d,ds[i]?=some d:=⟨ds[i],yaa hlt⟩
   have hdr:ds.drop i=d::ds.drop (i+1):=by
    rw [yca hlt];rw [yaa hlt] at hd;cases hd;rfl
   rw [hdr] at q1;unfold zfq at q1
   cases hp1:t.put ρ1 d with
   | none=>rw [hp1] at q1;exact q1.elim
   | some ρ2 =>
    rw [hp1] at q1;dsimp only at q1;refine .inr ⟨hJ.go w1 F1 i hlt,fun σ' H'=>i+1<=ds.length/\∃w1 ρ1 S2,w1.H=H'/\Fut w0 w1/\Rel cl B σ' w1 ρ1 S2/\zjt cl E own B w1 De (zfq t fb (ds.drop (i+1)) ρ1 S2),fun σ' H' h'=>⟨ds.length-(i+1),by omega,rfl,h'.1,h'.2⟩,fun x H' y=>?_⟩;obtain ⟨w2,rfl,g2,s2⟩:=hJ.yld w1 F1 i d x H' hd y;refine ⟨B,w2,ρ1,S2,d,ρ2,rfl,R1.grow g2,s2,hp1,fun σ2 _ _ R2=>⟨B,w2,ρ2,S2,rfl,R2,?_⟩⟩;have q2:=zjt.up g2.fut q1
    cases hb:fb ρ2 S2 with
    | bad=>rwa [hb] at q2
    | rt d S3=>rwa [hb] at q2
    | ex c ρ3 S3=>rwa [hb] at q2
    | bk ρ3 S3=>rw [hb] at q2;exact fun σ3 w3 R3 F3=>q2 σ3 w3 R3 F3
    | nx ρ3 S3=>rw [hb] at q2;exact fun σ3 w3 R3 F3=>⟨hlt,w3,ρ3,S3,rfl,F1.trans (g2.fut.trans F3),R3,zjt.up F3 q2⟩
    | ct ρ3 S3=>rw [hb] at q2;exact fun σ3 w3 R3 F3=>⟨hlt,w3,ρ3,S3,rfl,F1.trans (g2.fut.trans F3),R3,zjt.up F3 q2⟩
  ·have e:i=ds.length:=by omega
   subst e;rw [List.drop_length] at q1;exact .inl ⟨hJ.stop w1 F1,q1 σ1 w1 R1 (Fut.refl _)⟩
def zjj(f:Fe):Fi:=fun ρ S=>(f ρ S).bind fun d S1=>match d with | .lst l=>.ok l S1 | _=>.bad
def ziu(f:Fe):Fi:=fun ρ S=>(f ρ S).bind fun d S1=>match d with | .tup l=>.ok l S1 | _=>.bad
def zkD(he:PE X e (tE cl E fc)):PI X tg e (tI cl E (zjj fc)):=by
 refine PI.imp (zpB he) ?_;rintro σ H Q ⟨B,w,ρ,S,rfl,R,q⟩;refine ⟨B,w,ρ,S,rfl,R,?_⟩;unfold zjj at q
 cases hf:fc ρ S with
 | bad=>rwa [hf] at q
 | exc c S1=>rwa [hf] at q
 | ok d S1 =>
  rw [hf] at q;intro v w' R' F' h';dsimp only [Out.bind] at q
  cases h' with
  | lst e k r =>
   rename_i a xs ds;refine ⟨a,rfl,⟨xs,SqL.of e⟩,q _ w' R' F' ?_⟩;have hl:=r.length;refine ⟨fun w1 F1 i hi=>⟨xs,xs[i]'(by omega),SqL.of (F1.keep _ _ e k).1,yaa (by omega)⟩,fun w1 F1=>⟨xs,SqL.of (F1.keep _ _ e k).1,by omega⟩,fun w1 F1 i d x H1 hd y=>?_⟩;obtain ⟨rfl,hy⟩:=y;have hx:=hy xs (SqL.of (F1.keep _ _ e k).1);obtain ⟨d',e1,e2⟩:=r.get hx;rw [hd] at e1;cases e1;exact ⟨w1,rfl,Grow.refl _,e2.up F1⟩
  | _=>exact q.elim
def zrC(he:PE X e (tE cl E fc)):PI X tg e (tI cl E (ziu fc)):=by
 refine PI.imp (zr6 he) ?_;rintro σ H Q ⟨B,w,ρ,S,rfl,R,q⟩;refine ⟨B,w,ρ,S,rfl,R,?_⟩;unfold ziu at q
 cases hf:fc ρ S with
 | bad=>rwa [hf] at q
 | exc c S1=>rwa [hf] at q
 | ok d S1 =>
  rw [hf] at q;intro v w' R' F' h';dsimp only [Out.bind] at q
  cases h' with
  | tup e k r =>
   rename_i a xs ds;refine ⟨a,rfl,⟨xs,SqT.of e⟩,q _ w' R' F' ?_⟩;have hl:=r.length;refine ⟨fun w1 F1 i hi=>⟨xs,xs[i]'(by omega),SqT.of (F1.keep _ _ e k).1,yaa (by omega)⟩,fun w1 F1=>⟨xs,SqT.of (F1.keep _ _ e k).1,by omega⟩,fun w1 F1 i d x H1 hd y=>?_⟩;obtain ⟨rfl,hy⟩:=y;have hx:=hy xs (SqT.of (F1.keep _ _ e k).1);obtain ⟨d',e1,e2⟩:=r.get hx;rw [hd] at e1;cases e1;exact ⟨w1,rfl,Grow.refl _,e2.up F1⟩
  | _=>exact q.elim
def zax(lo hi:Int):List D:=(List.range (hi-lo).toNat).map fun (i:Nat)=>.int (lo+i)
def zcU(f:Fe):Fi:=fun ρ S=>(zan [f] ρ S).bind fun ds S1=>match ds with | [.int j]=>if -1000000<=j/\j<=1000000 then .ok (zax 0 j) S1 else .bad | _=>.bad
def zl0(f g:Fe):Fi:=fun ρ S=>(zan [f,g] ρ S).bind fun ds S1=>match ds with | [.int i,.int j]=>if (-1000000<=i/\i<=1000000)/\-1000000<=j/\j<=1000000 then .ok (zax i j) S1 else .bad | _=>.bad
def zoq{w:Wd}{lo hi:Int}{n:Nat}(hn:n=(hi-lo).toNat):ItOk cl w (Itr lo n) (zax lo hi):=by
 subst hn
 have hl:(zax lo hi).length=(hi-lo).toNat:=by unfold zax;rw [yae,ybc]
 refine ⟨fun w1 F1 i h=>by rw [hl] at h;exact h,fun w1 F1=>by rw [hl];exact yam _,fun w1 F1 i d x H1 hd y=>?_⟩;obtain ⟨rfl,rfl⟩:=y;unfold zax at hd;rw [yak] at hd
 cases hr:(List.range (hi-lo).toNat)[i]? with
 | none=>rw [hr] at hd;cases hd
 | some j =>
  rw [hr] at hd;have:=(yag.mp hr).2;rw [ycV] at this;subst this;cases hd;exact ⟨w1,rfl,Grow.refl _,.int _⟩
def zpc{p:Pos}(hg:Gl X "range")(hm:X.mg "range" = none)(ha:PA X [e] (tAs cl E [fc]))(hs:starEach [e] X.env=[(false,eval e X.env)]):PI X tg (.Call (.Name "range" p) [e] [] pos) (tI cl E (zcU fc)):=by
 refine PI.imp (zk3 hg hm ha hs) ?_;rintro σ H Q ⟨B,w,ρ,S,rfl,R,q⟩;refine ⟨B,w,ρ,S,rfl,R,?_⟩;unfold zcU at q
 cases hf:zan [fc] ρ S with
 | bad=>rwa [hf] at q
 | exc c S1=>rwa [hf] at q
 | ok ds S1 =>
  rw [hf] at q;intro vs w' R' F' h';dsimp only [Out.bind] at q;split at q
  ·rename_i ds' S' hm';split at hm'
   ·rename_i j;split at hm'
    ·rename_i hb;cases hm'
     cases h' with
     | cons h1 h2 =>
      cases h1;cases h2;exact ⟨j,rfl,by omega,by omega,q _ w' R' F' (zoq (by omega))⟩
    ·cases hm'
   ·cases hm'
  ·rename_i hm';split at hm'<;>first | (split at hm'<;>cases hm') | cases hm'
  ·exact q.elim
def zpb{a:Expr}{fa:Fe}{p:Pos}(hg:Gl X "range")(hm:X.mg "range" = none)(ha:PA X [a,e] (tAs cl E [fa,fc]))(hs:starEach [a,e] X.env=[(false,eval a X.env),(false,eval e X.env)])(hs2:starEach [e] X.env=[(false,eval e X.env)]):PI X tg (.Call (.Name "range" p) [a,e] [] pos) (tI cl E (zl0 fa fc)):=by
 refine PI.imp (zk2 hg hm ha hs hs2) ?_;rintro σ H Q ⟨B,w,ρ,S,rfl,R,q⟩;refine ⟨B,w,ρ,S,rfl,R,?_⟩;unfold zl0 at q
 cases hf:zan [fa,fc] ρ S with
 | bad=>rwa [hf] at q
 | exc c S1=>rwa [hf] at q
 | ok ds S1 =>
  rw [hf] at q;intro vs w' R' F' h';dsimp only [Out.bind] at q;split at q
  ·rename_i ds' S' hm';split at hm'
   ·rename_i i j;split at hm'
    ·rename_i hb;cases hm'
     cases h' with
     | cons h1 h2 =>
      cases h1
      cases h2 with
      | cons h2 h3 =>
       cases h2;cases h3;exact ⟨i,j,rfl,by omega,q _ w' R' F' (zoq rfl)⟩
    ·cases hm'
   ·cases hm'
  ·rename_i hm';split at hm'<;>first | (split at hm'<;>cases hm') | cases hm'
  ·exact q.elim
end
end S2
namespace S2
open PySem PySem.Spec PyProof.Rows L2
def ztq(ρ:Env)(i:Nat):Option (Bool×D):=match ρ[i]? with | some (some (false,d))=>some (false,d) | _=>none
def zb6(n:Nat)(caps:List Nat)(ρ:Env):Env:=List.replicate n none++caps.map (ztq ρ)
def zdq:Fe:=zag (.bl true)
def zbn(tg:Tg)(c elt:Fe)(ρ0:Env):List D->Sto->Out (List D)
 | [],S=>.ok [] S
 | d::ds,S=>match tg.put ρ0 d with
  | none=>.bad
  | some ρ1=>(c ρ1 S).bind fun b S1=>match isB b with
   | some true=>(elt ρ1 S1).bind fun y S2=>(zbn tg c elt ρ0 ds S2).bind fun ys S3=>.ok (y::ys) S3
   | some false=>zbn tg c elt ρ0 ds S1
   | none=>.bad
def zb5(n:Nat)(tg:Tg)(it:Fi)(c elt:Fe)(caps:List Nat):Fe:=fun ρ S=>(it ρ S).bind fun ds S1=>match zbn tg c elt (zb6 n caps ρ) ds S1 with
 | .ok ys S2=>if small ys.length then .ok (.lst ys) S2 else .bad
 | _=>.bad
abbrev noE:St->XK:=fun _ _ _ _=>False
section
variable{cl:Cf}
def zlL{B:Base}{σ:St}{w w1:Wd}{ρ:Env}{S S1:Sto}{n:Nat}{caps:List (Str×Nat)}(R:Rel cl B σ w ρ S){B1:Base}(W1:World' cl B1 w1 S1)(F1:Fut w w1){σ':St}(hσ:σ'.length=n+caps.length)(hc:σ'.drop n=caps.map fun p=>(σ[p.2]?).join) :
  Rel cl B1 σ' w1 (zb6 n (caps.map (·.2)) ρ) S1 where
 wd:=W1
 len:=by unfold zb6;rw [hσ,yao,yaD,yae,yae]
 slots:=fun i o d h=>by
  unfold zb6 at h
  by_cases hi:i<n
  ·rw [yaz (by rw [yaD];exact hi),yba] at h
   split at h<;>cases h
  ·rw [yaq (by rw [yaD];omega),yaD,yaH,yak] at h
   cases hp:caps[i-n]? with
   | none=>rw [hp] at h;cases h
   | some p =>
    rw [hp] at h;have h':ztq ρ p.2=some (o,d):=Option.some.inj h;unfold ztq at h';split at h'
    ·rename_i d' hd;cases h';obtain ⟨v,e,x⟩:=R.slots p.2 false d hd;refine ⟨v,?_,Shd.up F1 x⟩;have:=congrArg (fun l=>l[i-n]?) hc;rw [ybl,yak,hp] at this;rw [show n+(i-n)=i by omega] at this;rw [this];show some ((σ[p.2]?).join)=_;rw [e];rfl
    ·cases h'
end
section
variable{X:Cx}{cl:Cf}{E:St->XK}
def zoE{fi:Fi}{t:Tg}{fc fe:Fe}{n:Nat}{caps:List (Str×Nat)}{σ:St}{H:Hp}{Q:VK}(q:tN cl E (zb5 n t fi fc fe (caps.map (·.2))) σ H Q) :
  ziP (tI cl E fi) (tG cl n t) (tTr cl noE fc) (tE cl noE fe) n caps σ H Q:=by
 obtain ⟨B,w,ρ,S,rfl,R,q⟩:=q;refine ⟨B,w,ρ,S,rfl,R,?_⟩;unfold zb5 at q
 cases hf:fi ρ S with
 | bad=>rwa [hf] at q
 | exc c S1=>rwa [hf] at q
 | ok ds S1 =>
  rw [hf] at q;dsimp only [Out.bind] at q;intro J w0 R0 F0 hJ
  cases hcd:zbn t fc fe (zb6 n (caps.map (·.2)) ρ) ds S1 with
  | bad=>rw [hcd] at q;exact q.elim
  | exc _ _=>rw [hcd] at q;exact q.elim
  | ok all Sf =>
   rw [hcd] at q;dsimp only at q
   cases hz:small all.length with
   | false=>rw [hz,if_neg (by decide)] at q;exact q.elim
   | true =>
    rw [hz,if_pos rfl] at q;dsimp only at q;refine ⟨fun i m ys σ' H'=>m=ds.length-i/\i<=ds.length/\σ'.length=n+caps.length/\σ'.drop n=(caps.map fun p=>(σ[p.2]?).join)/\∃w1 S2 es zco,w1.H=H'/\Fut w0.inn w1/\World' cl w0.base w1 S2/\Shds cl w1 ys es/\zbn t fc fe (zb6 n (caps.map (·.2)) ρ) (ds.drop i) S2=.ok zco Sf/\es++zco=all,⟨ds.length,by simp,yby _,by simp [capσ],by simp [capσ],w0.inn,S1,[],all,rfl,Fut.refl _,R0.wd.enter,.nil,by rw [ycZ];exact hcd,rfl⟩,?_⟩;rintro i m ys σ1 H1 ⟨rfl,hi,hl1,hd1,w1,S2,es,zco,rfl,F1,W1,sh,hrest,hall⟩;refine ⟨?_,?_⟩
    ·rw [sh.length];refine yah ?_ (zbf hz);rw [<-hall,yao];omega
    have F1':Fut w0 w1:=(zcA w0).trans F1
    by_cases hlt:i<ds.length
    ·obtain ⟨d,hdi⟩:∃d,ds[i]?=some d:=⟨ds[i],yaa hlt⟩
     have hdr:ds.drop i=d::ds.drop (i+1):=by
      rw [yca hlt];rw [yaa hlt] at hdi;cases hdi;rfl
     rw [hdr] at hrest;unfold zbn at hrest;refine .inr ⟨hJ.go w1 F1' i hlt,fun x H' y=>?_⟩;obtain ⟨w2,rfl,g2,s2⟩:=hJ.yld w1 F1' i d x H' hdi y;have R1:Rel cl w0.base σ1 w2 (zb6 n (caps.map (·.2)) ρ) S2:=zlL R0 (W1.grow g2) (F1'.trans g2.fut) hl1 hd1
     cases hp:t.put (zb6 n (caps.map (·.2)) ρ) d with
     | none=>rw [hp] at hrest;cases hrest
     | some ρ1 =>
      rw [hp] at hrest;dsimp only at hrest;refine ⟨w0.base,w2,_,S2,d,ρ1,rfl,R1,s2,hp,fun σ2 hk1 hk2 R2=>⟨w0.base,w2,ρ1,S2,rfl,R2,?_⟩⟩
      cases hc:fc ρ1 S2 with
      | bad=>rw [hc] at hrest;cases hrest
      | exc _ _=>rw [hc] at hrest;cases hrest
      | ok b S3 =>
       rw [hc] at hrest;dsimp only [Out.bind] at hrest ⊢
       cases hb:isB b with
       | none=>rw [hb] at hrest;cases hrest
       | some bb =>
        rw [hb] at hrest;intro w3 R3 F3
        cases bb with
        | false=>exact zot ⟨ds.length-(i+1),by omega,rfl,hlt,hk1.trans hl1,hk2.trans hd1,w3,S3,es,zco,rfl,F1.trans (g2.fut.trans F3),R3.wd,sh.up (g2.fut.trans F3),hrest,hall⟩
        | true =>
         refine zos ⟨w0.base,w3,ρ1,S3,rfl,R3,?_⟩;dsimp only at hrest
         cases he:fe ρ1 S3 with
         | bad=>rw [he] at hrest;cases hrest
         | exc _ _=>rw [he] at hrest;cases hrest
         | ok yv S4 =>
          rw [he] at hrest;dsimp only at hrest
          cases hr:zbn t fc fe (zb6 n (caps.map (·.2)) ρ) (ds.drop (i+1)) S4 with
          | bad=>rw [hr] at hrest;cases hrest
          | exc _ _=>rw [hr] at hrest;cases hrest
          | ok zs S5 =>
           rw [hr] at hrest;cases hrest;intro v w4 R4 F4 h4;have ff:=g2.fut.trans (F3.trans F4);exact ⟨ds.length-(i+1),by omega,rfl,hlt,hk1.trans hl1,hk2.trans hd1,w4,S4,es++[yv],zs,rfl,F1.trans ff,R4.wd,(sh.up ff).append (.cons h4 .nil),hr,by rw [<-hall,yb4];rfl⟩
    ·have e:i=ds.length:=by omega
     subst e;rw [List.drop_length] at hrest;cases hrest;rw [yaY] at hall;subst hall;refine .inl ⟨hJ.stop w1 F1',fun p hp=>?_⟩;obtain ⟨Rb,Fb⟩:=R0.leave W1 F1;exact q p (.lst ys) (w0.back w1) Rb (F0.trans Fb) hp (.lst (sh.up (zdm W1)))
end
end S2
namespace L2
open PySem PySem.Spec PyProof.Rows
section
variable{X:Cx}
end
end L2
namespace L2
open PySem PySem.Spec PyProof.Rows
def CXE(P:Program)(w:World):CXT:=fun outer H s E e s'=>∃(a:Addr) (cls a0:Value) (H':Hp) (B:Heap),e=.ref a/\Heap.FlyingW B outer a cls a0 s'.heap ∧
 (∀b o,s'.heap.get? b=some o->H' b≠none->B.get? b=some o)/\(∀b o,s.heap.get? b=some o->H b=none->b ∉ frs outer->B.get? b=some o) ∧
 (∀b o,s.heap.get? b=some o->b ∉ frs outer->∃o',B.get? b=some o') ∧
 s'.os=s.os/\AllBare s'.gens/\Un (frs outer) [] H H' s.heap s'.heap/\HOk P w H' s'.heap/\E cls none H'
def zb3.has{P:Program}{w:World}{H:Hp}{h:Heap}{a:Addr}{o:HO}(x:zb3 P w H h a o):∃ob,h.get? a=some ob:=by
 cases o with
 | lst xs=>obtain ⟨_,_,_,_,e⟩:=x;exact ⟨_,e⟩
 | tup xs=>obtain ⟨_,_,_,ob,e,_⟩:=x;exact ⟨_,e⟩
 | dK kvs=>obtain ⟨_,_,_,_,o,_,_,e,_⟩:=x;exact ⟨_,e⟩
 | dT kvs=>obtain ⟨_,_,_,_,o,_,_,e,_⟩:=x;exact ⟨_,e⟩
 | set S n=>obtain ⟨o,_,_,_,e,_⟩:=x;exact ⟨_,e⟩
 | ins C dx fs=>obtain ⟨_,_,_,e,_⟩:=x;exact ⟨_,e⟩
 | own y=>exact x
 | xd fs=>obtain ⟨_,⟨_,_,_,e,_⟩,_⟩:=x;exact ⟨_,e⟩
 | rng lo hi=>obtain ⟨_,_,_,e⟩:=x;exact ⟨_,e⟩
 | frz ob u=>obtain ⟨e,_⟩:=x;exact ⟨_,e⟩
 | tbl ps=>exact ⟨_,(show h.get? a=some _ from x)⟩
 | met f y=>exact ⟨_,(show h.get? a=some _ from x)⟩
 | ext φ=>obtain ⟨_,e,_⟩:=x;exact e
def HOk.same{P:Program}{w:World}{H:Hp}{h h':Heap}(x:HOk P w H h)(k:∀b u,h.get? b=some u->H b≠none->h'.get? b=some u):HOk P w H h':=fun a o e =>
 (x a o e).stay (fun b u hb q=>k b u q (hb.elim (fun z=>by rw [z,e];exact yaV _) (fun z=>by rw [z];exact yaV _))) (fun _ q=>q) fun _ _ q=>q
section
variable{X:Cx}{pins:Z3}{σ:St}{H:Hp}{s:Shared}{M:Model}
def znG(l:List Env):∀env∈l,∀b,env.frame=some b->b∈frs l:=fun env he b hb=>ya4.mpr ⟨env,he,hb⟩
def zjS{h':Heap}{e:Addr}{cls:Value}{vs:List Value}{E:XK}{Er:Z5}(I:Inv X pins σ H s)(hx:X.ex=[])(hs:X.stack=X.env::X.outer)(hf:X.env.frame=some X.env.locals)(mk:Heap.MadeExcOf s.heap h' e cls vs)(q:E cls none H) :
  wpAny M X.A (leaving X.env (.ref e)) (fun _ s''=>CXE X.prog X.w X.outer X.H₀ X.s₀ E (.ref e) s'') Er { s with heap:=h' }:=by
 have hfr:X.A.frames=some (X.env::X.outer):=by rw [<-hs];exact I.ok.frames
 have hst:s.heap.FunFrames X.base (X.env::X.outer):=by rw [<-hs];exact I.stack
 refine wpAny_leaves_madeW (base:=PySem.W.hideAll s.heap (frs (X.env::X.outer))) hfr hf (fun b o z=>PySem.W.of_hideAll _ z) (PySem.W.funFrames_hide hst (znG _)) mk fun h2 t fl tup _ up=>?_
 have inB:∀b o,s.heap.get? b=some o->b ∉ frs (X.env::X.outer)->(PySem.W.hideAll s.heap (frs (X.env::X.outer))).get? b=some o:=fun b o z n=>PySem.W.hideAll_get _ z n
 have sub:∀b,b∈frs (X.env::X.outer)->b=X.env.locals\/b∈X.fs:=fun b hb=>by
  rw [<-hs] at hb;exact yav.mp (I.stkSub b hb)
 have fre:∀b,b∈frs (X.env::X.outer)->H b=none:=fun b hb=>by rw [<-hs] at hb;exact I.stkFree b hb
 have old:∀b o,X.s₀.heap.get? b=some o->b ∉ frs X.outer->b ∉ frs (X.env::X.outer):=fun b o z n hb=>by
  rcases sub b hb with r | r
  ·exact absurd (yar (yas z) I.ok.above) (by rw [r];exact yaT _)
  ·exact n r
 have nx:∀b:Addr,b ∉ X.ex:=fun b z=>by rw [hx] at z;cases z
 have trk:∀b o,s.heap.get? b=some o->H b≠none->h2.get? b=some o:=fun b o z n=>fl.1 b o (inB b o z fun hb=>n (fre b hb))
 have hok2:HOk X.prog X.w H h2:=I.hok.same trk
 have slt:∀b o,s.heap.get? b=some o->b∈frs X.stack->∃sl,h2.get? b=some { o with slots:=sl }:=fun b o z hb=>by
  obtain ⟨_,o',z',hd⟩:=I.stack.mem hb;rw [z] at z';cases z';exact up b o (mk.keeps b o z) hd
 have un2:Un (frs X.stack) [] H H s.heap h2:=⟨fun b o z n hb _=>fl.1 b o (inB b o z (by rw [<-hs];exact hb)),fun b o z n hb _=>slt b o z hb,fun b o z n _=>n,
  fun b o z _=>by
   by_cases hb:b∈frs X.stack
   ·obtain ⟨sl,r⟩:=slt b o z hb;exact ⟨_,r⟩
   ·exact ⟨o,fl.1 b o (inB b o z (by rw [<-hs];exact hb))⟩,
  fun _ _ z=>z,fun _ _ _ z=>z,fun _ ps z=>⟨#[],by rw [z,Array.append_empty]⟩⟩
 have J:=I.call (g':=s.gens) (t':=s.toks) (d':=s.drawn) (ch:=[]) un2 hok2 I.bare (fun b z=>absurd z (by simp));refine ⟨e,cls,.ref t,H,_,rfl,fl,fun b o z n=>?_,fun b o z n hb=>?_,fun b o z hb=>?_,J.os,J.bare,?_,J.hok,q⟩
 ·cases k:H b with
  | none=>exact absurd k n
  | some u =>
   obtain ⟨o',z'⟩:=(I.hok b u k).has;have:=trk b o' z' n;rw [show h2.get? b=some o from z] at this;cases this;exact inB b o z' fun hb=>n (fre b hb)
 ·exact inB b o (I.base.keep b o z n hb (nx b)) (old b o z hb)
 ·obtain ⟨o',z'⟩:=I.base.there b o z (nx b);exact ⟨o',inB b o' z' (old b o z hb)⟩
 ·have:=J.base;rwa [hx] at this
def znr{e:Value}{s':Shared}{E:XK}{Er:Z5}(I:Inv X pins σ H s)(hx:X.ex=[])(hs:X.stack=X.env::X.outer)(hf:X.env.frame=some X.env.locals)(q:CXE X.prog X.w X.stack H s E e s') :
  wpAny M X.A (leaving X.env e) (fun _ s''=>CXE X.prog X.w X.outer X.H₀ X.s₀ E e s'') Er s':=by
 have hfr:X.A.frames=some (X.env::X.outer):=by rw [<-hs];exact I.ok.frames
 obtain ⟨a,cls,a0,H',B,rfl,fl,c1,c2,c3,os,bare,un,hok,q⟩:=q
 have fl':Heap.FlyingW B (X.env::X.outer) a cls a0 s'.heap:=by rw [<-hs];exact fl
 refine wpAny_leaves_onW hfr hf fl' fun h2 fl2 up=>?_
 have sub:∀b,b∈frs X.stack->b=X.env.locals\/b∈X.fs:=fun b hb=>yav.mp (I.stkSub b hb)
 have old:∀b o,X.s₀.heap.get? b=some o->b ∉ frs X.outer->b ∉ frs X.stack:=fun b o z n hb=>by
  rcases sub b hb with r | r
  ·exact absurd (yar (yas z) I.ok.above) (by rw [r];exact yaT _)
  ·exact n r
 have nx:∀b:Addr,b ∉ X.ex:=fun b z=>by rw [hx] at z;cases z
 have trk:∀b o,s'.heap.get? b=some o->H' b≠none->h2.get? b=some o:=fun b o z n=>fl2.1 b o (c1 b o z n)
 have hok2:HOk X.prog X.w H' h2:=hok.same trk
 have slt:∀b o,s.heap.get? b=some o->H b=none->b∈frs X.stack->∃sl,h2.get? b=some { o with slots:=sl }:=fun b o z n hb=>by
  obtain ⟨_,o',z',hd⟩:=I.stack.mem hb;rw [z] at z';cases z';obtain ⟨sl,r⟩:=un.slot b o z n hb (by simp);obtain ⟨sl',r'⟩:=up b ({ o with slots:=sl }:Obj) r hd;exact ⟨sl',r'⟩
 have un2:Un (frs X.stack) [] H H' s.heap h2:=⟨fun b o z n hb _=>fl2.1 b o (c2 b o z n hb),fun b o z n hb _=>slt b o z n hb,un.free,
  fun b o z _=>by
   by_cases hb:b∈frs X.stack
   ·obtain ⟨sl,r⟩:=slt b o z (I.stkFree b hb) hb;exact ⟨_,r⟩
   ·obtain ⟨o',r⟩:=c3 b o z hb
    exact ⟨o',fl2.1 b o' r⟩,
  un.tups,un.frzs,un.tbls⟩
 have J:=I.call (g':=s'.gens) (t':=s'.toks) (d':=s'.drawn) (ch:=[]) un2 hok2 bare (fun b z=>absurd z (by simp));refine ⟨a,cls,a0,H',B,rfl,fl2,fun b o z n=>?_,fun b o z n hb=>?_,fun b o z hb=>?_,os.trans I.os,bare,?_,J.hok,q⟩
 ·cases k:H' b with
  | none=>exact absurd k n
  | some u =>
   obtain ⟨o',z'⟩:=(hok b u k).has;have:=trk b o' z' n;rw [show h2.get? b=some o from z] at this;cases this;exact c1 b o z' n
 ·exact c2 b o (I.base.keep b o z n hb (nx b)) (I.base.free b o z n (nx b)) (old b o z hb)
 ·obtain ⟨o',z'⟩:=I.base.there b o z (nx b);exact c3 b o' z' (old b o z hb)
 ·have:=J.base;rwa [hx] at this
end
def zsk{P:Program}{w:World}{K:PySem.W.Frag}{mg:Z6}{base:Heap}{N:List Str}{qual:Str}{scope:Scope}{f:Addr}{cd:Value}{A:Around}{outer:List Env}{s:Shared}{H:Hp}{E:XK} :
  ztB (CXE P w) (zl1 (CXE P w) P w K mg base N qual scope f cd A outer s H E) E:=fun pins σ H1 s1 e s' I q =>
 znr (X:=zl1 (CXE P w) P w K mg base N qual scope f cd A outer s H E) I rfl rfl rfl q
def zis{K:PySem.W.Frag}{h:Heap}{C:Addr}{bmB:List Value}{nid:String}(k:K.In h)(z:PySem.W.excIn K C bmB nid=true) :
  ∃bm N nm qn bs hd sn sub ab col dd c0 c1 c2 c3 c5 mN,h.get? C=some (excClassObj nm qn C N bs bm hd sn sub ab col dd c0 c1 c2 c3 c5 nid)/\h.Ns N mN/\mN "__init__" = none/\OwnTail h bmB bm:=by
 unfold PySem.W.excIn at z;split at z
 case h_2=>cases z
 case h_1 dd cd sl ho =>
  split at z
  case h_2=>cases z
  case h_1 D bm c0 c1 c2 c3 n c5 e1 e2 =>
   simp only [yab,ybT,ybO] at z;obtain ⟨⟨⟨⟨⟨z1,z2⟩,z3⟩,z4⟩,z5⟩,z6⟩:=z;subst z1 z2
   have hsl:sl=#[c0,c1,c2,c3,some (.builtin n),c5]:=by
    cases sl with
    | mk l=>exact congrArg Array.mk e2
   have hcd:cd={ cd with mro:=.ref D::bm,hasDel:=false }:=by
    cases cd;simp only at e1 z3;simp only [e1,z3]
   rw [hsl,hcd] at ho;exact ⟨bm,cd.ns,cd.name,_,cd.bases,_,_,_,_,_,dd,c0,c1,c2,c3,c5,_,k _ _ ho,.of_isNs (PySem.W.isNs_of_in k z5),PySem.W.nsMap_none_of_in k z5 z6,PySem.W.tail_of_in k z4⟩
def ztA(X:Cx)(E:XK):Prop:=∀(C:Addr) (pins:Z3) (σ:St) (H:Hp) (s:Shared) (e:Addr) (h':Heap) (vs:List Value),Inv X pins σ H s->Heap.MadeExcOf s.heap h' e (.ref C) vs->E (.ref C) none H->X.xe (.ref e) { s with heap:=h' }
def zkT{P:Program}{w:World}{K:PySem.W.Frag}{mg:Z6}{base:Heap}{N:List Str}{qual:Str}{scope:Scope}{f:Addr}{cd:Value}{A:Around}{outer:List Env}{s:Shared}{H:Hp}{E:XK} :
  ztA (zl1 (CXE P w) P w K mg base N qual scope f cd A outer s H E) E:=fun C pins σ H1 s1 e h' vs I mk q =>
 zjS (X:=zl1 (CXE P w) P w K mg base N qual scope f cd A outer s H E) I rfl rfl rfl mk q
end L2
namespace L2
open PySem PySem.Spec PyProof.Rows
def XP(X:Cx)(pins:Z3)(σ:St)(E:XK)(e:Value)(s':Shared):Prop:=∃H1 s1,Inv X pins σ H1 s1/\CXE X.prog X.w X.stack H1 s1 E e s'
section
variable{X:Cx}{k:Nat}{f C:Addr}{fd:FuncData}{ps:List Str}{sp:Sp}{dvs:List V}{ds:List Value}{x m:Str}{p pos apos:Pos}{e o:Expr}{es:List Expr}{ta:TE}{t:TA}
end
def zgx{M:Model}{A:Around}{E:Z5}{K:PySem.W.Frag}{s:Shared}{C D e:Addr}{oe:Obj}{bC bD:List Value}{iC iD:String}{Q:Bool->Shared->Prop}(k:K.In s.heap)(zC:PySem.W.excIn K C bC iC=true)(zD:PySem.W.excIn K D bD iD=true)
  (he:s.heap.get? e=some oe) (hc:oe.cls=.ref C) (hb:bD.contains (.type "BaseException")=true) (up:∃cd d cl sl,K.lookup C=some ⟨cl,d,.cls cd,sl⟩/\cd.mro.contains (.ref D)=true) (q:Q true s):wpAny M A (excMatches (.ref e) (.ref D)) Q E s:=by
 obtain ⟨bm,N,nm,qn,bs,hd,sn,sub,ab,col,dd,c0,c1,c2,c3,c5,mN,o1,o2,o3,o4⟩:=zis k zC;obtain ⟨bm',N',nm',qn',bs',hd',sn',sub',ab',col',dd',d0,d1,d2,d3,d5,mN',p1,p2,p3,p4⟩:=zis k zD;obtain ⟨cd,d,cl,sl,lk,ct⟩:=up;have o1':=k _ _ lk;rw [o1] at o1';have hcd:=congrArg Obj.data (Option.some.inj o1')
 have hcC:(Value.ref C::bm).contains (.ref D)=true:=by
  injection hcd with h
  rwa [<-h] at ct
 have hcB:(Value.ref D::bm').contains (.type "BaseException")=true:=by rw [ycm,p4.hasType hb,Bool.or_true]
 have f:=tc_notTuple;obtain ⟨h,g,dr,t,os⟩:=s;unfold excMatches
 repeat (first | (with_reducible refine ybx he ?_;rw [hc]) | with_reducible refine ybx p1 ?_ | (with_reducible refine wpAny_isSubtype_exc p1 ?_;rw [hcB]) | (with_reducible refine wpAny_isSubtype_exc o1 ?_;rw [hcC]) | wp_step)
 exact q
end L2
namespace L2
open PySem PySem.Spec PyProof.Rows
section
variable{X:Cx}{pins:Z3}{σ:St}{H:Hp}{s:Shared}
def zqi{M:Model}{A:Around}{E:Z5}{i:Nat}{x:Str}{Q:Unit->Shared->Prop}(I:Inv X pins σ H s)(hN:X.N.Nodup)(hi:X.N[i]?=some x)(hk:X.env.scope.names.lookup x=some .local)(hv:∃v,σ[i]?=some (some v))
  (h:∀s',Inv X pins (σ.set i none) H s'->Q () s'):wpAny M A (unbindName X.env x) Q E s:=by
 obtain ⟨m,hn,hl⟩:=id I.loc
 have hcls:(X.env.scope.kind == .class||(X.env.scope.kind == .module&&X.env.locals != X.env.globals))=false:=by rw [I.ok.kind];rfl
 obtain ⟨v,hv⟩:=hv;obtain ⟨u,r,lk⟩:=hl i x v hi hv (.inl hk)
 have hm:m x=some u:=by
  rcases lk with ⟨_,z⟩ | ⟨z,_⟩
  ·exact z
  ·have z:X.env.scope.names.lookup x=some .cell\/X.env.scope.names.lookup x=some .free:=z;rw [hk] at z
   rcases z with z | z<;>cases z
 refine wpAny_unbindName_local hk hn hm hcls fun h' u' hn' hs=>h _ ?_
 have far:∀b o,X.s₀.heap.get? b=some o->b≠X.env.locals:=fun b o z=>yaG (yar (yas z) I.ok.above)
 refine ⟨I.ok,I.os,I.bare,⟨?_,?_,I.base.free,?_,I.base.tups,I.base.frzs,I.base.tbls⟩,⟨_,hn',?_⟩,?_,I.free,I.freeC,?_,?_,by simpa using I.len⟩
 ·exact fun b o z n hb hx=>(hs.2 b (far b o z)).trans (I.base.keep b o z n hb hx)
 ·exact fun b o z n hb hx=>let ⟨sl,z1⟩:=I.base.slot b o z n hb hx;⟨sl,(hs.2 b (far b o z)).trans z1⟩
 ·exact fun b o z hx=>let ⟨o',z1⟩:=I.base.there b o z hx;⟨o',(hs.2 b (far b o z)).trans z1⟩
 ·intro j y w e1 e2 e3
  have hj:j≠i:=fun z=>by
   subst z;have l1:j<σ.length:=(yag.mp hv).1;rw [yaA l1] at e2;cases e2
  rw [yaP (Ne.symm hj)] at e2;obtain ⟨u1,r1,q⟩:=hl j y w e1 e2 e3;refine ⟨u1,r1,?_⟩
  rcases q with ⟨k1,z⟩ | ⟨k1,c,z,z1⟩
  ·have ny:y≠x:=fun e=>hj (zgu hN e1 (e ▸ hi))
   exact .inl ⟨k1,by simp [ny,z]⟩
  ·exact .inr ⟨k1,c,z,z1.sameBut hs (I.cne y c z)⟩
 ·exact fun y c z=>let ⟨w,z1⟩:=I.cell y c z;⟨w,z1.sameBut hs (I.cne y c z)⟩
 ·exact fun p hp=>let ⟨z,n,ne,nf,d⟩:=I.pin p hp;⟨(hs.2 p.1 ne).trans z,n,ne,nf,d⟩
 ·exact I.hok.same fun b o z n=>(hs.2 b fun e=>n (by rw [e];exact I.free)).trans z
def zgD{M:Model}{A:Around}{E:Z5}{i:Nat}{x:Str}{pos:Pos}{Q:Unit->Shared->Prop}(I:Inv X pins σ H s)(hN:X.N.Nodup)(hi:X.N[i]?=some x)(hk:X.env.scope.names.lookup x=some .local)
  (h:∀s',Inv X pins (σ.set i none) H s'->Q () s'):wpAny M A (do bindName X.env x .none;unbindBehindTheSuite X.env x pos) Q E s:=by
 refine yac (wpAny_bindName (zdO (v:=.non) I hN hi (.inl hk) rfl (fun s2 I2=>?_) (.inr hk)));unfold unbindBehindTheSuite;refine wpAny_onRaise ?_
 have l1:i<σ.length:=by rw [I.len];exact (yag.mp hi).1
 refine zqi I2 hN hi hk ⟨.non,yaA l1⟩ fun s3 I3=>h s3 ?_
 rwa [ycg] at I3
end
end L2
namespace L2
open PySem PySem.Spec PyProof.Rows
section
variable{X:Cx}{pins:Z3}{σ:St}{H H':Hp}{s s':Shared}{B h2:Heap}{a:Addr}{cls a0:Value}
abbrev Cx.inH(X:Cx)(a:Addr):Cx:={ X with A:=X.A.mark (some (.ref a)),calm:=false,xe:=fun _ _=>False }
theorem Inv.inH(I:Inv X pins σ H s)(a:Addr):Inv (X.inH a) pins σ H s :=
 ⟨⟨I.ok.mod,I.ok.kind,I.ok.glob,I.ok.blt,I.ok.above,I.ok.inj,I.ok.has,I.ok.cab,(fun z=>nomatch z),I.ok.frames,I.ok.stk,I.ok.exf,I.ok.bs,I.ok.bsz,I.ok.noex,I.ok.exfs,I.ok.funs,I.ok.frf⟩,I.os,I.bare,I.base,I.loc,I.cell,I.free,I.freeC,I.pin,I.hok,I.len⟩
def Inv.outH(J:X.Ok)(I:Inv (X.inH a) pins σ H s):Inv X pins σ H s:=⟨J,I.os,I.bare,I.base,I.loc,I.cell,I.free,I.freeC,I.pin,I.hok,I.len⟩
def zf4(I:Inv X pins σ H s)(fl:Heap.FlyingW B X.stack a cls a0 h2)(up:s'.heap.UpToSlots h2)(c1:∀b o,s'.heap.get? b=some o->H' b≠none->B.get? b=some o)
  (c2:∀b o,s.heap.get? b=some o->H b=none->b ∉ frs X.stack->B.get? b=some o) (c3:∀b o,s.heap.get? b=some o->b ∉ frs X.stack->∃o',B.get? b=some o')
  (os:s'.os=s.os) (bare:AllBare s'.gens) (un:Un (frs X.stack) [] H H' s.heap s'.heap) (hok:HOk X.prog X.w H' s'.heap) :
  Inv X pins σ H' { s' with heap:=h2 }/\∃ob,ob.cls=cls/\h2.get? a=some ob/\H' a=none/\Inv X pins σ (upd H' a (.frz ob (.own a))) { s' with heap:=h2 }:=by
 have trk:∀b o,s'.heap.get? b=some o->H' b≠none->h2.get? b=some o:=fun b o z n=>fl.1 b o (c1 b o z n)
 have hok2:HOk X.prog X.w H' h2:=hok.same trk
 have slt:∀b o,s.heap.get? b=some o->H b=none->b∈frs X.stack->∃sl,h2.get? b=some { o with slots:=sl }:=fun b o z n hb=>by
  obtain ⟨_,o',z',hd⟩:=I.stack.mem hb;rw [z] at z';cases z';obtain ⟨sl,r⟩:=un.slot b o z n hb (by simp);obtain ⟨sl',r'⟩:=up b ({ o with slots:=sl }:Obj) r hd;exact ⟨sl',r'⟩
 have th:∀b o,s.heap.get? b=some o->b ∉ ([]:List Addr)->∃o',h2.get? b=some o':=fun b o z _=>by
  by_cases hb:b∈frs X.stack
  ·obtain ⟨sl,r⟩:=slt b o z (I.stkFree b hb) hb;exact ⟨_,r⟩
  ·obtain ⟨o',r⟩:=c3 b o z hb;exact ⟨o',fl.1 b o' r⟩
 have un2:Un (frs X.stack) [] H H' s.heap h2:=⟨fun b o z n hb _=>fl.1 b o (c2 b o z n hb),fun b o z n hb _=>slt b o z n hb,un.free,th,un.tups,un.frzs,un.tbls⟩;refine ⟨I.call' (s':={ s' with heap:=h2 }) (ch:=[]) os un2 hok2 bare (fun b z=>absurd z (by simp)),?_⟩;obtain ⟨oe,vs,he,hc,hd,_⟩:=fl.first
 have na:H' a=none:=by
  cases k:H' a with
  | none=>rfl
  | some u =>
   obtain ⟨o',z'⟩:=(hok a u k).has;have:=c1 a o' z' (by rw [k];exact yaV _);rw [fl.2.1] at this;cases this
 have ns:∀o,s.heap.get? a=some o->False:=fun o z=>by
  by_cases hb:a∈frs X.stack
  ·obtain ⟨_,o',z',hd'⟩:=fl.2.2.1.mem hb;rw [he] at z';cases z';exact hd' _ hd
  ·obtain ⟨o',r⟩:=c3 a o z hb;rw [fl.2.1] at r;cases r
 have ne:∀{b:Addr} {u:HO},H' b=some u->b≠a:=fun {b u} z e=>by rw [e,na] at z;cases z
 refine ⟨oe,hc,he,na,I.call' (s':={ s' with heap:=h2 }) (ch:=[]) os ⟨un2.keep,un2.slot,fun b o z n hx=>?_,th,fun b xs z=>?_,fun b o u z=>?_,fun b ps z=>?_⟩ (fun b u z=>?_) bare (fun b z=>absurd z (by simp))⟩
 ·rw [zaq (a:=a) (b:=b) fun e=>ns o (by rw [<-e];exact z)];exact un.free b o z n hx
 ·have:=un.tups b xs z;rw [zaq (ne this)];exact this
 ·have:=un.frzs b o u z;rw [zaq (ne this)];exact this
 ·obtain ⟨more,this⟩:=un.tbls b ps z;exact ⟨more,by rw [zaq (ne this)];exact this⟩
 ·by_cases e:b=a
  ·subst e;unfold upd at z;rw [if_pos rfl] at z;cases z;exact ⟨he,oe,he⟩
  ·rw [zaq e] at z;exact (hok2 b u z).stay (fun _ _ _ q=>q) (fun c q=>by rw [zaq (ne q)];exact q) (fun c xs q=>by rw [zaq (ne q)];exact q)
end
def zn5(K:PySem.W.Frag)(C D:Addr):Prop:=(∃bC iC,PySem.W.excIn K C bC iC=true)/\∃cd d cl sl,K.lookup C=some ⟨cl,d,.cls cd,sl⟩/\cd.mro.contains (.ref D)=true
def Ends.goes(D:Ends)(i:Nat):Ends:={ nx:=fun σ H=>D.nx (σ.set i none) H,rt:=D.rt,bk:=fun σ H=>D.bk (σ.set i none) H,ct:=fun σ H=>D.ct (σ.set i none) H }
def zo7{X:Cx}{a:Addr}{pins:Z3}{D:Ends}{i:Nat}{n:Str}{pos:Pos}{f:Flow}{s:Shared}{E:Z5}(J:X.Ok)(hN:X.N.Nodup)(hi:X.N[i]?=some n)(hk:X.env.scope.names.lookup n=some .local)(h:SP (X.inH a) pins (D.goes i) f s) :
  wpAny (model X.prog X.w) X.A (do bindName X.env n .none;unbindBehindTheSuite X.env n pos) (fun _ s3=>SP X pins D f s3) E s:=by
 cases f with
 | next =>
  obtain ⟨σ',H',I,q⟩:=h;exact zgD (I.outH J) hN hi hk fun s' I'=>⟨_,H',I',q⟩
 | brk =>
  obtain ⟨σ',H',I,q⟩:=h;exact zgD (I.outH J) hN hi hk fun s' I'=>⟨_,H',I',q⟩
 | cont =>
  obtain ⟨σ',H',I,q⟩:=h;exact zgD (I.outH J) hN hi hk fun s' I'=>⟨_,H',I',q⟩
 | ret u =>
  obtain ⟨v,σ',H',I,r,q⟩:=h;exact zgD (I.outH J) hN hi hk fun s' I'=>⟨v,_,H',I',r,q⟩
end L2
namespace PySem.W
open PySem
structure ExcCls(K:Frag)(C:Addr):Prop where
 ga:findIn K (.ref C) "__getattribute__" = some (some (.builtin "BaseException.__getattribute__"))
 gt:findIn K (.ref C) "__getattr__" = some none
 cl:findIn K (.ref C) "__class__" = some (some (.builtin "object.__class__"))
 ob:subIn K (.ref C) (.type "object")=some true
 be:subIn K (.ref C) (.type "BaseException")=some true
 is:∃c d cd sl,K.lookup C=some ⟨c,d,.cls cd,sl⟩
section
variable{prog:Program}{w:World}{A:Around}{E:Z5}{h:Heap}{g:Array GenState}{d:Drawn}{t:Nat}{os:OsState}{a C:Addr}{o:Obj}{K:Frag}
def zgE{R:Result->Shared->Prop}(k:K.In h)(X:ExcCls K C)(hx:h.get? a=some o)(hc:o.cls=.ref C)(hq:R (.ok (.ret (.ref C))) ⟨h,g,d,t,os⟩) :
  codeAny (model prog w) A (.call (.builtin "getset_descriptor.__get__") ⟨[.builtin "object.__class__",.ref a,.ref C],[]⟩) R ⟨h,g,d,t,os⟩:=by
 have isGs:Shared.TypeIs ⟨h,g,d,t,os⟩ (.builtin "object.__class__") "getset_descriptor":=ycv
 have f8:subIn K (.ref C) (.type (".".intercalate ("object.__class__".cutAt '.').dropLast))=some true:=by rw [F.owner_object_class];exact X.ob
 refine codeAny_call_builtin F.slot_gs_get.plain F.entry_gs_get ?_;refine F.slot_gs_get.check _ _ _ _ _ _ _ _ isGs (F.args_gs_get _ _ _) ?_
 repeat (any_goals (first | assumption | (with_reducible refine ybx hx ?_;rw [hc]) | with_reducible refine Looks.at (looks_subIn k f8) ?_ | wp_step))
 refine And.intro (Code.quiet_builtin _ (by decide +kernel)) ?_;refine codeAny_builtin F.entry_object_class ?_
 repeat (any_goals (first | assumption | (with_reducible refine ybx hx ?_;rw [hc]) | wp_step))
def zfv{tk:Tok}{Q:Fin->Shared->Prop}(k:K.In h)(X:ExcCls K C)(hx:h.get? a=some o)(hc:o.cls=.ref C)(hq:Q (.done (.ret (.ref C))) ⟨h,g,d,t,os⟩) :
  wpAny (model prog w) A (Builtin.«object.__getattribute__» { pos:=[.ref a,.str "__class__" tk],kw:=[] }) Q E ⟨h,g,d,t,os⟩:=by
 have isGs:Shared.TypeIs ⟨h,g,d,t,os⟩ (.builtin "object.__class__") "getset_descriptor":=ycv;have known:=And.intro ycv (And.intro F.slot_gs_get.lookup F.slot_gs_set.lookup);obtain ⟨p5,p6,p7⟩:=known
 repeat (any_goals (first | assumption | (with_reducible refine ybx hx ?_;rw [hc]) | with_reducible refine Looks.at (looks_findIn k X.cl) ?_ | wp_step))
 refine zgE k X hx hc ?_
 repeat any_goals first | assumption | wp_step
end
end PySem.W
namespace PySem.W
open PySem
section
variable{prog:Program}{w:World}{A:Around}{E:Z5}{h:Heap}{g:Array GenState}{d:Drawn}{t:Nat}{os:OsState}{a C:Addr}{o:Obj}{K:Frag}
def zfw{M:Model}{nameV:Value}{Q:Unit->Shared->Prop}(k:K.In h)(X:ExcCls K C)(hx:h.get? a=some o)(hc:o.cls=.ref C)(hq:Q () ⟨h,g,d,t,os⟩) :
  wpAny M A (checkBuiltinCall "BaseException.__getattribute__" ⟨[.ref a,nameV],[]⟩) Q E ⟨h,g,d,t,os⟩:=by
 have k1:builtinKind "BaseException.__getattribute__" = some .slot:=by decide +kernel
 have k2:splitId "BaseException.__getattribute__" = some ("BaseException","__getattribute__"):=by decide +kernel
 have fits:=F.args_bexc_ga (.ref a) nameV;simp only [checkBuiltinCall,k1,k2];refine yac ?_;unfold isInstance
 repeat (first | (with_reducible refine ybx hx ?_;rw [hc]) | with_reducible refine Looks.at (looks_subIn k X.be) ?_ | wp_step)
 exact hq
def zfG{tk:Tok}{R:Result->Shared->Prop}(k:K.In h)(X:ExcCls K C)(hx:h.get? a=some o)(hc:o.cls=.ref C)(hq:R (.ok (.ret (.ref C))) ⟨h,g,d,t,os⟩) :
  codeAny (model prog w) A (.call (.builtin "BaseException.__getattribute__") ⟨[.ref a,.str "__class__" tk],[]⟩) R ⟨h,g,d,t,os⟩ :=
 codeAny_call_builtin F.attr_ValueError.ga.plain F.entry_bexc_ga (zfw k X hx hc (zfv k X hx hc hq))
def zhD{tk:Tok}{fill expr:Bool}{Q:Z5}(k:K.In h)(X:ExcCls K C)(hx:h.get? a=some o)(hc:o.cls=.ref C)(hq:Q (.ref C) ⟨h,g,d,t,os⟩) :
  wpAny (model prog w) A (getAttrBy (.ref a) (.str "__class__" tk) fill expr) Q E ⟨h,g,d,t,os⟩:=by
 have f3:=F.attr_ValueError.ga.bind (.ref a)
 have n0:(expr&&onTheHeap (Value.builtin "BaseException.__getattribute__"))=false:=by cases expr<;>rfl
 have n2:(Value.builtin "BaseException.__getattribute__" == Value.builtin "object.__getattribute__")=false:=by decide +kernel
 have n1:(onTheHeap (Value.ref C)&&Value.builtin "BaseException.__getattribute__" == Value.builtin "object.__getattribute__")=false:=by rw [n2];rfl
 repeat (any_goals (first | assumption | (with_reducible refine ybx hx ?_;rw [hc]) | with_reducible refine Looks.at (looks_findIn k X.ga) ?_ | with_reducible refine Looks.at (looks_findIn k X.gt) ?_ | wp_step))
 refine zfG k X hx hc ?_
 repeat any_goals first | assumption | wp_step
def zfH{Q:Option Value->Shared->Prop}(k:K.In h)(X:ExcCls K C)(hx:h.get? a=some o)(hc:o.cls=.ref C)(hq:Q (some (.ref C)) ⟨h,g,d,t+1,os⟩):wpAny (model prog w) A (getAttr? (.ref a) "__class__") Q E ⟨h,g,d,t,os⟩:=by
 unfold getAttr? getAttrBy?
 repeat (any_goals (first | assumption | with_reducible apply zhD k X hx hc | wp_step))
end
def znv{K:Frag}{a C:Addr}(X:ExcCls K C):KitX K (.ref a) (.ref C) (fun h=>∃o,h.get? a=some o/\o.cls=.ref C) where
 ty:=fun M h _ p=>by
  obtain ⟨o,h1,h2⟩:=p;rw [<-h2];exact Looks.andThen (Looks.ld h1) .now
 it:=fun _ _ k _=>by
  obtain ⟨c,d,cd,sl,lk⟩:=X.is;intro A' Q' E' s' kk q;unfold isType loadHead;exact yac (wpAny_loadPart (kk _ _ (k _ _ lk)) (yaj q))
 ne:=fun h tp dd its n sl k htp=>by
  obtain ⟨c,d,cd,sl',lk⟩:=X.is;refine Bool.eq_false_iff.mpr fun q=>?_
  have e:C=tp:=Value.ref.inj (ybT.mp q);have z:=k _ _ lk;rw [e,htp] at z;cases z
 ca:=fun {_ _ _ _ _ s} k p q=>by
  obtain ⟨o,h1,h2⟩:=p;obtain ⟨h,g,d,t,os⟩:=s;exact zfH k X h1 h2 q
end PySem.W
namespace L2
open PySem PySem.Spec PyProof.Rows
def zka{X:Cx}:zdN X (.builtin "isinstance") (fun xs H Q=>∃(a C:Addr) (ob:Obj) (c:V) (cv:Value) (k:Bool),xs=[.ref a,c]/\H a=some (.frz ob (.own a))/\ob.cls=.ref C/\PySem.W.ExcCls X.K C/\(∀u,zbw c u->u=cv)/\PySem.W.kitOne X.K (.ref C) cv=some k/\Q (.bl k) H):=by
 intro pins s σ H xs us Q I r h;obtain ⟨a,C,ob,c,cv,k,rfl,ha,hc,Z,hv,e,q⟩:=h
 cases r with
 | cons r1 rr =>
  cases rr with
  | cons r2 r3 =>
   cases r3;cases (show _=Value.ref a from r1);rw [hv _ r2];obtain ⟨h1,_⟩:=(show zb3 X.prog X.w H s.heap a (.frz ob (.own a)) from I.hok a _ ha);exact ya7 (PySem.W.znv Z) I.kIn ⟨ob,h1,hc⟩ e (fun z=>nomatch z) fun tk=>⟨.bl k,H,I.tok tk,rfl,q⟩
end L2
namespace L2
open PySem PySem.Spec PyProof.Rows PySem.SeqAt
section
variable{X:Cx}
end
end L2
namespace L2
open PySem PySem.Spec PyProof.Rows
theorem ziV(ns:List Int):∀j,j<=ns.length->preSum (fun i=>ns.getD i 0) j=(ns.take j).sum
 | 0,_=>by rw [List.take_zero];rfl
 | j+1,h=>by
  have ih:=ziV ns j (by omega);show preSum _ j+ns.getD j 0=_
  have e:ns.take (j+1)=ns.take j++[ns[j]]:=by rw [List.take_add_one,yaa (by omega)];rfl
  have e2:ns.getD j 0=ns[j]:=by simp [List.getD,show j<ns.length by omega]
  rw [ih,e,e2,List.sum_append];simp
theorem zhb(ns:List Int)(h:∀n∈ns,0<=n/\n<=1000000):∀j,j<=ns.length->0<=preSum (fun i=>ns.getD i 0) j/\preSum (fun i=>ns.getD i 0) j<=1000000*(j:Int)
 | 0,_=>⟨Int.le_refl _,Int.le_refl _⟩
 | j+1,hj=>by
  have ih:=zhb ns h j (by omega)
  have e:ns.getD j 0=ns[j]:=by simp [List.getD,show j<ns.length by omega]
  have hb:=h ns[j] (ybp (by omega));show 0<=preSum _ j+ns.getD j 0/\preSum _ j+ns.getD j 0<=_;rw [e]
  push_cast
  omega
section
variable{X:Cx}
def znW(hc:X.calm=true):zdN X (.builtin "sum") (fun xs H Q=>∃(p:Addr) (ns:List Int),xs=[.ref p]/\SqL X.K H p (ns.map V.int)/\ns.length<=1000/\(∀n∈ns,0<=n/\n<=1000000)/\Q (.int ns.sum) H):=by
 intro pins s σ H xs us Q I r h;obtain ⟨p,ns,rfl,hq,hl1000,hb,q⟩:=h;obtain ⟨u,rfl,rx⟩:=zgS r;cases rx;obtain ⟨its,rv,pl,hz⟩:=I.list hq;have hl:=pl.isList
 have hlt:p<s.heap.objs.size:=by obtain ⟨_,e,_⟩:=hl;exact yas e
 have hn:its.length=ns.length:=by have:=rv.length;rw [yae] at this;exact this.symm
 refine call_sum_walk (yb3 hl ?_);refine ⟨s.heap.objs.size,[s.heap.objs.size,p],[s.heap.objs.size],its.toArray.size,_,_,fun i=>ns.getD i 0,rfl,Walks.list (A:=X.A.in1) (I.ok.hd hc) _ p (yaG hlt) its.toArray,⟨⟨_,yax _ rfl,rfl,rfl⟩,hl.push _⟩,fun b hm=>?_,fun i v hP=>?_,fun j hj=>?_,fun h' tk t' hk=>?_⟩
 ·show b<(s.heap.push _).objs.size;rw [ya9];simp only [yav,yaF,ybP] at hm
  rcases hm with z | z
  ·rw [z];exact ybS _
  ·rw [z];exact yc1 hlt
 ·have hv:its[i]?=some v:=by simpa using hP
  have hi:i<ns.length:=by rw [<-hn];exact (yag.mp hv).1
  obtain ⟨u,hu,ru⟩:=rv.get (i:=i) (x:=.int ns[i]) (by rw [yak,yaa hi];rfl);rw [hv] at hu;cases hu;obtain ⟨t,rfl⟩:=ru;exact ⟨t,by simp [List.getD,hi]⟩
 ·rw [yal,hn] at hj;have h1:=zhb ns hb (j+1) hj
  have e:ns.getD j 0=ns[j]:=by simp [List.getD,hj]
  have h2:=hb ns[j] (ybp hj);refine ⟨?_,?_⟩
  ·show InLong (ns.getD j 0);rw [e];exact ⟨by omega,by omega⟩
  ·have:((j+1:Nat):Int)<=1000:=by omega
   exact ⟨by omega,by omega⟩
 ·rw [yal,hn,ziV ns ns.length (yam _),List.take_length];refine ⟨.int _,H,I.kept (t':=tk) fun b o e=>?_,⟨t',rfl⟩,q⟩;exact hk b o (fun hm=>by rw [yaO.mp hm] at e;exact yaT _ (yas e)) (yaf _ e)
end
end L2
namespace S2
open PySem PySem.Spec PyProof.Rows L2
mutual
def D.py:D->PyData
 | .non=>.none
 | .bl b=>.bool b
 | .int i=>.int i
 | .str x=>.str x
 | .tup l=>.tuple (D.pys l)
 | .lst l=>.list (D.pys l)
 | .scr l=>.list (l.map PyData.int)
 | .dic _=>.none
 | .ref _=>.none
 | .exc _=>.none
def D.pys:List D->List PyData
 | []=>[]
 | d::l=>d.py::D.pys l
end
mutual
def D.fit:Nat->D->Bool
 | _,.non=>true
 | _,.bl _=>true
 | _,.int _=>true
 | _,.str x=>PyData.strOk x
 | 0,.tup _=>false
 | n+1,.tup l=>D.fits n l
 | 0,.lst _=>false
 | n+1,.lst l=>D.fits n l
 | 0,.scr _=>false
 | _+1,.scr _=>true
 | _,.dic _=>false
 | _,.ref _=>false
 | _,.exc _=>false
def D.fits:Nat->List D->Bool
 | _,[]=>true
 | n,d::l=>d.fit n&&D.fits n l
end
theorem D.fits_iff{n:Nat}:∀{l:List D},D.fits n l=true↔∀d∈l,d.fit n=true
 | []=>by simp [D.fits]
 | d::l=>by simp [D.fits,D.fits_iff (l:=l)]
theorem zi8:∀(l:List Int),PyData.canLayAll0 (l.map PyData.int)=true/\PyData.depthAll (l.map PyData.int)=0
 | []=>⟨rfl,rfl⟩
 | i::l=>by
  obtain ⟨a,b⟩:=zi8 l;exact ⟨by simp [PyData.canLayAll0,PyData.canLay0,a],by simp [PyData.depthAll,PyData.depth,b]⟩
mutual
theorem D.lay:∀{n:Nat} {d:D},d.fit n=true->d.py.canLay0=true/\d.py.depth<=n
 | _,.non,_=>⟨rfl,yby _⟩
 | _,.bl _,h=>⟨rfl,yby _⟩
 | _,.int _,_=>⟨rfl,yby _⟩
 | _,.str x,h=>⟨by simpa [D.fit,D.py,PyData.canLay0] using h,yby _⟩
 | 0,.tup _,h=>by simp [D.fit] at h
 | 0,.lst _,h=>by simp [D.fit] at h
 | 0,.scr _,h=>by simp [D.fit] at h
 | n+1,.scr l,h=>by
  obtain ⟨a,b⟩:=zi8 l;exact ⟨by simpa [D.py,PyData.canLay0] using a,by simp only [D.py,PyData.depth];omega⟩
 | _,.dic _,h=>by simp [D.fit] at h
 | _,.ref _,h=>by simp [D.fit] at h
 | _,.exc _,h=>by simp [D.fit] at h
 | n+1,.tup l,h=>by
  have h':D.fits n l=true:=by simpa [D.fit] using h
  obtain ⟨a,b⟩:=D.lays h';exact ⟨by simpa [D.py,PyData.canLay0] using a,by simp only [D.py,PyData.depth];omega⟩
 | n+1,.lst l,h=>by
  have h':D.fits n l=true:=by simpa [D.fit] using h
  obtain ⟨a,b⟩:=D.lays h';exact ⟨by simpa [D.py,PyData.canLay0] using a,by simp only [D.py,PyData.depth];omega⟩
theorem D.lays:∀{n:Nat} {l:List D},D.fits n l=true->PyData.canLayAll0 (D.pys l)=true/\PyData.depthAll (D.pys l)<=n
 | _,[],_=>⟨rfl,yby _⟩
 | n,d::l,h=>by
  simp only [D.fits,yab] at h;obtain ⟨a,b⟩:=D.lay h.1;obtain ⟨c,e⟩:=D.lays h.2;exact ⟨by simp [D.pys,PyData.canLayAll0,a,c],by simp only [D.pys,PyData.depthAll];omega⟩
end
section
variable{X:Cx}{cl:Cf}{w:Wd}
def TopV.lstI{v:V}{ds:List D}(h:TopV cl w v (.lst ds)):∃a xs,v=.ref a/\w.H a=some (.lst xs)/\Shds cl w xs ds:=by
 cases h with
 | sh h=>cases h with
  | lst e k r=>exact ⟨_,_,rfl,e,r⟩
 | ow e t=>cases t with
  | lst r=>exact ⟨_,_,rfl,e,r⟩
def TopV.tupI{v:V}{ds:List D}(h:TopV cl w v (.tup ds)):∃a xs,v=.ref a/\w.H a=some (.tup xs)/\w.ow a=none/\Shds cl w xs ds:=by
 cases h with
 | sh h=>cases h with
  | tup e k r=>exact ⟨_,_,rfl,e,k,r⟩
 | ow e t=>cases t
def TopV.intI{v:V}{i:Int}(h:TopV cl w v (.int i)):v=.int i:=by
 cases h with
 | sh h=>cases h;rfl
 | ow e t=>cases t
def TopV.strI{v:V}{i:Str}(h:TopV cl w v (.str i)):v=.str i:=by
 cases h with
 | sh h=>cases h;rfl
 | ow e t=>cases t
def TopV.blI{v:V}{i:Bool}(h:TopV cl w v (.bl i)):v=.bl i:=by
 cases h with
 | sh h=>cases h;rfl
 | ow e t=>cases t
def TopV.nonI{v:V}(h:TopV cl w v .non):v=.non:=by
 cases h with
 | sh h=>cases h;rfl
 | ow e t=>cases t
def Shd.scrI{v:V}{l:List Int}(hK:X.K=cl.K)(h:Shd cl w v (.scr l)):∃a,v=.ref a/\SqL X.K w.H a (l.map V.int):=by
 cases h with
 | scr e k=>exact ⟨_,rfl,.inl (.inr ⟨_,e⟩)⟩
 | scrK h=>exact ⟨_,rfl,by rw [hK];exact h _⟩
theorem TopV.scrI{v:V}{l:List Int}(hK:X.K=cl.K)(h:TopV cl w v (.scr l)):∃a,v=.ref a/\SqL X.K w.H a (l.map V.int):=by
 cases h with
 | sh h=>exact h.scrI hK
 | ow e t=>cases t
def ziT{pins:Z3}{σ:St}{s:Shared}(I:Inv X pins σ w.H s)(hK:X.K=cl.K){v:V}{l:List Int}(h:Shd cl w v (.scr l)){u:Value}(r:zbw v u):∃as,Reads s.heap u (D.scr l).py as:=by
  obtain ⟨a,rfl,hq⟩:=h.scrI hK;cases r;obtain ⟨its,rv,p,_⟩:=I.list hq;obtain ⟨o,ho,hc,n,hd⟩:=id p.isList
  have go:∀{l:List Int} {us:List Value},Vals (l.map V.int) us->∃as,ReadsAll s.heap us (l.map PyData.int) as:=by
   intro l
   induction l with
   | nil=>intro us h;cases h;exact ⟨_,.nil⟩
   | cons i l ih =>
    intro us h
    cases h with
    | cons h1 h2 =>
     obtain ⟨t,rfl⟩:=h1;obtain ⟨as,ra⟩:=ih h2;exact ⟨_,.cons (.int i t) ra⟩
  obtain ⟨as,ra⟩:=go rv;exact ⟨_,.list ho hc hd (by simpa using ra)⟩
mutual
theorem zrX{pins:Z3}{σ:St}{s:Shared}(I:Inv X pins σ w.H s)(hK:X.K=cl.K):∀{v:V} {d:D} {n:Nat},Shd cl w v d->d.fit n=true->∀{u:Value},zbw v u->∃as,Reads s.heap u d.py as
 | _,_,_,.non,_,_,r=>by cases r;exact ⟨_,.none⟩
 | _,_,_,.bl b,_,_,r=>by cases r;exact ⟨_,.bool b⟩
 | _,_,_,.int i,_,_,r=>by obtain ⟨t,rfl⟩:=r;exact ⟨_,.int i t⟩
 | _,_,_,.str x,_,_,r=>by obtain ⟨t,rfl⟩:=r;exact ⟨_,.str x t⟩
 | _,_,0,.tup _ _ _,h,_,_=>by simp [D.fit] at h
 | _,_,0,.lst _ _ _,h,_,_=>by simp [D.fit] at h
 | _,_,n+1,.tup (a:=a) e _ rs,h,_,r=>by
  cases r;obtain ⟨its,rv,p,_⟩:=I.tuple (SqT.of (K:=X.K) e);obtain ⟨o,ho,hc,n,hd⟩:=id p;obtain ⟨as,ra⟩:=zdw I hK rs (by simpa [D.fit] using h) rv;exact ⟨_,.tuple ho hc hd (by simpa using ra)⟩
 | _,_,n+1,.lst (a:=a) e _ rs,h,_,r=>by
  cases r;obtain ⟨its,rv,p,_⟩:=I.list (SqL.of (K:=X.K) e);obtain ⟨o,ho,hc,n,hd⟩:=id p.isList;obtain ⟨as,ra⟩:=zdw I hK rs (by simpa [D.fit] using h) rv;exact ⟨_,.list ho hc hd (by simpa using ra)⟩
 | _,_,n,.scr e k,h,_,r=>ziT I hK (.scr e k) r
 | _,_,n,.scrK e,h,_,r=>ziT I hK (.scrK e) r
 | _,_,n,.dicK _ _ _,h,_,_=>by simp [D.fit] at h
 | _,_,n,.ref _,h,_,_=>by simp [D.fit] at h
 | _,_,n,.exc _ _ _,h,_,_=>by simp [D.fit] at h
theorem zdw{pins:Z3}{σ:St}{s:Shared}(I:Inv X pins σ w.H s)(hK:X.K=cl.K):∀{vs:List V} {ds:List D} {n:Nat},Shds cl w vs ds->D.fits n ds=true->∀{us:List Value},Vals vs us->∃as,ReadsAll s.heap us (D.pys ds) as
 | _,_,_,.nil,_,_,r=>by cases r;exact ⟨_,.nil⟩
 | _,_,n,.cons h t,f,_,r=>by
  simp only [D.fits,yab] at f
  cases r with
  | cons r1 r2 =>
   obtain ⟨as,a⟩:=zrX I hK h f.1 r1;obtain ⟨bs,b⟩:=zdw I hK t f.2 r2;exact ⟨_,.cons a b⟩
end
def zg9{pins:Z3}{σ:St}{s:Shared}(I:Inv X pins σ w.H s)(hK:X.K=cl.K){v:V}{d:D}{n:Nat}(h:TopV cl w v d)(f:d.fit n=true){u:Value}(r:zbw v u):∃as,Reads s.heap u d.py as:=by
 cases h with
 | sh h=>exact zrX I hK h f r
 | ow e t =>
  cases t with
  | lst rs =>
   cases n with
   | zero=>simp [D.fit] at f
   | succ n =>
    cases r;obtain ⟨its,rv,p,_⟩:=I.list (SqL.of (K:=X.K) e);obtain ⟨o,ho,hc,n,hd⟩:=id p.isList;obtain ⟨as,ra⟩:=zdw I hK rs (by simpa [D.fit] using f) rv;exact ⟨_,.list ho hc hd (by simpa using ra)⟩
  | dicK _=>simp [D.fit] at f
def zex(d e:D):Bool:=d.py.eqv e.py
def eqD(d e:D):Option D:=if d.fit 9&&e.fit 9 then some (.bl (zex d e)) else none
def neD(d e:D):Option D:=if d.fit 9&&e.fit 9 then some (.bl (!zex d e)) else none
def zu0(hK:X.K=cl.K)(hu:X.A.units+64<cLine):OpD X cl (compareOp .Eq) eqD:=by
 intro pins s σ H x y v u Q I rx ry h;obtain ⟨w,d,e,r,rfl,hx,hy,hg,q⟩:=h;unfold eqD at hg;split at hg
 ·rename_i hf;cases hg;rw [yab] at hf;obtain ⟨as,ra⟩:=zg9 I hK hx hf.1 rx;obtain ⟨bs,rb⟩:=zg9 I hK hy hf.2 ry;obtain ⟨l1,d1⟩:=D.lay hf.1;obtain ⟨l2,d2⟩:=D.lay hf.2;exact SeqAt.compareEq_reads ra rb l1 l2 (by omega) ⟨.bl _,w.H,I,rfl,q _ w (Grow.refl _) (.bl _)⟩
 ·cases hg
def zuY(hK:X.K=cl.K)(hu:X.A.units+64<cLine):OpD X cl (compareOp .NotEq) neD:=by
 intro pins s σ H x y v u Q I rx ry h;obtain ⟨w,d,e,r,rfl,hx,hy,hg,q⟩:=h;unfold neD at hg;split at hg
 ·rename_i hf;cases hg;rw [yab] at hf;obtain ⟨as,ra⟩:=zg9 I hK hx hf.1 rx;obtain ⟨bs,rb⟩:=zg9 I hK hy hf.2 ry;obtain ⟨l1,d1⟩:=D.lay hf.1;obtain ⟨l2,d2⟩:=D.lay hf.2;exact SeqAt.compareNe_reads ra rb l1 l2 (by omega) ⟨.bl _,w.H,I,rfl,q _ w (Grow.refl _) (.bl _)⟩
 ·cases hg
def zgf:D->Option (List D) | .lst l=>some l | .tup l=>some l | _=>none
def zij(d:D)(l:List D):Bool:=l.any fun e=>zex e d
def inD(d e:D):Option D:=match zgf e with | some l=>if d.fit 8&&D.fits 8 l then some (.bl (zij d l)) else none | none=>none
def zlh(d e:D):Option D:=match zgf e with | some l=>if d.fit 8&&D.fits 8 l then some (.bl (!zij d l)) else none | none=>none
def zds{s:Shared}{its:List Value}{ds:List D}{as:List Addr}{d:D}(ra:ReadsAll s.heap its (D.pys ds) as)(f:D.fits 8 ds=true):(its.toArray.any fun y=>(SeqAt.readOf s.heap y).eqv d.py)=zij d ds:=by
 rw [SeqAt.any_by_data (vs:=its.toArray) (xs:=D.pys ds) (as:=as) (by simpa using ra) (D.lays f).1]
 have:∀{l:List D},((D.pys l).any fun y=>y.eqv d.py)=zij d l:=by
  intro l
  induction l with
  | nil=>rfl
  | cons e l ih =>
   show (e.py.eqv d.py||(D.pys l).any fun y=>y.eqv d.py)=(zex e d||zij d l);rw [ih];rfl
 exact this
theorem zci{A:Around}{s:Shared}{x:Value}{d:D}{bs:List Addr}(hu:A.units+64<cLine)(rx:Reads s.heap x d.py bs)(fd:d.fit 8=true):∀{its:List Value} {ds:List D} {as:List Addr},ReadsAll s.heap its (D.pys ds) as->D.fits 8 ds=true->∀y,y∈its.toArray->SeqAt.EqAt A.in1 s y x ((SeqAt.readOf s.heap y).eqv d.py)
 | [],[],_,_,_,y,hy=>by simp at hy
 | [],_::_,_,h,_,_,_=>by cases h
 | _::_,[],_,h,_,_,_=>by cases h
 | v::its,e::ds,_,h,f,y,hy=>by
  simp only [D.fits,yab] at f
  cases h with
  | cons h1 h2 =>
   simp at hy
   rcases hy with rfl | hy
   ·rw [zid (D.lay f.1).1 h1];refine SeqAt.eqAt_reads _ _ _ _ _ _ _ _ h1 rx (D.lay f.1).1 (D.lay fd).1 ?_;have:=(D.lay f.1).2;show A.units+1+_<cLine;omega
   ·exact zci hu rx fd h2 f.2 y (by simpa using hy)
def zkG{e:D}{l:List D}(h:zgf e=some l):e=.lst l\/e=.tup l:=by
 cases e<;>simp [zgf] at h
 ·exact .inr (by rw [h])
 ·exact .inl (by rw [h])
def zuZ(hK:X.K=cl.K)(hu:X.A.units+64<cLine):OpD X cl (compareOp .In) inD:=by
 intro pins s σ H x y v u Q I rx ry h;obtain ⟨w,d,e,r,rfl,hx,hy,hg,q⟩:=h;unfold inD at hg;split at hg
 ·rename_i l hl;split at hg
  ·rename_i hf;cases hg;rw [yab] at hf;obtain ⟨bs,rb⟩:=zg9 I hK hx hf.1 rx
   rcases zkG hl with rfl | rfl
   ·obtain ⟨a,xs,rfl,e,rs⟩:=hy.lstI;cases ry;obtain ⟨its,rv,p,_⟩:=I.list (SqL.of (K:=X.K) e);obtain ⟨as,ra⟩:=zdw I hK rs hf.2 rv;refine SeqAt.in_listAt _ p.isList (zci hu rb hf.1 ra hf.2) ?_;rw [zds ra hf.2];exact ⟨.bl _,w.H,I,rfl,q _ w (Grow.refl _) (.bl _)⟩
   ·obtain ⟨a,xs,rfl,e,_,rs⟩:=hy.tupI;cases ry;obtain ⟨its,rv,p,_⟩:=I.tuple (SqT.of (K:=X.K) e);obtain ⟨as,ra⟩:=zdw I hK rs hf.2 rv;refine SeqAt.in_tupleAt _ p (zci hu rb hf.1 ra hf.2) ?_;rw [zds ra hf.2];exact ⟨.bl _,w.H,I,rfl,q _ w (Grow.refl _) (.bl _)⟩
  ·cases hg
 ·cases hg
def zsu(hK:X.K=cl.K)(hu:X.A.units+64<cLine):OpD X cl (compareOp .NotIn) zlh:=by
 intro pins s σ H x y v u Q I rx ry h;obtain ⟨w,d,e,r,rfl,hx,hy,hg,q⟩:=h;unfold zlh at hg;split at hg
 ·rename_i l hl;split at hg
  ·rename_i hf;cases hg;rw [yab] at hf;obtain ⟨bs,rb⟩:=zg9 I hK hx hf.1 rx
   rcases zkG hl with rfl | rfl
   ·obtain ⟨a,xs,rfl,e,rs⟩:=hy.lstI;cases ry;obtain ⟨its,rv,p,_⟩:=I.list (SqL.of (K:=X.K) e);obtain ⟨as,ra⟩:=zdw I hK rs hf.2 rv;refine SeqAt.notIn_listAt _ p.isList (zci hu rb hf.1 ra hf.2) ?_;rw [zds ra hf.2];exact ⟨.bl _,w.H,I,rfl,q _ w (Grow.refl _) (.bl _)⟩
   ·obtain ⟨a,xs,rfl,e,_,rs⟩:=hy.tupI;cases ry;obtain ⟨its,rv,p,_⟩:=I.tuple (SqT.of (K:=X.K) e);obtain ⟨as,ra⟩:=zdw I hK rs hf.2 rv;refine SeqAt.notIn_tupleAt _ p (zci hu rb hf.1 ra hf.2) ?_;rw [zds ra hf.2];exact ⟨.bl _,w.H,I,rfl,q _ w (Grow.refl _) (.bl _)⟩
  ·cases hg
 ·cases hg
def zb7:D->D->Option D
 | .int i,.int j=>some (.int (i+j))
 | .tup a,.tup b=>if small (a.length+b.length) then some (.tup (a++b)) else none
 | .lst a,.lst b=>if small (a.length+b.length) then some (.lst (a++b)) else none
 | .str a,.str b=>if small (a.length+b.length) then some (.str (a++b)) else none
 | _,_=>none
def zsA:OpD X cl (binaryOp .Add) zb7:=by
 intro pins s σ H x y v u Q I rx ry h;obtain ⟨w,d,e,r,rfl,hx,hy,hg,q⟩:=h;unfold zb7 at hg;split at hg
 ·cases hg;rename_i i j;obtain rfl:=hx.intI;obtain rfl:=hy.intI;exact zsq pins s σ w.H _ _ v u Q I rx ry ⟨i,j,rfl,rfl,q _ w (Grow.refl _) (.int _)⟩
 ·rename_i a b;split at hg
  ·rename_i hz;cases hg;obtain ⟨p,xs,rfl,ep,kp,rs⟩:=hx.tupI;obtain ⟨p2,ys,rfl,ep2,kp2,rs2⟩:=hy.tupI
   by_cases hxe:xs=[]
   ·subst hxe;cases rs;exact znf pins s σ w.H _ _ v u Q I rx ry ⟨p,p2,ys,rfl,rfl,SqT.of ep,SqT.of ep2,q _ w (Grow.refl _) (.tup ep2 kp2 rs2)⟩
   ·refine zpI pins s σ w.H _ _ v u Q I rx ry ⟨p,p2,xs,ys,rfl,rfl,SqT.of ep,SqT.of ep2,hxe,by rw [rs.length,rs2.length];exact zbf hz,fun z=>?_,fun z l hl=>?_⟩
    ·subst z;cases rs2;rw [yaY] at q;exact q _ w (Grow.refl _) (.tup ep kp rs)
    ·exact q _ (w.add l _) (zaD hl _) (Shd.newT hl (rs.append rs2))
  ·cases hg
 ·rename_i a b;split at hg
  ·rename_i hz;cases hg;obtain ⟨p,xs,rfl,ep,rs⟩:=hx.lstI;obtain ⟨p2,ys,rfl,ep2,rs2⟩:=hy.lstI;exact zsp pins s σ w.H _ _ v u Q I rx ry ⟨p,p2,xs,ys,rfl,rfl,ep,ep2,by rw [rs.length,rs2.length];exact zbf hz,fun l hl=>q _ (w.add l _) (zaD hl _) (Shd.newL hl (rs.append rs2))⟩
  ·cases hg
 ·rename_i a b;split at hg
  ·rename_i hz;cases hg;obtain rfl:=hx.strI;obtain rfl:=hy.strI;exact zjL pins s σ w.H _ _ v u Q I rx ry ⟨a,b,rfl,rfl,zbf hz,q _ w (Grow.refl _) (.str _)⟩
  ·cases hg
 ·cases hg
def zqM:D->D->Option D | .int i,.int j=>some (.int (i-j)) | _,_=>none
def zst:OpD X cl (binaryOp .Sub) zqM:=by
 intro pins s σ H x y v u Q I rx ry h;obtain ⟨w,d,e,r,rfl,hx,hy,hg,q⟩:=h;unfold zqM at hg;split at hg
 ·cases hg;rename_i i j;obtain rfl:=hx.intI;obtain rfl:=hy.intI;exact zsl pins s σ w.H _ _ v u Q I rx ry ⟨i,j,rfl,rfl,q _ w (Grow.refl _) (.int _)⟩
 ·cases hg
def zb2(i:Int):Bool:=decide (-(2 ^ 64)<i/\i<2 ^ 64)
def zea:D->D->Option D
 | .int i,.int j=>if zb2 i||zb2 j then some (.int (i*j)) else none
 | .tup a,.int j=>if decide (1<=j/\j<=1000/\a≠[]/\a.length<=1000) then some (.tup (List.replicate j.toNat a).flatten) else none
 | .lst a,.int j=>if decide (0<=j/\j<=1000/\a.length<=1000) then some (.lst (List.replicate j.toNat a).flatten) else none
 | _,_=>none
def zsv:OpD X cl (binaryOp .Mult) zea:=by
 intro pins s σ H x y v u Q I rx ry h;obtain ⟨w,d,e,r,rfl,hx,hy,hg,q⟩:=h;unfold zea at hg;split at hg
 ·rename_i i j;split at hg
  ·rename_i hz;cases hg;obtain rfl:=hx.intI;obtain rfl:=hy.intI;refine zsm pins s σ w.H _ _ v u Q I rx ry ⟨i,j,rfl,rfl,?_,q _ w (Grow.refl _) (.int _)⟩;rw [ycL] at hz;exact hz.imp (fun z=>yau z) fun z=>yau z
  ·cases hg
 ·rename_i a j;split at hg
  ·rename_i hz;cases hg;have hz':=yau hz;obtain ⟨p,xs,rfl,ep,kp,rs⟩:=hx.tupI;obtain rfl:=hy.intI;have hl:=rs.length;obtain ⟨k,rfl⟩:∃k:Nat,j=(k:Int):=⟨j.toNat,by omega⟩;have hne:xs≠[]:=fun z=>hz'.2.2.1 (by cases a with | nil=>rfl | cons _ _=>rw [z] at hl;cases hl)
   by_cases hk:k=1
   ·subst hk;cases rx;obtain ⟨t,rfl⟩:=ry;obtain ⟨its,rv,⟨o,ho,hc,n,hd⟩,_⟩:=I.tuple (SqT.of (K:=X.K) ep);refine PySem.znj ho hc hd ⟨.ref p,w.H,I,rfl,q _ w (Grow.refl _) (.tup ep kp ?_)⟩;simpa using rs
   ·refine zpF pins s σ w.H _ _ v u Q I rx ry ⟨p,k,xs,rfl,rfl,SqT.of ep,hne,by omega,by omega,by omega,fun l hl=>q _ (w.add l _) (zaD hl _) (Shd.newT hl (rs.flat _))⟩
  ·cases hg
 ·rename_i a j;split at hg
  ·rename_i hz;cases hg;have hz':=yau hz;obtain ⟨p,xs,rfl,ep,rs⟩:=hx.lstI;obtain rfl:=hy.intI;have hl:=rs.length;refine zok pins s σ w.H _ _ v u Q I rx ry ⟨p,j,xs,rfl,rfl,ep,by omega,by omega,?_,fun l hl=>q _ (w.add l _) (zaD hl _) (Shd.newL hl (rs.flat _))⟩;refine yah (ybJ (show xs.length<=1000 by omega) (show j.toNat<=1000 by omega)) (by decide)
  ·cases hg
 ·cases hg
def zkh:D->D->Option D | .int i,.int j=>if 0<j then some (.int (i % j)) else none | _,_=>none
def zti:D->D->Option D | .int i,.int j=>if 0<j/\j<1073741824 then some (.int (i / j)) else none | _,_=>none
def zsw:OpD X cl (binaryOp .Mod) zkh:=by
 intro pins s σ H x y v u Q I rx ry h;obtain ⟨w,d,e,r,rfl,hx,hy,hg,q⟩:=h;unfold zkh at hg;split at hg
 ·rename_i i j;split at hg
  ·rename_i hz;cases hg;obtain rfl:=hx.intI;obtain rfl:=hy.intI;exact zsn pins s σ w.H _ _ v u Q I rx ry ⟨i,j,rfl,rfl,hz,q _ w (Grow.refl _) (.int _)⟩
  ·cases hg
 ·cases hg
def zsz:OpD X cl (binaryOp .FloorDiv) zti:=by
 intro pins s σ H x y v u Q I rx ry h;obtain ⟨w,d,e,r,rfl,hx,hy,hg,q⟩:=h;unfold zti at hg;split at hg
 ·rename_i i j;split at hg
  ·rename_i hz;cases hg;obtain rfl:=hx.intI;obtain rfl:=hy.intI;exact zpH pins s σ w.H _ _ v u Q I rx ry ⟨i,j,rfl,rfl,hz,q _ w (Grow.refl _) (.int _)⟩
  ·cases hg
 ·cases hg
def zmu:D->Option D | .int i=>some (.int (-i)) | _=>none
def zq8:UnD X cl (unaryOp .USub) zmu:=by
 intro pins s σ H x v Q I rx h;obtain ⟨w,d,r,rfl,hx,hg,q⟩:=h;unfold zmu at hg;split at hg
 ·cases hg;rename_i i;obtain rfl:=hx.intI;exact zq7 pins s σ w.H _ v Q I rx ⟨i,rfl,q _ w (Grow.refl _) (.int _)⟩
 ·cases hg
def zqO(p:Int->Int->Bool):D->D->Option D | .int i,.int j=>some (.bl (p i j)) | _,_=>none
def zgt{op:CmpOp}{p:Int->Int->Bool}(ho:OpR X (compareOp op) (rI0 fun i j=>.bl (p i j))):OpD X cl (compareOp op) (zqO p):=by
 intro pins s σ H x y v u Q I rx ry h;obtain ⟨w,d,e,r,rfl,hx,hy,hg,q⟩:=h;unfold zqO at hg;split at hg
 ·cases hg;rename_i i j;obtain rfl:=hx.intI;obtain rfl:=hy.intI;exact ho pins s σ w.H _ _ v u Q I rx ry ⟨i,j,rfl,rfl,q _ w (Grow.refl _) (.bl _)⟩
 ·cases hg
def zc6:D->Bool | .non=>true | _=>false
def zmv(d e:D):Option D:=if zc6 e then some (.bl (zc6 d)) else none
def zhn(d e:D):Option D:=if zc6 e then some (.bl (!zc6 d)) else none
def TopV.non_iff{v:V}{d:D}(h:TopV cl w v d):decide (v=.non)=zc6 d:=by
 cases h with
 | sh h=>cases h<;>simp [zc6]
 | ow e t=>cases t<;>simp [zc6]
def zhw{d:D}(h:zc6 d=true):d=.non:=by cases d<;>simp [zc6] at h;rfl
def zsx:OpD X cl (compareOp .Is) zmv:=by
 intro pins s σ H x y v u Q I rx ry h;obtain ⟨w,d,e,r,rfl,hx,hy,hg,q⟩:=h;unfold zmv at hg;split at hg
 ·rename_i hz;cases hg;rw [zhw hz] at hy;obtain rfl:=hy.nonI;refine zso pins s σ w.H _ _ v u Q I rx ry ⟨rfl,?_⟩;rw [hx.non_iff];exact q _ w (Grow.refl _) (.bl _)
 ·cases hg
def zpM:OpD X cl (compareOp .IsNot) zhn:=by
 intro pins s σ H x y v u Q I rx ry h;obtain ⟨w,d,e,r,rfl,hx,hy,hg,q⟩:=h;unfold zhn at hg;split at hg
 ·rename_i hz;cases hg;rw [zhw hz] at hy;obtain rfl:=hy.nonI;refine zpG pins s σ w.H _ _ v u Q I rx ry ⟨rfl,?_⟩;rw [hx.non_iff];exact q _ w (Grow.refl _) (.bl _)
 ·cases hg
def znh:D->D->Option D | .bl a,.bl b=>some (.bl (!decide (a=b))) | _,_=>none
def zpN:OpD X cl (compareOp .IsNot) znh:=by
 intro pins s σ H x y v u Q I rx ry h;obtain ⟨w,d,e,r,rfl,hx,hy,hg,q⟩:=h;unfold znh at hg;split at hg
 ·cases hg;obtain rfl:=hx.blI;obtain rfl:=hy.blI;exact zii pins s σ w.H _ _ v u Q I rx ry ⟨_,_,rfl,rfl,q _ w (Grow.refl _) (.bl _)⟩
 ·cases hg
def ixD:D->D->Option D
 | .lst l,.int i=>atI l i
 | .tup l,.int i=>atI l i
 | .scr l,.int i=>(atI l i).map D.int
 | _,_=>none
def ziR{xs:List V}{ds:List D}(r:Shds cl w xs ds){i:Int}{d:D}(h:atI ds i=some d):∃v,atI xs i=some v/\Shd cl w v d:=by
 unfold atI at h ⊢;rw [r.length]
 cases e:ixN ds.length i with
 | none=>rw [e] at h;cases h
 | some j =>
  rw [e] at h;exact r.at h
def zvm(hK:X.K=cl.K):IxD X cl ixD:=by
 intro value slice pins s σ H x y v u Q I rx ry h hsub;obtain ⟨w,d,e,r,rfl,hx,hy,hg,q⟩:=h;unfold ixD at hg;split at hg
 ·rename_i l i;obtain ⟨p,xs,rfl,ep,rs⟩:=hx.lstI;obtain rfl:=hy.intI;obtain ⟨z,e1,e2⟩:=ziR rs hg;exact zlE value slice pins s σ w.H _ _ v u Q I rx ry ⟨p,xs,i,z,rfl,rfl,SqL.of ep,e1,q _ w (Grow.refl _) e2⟩ hsub
 ·rename_i l i;obtain ⟨p,xs,rfl,ep,_,rs⟩:=hx.tupI;obtain rfl:=hy.intI;obtain ⟨z,e1,e2⟩:=ziR rs hg;exact zs2 value slice pins s σ w.H _ _ v u Q I rx ry ⟨p,xs,i,z,rfl,rfl,SqT.of ep,e1,q _ w (Grow.refl _) e2⟩ hsub
 ·rename_i l i;obtain ⟨p,rfl,ep⟩:=hx.scrI hK;obtain rfl:=hy.intI
  cases hl:atI l i with
  | none=>rw [hl] at hg;cases hg
  | some k =>
   rw [hl] at hg;cases hg
   have e1:atI (l.map V.int) i=some (.int k):=by
    unfold atI at hl ⊢;rw [yae]
    cases e:ixN l.length i with
    | none=>rw [e] at hl;cases hl
    | some j =>
     rw [e] at hl;have hl':l[j]?=some k:=hl;show (l.map V.int)[j]?=_;rw [yak,hl'];rfl
   exact zlE value slice pins s σ w.H _ _ v u Q I rx ry ⟨p,_,i,_,rfl,rfl,ep,e1,q _ w (Grow.refl _) (.int _)⟩ hsub
 ·cases hg
def zei:List D->Option D
 | [.lst l]=>some (.int l.length)
 | [.tup l]=>some (.int l.length)
 | [.scr l]=>some (.int l.length)
 | [.str x]=>if small x.length then some (.int x.length) else none
 | _=>none
def zto(hK:X.K=cl.K):zhU X cl (.builtin "len") zei:=by
 intro pins s σ H xs us Q I r h;obtain ⟨w,ds,d,rfl,hx,hg,q⟩:=h;unfold zei at hg;split at hg
 ·rename_i l;cases hg
  cases hx with
  | cons h1 h2 =>
   cases h2;obtain ⟨p,ys,rfl,ep,rs⟩:=h1.lstI;refine zdh pins s σ w.H _ us Q I r ⟨p,ys,rfl,.inl (SqL.of ep),?_⟩;rw [rs.length];exact q _ w (Grow.refl _) (.int _)
 ·rename_i l;cases hg
  cases hx with
  | cons h1 h2 =>
   cases h2;obtain ⟨p,ys,rfl,ep,_,rs⟩:=h1.tupI;refine zdh pins s σ w.H _ us Q I r ⟨p,ys,rfl,.inr (SqT.of ep),?_⟩;rw [rs.length];exact q _ w (Grow.refl _) (.int _)
 ·rename_i l;cases hg
  cases hx with
  | cons h1 h2 =>
   cases h2;obtain ⟨p,rfl,ep⟩:=h1.scrI hK;refine zdh pins s σ w.H _ us Q I r ⟨p,l.map V.int,rfl,.inl ep,?_⟩;rw [yae];exact q _ w (Grow.refl _) (.int _)
 ·rename_i x;split at hg
  ·rename_i hz;cases hg
   cases hx with
   | cons h1 h2 =>
    cases h2;obtain rfl:=h1.strI;exact zhJ pins s σ w.H _ us Q I r ⟨x,rfl,zbf hz,q _ w (Grow.refl _) (.int _)⟩
  ·cases hg
 ·cases hg
def zbl:List D->Option D
 | [.lst l]=>some (.tup l)
 | [.tup l]=>some (.tup l)
 | _=>none
def znV:zhU X cl (.type "tuple") zbl:=by
 intro pins s σ H xs us Q I r h;obtain ⟨w,ds,d,rfl,hx,hg,q⟩:=h;unfold zbl at hg;split at hg
 ·rename_i l;cases hg
  cases hx with
  | cons h1 h2 =>
   cases h2;obtain ⟨p,ys,rfl,ep,rs⟩:=h1.lstI;exact zd6 pins s σ w.H _ us Q I r ⟨p,ys,rfl,.inl ⟨SqL.of ep,fun l hl=>q _ (w.add l _) (zaD hl _) (Shd.newT hl rs)⟩⟩
 ·rename_i l;cases hg
  cases hx with
  | cons h1 h2 =>
   cases h2;obtain ⟨p,ys,rfl,ep,kp,rs⟩:=h1.tupI;exact zd6 pins s σ w.H _ us Q I r ⟨p,ys,rfl,.inr ⟨SqT.of ep,q _ w (Grow.refl _) (.tup ep kp rs)⟩⟩
 ·cases hg
def zjR:List D->Option D
 | [.lst l]=>some (.lst l)
 | [.tup l]=>some (.lst l)
 | _=>none
def zqu:ztE X cl (.type "list") zjR:=by
 intro pins s σ H xs us Q I r h;obtain ⟨w,ds,d,rfl,hx,hg,q⟩:=h;unfold zjR at hg;split at hg
 ·rename_i l;cases hg
  cases hx with
  | cons h1 h2 =>
   cases h2;obtain ⟨p,ys,rfl,ep,rs⟩:=h1.lstI;exact zeH pins s σ w.H _ us Q I r ⟨p,ys,rfl,.inl (SqL.of ep),fun l hl=>q _ _ w (Grow.refl _) hl (.lst rs)⟩
 ·rename_i l;cases hg
  cases hx with
  | cons h1 h2 =>
   cases h2;obtain ⟨p,ys,rfl,ep,_,rs⟩:=h1.tupI;exact zeH pins s σ w.H _ us Q I r ⟨p,ys,rfl,.inr (SqT.of ep),fun l hl=>q _ _ w (Grow.refl _) hl (.lst rs)⟩
 ·cases hg
def zgL:List D->Option (List Bool)
 | []=>some []
 | .bl b::l=>(zgL l).map (b::·)
 | _=>none
def zn2{bs:List Bool}{ds:List D}:∀{xs:List V},Shds cl w xs ds->zgL ds=some bs->xs=bs.map V.bl:=by
 induction ds generalizing bs with
 | nil=>intro xs r h;cases r;cases h;rfl
 | cons d ds ih =>
  intro xs r e
  cases r with
  | cons h t =>
   cases d with
   | bl b =>
    cases h;unfold zgL at e
    cases hr:zgL ds with
    | none=>rw [hr] at e;cases e
    | some cs=>rw [hr] at e;cases e;rw [ih t hr];rfl
   | _=>cases e
def zqQ:List D->Option D
 | [.lst l]=>(zgL l).map fun bs=>.bl (bs.all id)
 | _=>none
def ztp(hc:X.calm=true):zhU X cl (.builtin "all") zqQ:=by
 intro pins s σ H xs us Q I r h;obtain ⟨w,ds,d,rfl,hx,hg,q⟩:=h;unfold zqQ at hg;split at hg
 ·rename_i l
  cases hb:zgL l with
  | none=>rw [hb] at hg;cases hg
  | some bs =>
   rw [hb] at hg;cases hg
   cases hx with
   | cons h1 h2 =>
    cases h2;obtain ⟨p,ys,rfl,ep,rs⟩:=h1.lstI;obtain rfl:=zn2 rs hb;exact ziz hc pins s σ w.H _ us Q I r ⟨p,bs,rfl,SqL.of ep,q _ w (Grow.refl _) (.bl _)⟩
 ·cases hg
def zb1:List D->Option (List Int)
 | []=>some []
 | .int b::l=>(zb1 l).map (b::·)
 | _=>none
def zhy{bs:List Int}{ds:List D}:∀{xs:List V},Shds cl w xs ds->zb1 ds=some bs->xs=bs.map V.int:=by
 induction ds generalizing bs with
 | nil=>intro xs r h;cases r;cases h;rfl
 | cons d ds ih =>
  intro xs r e
  cases r with
  | cons h t =>
   cases d with
   | int b =>
    cases h;unfold zb1 at e
    cases hr:zb1 ds with
    | none=>rw [hr] at e;cases e
    | some cs=>rw [hr] at e;cases e;rw [ih t hr];rfl
   | _=>cases e
def zmG:List D->Option D
 | [.lst l]=>(zb1 l).bind fun ns=>if decide (ns.length<=1000)&&ns.all (fun n=>decide (0<=n/\n<=1000000)) then some (.int ns.sum) else none
 | _=>none
def ztm(hc:X.calm=true):zhU X cl (.builtin "sum") zmG:=by
 intro pins s σ H xs us Q I r h;obtain ⟨w,ds,d,rfl,hx,hg,q⟩:=h;unfold zmG at hg;split at hg
 ·rename_i l
  cases hb:zb1 l with
  | none=>rw [hb] at hg;cases hg
  | some ns =>
   rw [hb] at hg;dsimp only [Option.bind] at hg;split at hg
   ·rename_i hz;cases hg;rw [yab,ybe] at hz
    cases hx with
    | cons h1 h2 =>
     cases h2;obtain ⟨p,ys,rfl,ep,rs⟩:=h1.lstI;obtain rfl:=zhy rs hb;exact znW hc pins s σ w.H _ us Q I r ⟨p,ns,rfl,SqL.of ep,yau hz.1,fun n hn=>yau (hz.2 n hn),q _ w (Grow.refl _) (.int _)⟩
   ·cases hg
 ·cases hg
end
end S2
namespace L2
open PySem PySem.Spec PyProof.Rows
section
variable{X:Cx}{e st:Expr}{te ts:TE}{pos p2:Pos}
end
end L2
namespace S2
open PySem PySem.Spec PyProof.Rows L2
def zdA(g g':D->D->Option D)(f h k:Fe):Fe:=fun ρ S=>(f ρ S).bind fun a S1=>(h ρ S1).bind fun b S2=>match (g a b).bind isB with
 | some true=>(k ρ S2).bind fun c S3=>Out.of (g' b c) S3
 | some false=>.ok (.bl false) S2
 | none=>.bad
section
variable{X:Cx}{cl:Cf}{E:St->XK}{a b c e:Expr}{f h k:Fe}{pos:Pos}
def ziO{g g':D->D->Option D}{r r':R2}(hr:∀x y H Q,(∃w d e r,w.H=H/\TopV cl w x d/\TopV cl w y e/\g d e=some r/\∀v w',Grow w w'->Shd cl w' v r->Q v w'.H)->r x y H Q)
  (hr':∀x y H Q,(∃w d e r,w.H=H/\TopV cl w x d/\TopV cl w y e/\g' d e=some r/\∀v w',Grow w w'->Shd cl w' v r->Q v w'.H)->r' x y H Q) {σ:St} {H:Hp} {Q:VK} (q:tE cl E (zdA g g' f h k) σ H Q):zkz r r' (tH cl E f) (tH cl E h) (tH cl E k) σ H Q:=by
 obtain ⟨B,w,ρ,S,rfl,R,q⟩:=q;refine ⟨B,w,ρ,S,rfl,R,?_⟩;unfold zdA at q
 cases hf:f ρ S with
 | bad=>rwa [hf] at q
 | exc c S1=>rwa [hf] at q
 | ok d S1 =>
  rw [hf] at q;intro v w1 R1 F1 h1;refine ⟨B,w1,ρ,S1,rfl,R1,?_⟩;dsimp only [Out.bind] at q
  cases hh:h ρ S1 with
  | bad=>rwa [hh] at q
  | exc c S2=>rw [hh] at q;exact fun w2 R2 F2=>q w2 R2 (F1.trans F2)
  | ok e S2 =>
   rw [hh] at q;intro y w2 R2 F2 h2;dsimp only at q
   cases hg:g d e with
   | none=>rw [hg] at q;exact q.elim
   | some z =>
    rw [hg] at q;dsimp only [Option.bind] at q
    cases hb:isB z with
    | none=>rw [hb] at q;exact q.elim
    | some bb =>
     rw [hb] at q;rw [zdl hb] at hg;refine hr _ _ _ _ ⟨w2,d,e,_,rfl,(h1.up F2).top R2,h2.top R2,hg,fun v' w3 gr sh=>⟨bb,zg2 sh,?_⟩⟩;have R3:=R2.grow gr
     cases bb with
     | false=>exact zot (q _ w3 R3 (F1.trans (F2.trans gr.fut)) (.bl _))
     | true =>
      refine zos ⟨B,w3,ρ,S2,rfl,R3,?_⟩;dsimp only at q
      cases hk:k ρ S2 with
      | bad=>rwa [hk] at q
      | exc c S3=>rw [hk] at q;exact fun w4 R4 F4=>q w4 R4 (F1.trans (F2.trans (gr.fut.trans F4)))
      | ok c S3 =>
       rw [hk] at q;intro z' w4 R4 F4 h4;dsimp only at q
       cases hg':g' e c with
       | none=>rw [hg'] at q;exact q.elim
       | some r2 =>
        rw [hg'] at q;exact hr' _ _ _ _ ⟨w4,e,c,r2,rfl,(h2.up (gr.fut.trans F4)).top R4,h4.top R4,hg',fun v' w5 gr5 sh5=>q v' w5 (R4.grow gr5) (F1.trans (F2.trans (gr.fut.trans (F4.trans gr5.fut)))) sh5⟩
def zmO{op op':CmpOp}{g g':D->D->Option D}(ho:OpD X cl (compareOp op) g)(ho':OpD X cl (compareOp op') g')(ha:PE X a (tH cl E f))(hb:PE X b (tH cl E h))(hc:PE X c (tH cl E k))(hm:lastMarks [op,op'] [b,c]=false):PE X (.Compare a [op,op'] [b,c] pos) (tE cl E (zdA g g' f h k)) :=
 PE.imp (zna ho ho' ha hb hc hm) fun _ _ _ q=>ziO (fun _ _ _ _ z=>z) (fun _ _ _ _ z=>z) q
def zmH{op op':CmpOp}{g g':D->D->Option D}(ho:OpD X cl (compareOp op) g)(ho':OpD X cl (compareOp op') g')(ha:PE X a (tH cl E f))(hb:PE X b (tH cl E h))(hc:PE X c (tH cl E k))(hm:lastMarks [op,op'] [b,c]=false):PT X (.Compare a [op,op'] [b,c] pos) (tTr cl E (zdA g g' f h k)) :=
 PT.imp (zmX ho ho' ha hb hc hm) fun _ _ _ q=>ziO (fun _ _ _ _ z=>z) (fun _ _ _ _ z=>z) (ziN q)
def zgG{α:Type}(l:List α)(lo hi:Option Int):List α:=(l.drop (HT.sIx l.length 0 lo)).take (HT.sIx l.length l.length hi-HT.sIx l.length 0 lo)
def slD(d:D)(lo hi:Option Int):Option D:=match d with
 | .lst l=>some (.lst (zgG l lo hi))
 | .tup l=>some (.tup (zgG l lo hi))
 | _=>none
def zc2(o:Option Fe)(ρ:Env)(S:Sto):Out (Option Int):=match o with
 | none=>.ok none S
 | some f=>(f ρ S).bind fun d S1=>match d with | .int i=>.ok (some i) S1 | _=>.bad
def eSl(f:Fe)(lo hi:Option Fe):Fe:=fun ρ S=>(f ρ S).bind fun d S1=>(zc2 lo ρ S1).bind fun l S2=>(zc2 hi ρ S2).bind fun u S3=>Out.of (slD d l u) S3
def zhG{w:Wd}{xs:List V}{ds:List D}(r:Shds cl w xs ds)(lo hi:Option Int):Shds cl w (zoD xs lo hi) (zgG ds lo hi):=by
 unfold zoD zgG;rw [r.length];exact (r.drop _).take _
def SlD(X:Cx)(cl:Cf):Prop:=SlR X fun x lo hi H Q=>∃w d r,w.H=H/\TopV cl w x d/\slD d lo hi=some r/\∀v w',Grow w w'->Shd cl w' v r->Q v w'.H
def zuK:SlD X cl:=by
 intro pins s σ H x v vl vu lo hi sl Q I rx hs pl pu h;obtain ⟨w,d,r,rfl,hx,hg,q⟩:=h;unfold slD at hg;split at hg
 ·rename_i l;cases hg;obtain ⟨p,xs,rfl,ep,rs⟩:=hx.lstI;exact zo8 pins s σ w.H _ v vl vu lo hi sl Q I rx hs pl pu ⟨p,xs,rfl,SqL.of ep,fun p' hp=>q _ (w.add p' _) (zaD hp _) (Shd.newL hp (zhG rs lo hi))⟩
 ·rename_i l;cases hg;obtain ⟨p,xs,rfl,ep,kp,rs⟩:=hx.tupI
  by_cases hw:HT.sIx xs.length 0 lo=0/\HT.sIx xs.length xs.length hi=xs.length
  ·refine zjC pins s σ w.H _ v vl vu lo hi sl Q I rx hs pl pu ⟨p,xs,rfl,SqT.of ep,hw.1,hw.2,q _ w (Grow.refl _) (.tup ep kp ?_)⟩
   have:zgG l lo hi=l:=by
    unfold zgG;rw [<-rs.length,hw.1,hw.2,ycZ,Nat.sub_zero,ybC (by rw [rs.length];exact yam _)]
   rw [this];exact rs
  ·exact zrA pins s σ w.H _ v vl vu lo hi sl Q I rx hs pl pu ⟨p,xs,rfl,SqT.of ep,hw,fun p' hp=>q _ (w.add p' _) (zaD hp _) (Shd.newT hp (zhG rs lo hi))⟩
 ·cases hg
def ztJ(cl:Cf)(E:St->XK)(o:Option Fe):TO:=match o with | none=>zky | some f=>zrf (tH cl E f)
def zrJ{lo hi:Option Expr}{fl fh:Option Fe}{p2:Pos}(he:PE X e (tH cl E f))(hl:PO X lo (ztJ cl E fl))(hu:PO X hi (ztJ cl E fh)):PE X (.Subscript e (.Slice lo hi none p2) pos) (tE cl E (eSl f fl fh)):=by
 refine PE.imp (zm6 (zuK (cl:=cl)) he hl hu) ?_;rintro σ H Q ⟨B,w,ρ,S,rfl,R,q⟩;refine ⟨B,w,ρ,S,rfl,R,?_⟩;unfold eSl at q
 cases hf:f ρ S with
 | bad=>rwa [hf] at q
 | exc c S1=>rwa [hf] at q
 | ok d S1 =>
  rw [hf] at q;intro v w1 R1 F1 h1;dsimp only [Out.bind] at q
  have last:∀(l u:Option Int) (w3:Wd) (S3:Sto),Rel cl B σ w3 ρ S3->Fut w1 w3->(match Out.of (slD d l u) S3 with
    | .ok d S'=>∀v w',Rel cl B σ w' ρ S'->Fut w w'->Shd cl w' v d->Q v w'.H
    | .exc c S'=>∀w',Rel cl B σ w' ρ S'->Fut w w'->E σ (.ref (cl c)) none w'.H
    | .bad=>False)->∃w d r,w.H=w3.H/\TopV cl w v d/\slD d l u=some r/\∀v w',Grow w w'->Shd cl w' v r->Q v w'.H:=by
   intro l u w3 S3 R3 F3 q3
   cases hg:slD d l u with
   | none=>rw [hg] at q3;exact q3.elim
   | some r =>
    rw [hg] at q3;exact ⟨w3,d,r,rfl,(h1.up F3).top R3,hg,fun v' w' gr sh=>q3 v' w' (R3.grow gr) (F1.trans (F3.trans gr.fut)) sh⟩
  have second:∀(l:Option Int) (w2:Wd) (S2:Sto),Rel cl B σ w2 ρ S2->Fut w1 w2->(match (zc2 fh ρ S2).bind fun u S3=>Out.of (slD d l u) S3 with
    | .ok d S'=>∀v w',Rel cl B σ w' ρ S'->Fut w w'->Shd cl w' v d->Q v w'.H
    | .exc c S'=>∀w',Rel cl B σ w' ρ S'->Fut w w'->E σ (.ref (cl c)) none w'.H
    | .bad=>False)->ztJ cl E fh σ w2.H fun u H3=>∃w d r,w.H=H3/\TopV cl w v d/\slD d l u=some r/\∀v w',Grow w w'->Shd cl w' v r->Q v w'.H:=by
   intro l w2 S2 R2 F2 q2
   cases fh with
   | none=>exact last l none w2 S2 R2 F2 q2
   | some fh =>
    refine ⟨B,w2,ρ,S2,rfl,R2,?_⟩;unfold zc2 at q2;dsimp only at q2
    cases hh:fh ρ S2 with
    | bad=>rwa [hh] at q2
    | exc c S3=>rw [hh] at q2;exact fun w3 R3 F3=>q2 w3 R3 (F1.trans (F2.trans F3))
    | ok dh S3 =>
     rw [hh] at q2;intro y w3 R3 F3 h3;dsimp only [Out.bind] at q2
     cases dh with
     | int i =>
      refine ⟨i,(h3.top R3).intI,?_⟩;exact last l (some i) w3 S3 R3 (F2.trans F3) q2
     | _=>exact q2.elim
  cases fl with
  | none=>exact second none w1 S1 R1 (Fut.refl _) q
  | some fl =>
   refine ⟨B,w1,ρ,S1,rfl,R1,?_⟩;unfold zc2 at q;dsimp only at q
   cases hh:fl ρ S1 with
   | bad=>rwa [hh] at q
   | exc c S3=>rw [hh] at q;exact fun w3 R3 F3=>q w3 R3 (F1.trans F3)
   | ok dl S2 =>
    rw [hh] at q;intro y w2 R2 F2 h2;dsimp only [Out.bind] at q
    cases dl with
    | int i =>
     refine ⟨i,(h2.top R2).intI,?_⟩;exact second (some i) w2 S2 R2 F2 q
    | _=>exact q.elim
def zeI(T:String)(d:D):Option D :=
 if T = "int" then (match d with | .int _=>some (.bl true) | .bl _=>some (.bl true) | .non=>some (.bl false) | .str _=>some (.bl false) | .tup _=>some (.bl false) | .lst _=>some (.bl false) | _=>none)
 else if T = "bool" then (match d with | .int _=>some (.bl false) | .bl _=>some (.bl true) | .non=>some (.bl false) | .str _=>some (.bl false) | .tup _=>some (.bl false) | .lst _=>some (.bl false) | _=>none)
 else if T = "tuple" then (match d with | .int _=>some (.bl false) | .bl _=>some (.bl false) | .non=>some (.bl false) | .str _=>some (.bl false) | .tup _=>some (.bl true) | .lst _=>some (.bl false) | _=>none)
 else if T = "str" then (match d with | .int _=>some (.bl false) | .bl _=>some (.bl false) | .non=>some (.bl false) | .str _=>some (.bl true) | .tup _=>some (.bl false) | .lst _=>some (.bl false) | _=>none)
 else if T = "list" then (match d with | .int _=>some (.bl false) | .bl _=>some (.bl false) | .non=>some (.bl false) | .str _=>some (.bl false) | .tup _=>some (.bl false) | .lst _=>some (.bl true) | _=>none)
 else none
def zqg{K:PySem.W.Frag}{w:Wd}{v:V}{d r:D}{T:String}(h:TopV cl w v d)(hg:zeI T d=some r):∃t b,TyOf K w.H v t/\PySem.W.kitOne K t (.type T)=some b/\r=.bl b:=by
 unfold zeI at hg;split at hg
 ·rename_i hT;subst hT
  split at hg<;>cases hg
  ·obtain rfl:=h.intI;exact ⟨_,_,.int _,by with_unfolding_all rfl,rfl⟩
  ·obtain rfl:=h.blI;exact ⟨_,_,.bl _,by with_unfolding_all rfl,rfl⟩
  ·obtain rfl:=h.nonI;exact ⟨_,_,.non,by with_unfolding_all rfl,rfl⟩
  ·obtain rfl:=h.strI;exact ⟨_,_,.str _,by with_unfolding_all rfl,rfl⟩
  ·obtain ⟨_,_,rfl,e,_⟩:=h.tupI;exact ⟨_,_,.tup e,by with_unfolding_all rfl,rfl⟩
  ·obtain ⟨_,_,rfl,e,_⟩:=h.lstI;exact ⟨_,_,.lst e,by with_unfolding_all rfl,rfl⟩
 split at hg
 ·rename_i hT;subst hT
  split at hg<;>cases hg
  ·obtain rfl:=h.intI;exact ⟨_,_,.int _,by with_unfolding_all rfl,rfl⟩
  ·obtain rfl:=h.blI;exact ⟨_,_,.bl _,by with_unfolding_all rfl,rfl⟩
  ·obtain rfl:=h.nonI;exact ⟨_,_,.non,by with_unfolding_all rfl,rfl⟩
  ·obtain rfl:=h.strI;exact ⟨_,_,.str _,by with_unfolding_all rfl,rfl⟩
  ·obtain ⟨_,_,rfl,e,_⟩:=h.tupI;exact ⟨_,_,.tup e,by with_unfolding_all rfl,rfl⟩
  ·obtain ⟨_,_,rfl,e,_⟩:=h.lstI;exact ⟨_,_,.lst e,by with_unfolding_all rfl,rfl⟩
 split at hg
 ·rename_i hT;subst hT
  split at hg<;>cases hg
  ·obtain rfl:=h.intI;exact ⟨_,_,.int _,by with_unfolding_all rfl,rfl⟩
  ·obtain rfl:=h.blI;exact ⟨_,_,.bl _,by with_unfolding_all rfl,rfl⟩
  ·obtain rfl:=h.nonI;exact ⟨_,_,.non,by with_unfolding_all rfl,rfl⟩
  ·obtain rfl:=h.strI;exact ⟨_,_,.str _,by with_unfolding_all rfl,rfl⟩
  ·obtain ⟨_,_,rfl,e,_⟩:=h.tupI;exact ⟨_,_,.tup e,by with_unfolding_all rfl,rfl⟩
  ·obtain ⟨_,_,rfl,e,_⟩:=h.lstI;exact ⟨_,_,.lst e,by with_unfolding_all rfl,rfl⟩
 split at hg
 ·rename_i hT;subst hT
  split at hg<;>cases hg
  ·obtain rfl:=h.intI;exact ⟨_,_,.int _,by with_unfolding_all rfl,rfl⟩
  ·obtain rfl:=h.blI;exact ⟨_,_,.bl _,by with_unfolding_all rfl,rfl⟩
  ·obtain rfl:=h.nonI;exact ⟨_,_,.non,by with_unfolding_all rfl,rfl⟩
  ·obtain rfl:=h.strI;exact ⟨_,_,.str _,by with_unfolding_all rfl,rfl⟩
  ·obtain ⟨_,_,rfl,e,_⟩:=h.tupI;exact ⟨_,_,.tup e,by with_unfolding_all rfl,rfl⟩
  ·obtain ⟨_,_,rfl,e,_⟩:=h.lstI;exact ⟨_,_,.lst e,by with_unfolding_all rfl,rfl⟩
 split at hg
 ·rename_i hT;subst hT
  split at hg<;>cases hg
  ·obtain rfl:=h.intI;exact ⟨_,_,.int _,by with_unfolding_all rfl,rfl⟩
  ·obtain rfl:=h.blI;exact ⟨_,_,.bl _,by with_unfolding_all rfl,rfl⟩
  ·obtain rfl:=h.nonI;exact ⟨_,_,.non,by with_unfolding_all rfl,rfl⟩
  ·obtain rfl:=h.strI;exact ⟨_,_,.str _,by with_unfolding_all rfl,rfl⟩
  ·obtain ⟨_,_,rfl,e,_⟩:=h.tupI;exact ⟨_,_,.tup e,by with_unfolding_all rfl,rfl⟩
  ·obtain ⟨_,_,rfl,e,_⟩:=h.lstI;exact ⟨_,_,.lst e,by with_unfolding_all rfl,rfl⟩
 ·cases hg
def zhL:bootBuiltins "isinstance" = some (.builtin "isinstance"):=by decide +kernel
def zpi{T:String}{x:Str}{p p2:Pos}(hg:Gl X "isinstance")(hm:X.mg "isinstance" = none)(hgT:Gl X x)(hmT:X.mg x=none)(hvT:bootBuiltins x=some (.type T))(hn:x ≠ "__name__")(hdb:(x == ("__debug__":Str))=false)(hp:zct e=true)(he:PE X e (tH cl E f)) :
  PE X (.Call (.Name "isinstance" p) [e,.Name x p2] [] pos) (tE cl E (eUn (zeI T) f)):=by
 refine PE.imp (zgq ziy hg hm zhL (zcO he (zcO (zk9 (v:=.ty T) hgT hmT hvT rfl hn hdb) ze7 rfl) (za9 hp)) (he:=za9 hp) (hpl:=rfl)) ?_;rintro σ H Q ⟨B,w,ρ,S,rfl,R,q⟩;refine ⟨B,w,ρ,S,rfl,R,?_⟩;unfold eUn at q
 cases hf:f ρ S with
 | bad=>rwa [hf] at q
 | exc c S1=>rwa [hf] at q
 | ok d S1 =>
  rw [hf] at q;intro v w1 R1 F1 h1;dsimp only [Out.bind] at q
  cases hg:zeI T d with
  | none=>rw [hg] at q;exact q.elim
  | some r =>
   rw [hg] at q;obtain ⟨t,b,h2,h3,rfl⟩:=zqg (K:=X.K) (h1.top R1) hg;exact ⟨v,t,T,b,rfl,h2,h3,q _ w1 R1 F1 (.bl _)⟩
def za3(f:Fe):Fi:=fun ρ S=>(f ρ S).bind fun d S1=>match d with | .lst l=>.ok l S1 | .tup l=>.ok l S1 | _=>.bad
def zrD{tg:Expr}(hK:X.K=cl.K)(he:PE X e (tE cl E f)):PI X tg e (tI cl E (za3 f)):=by
 intro pins s σ H R' I q;obtain ⟨B,w,ρ,S,rfl,R,q⟩:=q;unfold za3 at q
 cases hf:f ρ S with
 | bad=>rw [hf] at q;exact q.elim
 | exc c S1 =>
  refine zkD he pins s σ w.H R' I ⟨B,w,ρ,S,rfl,R,?_⟩;unfold zjj;rw [hf] at q ⊢;exact q
 | ok d S1 =>
  rw [hf] at q;dsimp only [Out.bind] at q
  cases d with
  | lst l =>
   refine zkD he pins s σ w.H R' I ⟨B,w,ρ,S,rfl,R,?_⟩;unfold zjj;rw [hf];exact q
  | tup l =>
   refine zrC he pins s σ w.H R' I ⟨B,w,ρ,S,rfl,R,?_⟩;unfold ziu;rw [hf];exact q
  | _=>exact q.elim
end
end S2
namespace PySem.F
def zfC(a b c:Value):checkTypeCall "zip" ⟨[a,b,c],[]⟩=pure ():=by kernel_rfl
def zgv(a b c:Value):checkBuiltinCall "zip.__new__" ⟨[.type "zip",a,b,c],[]⟩=pure ():=by kernel_rfl
def zd7(a b c d:Value):argsOk "object.__init__" ⟨[a,b,c,d],[]⟩:=by
 unfold argsOk;rw [signature?_of (id:="object.__init__") (n:=['_','_','t','i','n','i','_','_']) (o:=['t','c','e','j','b','o']) (by kernel_rfl) owner_object];kernel_rfl
end PySem.F
namespace L2
open PySem PySem.Spec PyProof.Rows
def zdM(b:Bool)(h:Heap)(a:Addr)(vs:Array Value):Prop:=match b with | true=>h.IsList a vs | false=>h.IsTuple a vs
def zmy(b:Bool)(h:Heap)(it a:Addr)(j:Nat):Prop:=match b with | true=>h.IsListIter it a j | false=>h.IsTupleIter it a j
def itN(b:Bool):String:=match b with | true=>"list_iterator" | false=>"tuple_iterator"
def zdM.keep{b:Bool}{h h':Heap}{a:Addr}{vs:Array Value}(p:zdM b h a vs)(k:∀o,h.get? a=some o->h'.get? a=some o):zdM b h' a vs:=by
 cases b with
 | true=>exact Heap.IsList.at p k
 | false=>obtain ⟨o,ho,r⟩:=p;exact ⟨o,k o ho,r⟩
def zdM.inj{b:Bool}{h:Heap}{a:Addr}{vs ws:Array Value}(p:zdM b h a vs)(q:zdM b h a ws):vs=ws:=by
 cases b with
 | true=>obtain ⟨o,ho,_,n,e⟩:=p;obtain ⟨o',ho',_,n',e'⟩:=q;rw [ho] at ho';cases ho';rw [e] at e';cases e';rfl
 | false=>obtain ⟨o,ho,_,n,e⟩:=p;obtain ⟨o',ho',_,n',e'⟩:=q;rw [ho] at ho';cases ho';rw [e] at e';cases e';rfl
def zmy.keep{b:Bool}{h h':Heap}{it a:Addr}{j:Nat}(p:zmy b h it a j)(k:∀o,h.get? it=some o->h'.get? it=some o):zmy b h' it a j:=by
 cases b with
 | true=>exact Heap.IsListIter.at p k
 | false=>exact Heap.IsTupleIter.at p k
def zmy.live{b:Bool}{h:Heap}{it a:Addr}{j:Nat}(p:zmy b h it a j):∃o,h.get? it=some o/\∀v,o.data≠.cell v:=by
 cases b with
 | true=>obtain ⟨o,ho,c,d⟩:=p;exact ⟨o,ho,fun v z=>by rw [d] at z;cases z⟩
 | false=>obtain ⟨o,ho,c,d⟩:=p;exact ⟨o,ho,fun v z=>by rw [d] at z;cases z⟩
section
variable{prog:Program}{w:World}{A:Around}{E:Z5}{s:Shared}
def znL(hh:A.handled=none)(b:Bool)(it t:Addr)(ne:t≠it)(vs:Array Value):Draws prog w A it [it,t] vs.size (fun j v=>vs[j]?=some v) (fun j h=>zmy b h it t j/\zdM b h t vs):=by
 cases b with
 | false=>exact zhF hh it t ne vs
 | true =>
  exact {
   live:=fun _ _ st=>by obtain ⟨⟨o,ho,_⟩,_⟩:=st;exact ⟨o,ho⟩
   frame:=fun _ _ _ st hk=>⟨st.1.keep fun o e=>hk it (by simp) o e,st.2.keep fun o e=>hk t (by simp) o e⟩
   item:=fun j s Q E hj st hQ=>wpAny_nextOf_list_item (x:=vs[j]) st.1 st.2 (by simp [hj]) fun h' st' sb=>hQ _ h' s.toks (by simp [hj]) ⟨st',st.2.keep fun o e=>(sb.2 t ne).trans e⟩ sb
   done:=fun s Q E st hE=>wpAny_nextOf_list_end hh st.1 st.2 (by simp) fun h' e sb he=>hE h' e sb he }
def zkU{b:Bool}{l:Addr}{vs:Array Value}{Q:Z5}(p:zdM b s.heap l vs)(h:Q (.ref s.heap.objs.size) { s with heap:=s.heap.push { cls:=.type (itN b),data:=.fields #[.ref l,.int 0 0] } }):wpAny (model prog w) A (pyIter (.ref l)) Q E s:=by
 cases b with
 | true=>exact yb3 p h
 | false=>exact yci p h
abbrev IsT(h:Heap)(T:Addr)(os:List Value):Prop:=h.get? T=some { cls:=.type "tuple",data:=.seq os.toArray }
abbrev Stops(h:Heap)(e:Addr):Prop:=∃o,h.get? e=some o/\o.cls=.type "StopIteration"
def zhX:Nat->List (Bool×Nat)->List Value | _,[]=>[] | a,_::L=>.ref a::zhX (a+1) L
def ZAt(k:Nat)(h:Heap):Nat->List (Bool×Nat)->Prop | _,[]=>True | a,p::L=>zmy p.1 h a p.2 k/\ZAt k h (a+1) L
def ZGv(k:Nat)(h:Heap):List (Bool×Nat)->List Value->Prop
 | [],[]=>True
 | p::L,x::xs=>(∃vs,zdM p.1 h p.2 vs/\vs[k]?=some x)/\ZGv k h L xs
 | _,_=>False
theorem ZGv.len{k:Nat}{h:Heap}:∀{L:List (Bool×Nat)} {xs:List Value},ZGv k h L xs->xs.length=L.length
 | [],[],_=>rfl
 | _::_,_::_,g=>congrArg Nat.succ (ZGv.len g.2)
theorem ZAt.keep{k:Nat}{h h':Heap}:∀{L:List (Bool×Nat)} {a:Nat},ZAt k h a L->(∀(c:Nat) (o:Obj),a<=c->c<a+L.length->h.get? c=some o->h'.get? c=some o)->ZAt k h' a L
 | [],_,_,_=>trivial
 | p::L,a,z,f=>⟨z.1.keep fun o e=>f _ o (yam _) (by simp) e,ZAt.keep z.2 fun c o h1 h2 e=>f c o (by omega) (by simp only [yai];omega) e⟩
theorem ziG:∀(a:Nat) (L:List (Bool×Nat)),(zhX a L).length=L.length
 | _,[]=>rfl
 | a,_::L=>congrArg Nat.succ (ziG (a+1) L)
theorem ziF{β:Type}{z TI TO k:Nat}{f:Value×Nat->β->Sem (ForInStep β)}{b:β}(hTO:TO<z)
  (hf:∀(p:Bool×Nat) (vs:Array Value) (a n:Nat) (os:List Value) (s:Shared) (Q:ForInStep β->Shared->Prop),p.2<a->a<TO->os.length<=9->IsZip s.heap z TI TO .ellipsis->IsT s.heap TO os->zmy p.1 s.heap a p.2 k->zdM p.1 s.heap p.2 vs →
   (∀x h' tk,vs[k]?=some x->IsT h' TO (os.set n x)->zmy p.1 h' a p.2 (k+1)->h'.objs.size=s.heap.objs.size->(∀(c:Nat) (o:Obj),c≠TO->c≠a->s.heap.get? c=some o->h'.get? c=some o)->Q (.yield b) { s with heap:=h',toks:=tk }) →
   (k=vs.size->∀h' e tk,(∀(c:Nat) (o:Obj),c≠z->c≠a->s.heap.get? c=some o->h'.get? c=some o)->Stops h' e->E (.ref e) { s with heap:=h',toks:=tk }) →
   k<=vs.size->wpAny (model prog w) A (f (.ref a,n) b) Q E s) :
  ∀(L:List (Bool×Nat)) (a n:Nat) (os:List Value) (s:Shared) (Q:β->Shared->Prop),(∀p∈L,p.2<a/\∃vs,zdM p.1 s.heap p.2 vs/\k<=vs.size)->a+L.length<=TO->os.length=n+L.length->os.length<=9->IsZip s.heap z TI TO .ellipsis->IsT s.heap TO os->ZAt k s.heap a L →
   (∀xs h' tk,ZGv k s.heap L xs->IsT h' TO (os.take n++xs)->ZAt (k+1) h' a L->h'.objs.size=s.heap.objs.size->(∀(c:Nat) (o:Obj),(c<a\/a+L.length<=c)->c≠TO->s.heap.get? c=some o->h'.get? c=some o)->Q b { s with heap:=h',toks:=tk }) →
   ((∃p∈L,∃vs,zdM p.1 s.heap p.2 vs/\k=vs.size)->∀h' e tk,(∀(c:Nat) (o:Obj),(c<a\/z<c)->s.heap.get? c=some o->h'.get? c=some o)->Stops h' e->E (.ref e) { s with heap:=h',toks:=tk }) →
   wpAny (model prog w) A (forIn ((zhX a L).zipIdx n) b f) Q E s
 | [],a,n,os,s,Q,_,_,hn,_,_,hO,_,hQ,_=>by
  refine yaj (hQ [] s.heap s.toks trivial ?_ trivial rfl fun c o _ _ e=>e);rw [yaY,ybC (by simp at hn;omega)];exact hO
 | p::L,a,n,os,s,Q,hL,hT,hn,h9,hz,hO,hA,hQ,hE=>by
  rw [yai] at hT hn;obtain ⟨hp,vs,hv,hk⟩:=hL p (.head _);show wpAny _ _ (forIn ((.ref a,n)::(zhX (a+1) L).zipIdx (n+1)) b f) _ _ _;rw [ycK];refine yac (hf p vs a n os s _ hp (by omega) h9 hz hO hA.1 hv (fun x h1 tk hx hO1 hI1 hs1 k1=>?_) (fun hx h' e tk k1=>hE ⟨p,.head _,vs,hv,hx⟩ h' e tk fun c o hc q=>k1 c o (by omega) (by omega) q) hk);have kq:∀q∈L,∀vs,zdM q.1 s.heap q.2 vs->zdM q.1 h1 q.2 vs:=fun q hq vs e=>e.keep fun o e=>k1 _ o (by have:=(hL q (.tail _ hq)).1;omega) (by have:=(hL q (.tail _ hq)).1;omega) e
  refine ziF hTO hf L (a+1) (n+1) (os.set n x) _ Q (fun q hq=>?_) (by omega) (by rw [yaJ];omega) (by rw [yaJ];exact h9) (k1 _ _ (by omega) (by omega) hz) hO1 (hA.2.keep fun c o c1 c2 e=>k1 c o (by omega) (by omega) e) (fun xs h' tk' gv hO' hA' hs' k'=>?_) (fun ⟨q,hq,ws,hw,hx⟩ h' e tk' k'=>?_)
  ·obtain ⟨h2,ws,hw,hk2⟩:=hL q (.tail _ hq);exact ⟨by omega,ws,kq q hq ws hw,hk2⟩
  ·refine hQ (x::xs) h' tk' ⟨⟨vs,hv,hx⟩,?_⟩ ?_ ⟨hI1.keep fun o e=>k' _ o (.inl (by omega)) (by omega) e,hA'⟩ (hs'.trans hs1) fun c o hc c2 e=>k' c o (by rw [yai] at hc;omega) c2 (k1 c o c2 (by rw [yai] at hc;omega) e)
   ·clear hQ hE hO' hA' k'
    have aux:∀(M:List (Bool×Nat)) (ys:List Value),(∀q∈M,q∈L)->ZGv k h1 M ys->ZGv k s.heap M ys:=by
     intro M
     induction M with
     | nil=>intro ys _ g;cases ys<;>exact g
     | cons q M ih =>
      intro ys hM g
      cases ys with
      | nil=>exact g
      | cons y ys =>
       obtain ⟨⟨ws,e1,e2⟩,g2⟩:=g;obtain ⟨_,ws',e3,_⟩:=hL q (.tail _ (hM q (.head _)));have e4:=kq q (hM q (.head _)) ws' e3;refine ⟨⟨ws',e3,?_⟩,ih ys (fun r hr=>hM r (.tail _ hr)) g2⟩;rw [zdM.inj e4 e1];exact e2
    exact aux L xs (fun _ h=>h) gv
   ·have:os.take n++x::xs=(os.set n x).take (n+1)++xs:=by
     rw [List.take_succ,yaA (by omega),List.take_set_of_le (yam _)];simp
    rw [this];exact hO'
  ·obtain ⟨_,ws',e3,_⟩:=hL q (.tail _ hq);exact hE ⟨q,.tail _ hq,ws',e3,by rw [hx,zdM.inj hw (kq q hq ws' e3)]⟩ h' e tk' fun c o hc e=>k' c o (by omega) (k1 c o (by omega) (by omega) e)
def ziE{z TI TO k a:Nat}{L:List (Bool×Nat)}{os:List Value}{Q:Z5}(hh:A.handled=none)(h0:L≠[])(h9:L.length<=9)(e1:TI=a+L.length)(e2:TO=TI+1)(e3:z=TO+1)
  (hL:∀p∈L,p.2<a/\∃vs,zdM p.1 s.heap p.2 vs/\k<=vs.size) (hz:IsZip s.heap z TI TO .none) (hI:IsT s.heap TI (zhX a L)) (hO:IsT s.heap TO os) (ho:os.length=L.length) (hA:ZAt k s.heap a L)
  (hQ:∀xs h' tk,ZGv k s.heap L xs->IsZip h' z TI TO (rawInt s.heap.objs.size)->IsT h' TO xs->ZAt (k+1) h' a L->IsT h' s.heap.objs.size xs->(∀(c:Nat) (o:Obj),(c<a\/c=TI\/z<c)->s.heap.get? c=some o->h'.get? c=some o)->Q (.ref s.heap.objs.size) { s with heap:=h',toks:=tk })
  (hE:(∃p∈L,∃vs,zdM p.1 s.heap p.2 vs/\k=vs.size)->∀h' e tk,(∀(c:Nat) (o:Obj),(c<a\/z<c)->s.heap.get? c=some o->h'.get? c=some o)->Stops h' e->E (.ref e) { s with heap:=h',toks:=tk }) :
  wpAny (model prog w) A (Builtin.«zip.__next__» ⟨[.ref z],[]⟩) (fun fin s'=>∃v,fin=.done (.ret v)/\Q v s') E s:=by
 have hne:((zhX a L).toArray.isEmpty)=false:=by
  cases L with
  | nil=>exact absurd rfl h0
  | cons p L=>rfl
 show wpAny _ _ (field (.ref z) 2 >>= _) _ _ _;refine yac (ybz hz rfl (x:=.bool false) rfl ?_);show wpAny _ _ (field (.ref z) 3 >>= _) _ _ _;refine yac (ybz hz rfl (x:=.ref TI) rfl ?_);refine yac (ybU hI rfl ?_);simp only [hne,yaU,ybW];show wpAny _ _ (Builtin.SmallTypes.ownedTupleIsFree (.ref z) >>= _) _ _ _;refine yac ?_;unfold Builtin.SmallTypes.ownedTupleIsFree;refine yac (ybz hz rfl (x:=.none) rfl (yaj ?_));simp only [yb7];refine yac (yc4 ?_);refine yac (ybz hz rfl (x:=.ref TO) rfl ?_);refine yac (ycn hz (by simp) fun h₁ hz₁ hs₁=>?_);replace hz₁:IsZip h₁ z TI TO .ellipsis:=hz₁;have k₁:∀(c:Nat) (o:Obj),c≠z->s.heap.get? c=some o->h₁.get? c=some o:=fun c o hc e=>hs₁.extBut _ _ hc e
 have kq:∀p∈L,∀vs,zdM p.1 h₁ p.2 vs↔zdM p.1 s.heap p.2 vs:=fun p hp vs=>by
  have hc:p.2≠z:=by have:=(hL p hp).1;omega
  exact ⟨fun q=>q.keep fun o e=>((hs₁.2 p.2 hc).symm.trans e),fun q=>q.keep fun o e=>k₁ _ o hc e⟩
 refine yac (ziF (z:=z) (TI:=TI) (TO:=TO) (k:=k) (by omega) (fun p vs b n os s Q hp hb h9 hz hO hI hv hx he hk=>?_) L a 0 os _ _ (fun p hp=>?_) (by omega) (by omega) (by omega) hz₁ (k₁ _ _ (by omega) hO) (hA.keep fun c o c1 c2 e=>k₁ c o (by omega) e) (fun xs h₂ tk gv hO₂ hA₂ hs₂ k₂=>?_) (fun ⟨p,hp,vs,hv,hx⟩ h' e tk k'=>hE ⟨p,hp,vs,(kq p hp vs).1 hv,hx⟩ h' e tk fun c o hc q=>k' c o hc (k₁ c o (by omega) q)))
 ·have D:=znL (prog:=prog) (w:=w) hh p.1 b p.2 (yaG hp) vs;refine yac (wpAny_onRaise ?_);show wpAny _ _ (Builtin.SmallTypes.nextOf (.ref b) >>= _) _ _ _
  rcases Nat.lt_or_eq_of_le hk with hlt | rfl
  ·refine yac (D.item k _ _ _ hlt ⟨hI,hv⟩ fun x h₂ tk₂ px hI₂ hs₂=>yaj ?_);have hO₂:IsT h₂ TO os:=hs₂.extBut _ _ (ya6 hb) hO;refine yac (ybU hO₂ rfl ?_);refine yac (wpAny_updateSeq hO₂ rfl ?_ (by simp;exact yah h9 (by decide)) (by simp;exact yah h9 (by decide)));have hs₃:=Heap.SameBut.update h₂ TO (Obj.mapSeq (·.setIfInBounds n x));refine yac (wpAny_letGo (yaj (hx x _ tk₂ px ?_ (hI₂.1.keep fun o e=>hs₃.extBut _ _ (show b≠TO by omega) e) (hs₃.1.trans hs₂.1) fun c o c1 c2 e=>hs₃.extBut _ _ c1 (hs₂.extBut _ _ c2 e))));show Heap.get? _ TO=_;rw [Heap.get?_update_self _ hO₂ rfl];simp [Obj.mapSeq]
  ·refine yac (D.done _ _ _ ⟨hI,hv⟩ fun h₂ e hs₂ hs=>?_);obtain ⟨oe,hoe,hce⟩:=hs;have hz₂:IsZip h₂ z TI TO .ellipsis:=hs₂ _ _ (show z≠b by omega) hz
   have hez:e≠z:=fun x=>by subst x;rw [hz₂] at hoe;cases hoe;simp at hce
   exact ycn hz₂ (by simp) fun h₃ _ hs₃=>he rfl h₃ e _ (fun c o c1 c2 q=>hs₃.extBut _ _ c1 (hs₂ _ _ c2 q)) ⟨oe,hs₃.extBut _ _ hez hoe,hce⟩
 ·obtain ⟨h1,vs,hv,hk⟩:=hL p hp;exact ⟨h1,vs,(kq p hp vs).2 hv,hk⟩
 ·replace hO₂:IsT h₂ TO xs:=hO₂;refine yac (ybU hO₂ rfl ?_);refine yac (wpAny_newTuple ?_ (hsz:=by rw [show xs.toArray.toList=xs from rfl,gv.len];exact yah h9 (by decide)));have hz₂:IsZip h₂ z TI TO .ellipsis:=k₂ _ _ (.inr (by omega)) (by omega) hz₁;have hsz:h₂.objs.size=s.heap.objs.size:=hs₂.trans hs₁.1;have hzlt:z<h₂.objs.size:=yas hz₂;show wpAny _ _ (Builtin.SmallTypes.ownedTupleHandOut (.ref z) (.ref h₂.objs.size) >>= _) _ _ _;refine yac ?_;unfold Builtin.SmallTypes.ownedTupleHandOut;have hz₃:IsZip (h₂.push { cls:=.type "tuple",data:=.seq xs.toArray }) z TI TO .ellipsis:=yaf _ hz₂;refine yac (ycn hz₃ (by simp) fun h₄ hz₄ hs₄=>?_);replace hz₄:IsZip h₄ z TI TO (rawInt h₂.objs.size):=hz₄;refine ycn hz₄ (by simp) fun h₅ hz₅ hs₅=>?_
  replace hz₅:IsZip h₅ z TI TO (rawInt h₂.objs.size):=hz₅;have up:∀(c:Nat) (o:Obj),c≠z->h₂.get? c=some o->h₅.get? c=some o:=fun c o c1 e=>hs₅.extBut _ _ c1 (hs₄.extBut _ _ c1 (yaf _ e))
  have hT:IsT h₅ h₂.objs.size xs:=hs₅.extBut _ _ (ya6 hzlt) (hs₄.extBut _ _ (ya6 hzlt) (yax _ rfl));rw [hsz] at hz₅ hT;refine yaj ⟨_,rfl,?_⟩;show Q (.ref h₂.objs.size) _;rw [hsz]
  have gv':∀(M:List (Bool×Nat)) (ys:List Value),(∀q∈M,q∈L)->ZGv k h₁ M ys->ZGv k s.heap M ys:=by
   intro M
   induction M with
   | nil=>intro ys _ g;cases ys<;>exact g
   | cons q M ih =>
    intro ys hM g
    cases ys with
    | nil=>exact g
    | cons y ys=>obtain ⟨⟨ws,q1,q2⟩,g2⟩:=g;exact ⟨⟨ws,(kq q (hM q (.head _)) ws).1 q1,q2⟩,ih ys (fun r hr=>hM r (.tail _ hr)) g2⟩
  exact hQ xs h₅ tk (gv' L xs (fun _ h=>h) gv) hz₅ (up _ _ (by omega) hO₂) (hA₂.keep fun c o c1 c2 e=>up c o (by omega) e) hT fun c o hc e=>up c o (by omega) (k₂ c o (by omega) (by omega) (k₁ c o (by omega) e))
def zs6{b:Bool}{h:Heap}{it a:Addr}(g:h.get? it=some { cls:=.type (itN b),data:=.fields #[.ref a,.int 0 0] }):zmy b h it a 0:=by
 cases b with
 | true=>exact ⟨_,g,rfl,rfl⟩
 | false=>exact ⟨_,g,rfl,rfl⟩
def zjU{L:List (Bool×Nat)}{Q:List Value->Shared->Prop}(hL:∀p∈L,∃vs,zdM p.1 s.heap p.2 vs)
  (h:∀h',(∀(c:Nat) (o:Obj),s.heap.get? c=some o->h'.get? c=some o)->ZAt 0 h' s.heap.objs.size L->h'.objs.size=s.heap.objs.size+L.length->Q (zhX s.heap.objs.size L) { s with heap:=h' }) :
  wpAny (model prog w) A (Builtin.SmallTypes.iterAll (L.map fun p=>.ref p.2)) Q E s:=by
 have go:∀(L:List (Bool×Nat)) (acc:Array Value) (s:Shared) (Q:Array Value->Shared->Prop),(∀p∈L,∃vs,zdM p.1 s.heap p.2 vs)->(∀h' r,r.toList=acc.toList++zhX s.heap.objs.size L->(∀(c:Nat) (o:Obj),s.heap.get? c=some o->h'.get? c=some o)->ZAt 0 h' s.heap.objs.size L->h'.objs.size=s.heap.objs.size+L.length->Q r { s with heap:=h' }) →
   wpAny (model prog w) A (forIn (L.map fun p=>Value.ref p.2) acc fun x r=>do let y ← holding r.toList (pyIter x);pure (ForInStep.yield (r.push y))) Q E s:=by
  intro L
  induction L with
  | nil=>intro acc s Q _ h;exact yaj (h s.heap acc (by simp [zhX]) (fun _ _ e=>e) trivial rfl)
  | cons p L ih =>
   intro acc s Q hL h;obtain ⟨vs,hv⟩:=hL p (.head _);rw [yaw,ycK];refine yac (yac (yb2 (zkU hv (yaj ?_))));have sz:(s.heap.push { cls:=.type (itN p.1),data:=.fields #[.ref p.2,.int 0 0] }).objs.size=s.heap.objs.size+1:=ya9 ..;refine ih _ _ Q (fun q hq=>?_) (fun h' r hr k za hz=>h h' r ?_ (fun c o e=>k c o (yaf _ e)) ⟨zs6 (k _ _ (yax _ rfl)),?_⟩ ?_)
   ·obtain ⟨ws,hw⟩:=hL q (.tail _ hq);exact ⟨ws,hw.keep fun o e=>yaf _ e⟩
   ·rw [hr,sz];simp [zhX]
   ·rwa [sz] at za
   ·rw [hz,sz,yai];omega
 unfold Builtin.SmallTypes.iterAll;refine yac (go L #[] s _ hL fun h' r hr k za hz=>yaj ?_);rw [show r.toList=zhX s.heap.objs.size L from hr];exact h h' k za hz
def zlr{L:List (Bool×Nat)}(h9:L.length<=9) :
  Meets (Builtin.«zip.__new__» ⟨.type "zip" :: (L.map fun p=>.ref p.2),[]⟩) (fun _ R s=>(∀p∈L,∃vs,zdM p.1 s.heap p.2 vs) ∧
   ∀h' n,n=s.heap.objs.size->(∀(c:Nat) (o:Obj),s.heap.get? c=some o->h'.get? c=some o)->ZAt 0 h' n L->IsT h' (n+L.length) (zhX n L)->(∃os,os.length=L.length/\IsT h' (n+L.length+1) os)->IsZip h' (n+L.length+2) (n+L.length) (n+L.length+1) .none →
    R (.ok (.ret (.ref (n+L.length+2)))) { s with heap:=h' }) :=
 .of_wp fun prog w A R s h=>by
  obtain ⟨hp,g,d,tk,os⟩:=s;obtain ⟨hl,h⟩:=h;have hsub:=sub_zip;have hl':∀p∈L,∃vs,zdM p.1 (Shared.heap ⟨hp,g,d,tk,os⟩) p.2 vs:=hl
  wp_walk using zjU hl'
  intro h1 k za hz;have zl:=ziG hp.objs.size L;refine yac (wpAny_newTuple ?_ (hsz:=by rw [zl];exact yah h9 (by decide)));refine yac (wpAny_newTuple ?_ (hsz:=by rw [yae,zl];exact yah h9 (by decide)));refine yac ?_;unfold Builtin.SmallTypes.newRecord;refine ybk ?_ (hd:=by first | exact trivial | (show (5:Nat)<=_;decide));have z1:∀o,(h1.push o).objs.size=hp.objs.size+L.length+1:=fun o=>(ya9 ..).trans (congrArg (·+1) hz)
  have z2:∀o o',((h1.push o).push o').objs.size=hp.objs.size+L.length+2:=fun o o'=>(ya9 ..).trans (congrArg (·+1) (z1 o))
  have p {h:Heap} {o':Obj} {a:Addr} {o:Obj} (e:h.get? a=some o):(h.push o').get? a=some o:=yaf _ e
  have u:∀{h:Heap} {o:Obj} {a:Addr},a=h.objs.size->o.isFreed=false->(h.push o).get? a=some o:=fun e ho=>by rw [e];exact yax _ ho
  refine yaj ⟨_,rfl,?_⟩;have r:=h (((h1.push { cls:=.type "tuple",data:=.seq (zhX hp.objs.size L).toArray }).push { cls:=.type "tuple",data:=.seq ((zhX hp.objs.size L).map fun _=>Value.none).toArray }).push { cls:=.type "zip",data:=.fields #[.none,.bool false,.bool false,.ref (hp.objs.size+L.length),.ref (hp.objs.size+L.length+1)] }) _ rfl (fun c o e=>p (p (p (k c o e)))) (za.keep fun c o _ _ e=>p (p (p e))) (p (p (u hz.symm rfl))) ⟨_,by rw [yae,zl],p (u (z1 _).symm rfl)⟩ (u (z2 _ _).symm rfl);simp only [hz,z1,z2];exact r
end
theorem ZAt.live{k:Nat}{h:Heap}:∀{L:List (Bool×Nat)} {a b:Nat},ZAt k h a L->a<=b->b<a+L.length->∃o,h.get? b=some o/\∀v,o.data≠.cell v
 | [],a,b,_,h1,h2=>absurd h2 (Nat.not_lt.mpr h1)
 | p::L,a,b,z,h1,h2=>by
  rcases Nat.eq_or_lt_of_le h1 with rfl | h3
  ·exact z.1.live
  ·exact ZAt.live z.2 h3 (by rw [yai] at h2;omega)
theorem ZGv.at{k:Nat}{h:Heap}:∀{L:List (Bool×Nat)} {xs:List Value},ZGv k h L xs->∀p∈L,∃vs,zdM p.1 h p.2 vs/\k<vs.size
 | p::L,x::xs,g,q,hq=>by
  cases hq with
  | head=>obtain ⟨vs,e1,e2⟩:=g.1;exact ⟨vs,e1,(Array.getElem?_eq_some_iff.mp e2).1⟩
  | tail _ hq=>exact ZGv.at g.2 q hq
def zFp(a n:Nat):List Addr:=(List.range (n+3)).map (a+·)
def zcJ{a n b:Nat}:b∈zFp a n↔a<=b/\b<a+n+3:=by
 unfold zFp;rw [yan];exact ⟨fun ⟨j,hj,e⟩=>by rw [yaE] at hj;have e:a+j=b:=e;omega,fun ⟨h1,h2⟩=>⟨b-a,yaE.mpr (by omega),by show a+(b-a)=b;omega⟩⟩
def zhY{a n b:Nat}(h:b ∉ zFp a n):b<a\/a+n+2<b:=by rw [zcJ] at h;omega
def zt3{a n b:Nat}(h:b<a+n+3)(h':¬ b<a+n):b=a+n\/b=a+n+1\/b=a+n+2:=by omega
def zqS{a n b:Nat}(h:b<a\/a+n+2<b):b≠a+n+2:=by omega
section
variable{X:Cx}{pins:Z3}{σ:St}{H:Hp}{s:Shared}
def SqB(b:Bool)(H:Hp)(a:Addr)(xs:List V):Prop:=match b with | true=>H a=some (.lst xs) | false=>H a=some (.tup xs)
def Inv.sq{b:Bool}{a:Addr}{xs:List V}(I:Inv X pins σ H s)(h:SqB b H a xs):∃its:List Value,Vals xs its/\zdM b s.heap a its.toArray:=by
 cases b with
 | true=>obtain ⟨its,rv,p,_⟩:=I.list (SqL.of h);exact ⟨its,rv,p.isList⟩
 | false=>obtain ⟨its,rv,p,_⟩:=I.tuple (SqT.of h);exact ⟨its,rv,p⟩
def SqB.inj{b:Bool}{a:Addr}{xs ys:List V}(h:SqB b H a xs)(g:SqB b H a ys):xs=ys:=by
 cases b with
 | true=>have e:=(show H a=_ from h).symm.trans (show H a=_ from g);cases e;rfl
 | false=>have e:=(show H a=_ from h).symm.trans (show H a=_ from g);cases e;rfl
def ZGd(i:Nat)(H:Hp):List (Bool×Nat)->List V->Prop
 | [],[]=>True
 | p::L,y::ys=>(∃xs,SqB p.1 H p.2 xs/\xs[i]?=some y)/\ZGd i H L ys
 | _,_=>False
def ItZ(L:List (Bool×Nat)):It :=
 ⟨fun i H=>∃ys,ZGd i H L ys,fun i H v H'=>∃t ys,v=.ref t/\H t=none/\H'=upd H t (.tup ys)/\ZGd i H L ys,
  fun i H=>(∀p∈L,∃xs,SqB p.1 H p.2 xs/\i<=xs.length)/\∃p∈L,∃xs,SqB p.1 H p.2 xs/\i=xs.length⟩
theorem ZGd.at{i:Nat}(I:Inv X pins σ H s):∀{L:List (Bool×Nat)} {ys:List V},ZGd i H L ys->∀p∈L,∃vs,zdM p.1 s.heap p.2 vs/\i<vs.size
 | p::L,x::xs,g,q,hq=>by
  cases hq with
  | head =>
   obtain ⟨vs,e1,e2⟩:=g.1;obtain ⟨its,rv,p1⟩:=I.sq e1;exact ⟨_,p1,by rw [yal,<-rv.length];exact (yag.mp e2).1⟩
  | tail _ hq=>exact ZGd.at I g.2 q hq
theorem ZGd.vals{i:Nat}(I:Inv X pins σ H s):∀{L:List (Bool×Nat)} {ys:List V} {us:List Value},ZGd i H L ys->ZGv i s.heap L us->Vals ys us
 | [],[],[],_,_=>.nil
 | p::L,y::ys,u::us,g,v=>by
  refine .cons ?_ (ZGd.vals I g.2 v.2);obtain ⟨xs,e1,e2⟩:=g.1;obtain ⟨vs,e3,e4⟩:=v.1;obtain ⟨its,rv,p1⟩:=I.sq e1;rw [zdM.inj e3 p1] at e4;obtain ⟨u',hu,ru⟩:=rv.get e2;rw [List.getElem?_toArray,hu] at e4;cases e4;exact ru
def zoK{fp:List Addr}{T:Addr}{h2:Heap}{tk:Nat}{us:List Value}{ys:List V}(I:Inv X pins σ H s)(hf:∀b∈fp,zmr X pins H b)(hT:T=s.heap.objs.size)(te:IsT h2 T us)
  (k:∀b o,b ∉ fp->s.heap.get? b=some o->h2.get? b=some o) (r:Vals ys us) (h9:us.length<=9):Inv X pins σ (upd H T (.tup ys)) { s with heap:=h2,toks:=tk }/\H T=none:=by
 have fr:H T=none:=by rw [hT];exact I.hok.fresh (yam _)
 refine ⟨?_,fr⟩;have I1:Inv X pins σ H { s with heap:=h2,toks:=tk }:=I.turnedL (ch:=fp) (fun b o hb q=>k b o hb q) hf;refine I1.track fr (by rw [hT];exact I.sz) (by rw [hT];exact ya6 I.lt) (fun z c q=>?_) (fun p hp=>?_) ?_
 ·obtain ⟨v,cq⟩:=I.cell z c q;rw [hT];exact yaG cq.lt
 ·rw [hT];exact yaG (yas (I.pin p hp).1)
 ·exact ⟨yah (r.length ▸ h9) (by decide),us,r,_,te,rfl,_,rfl⟩
def zmB{P:Program}{w:World}{K:PySem.W.Frag}{elts:List Expr}{x1:Nat}{pos:Pos}(L:List (Bool×Nat))(a:Nat)(h0:L≠[])(h9:L.length<=9)(hL:∀p∈L,p.2<a) :
  Turn P w K (.Tuple elts x1 pos) (ItZ L) (zFp a L.length) (a+L.length+2) (fun i h=>IsZip h (a+L.length+2) (a+L.length) (a+L.length+1) .none/\IsT h (a+L.length) (zhX a L)/\(∃os,os.length=L.length/\IsT h (a+L.length+1) os)/\ZAt i h a L) where
 mem:=zcJ.mpr (by omega)
 obj:=fun i h st b hb=>by
  obtain ⟨hz,hI,⟨os,ho,hO⟩,hA⟩:=st;obtain ⟨h1,h2⟩:=zcJ.mp hb
  by_cases e:b<a+L.length
  ·exact hA.live h1 e
  ·rcases zt3 h2 e with rfl | rfl | rfl
   ·exact ⟨_,hI,fun v e=>by cases e⟩
   ·exact ⟨_,hO,fun v e=>by cases e⟩
   ·exact ⟨_,hz,fun v e=>by cases e⟩
 keep:=fun i h h' st k=>by
  obtain ⟨hz,hI,⟨os,ho,hO⟩,hA⟩:=st;exact ⟨k _ (zcJ.mpr (by omega)) _ hz,k _ (zcJ.mpr (by omega)) _ hI,⟨os,ho,k _ (zcJ.mpr (by omega)) _ hO⟩,hA.keep fun c o c1 c2 e=>k _ (zcJ.mpr (by omega)) _ e⟩
 item:=by
  intro X hP hw hK hc i pins s σ H E I hf st hg;subst hP hw hK;obtain ⟨ys,gd⟩:=hg;obtain ⟨hz,hI,⟨os,ho,hO⟩,hA⟩:=st;have hT:s.TypeIs (.ref (a+L.length+2)) "zip":=⟨_,hz,rfl⟩;unfold pyNext
  refine yac (wpAny_attempt (ybb (name:=Str.ofString "__next__") hT ycM (ybn ycM hT F.entry_zip_next
   (ziE (A:=X.A.in1) (I.ok.hd hc) h0 h9 rfl rfl rfl (fun p hp=>by obtain ⟨vs,e1,e2⟩:=gd.at I p hp;exact ⟨hL p hp,vs,e1,ycP e2⟩) hz hI hO ho hA (fun us h' tk gv a1 a2 a3 a4 a5=>yaj ?_)
    (fun ⟨p,hp,vs,e1,e2⟩=>by obtain ⟨ws,e3,e4⟩:=gd.at I p hp;rw [zdM.inj e1 e3] at e2;omega)) (F.args_zip_next_1 _))))
  have neT:s.heap.objs.size≠a+L.length+2:=ya6 (yas hz);have ltz:a+L.length+2<s.heap.objs.size:=yas hz;refine ⟨_,rfl,wpAny_letOwnedTupleGo_zip a1 fun h2' hz2 sb=>?_⟩;have kb:∀(c:Nat) (o:Obj),c≠a+L.length+2->h'.get? c=some o->h2'.get? c=some o:=fun c o hc e=>(sb.2 c hc).trans e
  obtain ⟨I2,fr⟩:=zoK (tk:=tk) (h2:=h2') I hf rfl (kb _ _ neT a4) (fun b o hb q=>kb b o (zqS (zhY hb)) (a5 b o ((zhY hb).elim .inl fun e=>.inr (.inr e)) q)) (gd.vals I gv) (by rw [gv.len];exact h9);refine ⟨.ref s.heap.objs.size,_,I2,rfl,⟨_,ys,rfl,fr,rfl,gd⟩,⟨hz2,kb _ _ (by omega) (a5 _ _ (.inr (.inl rfl)) hI),⟨us,gv.len,kb _ _ (by omega) a2⟩,a3.keep fun c o c1 c2 e=>kb c o (by omega) e⟩,fun b hb=>?_⟩;rw [zaq (fun e=>by have:=(zcJ.mp (e ▸ hb)).2;omega)];exact (hf b hb).1
 done:=by
  intro X hP hw hK hc i pins s σ H E I hf st hg;subst hP hw hK;obtain ⟨g1,p,hp,xs,e1,e2⟩:=hg;obtain ⟨hz,hI,⟨os,ho,hO⟩,hA⟩:=st;have hT:s.TypeIs (.ref (a+L.length+2)) "zip":=⟨_,hz,rfl⟩;obtain ⟨its,rv,p1⟩:=I.sq e1;unfold pyNext
  refine yac (wpAny_attempt (ybb (name:=Str.ofString "__next__") hT ycM (ybn ycM hT F.entry_zip_next
   (ziE (A:=X.A.in1) (I.ok.hd hc) h0 h9 rfl rfl rfl (fun p hp=>by
     obtain ⟨xs,e1,e2⟩:=g1 p hp;obtain ⟨its,rv,p1⟩:=I.sq e1
     exact ⟨hL p hp,_,p1,by rw [yal,<-rv.length];exact e2⟩) hz hI hO ho hA
    (fun us h' tk gv=>by
     obtain ⟨vs,e3,e4⟩:=gv.at p hp;rw [zdM.inj e3 p1,yal,<-rv.length,<-e2] at e4
     exact absurd e4 (yaT _)) (fun _ h' e tk hk he'=>?_)) (F.args_zip_next_1 _))))
  obtain ⟨o,ho,hcl⟩:=he';refine yac (ycz (T:="StopIteration") (b:=true) ⟨o,ho,hcl⟩ isSubtype_stop ?_);refine yaj ⟨rfl,I.turnedL (ch:=zFp a L.length) (fun b o hb q=>?_) hf⟩;exact hk b o (zhY hb) q
 self:=fun _ _ _ _ _ st h=>wpAny_pyIter_zip st.1 h
def znX:bootBuiltins "zip" = some (.type "zip"):=by decide +kernel
def zqR{elts:List Expr}{x1:Nat}{tp:Pos}{s1:Shared}{H1:Hp}{L:List (Bool×Nat)}{R:It->Hp->Prop}{vs:List Value}(I1:Inv X pins σ H1 s1)(hv:vs=L.map fun p=>.ref p.2)(h0:L≠[])(h9:L.length<=9)(c1:checkTypeCall "zip" ⟨vs,[]⟩=pure ())(c2:checkBuiltinCall "zip.__new__" ⟨.type "zip" :: vs,[]⟩=pure ())(c3:∀obj,argsOk "object.__init__" ⟨obj::vs,[]⟩)
  (hq:∀p∈L,∃xs,SqB p.1 H1 p.2 xs) (q:R (ItZ L) H1) :
  wpAny (model X.prog X.w) X.A (call (.type "zip") vs) (fun v s2=>wpAny (model X.prog X.w) X.A (pyIter v) (PIE X pins σ (.Tuple elts x1 tp) R) X.xe s2) X.xe s1:=by
 subst hv
 have hs:∀p∈L,∃vs,zdM p.1 s1.heap p.2 vs:=fun p hp=>by
  obtain ⟨xs,e⟩:=hq p hp;obtain ⟨its,_,p1⟩:=I1.sq e;exact ⟨_,p1⟩
 refine callType_new F.called_zip (by decide) c1 c2 c3 F.entry_zip_new (zlr h9) ⟨hs,fun h' n hn hk za hI hO hz=>?_⟩;refine ⟨⟨_,hz,rfl⟩,wpAny_pyIter_zip hz ?_⟩;refine ⟨n+L.length+2,zFp n L.length,_,_,H1,rfl,I1.kept (t':=s1.toks) hk,zmB L n h0 h9 (fun p hp=>?_),⟨hz,hI,hO,za⟩,fun c hb=>?_,q⟩
 ·obtain ⟨vs,e⟩:=hs p hp;rw [hn]
  revert e
  cases p.1 with
  | true=>intro e;obtain ⟨o,ho,_⟩:=e;exact yas ho
  | false=>intro e;obtain ⟨o,ho,_⟩:=e;exact yas ho
 ·have hc:s1.heap.objs.size<=c:=hn ▸ (zcJ.mp hb).1;exact I1.fpOk hc (I1.hok.fresh hc)
end
end L2
namespace S2
open PySem PySem.Spec PyProof.Rows L2
section
variable{X:Cx}{cl:Cf}{E:St->XK}{e tg:Expr}{f:Fe}{own:Bool}{pos pos':Pos}
def ztM:List D->Option D | [.int i,.int j]=>some (.int (if j<i then j else i)) | _=>none
def ztn(hc:X.calm=true):zhU X cl (.builtin "min") ztM:=by
 intro pins s σ H xs us Q I r h;obtain ⟨w,ds,d,rfl,hx,hg,q⟩:=h;unfold ztM at hg;split at hg
 ·rename_i i j;cases hg
  cases hx with
  | cons h1 h2=>cases h2 with
   | cons h2 h3 =>
    cases h3;obtain rfl:=h1.intI;obtain rfl:=h2.intI;exact zmc hc pins s σ w.H _ us Q I r ⟨i,j,rfl,q _ w (Grow.refl _) (.int _)⟩
 ·cases hg
def zcC(l:List D):List D:=l.zipIdx.map fun p=>.tup [.int p.2,p.1]
def zd2(l:List D):(zcC l).length=l.length:=by unfold zcC;rw [yae,List.length_zipIdx]
def zd3{l:List D}{i:Nat}{d:D}(h:(zcC l)[i]?=some d):∃y,l[i]?=some y/\d=.tup [.int i,y]:=by
 unfold zcC at h;rw [yak,List.getElem?_zipIdx] at h
 cases hl:l[i]? with
 | none=>rw [hl] at h;cases h
 | some y =>
  rw [hl] at h;refine ⟨y,rfl,?_⟩;have:=Option.some.inj h;rw [<-this];simp
def zj2(f:Fe):Fi:=fun ρ S=>(zan [f] ρ S).bind fun ds S1=>match ds with | [.lst l]=>.ok (zcC l) S1 | [.tup l]=>.ok (zcC l) S1 | _=>.bad
def zor{S:Hp->Addr->List V->Prop}{w:Wd}{a:Addr}{xs:List V}{l:List D}(hS:∀w',Fut w w'->S w'.H a xs)(r:Shds cl w xs l):ItOk cl w (ItE S a) (zcC l):=by
 have hl:=r.length;have hel:=zd2 l;refine ⟨fun w1 F1 i hi=>⟨xs,xs[i]'(by omega),hS w1 F1,yaa (by omega)⟩,fun w1 F1=>⟨xs,hS w1 F1,by omega⟩,fun w1 F1 i d x H1 hd y=>?_⟩;obtain ⟨t,v,rfl,ht,rfl,hy⟩:=y;obtain ⟨z,hz,rfl⟩:=zd3 hd;have hv:=hy xs (hS w1 F1);obtain ⟨d',e1,e2⟩:=r.get hv;rw [hz] at e1;cases e1;exact ⟨w1.add t _,rfl,zaD ht _,Shd.newT ht (.cons (.int _) (.cons (e2.up F1) .nil))⟩
def zpd{es:List Expr}{kk:Nat}{tp p:Pos}(hg:Gl X "enumerate")(hm:X.mg "enumerate" = none)(ha:PA X [e] (tAs cl E [f]))(hs:starEach [e] X.env=[(false,eval e X.env)]):PI X (.Tuple es kk tp) (.Call (.Name "enumerate" p) [e] [] pos) (tI cl E (zj2 f)):=by
 intro pins s σ H R' I q;obtain ⟨B,w,ρ,S,rfl,R,q⟩:=q;unfold zj2 at q;have L:=zm4 (elts:=es) (x1:=kk) (tp:=tp) (p:=p) (pos:=pos) hg hm ha rfl hs pins s σ w.H R' I;have T:=zm3 (elts:=es) (x1:=kk) (tp:=tp) (p:=p) (pos:=pos) hg hm ha rfl hs pins s σ w.H R' I
 cases hf:zan [f] ρ S with
 | bad=>rw [hf] at q;exact q.elim
 | exc c S1 =>
  refine L ⟨B,w,ρ,S,rfl,R,?_⟩;rw [hf] at q ⊢;exact q
 | ok ds S1 =>
  rw [hf] at q;dsimp only [Out.bind] at q;split at q
  ·rename_i l' S' hm';split at hm'
   ·rename_i l;cases hm';refine L ⟨B,w,ρ,S,rfl,R,?_⟩;rw [hf];intro vs w' R2 F2 sh
    cases sh with
    | cons h1 h2 =>
     cases h2
     cases h1 with
     | lst ep k r=>exact ⟨_,rfl,⟨_,SqL.of ep⟩,q _ w' R2 F2 (zor (fun w1 F1=>SqL.of (F1.keep _ _ ep k).1) r)⟩
   ·rename_i l;cases hm';refine T ⟨B,w,ρ,S,rfl,R,?_⟩;rw [hf];intro vs w' R2 F2 sh
    cases sh with
    | cons h1 h2 =>
     cases h2
     cases h1 with
     | tup ep k r=>exact ⟨_,rfl,⟨_,SqT.of ep⟩,q _ w' R2 F2 (zor (fun w1 F1=>SqT.of (F1.keep _ _ ep k).1) r)⟩
   ·cases hm'
  ·rename_i hm';split at hm'<;>cases hm'
  ·exact q.elim
def zfJ:List D->List D->List D
 | x::xs,y::ys=>.tup [x,y]::zfJ xs ys
 | _,_=>[]
theorem zeJ:∀(xs ys:List D),(zfJ xs ys).length=min xs.length ys.length
 | [],_=>by simp [zfJ]
 | _::_,[]=>by simp [zfJ]
 | _::xs,_::ys=>by simp [zfJ,zeJ xs ys]
theorem zf6:∀{xs ys:List D} {i:Nat} {d:D},(zfJ xs ys)[i]?=some d->∃x y,xs[i]?=some x/\ys[i]?=some y/\d=.tup [x,y]
 | [],_,_,_,h=>by simp [zfJ] at h
 | _::_,[],_,_,h=>by simp [zfJ] at h
 | x::xs,y::ys,0,d,h=>by
  simp only [zfJ,List.getElem?_cons_zero,Option.some.injEq] at h;exact ⟨x,y,rfl,rfl,h.symm⟩
 | x::xs,y::ys,i+1,d,h=>by
  simp only [zfJ,List.getElem?_cons_succ] at h ⊢;exact zf6 h
def zrG:D->Option (List D) | .lst l=>some l | .tup l=>some l | _=>none
def zth(f g:Fe):Fi:=fun ρ S=>(zan [f,g] ρ S).bind fun ds S1=>match ds with | [x,y]=>(match zrG x,zrG y with | some l,some k=>.ok (zfJ l k) S1 | _,_=>.bad) | _=>.bad
def zs4{b1 b2:Bool}{w:Wd}{l1 l2:Addr}{xs ys:List V}{ds es:List D}(h1:∀w',Fut w w'->SqB b1 w'.H l1 xs)(h2:∀w',Fut w w'->SqB b2 w'.H l2 ys)(r1:Shds cl w xs ds)(r2:Shds cl w ys es):ItOk cl w (ItZ [(b1,l1),(b2,l2)]) (zfJ ds es):=by
 have e1:=r1.length;have e2:=r2.length;have el:=zeJ ds es;refine ⟨fun w1 F1 i hi=>⟨[xs[i]'(by omega),ys[i]'(by omega)],⟨xs,h1 w1 F1,yaa (by omega)⟩,⟨ys,h2 w1 F1,yaa (by omega)⟩,trivial⟩,fun w1 F1=>⟨fun p hp=>?_,?_⟩,fun w1 F1 i d x H1 hd y=>?_⟩
 ·simp only [yav,yaF,ybP] at hp
  rcases hp with rfl | rfl
  ·exact ⟨xs,h1 w1 F1,by omega⟩
  ·exact ⟨ys,h2 w1 F1,by omega⟩
 ·by_cases h:ds.length<=es.length
  ·exact ⟨_,.head _,xs,h1 w1 F1,by omega⟩
  ·exact ⟨_,.tail _ (.head _),ys,h2 w1 F1,by omega⟩
 obtain ⟨t,vs,rfl,ht,rfl,gd⟩:=y;obtain ⟨z1,z2,hz1,hz2,rfl⟩:=zf6 hd
 match vs,gd with
 | [v1,v2],⟨⟨xs',g1,hx⟩,⟨ys',g2,hy⟩,_⟩ =>
  cases SqB.inj g1 (h1 w1 F1);cases SqB.inj g2 (h2 w1 F1);obtain ⟨d1,q1,s1⟩:=r1.get hx;obtain ⟨d2,q2,s2⟩:=r2.get hy;rw [hz1] at q1;cases q1;rw [hz2] at q2;cases q2;exact ⟨w1.add t _,rfl,zaD ht _,Shd.newT ht (.cons (s1.up F1) (.cons (s2.up F1) .nil))⟩
def ziS{w:Wd}{v:V}{d:D}{l:List D}(h:Shd cl w v d)(e:zrG d=some l):∃(b:Bool) (a:Addr) (xs:List V),v=.ref a/\(∀w',Fut w w'->SqB b w'.H a xs)/\Shds cl w xs l:=by
 cases h with
 | lst ep k r=>cases e;exact ⟨true,_,_,rfl,fun w1 F1=>(F1.keep _ _ ep k).1,r⟩
 | tup ep k r=>cases e;exact ⟨false,_,_,rfl,fun w1 F1=>(F1.keep _ _ ep k).1,r⟩
 | _=>cases e
theorem zgQ:∀{L:List (Bool×Nat)} {us:List Value},Vals (L.map fun p=>V.ref p.2) us->us=L.map fun p=>.ref p.2
 | [],_,r=>by cases r;rfl
 | p::L,_,r=>by
  rw [yaw] at r
  cases r with
  | cons h t=>cases h;rw [zgQ t];rfl
def zkC{a:Expr}{as:List Expr}{fs:List Fe}{F:List D->Sto->Out (List D)}{n:Nat}{es:List Expr}{kk:Nat}{tp p:Pos}(hg:Gl X "zip")(hm:X.mg "zip" = none)(ha:PA X (a::as) (tAs cl E fs))(hs:starEach (a::as) X.env=(false,eval a X.env)::starEach as X.env)(hs2:(backTo pos (starEach as X.env)).any (·.1)=false)
  (hc:∀us:List Value,us.length=n->checkTypeCall "zip" ⟨us,[]⟩=pure ()/\checkBuiltinCall "zip.__new__" ⟨.type "zip" :: us,[]⟩=pure ()/\∀obj,argsOk "object.__init__" ⟨obj::us,[]⟩) (hn:0<n/\n<=9)
  (hF:∀ds S1 (w:Wd) vs,Shds cl w vs ds->F ds S1=.bad\/∃l L,F ds S1=.ok l S1/\L.length=n/\vs=L.map (fun p=>V.ref p.2)/\(∀p∈L,∃xs,SqB p.1 w.H p.2 xs)/\ItOk cl w (ItZ L) l) :
  PI X (.Tuple es kk tp) (.Call (.Name "zip" p) (a::as) [] pos) (tI cl E (fun ρ S=>(zan fs ρ S).bind F)):=by
 intro pins s σ H R' I q;refine Call_ (zdz I hg hm L2.znX (yaS (thn (ha pos pins s σ H (fun vs H1=>∃L,L.length=n/\vs=L.map (fun p=>V.ref p.2)/\(∀p∈L,∃xs,SqB p.1 H1 p.2 xs)/\R' (ItZ L) H1) I ?_) fun us s1 ⟨vs,H1,I1,r1,q1⟩=>?_) hs hs2))
 ·obtain ⟨B,w,ρ,S,rfl,R,q⟩:=q;refine ⟨B,w,ρ,S,rfl,R,?_⟩;dsimp only at q
  cases hf:zan fs ρ S with
  | bad=>rw [hf] at q;exact q.elim
  | exc c S1=>rwa [hf] at q
  | ok ds S1 =>
   rw [hf] at q;dsimp only [Out.bind] at q;intro vs w' R2 F2 sh
   rcases hF ds S1 w' vs sh with e | ⟨l,L,e,e1,e2,e3,e4⟩
   ·rw [e] at q;exact q.elim
   ·rw [e] at q;exact ⟨L,e1,e2,e3,q _ w' R2 F2 e4⟩
 ·obtain ⟨L,e1,rfl,e3,q⟩:=q1;have e:=zgQ r1;have c:=hc us (by rw [e,yae,e1]);exact zqR I1 e (fun z=>by rw [z] at e1;exact absurd hn.1 (by rw [<-e1];exact yaT _)) (e1 ▸ hn.2) c.1 c.2.1 c.2.2 e3 q
def zrB{a:Expr}{fa:Fe}{es:List Expr}{kk:Nat}{tp p:Pos}(hg:Gl X "zip")(hm:X.mg "zip" = none)(ha:PA X [a,e] (tAs cl E [fa,f]))(hs:starEach [a,e] X.env=(false,eval a X.env)::starEach [e] X.env)(hs2:(backTo pos (starEach [e] X.env)).any (·.1)=false):PI X (.Tuple es kk tp) (.Call (.Name "zip" p) [a,e] [] pos) (tI cl E (zth fa f)) :=
 zkC (n:=2) hg hm ha hs hs2 (fun us hu=>match us,hu with | [a,b],_=>⟨F.typeCall_zip_2 a b,F.newCall_zip_2 a b,fun o=>F.args_object_init_3 o a b⟩) (by decide) fun ds S1 w vs sh=>by
  split
  ·rename_i x y;split
   ·rename_i l k hl hk
    cases sh with
    | cons h1 h2 =>
     cases h2 with
     | cons h2 h3 =>
      cases h3;obtain ⟨b1,a1,xs,rfl,p1,r1⟩:=ziS h1 hl;obtain ⟨b2,a2,ys,rfl,p2,r2⟩:=ziS h2 hk;refine .inr ⟨_,[(b1,a1),(b2,a2)],rfl,rfl,rfl,fun p hp=>?_,zs4 p1 p2 r1 r2⟩;simp only [yav,yaF,ybP] at hp
      rcases hp with rfl | rfl
      ·exact ⟨xs,p1 _ (Fut.refl _)⟩
      ·exact ⟨ys,p2 _ (Fut.refl _)⟩
   ·exact .inl rfl
  ·exact .inl rfl
def zeU:List D->List D->List D->List D
 | x::xs,y::ys,z::zs=>.tup [x,y,z]::zeU xs ys zs
 | _,_,_=>[]
theorem zfK:∀{n:Nat} {xs ys zs:List D},xs.length=n->ys.length=n->zs.length=n->(zeU xs ys zs).length=n/\∀{i:Nat} {d:D},(zeU xs ys zs)[i]?=some d->∃x y z,xs[i]?=some x/\ys[i]?=some y/\zs[i]?=some z/\d=.tup [x,y,z]
 | 0,xs,ys,zs,h1,h2,h3=>by
  rw [ya3 h1];exact ⟨rfl,fun {i d} h=>by cases h⟩
 | n+1,[],_,_,h1,_,_=>by cases h1
 | n+1,_::_,[],_,_,h2,_=>by cases h2
 | n+1,_::_,_::_,[],_,_,h3=>by cases h3
 | n+1,x::xs,y::ys,z::zs,h1,h2,h3=>by
  obtain ⟨l,g⟩:=zfK (Nat.succ.inj h1) (Nat.succ.inj h2) (Nat.succ.inj h3);refine ⟨congrArg Nat.succ l,fun {i d} h=>?_⟩
  cases i with
  | zero=>exact ⟨x,y,z,rfl,rfl,rfl,(Option.some.inj h).symm⟩
  | succ i=>exact g (i:=i) h
noncomputable def zjZ(f g h:Fe):Fi:=fun ρ S=>(zan [f,g,h] ρ S).bind fun ds S1=>match ds with | [.tup l,.tup k,.tup m]=>if k.length=l.length/\m.length=l.length then .ok (zeU l k m) S1 else .bad | _=>.bad
def zqd{w:Wd}{l1 l2 l3:Addr}{xs ys us:List V}{ds es fs:List D}(h1:∀w',Fut w w'->SqB false w'.H l1 xs)(h2:∀w',Fut w w'->SqB false w'.H l2 ys)(h3:∀w',Fut w w'->SqB false w'.H l3 us)(r1:Shds cl w xs ds)(r2:Shds cl w ys es)(r3:Shds cl w us fs)(e2:es.length=ds.length)(e3:fs.length=ds.length):ItOk cl w (ItZ [(false,l1),(false,l2),(false,l3)]) (zeU ds es fs):=by
 obtain ⟨el,eg⟩:=zfK rfl e2 e3;have k1:=r1.length;have k2:=r2.length.trans e2;have k3:=r3.length.trans e3;refine ⟨fun w1 F1 i hi=>?_,fun w1 F1=>⟨fun p hp=>?_,⟨_,.head _,xs,h1 w1 F1,el.trans k1.symm⟩⟩,fun w1 F1 i d x H1 hd y=>?_⟩
 ·rw [el] at hi;exact ⟨[xs[i]'(by rw [k1];exact hi),ys[i]'(by rw [k2];exact hi),us[i]'(by rw [k3];exact hi)],⟨xs,h1 w1 F1,yaa _⟩,⟨ys,h2 w1 F1,yaa _⟩,⟨us,h3 w1 F1,yaa _⟩,trivial⟩
 ·rw [el];simp only [yav,yaF,ybP] at hp
  rcases hp with rfl | rfl | rfl
  ·exact ⟨xs,h1 w1 F1,ycQ k1.symm⟩
  ·exact ⟨ys,h2 w1 F1,ycQ k2.symm⟩
  ·exact ⟨us,h3 w1 F1,ycQ k3.symm⟩
 ·obtain ⟨t,vs,rfl,ht,rfl,gd⟩:=y;obtain ⟨z1,z2,z3,hz1,hz2,hz3,rfl⟩:=eg hd
  match vs,gd with
  | [v1,v2,v3],⟨⟨xs',g1,hx⟩,⟨ys',g2,hy⟩,⟨us',g3,hu⟩,_⟩ =>
   cases SqB.inj g1 (h1 w1 F1);cases SqB.inj g2 (h2 w1 F1);cases SqB.inj g3 (h3 w1 F1);obtain ⟨d1,q1,s1⟩:=r1.get hx;obtain ⟨d2,q2,s2⟩:=r2.get hy;obtain ⟨d3,q3,s3⟩:=r3.get hu;rw [hz1] at q1;cases q1;rw [hz2] at q2;cases q2;rw [hz3] at q3;cases q3;exact ⟨w1.add t _,rfl,zaD ht _,Shd.newT ht (.cons (s1.up F1) (.cons (s2.up F1) (.cons (s3.up F1) .nil)))⟩
def zo9{a b:Expr}{fa fb:Fe}{es:List Expr}{kk:Nat}{tp p:Pos}(hg:Gl X "zip")(hm:X.mg "zip" = none)(ha:PA X [a,b,e] (tAs cl E [fa,fb,f]))(hs:starEach [a,b,e] X.env=(false,eval a X.env)::starEach [b,e] X.env)(hs2:(backTo pos (starEach [b,e] X.env)).any (·.1)=false):PI X (.Tuple es kk tp) (.Call (.Name "zip" p) [a,b,e] [] pos) (tI cl E (zjZ fa fb f)) :=
 zkC (n:=3) hg hm ha hs hs2 (fun us hu=>match us,hu with | [a,b,c],_=>⟨F.zfC a b c,F.zgv a b c,fun o=>F.zd7 o a b c⟩) (by decide) fun ds S1 w vs sh=>by
  split
  ·rename_i l k m;split
   ·rename_i hlen
    cases sh with
    | cons h1 h2 =>
     cases h2 with
     | cons h2 h3 =>
      cases h3 with
      | cons h3 h4 =>
       cases h4
       cases h1 with
       | tup e1 k1 r1 =>
        cases h2 with
        | tup e2 k2 r2 =>
         cases h3 with
         | tup e3 k3 r3 =>
          refine .inr ⟨_,[(false,_),(false,_),(false,_)],rfl,rfl,rfl,fun p hp=>?_,zqd (fun w1 F1=>(F1.keep _ _ e1 k1).1) (fun w1 F1=>(F1.keep _ _ e2 k2).1) (fun w1 F1=>(F1.keep _ _ e3 k3).1) r1 r2 r3 hlen.1 hlen.2⟩;simp only [yav,yaF,ybP] at hp
          rcases hp with rfl | rfl | rfl
          ·exact ⟨_,e1⟩
          ·exact ⟨_,e2⟩
          ·exact ⟨_,e3⟩
   ·exact .inl rfl
  ·exact .inl rfl
noncomputable def zdQ(j c:Int):List D:=(List.range ((j+c-1) / c).toNat).map fun (i:Nat)=>.int (i*c)
noncomputable def zj0(f g h:Fe):Fi:=fun ρ S=>(zan [f,g,h] ρ S).bind fun ds S1=>match ds with | [.int i,.int j,.int c]=>if i=0/\0<=j/\j<=1000/\1<=c/\c<=1000 then .ok (zdQ j c) S1 else .bad | _=>.bad
def zs5{w:Wd}{j c:Int}:ItOk cl w (Itq 0 c ((j+c-1) / c).toNat) (zdQ j c):=by
 have hl:(zdQ j c).length=((j+c-1) / c).toNat:=by unfold zdQ;rw [yae,ybc]
 refine ⟨fun w1 F1 i h=>by rw [hl] at h;exact h,fun w1 F1=>by rw [hl];exact yam _,fun w1 F1 i d x H1 hd y=>?_⟩;obtain ⟨rfl,rfl⟩:=y;unfold zdQ at hd;rw [yak] at hd
 cases hr:(List.range ((j+c-1) / c).toNat)[i]? with
 | none=>rw [hr] at hd;cases hd
 | some k =>
  rw [hr] at hd;have:=(yag.mp hr).2;rw [ycV] at this;subst this;cases hd;refine ⟨w1,rfl,Grow.refl _,?_⟩;rw [Int.zero_add];exact .int _
def zpa{a b:Expr}{fa fb:Fe}{p:Pos}(hg:Gl X "range")(hm:X.mg "range" = none)(ha:PA X [a,b,e] (tAs cl E [fa,fb,f]))(hs:starEach [a,b,e] X.env=(false,eval a X.env)::starEach [b,e] X.env)(hs2:(backTo pos (starEach [b,e] X.env)).any (·.1)=false):PI X tg (.Call (.Name "range" p) [a,b,e] [] pos) (tI cl E (zj0 fa fb f)):=by
 refine PI.imp (zk1 hg hm ha hs hs2) ?_;rintro σ H Q ⟨B,w,ρ,S,rfl,R,q⟩;refine ⟨B,w,ρ,S,rfl,R,?_⟩;unfold zj0 at q
 cases hf:zan [fa,fb,f] ρ S with
 | bad=>rwa [hf] at q
 | exc c S1=>rwa [hf] at q
 | ok ds S1 =>
  rw [hf] at q;intro vs w' R' F' h';dsimp only [Out.bind] at q;split at q
  ·rename_i ds' S' hm';split at hm'
   ·rename_i i j c;split at hm'
    ·rename_i hb;obtain ⟨rfl,h1,h2,h3,h4⟩:=hb;cases hm'
     cases h' with
     | cons a1 a2=>cases a1;cases a2 with
      | cons b1 b2=>cases b1;cases b2 with
       | cons c1 c2 =>
        cases c1;cases c2;exact ⟨j,c,rfl,h1,h2,h3,h4,q _ w' R' F' zs5⟩
    ·cases hm'
   ·cases hm'
  ·rename_i hm';split at hm'<;>first | (split at hm'<;>cases hm') | cases hm'
  ·exact q.elim
noncomputable def zqN(i:Nat)(fe:Fe):Fs:=fun ρ S=>match ρ[i]? with
 | some (some (true,.lst l))=>(match fe ρ S with
  | .ok (.lst k) S'=>if small (l.length+k.length) then .nx (ρ.set i (some (true,.lst (l++k)))) S' else .bad
  | .ok _ _=>.bad
  | .exc c S'=>.ex c ρ S' | .bad=>.bad)
 | _=>.bad
def zru{i:Nat}{x:Str}{ap cp:Pos}(hN:X.N[i]?=some x)(hv:Vis X.env.scope x)(hd:(x == ("__debug__":Str))=false)(hcd:(x == ("__classdict__":Str))=false)(he:PE X e (tH cl E f))
  (hpl:zct e=true) (hln:(ap.endLine == cp.line)=true):PS X (.Expr (.Call (.Attribute (.Name x pos') "extend" ap) [e] [] cp) pos) (tS cl E own (zqN i f)):=by
 refine PS.imp (zie (zpE (es:=[]) ycl PySem.F.slot_list_extend PySem.F.type_list_extend zli (zdx hN hv hd hcd) (zcO he ze7 (za9 hpl)) (hfew:=zlZ (by simp [hpl]) (by simp)) (hline:=hln) (hs:=za9 hpl) (hplain:=rfl))) ?_;rintro De σ H ⟨B,w,ρ,S,rfl,R,q⟩;unfold zqN at q;split at q
 ·rename_i l hl;obtain ⟨a,xs,e1,h1,h2,t⟩:=R.list hl;refine ⟨_,e1,.inl ⟨rfl,_,SqL.of h2⟩,B,w,ρ,S,rfl,R,?_⟩
  cases hf:f ρ S with
  | bad=>rwa [hf] at q
  | exc c S1=>rw [hf] at q;exact fun w' R' F'=>q σ w' R' F'
  | ok d S1 =>
   rw [hf] at q;intro v w' R' F' h'
   cases d with
   | lst k =>
    dsimp only at q
    cases hz:small (l.length+k.length) with
    | false=>rw [hz,if_neg (by decide)] at q;exact q.elim
    | true =>
     rw [hz,if_pos rfl] at q;obtain ⟨a',xs',e1',h1',h2',t'⟩:=R'.list hl;rw [e1] at e1';cases e1';obtain ⟨b,zs,rfl,eb,rb⟩:=(h'.top R').lstI;refine ⟨a,b,xs',zs,rfl,rfl,h2',eb,by rw [t'.length,rb.length];exact zbf hz,?_⟩;exact q σ (w'.mut a (.lst (xs'++zs))) (R'.mut (d0:=.non) e1 h1' (.lst (t'.append rb))) (F'.trans (zfo (by rw [h1'];exact yaV _)))
   | _=>exact q.elim
 ·exact q.elim
end
end S2
namespace S2
open PySem PySem.Spec PyProof.Rows L2
section
variable{X:Cx}{cl:Cf}{E:St->XK}{e:Expr}{f:Fe}{pos':Pos}
noncomputable def eMt(g:List D->D->Option D)(i:Nat)(f:Fe):Fe:=fun ρ S=>match ρ[i]? with | some (some (_,.lst l))=>(f ρ S).bind fun d S1=>Out.of (g l d) S1 | _=>.bad
noncomputable def zdf(l:List D)(d:D):Option D:=if d.fit 8&&D.fits 8 l then some (.int ((l.countP (zex · d):Nat):Int)) else none
noncomputable def zeB(l:List D)(d:D):Option D:=if d.fit 8&&D.fits 8 l&&decide (l.length<=1000000)&&zij d l then some (.int ((l.findIdx (zex · d):Nat):Int)) else none
def Rel.lstAny{B:Base}{σ:St}{w:Wd}{ρ:Env}{S:Sto}{i:Nat}{o:Bool}{l:List D}(R:Rel cl B σ w ρ S)(h:ρ[i]?=some (some (o,.lst l))):∃a xs,σ[i]?=some (some (.ref a))/\w.H a=some (.lst xs)/\Shds cl w xs l:=by
 cases o with
 | true=>obtain ⟨a,xs,e1,_,h2,t⟩:=R.list h;exact ⟨a,xs,e1,h2,t⟩
 | false =>
  obtain ⟨v,e1,sh⟩:=R.slots i false _ h
  cases sh with
  | lst ep k r=>exact ⟨_,_,e1,ep,r⟩
noncomputable def MtB(X:Cx)(cl:Cf)(id:String)(g:List D->D->Option D):Prop:=MtM X id fun x vs H Q=>∃(a:Addr) (xs:List V) (l:List D) (w:Wd) (d:D) (v:V) (r:Int),w.H=H/\x=.ref a/\vs=[v]/\w.H a=some (.lst xs)/\Shds cl w xs l/\TopV cl w v d/\g l d=some (.int r)/\Q (.int r) H
theorem zeG{s:Shared}{d:D}:∀{its:List Value} {ds:List D} {as:List Addr},ReadsAll s.heap its (D.pys ds) as->D.fits 8 ds=true->its.countP (fun y=>(SeqAt.readOf s.heap y).eqv d.py)=ds.countP (zex · d)
 | [],[],_,_,_=>rfl
 | [],_::_,_,h,_=>by cases h
 | _::_,[],_,h,_=>by cases h
 | v::its,e::ds,_,h,f=>by
  simp only [D.fits,yab] at f
  cases h with
  | cons h1 h2 =>
   rw [List.countP_cons,List.countP_cons,zeG h2 f.2,zid (D.lay f.1).1 h1];rfl
theorem zem{s:Shared}{d:D}:∀{its:List Value} {ds:List D} {as:List Addr},ReadsAll s.heap its (D.pys ds) as->D.fits 8 ds=true->∀(m:Nat) (hm:m<its.length),∃e,ds[m]?=some e/\(SeqAt.readOf s.heap its[m]).eqv d.py=zex e d
 | [],_,_,_,_,m,hm=>by simp at hm
 | _::_,[],_,h,_,_,_=>by cases h
 | v::its,e::ds,_,h,f,m,hm=>by
  simp only [D.fits,yab] at f
  cases h with
  | cons h1 h2 =>
   cases m with
   | zero=>exact ⟨e,rfl,by show (SeqAt.readOf s.heap v).eqv d.py=_;rw [zid (D.lay f.1).1 h1];rfl⟩
   | succ m =>
    obtain ⟨e',h3,h4⟩:=zem h2 f.2 m (by simpa using hm);exact ⟨e',by simpa using h3,by simpa using h4⟩
theorem zfQ{s:Shared}:∀{its:List Value} {ds:List D} {as:List Addr},ReadsAll s.heap its (D.pys ds) as->its.length=ds.length
 | [],[],_,_=>rfl
 | [],_::_,_,h=>by cases h
 | _::_,[],_,h=>by cases h
 | _::its,_::ds,_,h=>by
  cases h with
  | cons _ h2=>rw [yai,yai,zfQ h2]
def zno(hK:X.K=cl.K)(hu:X.A.units+64<cLine):MtB X cl "list.count" zdf:=by
 intro pins s σ H x vs v us Q I rx rv h;obtain ⟨a,xs,l,w,d,v',r,rfl,rfl,rfl,hH,sh,tv,hg,q⟩:=h;unfold zdf at hg;split at hg
 ·rename_i hf;cases hg;rw [yab] at hf;cases rx;obtain ⟨u,rfl,ru⟩:=rv.one;obtain ⟨bs,rb⟩:=zg9 I hK tv hf.1 ru;obtain ⟨z,its,n,r,hl,e⟩:=I.lstM hH;obtain ⟨as,ra⟩:=zdw I hK sh hf.2 r;refine ycs F.slot_list_count ⟨_,e,rfl⟩ F.entry_list_count (F.args_list_count_2 _ _) (SeqAt.list_countAt a _ n none #[] u (fun y=>(SeqAt.readOf s.heap y).eqv d.py)) ⟨e,fun y hy=>zci hu rb hf.1 ra hf.2 y hy,?_⟩;rw [zeG ra hf.2];exact ⟨.int _,w.H,I.tok _,⟨_,rfl⟩,q⟩
 ·cases hg
def znn(hK:X.K=cl.K)(hu:X.A.units+64<cLine):MtB X cl "list.index" zeB:=by
 intro pins s σ H x vs v us Q I rx rv h;obtain ⟨a,xs,l,w,d,v',r,rfl,rfl,rfl,hH,sh,tv,hg,q⟩:=h;unfold zeB at hg;split at hg
 ·rename_i hf;cases hg;simp only [yab,ybw] at hf;obtain ⟨⟨⟨f1,f2⟩,f3⟩,f4⟩:=hf;cases rx;obtain ⟨u,rfl,ru⟩:=rv.one;obtain ⟨bs,rb⟩:=zg9 I hK tv f1 ru;obtain ⟨z,its,n,r,hl,e⟩:=I.lstM hH;obtain ⟨as,ra⟩:=zdw I hK sh f2 r;have hlen:=zfQ ra
  have hlt:l.findIdx (zex · d)<l.length:=by
   rw [List.findIdx_lt_length];unfold zij at f4;rwa [List.any_eq_true] at f4
  refine ycs F.slot_list_index ⟨_,e,rfl⟩ F.entry_list_index (F.args_list_index_2 _ _) (SeqAt.list_indexAt a _ n none #[] u (fun y=>(SeqAt.readOf s.heap y).eqv d.py) (l.findIdx (zex · d)) (by rw [yal];omega) (by omega) ?_ ?_) ⟨e,fun y hy=>zci hu rb f1 ra f2 y hy,?_⟩
  ·obtain ⟨e',h1,h2⟩:=zem (d:=d) ra f2 (l.findIdx (zex · d)) (by omega);simp only [List.getElem_toArray];rw [h2];rw [yaa hlt] at h1;cases h1;exact List.findIdx_getElem (w:=hlt)
  ·intro m hm hmj
   have lm:m<its.length:=by rwa [yal] at hm
   obtain ⟨e',h1,h2⟩:=zem (d:=d) ra f2 m lm;simp only [List.getElem_toArray];rw [h2];rw [yaa (by omega)] at h1;cases h1;exact List.not_of_lt_findIdx hmj
  ·exact ⟨.int _,w.H,I.tok _,⟨_,rfl⟩,q⟩
 ·cases hg
def zrM{i:Nat}{x name:Str}{id:String}{g:List D->D->Option D}{ap cp:Pos}(slot:Slot "list" name id)(hty:typeOf (.builtin id)=pure (.type "method_descriptor"))(hm:MtB X cl id g)(hgb:∀l d r,g l d=some r->∃n,r=.int n)
  (hN:X.N[i]?=some x) (hv:Vis X.env.scope x) (hd:(x == ("__debug__":Str))=false) (hcd:(x == ("__classdict__":Str))=false) (he:PE X e (tH cl E f)) (hpl:zct e=true) (hln:(ap.endLine == cp.line)=true) :
  PE X (.Call (.Attribute (.Name x pos') name ap) [e] [] cp) (tE cl E (eMt g i f)):=by
 refine PE.imp (zpE (es:=[]) ycl slot hty hm (zdx hN hv hd hcd) (zkE he zoe (za9 hpl)) (hfew:=zlZ (by simp [hpl]) (by simp)) (hline:=hln) (hs:=za9 hpl) (hplain:=rfl)) ?_;rintro σ H Q ⟨B,w,ρ,S,rfl,R,q⟩
 have key:(∃o l,ρ[i]?=some (some (o,.lst l)))\/eMt g i f ρ S=.bad:=by
  unfold eMt;split
  ·rename_i o l hl;exact .inl ⟨o,l,hl⟩
  ·exact .inr rfl
 rcases key with ⟨o,l,hl⟩ | hb
 ·have e':eMt g i f ρ S=(f ρ S).bind fun d S1=>Out.of (g l d) S1:=by unfold eMt;rw [hl]
  rw [e'] at q;obtain ⟨a,xs,e1,h2,t⟩:=R.lstAny hl;refine ⟨_,e1,.inl ⟨rfl,_,SqL.of h2⟩,B,w,ρ,S,rfl,R,?_⟩
  cases hf:f ρ S with
  | bad=>rw [hf] at q;exact q.elim
  | exc c S1 =>
   rw [hf] at q;simp only [zan,hf,Out.bind];exact q
  | ok d S1 =>
   rw [hf] at q;simp only [zan,hf,Out.bind];intro vs w' R' F' sh;dsimp only [Out.bind] at q
   cases hg:g l d with
   | none=>rw [hg] at q;exact q.elim
   | some r =>
    rw [hg] at q;obtain ⟨n,rfl⟩:=hgb l d r hg;obtain ⟨a',xs',e1',h2',t'⟩:=R'.lstAny hl;rw [e1] at e1';cases e1'
    cases sh with
    | cons h1 hn =>
     cases hn;exact ⟨a,xs',l,w',d,_,n,rfl,rfl,rfl,h2',t',h1.top R',hg,q _ w' R' F' (.int _)⟩
 ·rw [hb] at q;exact q.elim
end
end S2
namespace S2
open PySem PySem.Spec PyProof.Rows L2
noncomputable def zlG(g:Str->Str->Option Bool)(C:Str):D->Option D
 | .exc c=>(g c C).map .bl
 | _=>none
noncomputable def ztl(cl:Cf)(C:Str):Value:=if C = "ValueError" then .type "ValueError" else .ref (cl C)
section
variable{X:Cx}{cl:Cf}{E:St->XK}{own:Bool}{e:Expr}{f fe:Fe}{pos pos':Pos}
def Shd.excI{w:Wd}{v:V}{c:Str}(h:Shd cl w v (.exc c)):∃a ob,v=.ref a/\w.H a=some (.frz ob (.own a))/\ob.cls=.ref (cl c):=by
 cases h with
 | exc h1 _ h2=>exact ⟨_,_,rfl,h1,h2⟩
theorem TopV.excI{w:Wd}{v:V}{c:Str}(h:TopV cl w v (.exc c)):∃a ob,v=.ref a/\w.H a=some (.frz ob (.own a))/\ob.cls=.ref (cl c):=by
 cases h with
 | sh h=>exact h.excI
 | ow _ t=>cases t
def zkb:bootBuiltins "ValueError" = some (.type "ValueError"):=by decide +kernel
def zof{g:Str->Str->Option Bool}{C:Str}{vC:V}{p p2:Pos}(hg:Gl X "isinstance")(hm:X.mg "isinstance" = none)(hC:PE X (.Name C p2) (tC vC))(hv:∀u,zbw vC u->u=ztl cl C)
  (hk:∀c b,g c C=some b->PySem.W.ExcCls X.K (cl c)/\PySem.W.kitOne X.K (.ref (cl c)) (ztl cl C)=some b) (hp:zct e=true) (he:PE X e (tH cl E f)) :
  PE X (.Call (.Name "isinstance" p) [e,.Name C p2] [] pos) (tE cl E (eUn (zlG g C) f)):=by
 refine PE.imp (zgq zka hg hm zhL (zcO he (zcO hC ze7 rfl) (za9 hp)) (he:=za9 hp) (hpl:=rfl)) ?_;rintro σ H Q ⟨B,w,ρ,S,rfl,R,q⟩;refine ⟨B,w,ρ,S,rfl,R,?_⟩;unfold eUn at q
 cases hf:f ρ S with
 | bad=>rwa [hf] at q
 | exc c S1=>rwa [hf] at q
 | ok d S1 =>
  rw [hf] at q;intro v w1 R1 F1 h1;dsimp only [Out.bind] at q
  cases d with
  | exc c =>
   dsimp only [zlG] at q
   cases hb:g c C with
   | none=>rw [hb] at q;exact q.elim
   | some b =>
    rw [hb] at q;obtain ⟨k1,k2⟩:=hk c b hb;obtain ⟨a,ob,rfl,h2,h3⟩:=(h1.top R1).excI;exact ⟨a,_,ob,vC,_,b,rfl,h2,h3,k1,hv,k2,q _ w1 R1 F1 (.bl _)⟩
  | _=>exact q.elim
noncomputable def OpN(X:Cx)(cl:Cf)(op:Value->Value->Sem Value)(g:D->D->Option D):Prop:=OpR X op fun x y H Q=>∃w d e r,w.H=H/\TopV cl w x d/\TopV cl w y e/\g d e=some r/\∀p o w',Grow w w'->w'.H p=none->Top cl w' o r->Q (.ref p) (upd w'.H p o)
def zyb{a b:Expr}{h:Fe}{gg:D->D->Option D}{r2:R2}(hr:∀x y H Q,(∃w d e r,w.H=H/\TopV cl w x d/\TopV cl w y e/\gg d e=some r/\∀p o w',Grow w w'->w'.H p=none->Top cl w' o r->Q (.ref p) (upd w'.H p o))->r2 x y H Q)(σ:St)(H:Hp)(Q:VK)(q:tN cl E (zaf gg f h) σ H Q):tOp r2 (tH cl E f) (tH cl E h) σ H Q:=by
 obtain ⟨B,w,ρ,S,rfl,R,q⟩:=q;refine ⟨B,w,ρ,S,rfl,R,?_⟩;unfold zaf at q
 cases hf:f ρ S with
 | bad=>rwa [hf] at q
 | exc c S1=>rwa [hf] at q
 | ok d S1 =>
  rw [hf] at q;intro v w1 R1 F1 h1;refine ⟨B,w1,ρ,S1,rfl,R1,?_⟩;dsimp only [Out.bind] at q
  cases hh:h ρ S1 with
  | bad=>rwa [hh] at q
  | exc c S2=>rw [hh] at q;exact fun w2 R2 F2=>q w2 R2 (F1.trans F2)
  | ok e S2 =>
   rw [hh] at q;intro y w2 R2 F2 h2;dsimp only at q
   cases hg:gg d e with
   | none=>rw [hg] at q;exact q.elim
   | some r =>
    rw [hg] at q;exact hr _ _ _ _ ⟨w2,d,e,r,rfl,(h1.up F2).top R2,h2.top R2,hg,fun p o w' gr hp t=>q p o w' (R2.grow gr) (F1.trans (F2.trans gr.fut)) hp t⟩
noncomputable def zhr:D->D->Option D
 | .lst a,.int j=>if decide (0<=j/\j<=1000/\a.length<=1000) then some (.lst (List.replicate j.toNat a).flatten) else none
 | _,_=>none
def zpJ:OpN X cl (binaryOp .Mult) zhr:=by
 intro pins s σ H x y v u Q I rx ry h;obtain ⟨w,d,e,r,rfl,hx,hy,hg,q⟩:=h;unfold zhr at hg;split at hg
 ·rename_i a j;split at hg
  ·rename_i hz;cases hg;have hz':=yau hz;obtain ⟨p,xs,rfl,ep,rs⟩:=hx.lstI;obtain rfl:=hy.intI;have hl:=rs.length;refine zok pins s σ w.H _ _ v u Q I rx ry ⟨p,j,xs,rfl,rfl,ep,by omega,by omega,?_,fun l hl=>q l _ w (Grow.refl _) hl (.lst (rs.flat _))⟩;refine yah (ybJ (show xs.length<=1000 by omega) (show j.toNat<=1000 by omega)) (by decide)
  ·cases hg
 ·cases hg
def zph{a b:Expr}{h:Fe}(ha:PE X a (tH cl E f))(hb:PE X b (tH cl E h)):PE X (.BinOp a .Mult b pos) (tN cl E (zaf zhr f h)) :=
 PE.imp (zsc zpJ ha hb) (zyb (a:=a) (b:=b) fun _ _ _ _ z=>z)
noncomputable def zqe:Expr->Bool | .List _ _=>true | _=>false
noncomputable def zs7:Operator->Bool | .Mult=>true | _=>false
end
end S2
namespace PySem.F
end PySem.F
namespace PySem.F
end PySem.F
namespace L2
open PySem PySem.Spec PyProof.Rows
section
variable{prog:Program}{w:World}{A:Around}{E:Z5}{s:Shared}
end
end L2
namespace L2
open PySem PySem.Spec PyProof.Rows
section
variable{X:Cx}
end
end L2
namespace PySem.F
end PySem.F
namespace L2
open PySem PySem.Spec PyProof.Rows
section
variable{prog:Program}{w:World}{A:Around}{E:Z5}{s:Shared}
end
end L2
namespace L2
open PySem PySem.Spec PyProof.Rows
section
variable{X:Cx}
end
end L2
namespace S2
open PySem PySem.Spec PyProof.Rows L2
section
variable{X:Cx}{cl:Cf}{E:St->XK}{e tg:Expr}{f:Fe}{pos pos':Pos}
end
end S2
namespace S2
open PySem PySem.Spec PyProof.Rows L2
section
variable{X:Cx}{cl:Cf}{E:St->XK}{e:Expr}{f:Fe}{pos:Pos}
end
end S2
namespace S2
open PySem PySem.Spec PyProof.Rows L2
noncomputable def zap(f:Str)(o:Bool)(d:D):List (Str×Bool×D)->List (Str×Bool×D)
 | []=>[(f,o,d)]
 | (g,x)::r=>if g=f then (g,o,d)::r else (g,x)::zap f o d r
noncomputable def Ob.put(ob:Ob)(f:Str)(o:Bool)(d:D):Ob:=⟨ob.cls,zap f o d ob.fs⟩
section
variable{cl:Cf}{w:Wd}{n:Nat}
def zdt.len{fs:List (Str×V)}{gs:List (Str×Bool×D)}(h:zdt cl w n fs gs):fs.length=gs.length:=Paired.length h
def zdt.look{fs:List (Str×V)}{gs:List (Str×Bool×D)}(h:zdt cl w n fs gs){f:Str}{o:Bool}{d:D}(e:gs.lookup f=some (o,d)):∃v,fs.lookup f=some v/\ziD cl w (.fld n f) o v d:=by
 induction h with
 | nil=>cases e
 | @cons p q l1 l2 h t ih =>
  obtain ⟨h1,h2⟩:=h;obtain ⟨g,v⟩:=p;obtain ⟨g',o',d'⟩:=q;have h1':g=g':=h1;subst h1';rw [yay] at e ⊢
  cases hb:f == g with
  | true =>
   rw [hb] at e;cases e;have:=eq_of_beq hb;subst this;exact ⟨v,rfl,h2⟩
  | false =>
   rw [hb] at e;exact ih e
def zdt.miss{fs:List (Str×V)}{gs:List (Str×Bool×D)}(h:zdt cl w n fs gs){f:Str}(e:gs.lookup f=none):fs.lookup f=none:=by
 induction h with
 | nil=>rfl
 | @cons p q l1 l2 h t ih =>
  obtain ⟨h1,h2⟩:=h;obtain ⟨g,v⟩:=p;obtain ⟨g',o',d'⟩:=q;have h1':g=g':=h1;subst h1';rw [yay] at e ⊢
  cases hb:f == g with
  | true=>rw [hb] at e;cases e
  | false=>rw [hb] at e;exact ih e
def zdt.put{fs:List (Str×V)}{gs:List (Str×Bool×D)}{f:Str}{o:Bool}{d:D}{y:V}(h:zdt cl w n fs gs)(hy:ziD cl w (.fld n f) o y d):zdt cl w n (zdD f y fs) (zap f o d gs):=by
 induction h with
 | nil=>exact .cons ⟨rfl,hy⟩ .nil
 | @cons p q l1 l2 h t ih =>
  obtain ⟨h1,h2⟩:=h;obtain ⟨g,v⟩:=p;obtain ⟨g',o',d'⟩:=q;have h1':g=g':=h1;subst h1';show zdt cl w n (if g=f then (g,y)::l1 else (g,v)::zdD f y l1) (if g=f then (g,o,d)::l2 else (g,o',d')::zap f o d l2)
  by_cases hg:g=f
  ·subst hg;rw [if_pos rfl,if_pos rfl];exact .cons ⟨rfl,hy⟩ t
  ·rw [if_neg hg,if_neg hg];exact .cons ⟨rfl,h2⟩ ih
def zdt.keepBut{w':Wd}(f:Fut w w'){x:Str}(k:∀a o g,g≠x->w.H a=some o->w.ow a=some (.fld n g)->w'.H a=some o/\w'.ow a=some (.fld n g)){fs:List (Str×V)}{gs:List (Str×Bool×D)}(h:zdt cl w n fs gs)(hn:∀q∈gs,q.1=x->q.2.1=false):zdt cl w' n fs gs:=by
 induction h with
 | nil=>exact .nil
 | @cons p q l1 l2 h t ih =>
  obtain ⟨h1,h2⟩:=h;refine .cons ⟨h1,?_⟩ (ih fun q hq=>hn q (yap _ hq))
  by_cases hx:q.1=x
  ·have ho:=hn q yat hx;rw [ho] at h2 ⊢
   rcases h2 with ⟨_,h2⟩ | ⟨e,_⟩
   ·exact .inl ⟨rfl,Shd.up f h2⟩
   ·cases e
  ·exact h2.keep f fun a o ha hr=>k a o q.1 hx ha hr
def zdt.keepF{w':Wd}(f:Fut w w')(k:∀a o g,w.H a=some o->w.ow a=some (.fld n g)->w'.H a=some o/\w'.ow a=some (.fld n g)){fs:List (Str×V)}{gs:List (Str×Bool×D)}(h:zdt cl w n fs gs):zdt cl w' n fs gs:=by
 induction h with
 | nil=>exact .nil
 | @cons p q l1 l2 h t ih=>exact .cons ⟨h.1,h.2.keep f fun a o ha hr=>k a o q.1 ha hr⟩ ih
variable{B:Base}{σ:St}{ρ:Env}{S:Sto}
def World'.atObj(W:World' cl B w S){ob:Ob}(h:S[n]?=some ob){a:Addr}(e:w.mu[n]?=some a):ztC cl w n a ob:=by
 obtain ⟨a',e',x⟩:=W.obj n ob h;rw [e] at e';cases e';exact x
def zim{S:Sto}{n m:Nat}{ob ob':Ob}(h:(S.set n ob)[m]?=some ob'):(m=n/\ob'=ob)\/(m≠n/\S[m]?=some ob'):=by
 by_cases e:n=m
 ·subst e
  have hlt:n<S.length:=by
   have:=(yag.mp h).1;rwa [yaJ] at this
  rw [yaA hlt] at h;cases h;exact .inl ⟨rfl,rfl⟩
 ·rw [yaP e] at h;exact .inr ⟨fun z=>e z.symm,h⟩
def Rel.setf{a dx:Addr}{ob:Ob}{fs:List (Str×V)}{f:Str}{y:V}{d:D}(R:Rel cl B σ w ρ S)(hn:S[n]?=some ob)(hmu:w.mu[n]?=some a)(how:w.ow a=some (.obj n))(hH:w.H a=some (.ins (cl ob.cls) dx fs))(hF:zdt cl w n fs ob.fs)(hy:Shd cl w y d) :
  Rel cl B σ (w.mut a (.ins (cl ob.cls) dx (zdD f y fs))) ρ (S.set n (ob.put f false d))/\Fut w (w.mut a (.ins (cl ob.cls) dx (zdD f y fs))):=by
 have ff:=zfo (w:=w) (p:=a) (o:=.ins (cl ob.cls) dx (zdD f y fs)) (by rw [how];exact yaV _)
 have kp:∀b u,w.H b=some u->w.ow b≠some (.obj n)->(w.mut a (.ins (cl ob.cls) dx (zdD f y fs))).H b=some u/\(w.mut a (.ins (cl ob.cls) dx (zdD f y fs))).ow b=w.ow b:=fun b u hb hne=>⟨by
  show upd w.H a _ b=_
  rw [zaq (fun z=>hne (by rw [z];exact how))];exact hb,rfl⟩
 have hB:B.Fr a=none:=(R.wd.own a _ how).elim (fun z=>by cases z) fun z=>z
 refine ⟨⟨⟨fun b u h=>?_,R.wd.own,by rw [yaJ];exact R.wd.len,fun m ob' h=>?_⟩,R.len,fun i o e h=>?_⟩,ff⟩
 ·refine ⟨?_,(R.wd.fr b u h).2⟩;show upd w.H a _ b=_;rw [zaq (fun z=>by rw [z,hB] at h;cases h)];exact (R.wd.fr b u h).1
 ·rcases zim h with ⟨rfl,rfl⟩ | ⟨hne,h⟩
  ·refine ⟨a,hmu,how,dx,_,zaW,?_⟩;exact zdt.put (hF.keepF ff fun b u g hb hg=>⟨(kp b u hb (by rw [hg];exact fun z=>by cases z)).1,hg⟩) (.inl ⟨rfl,hy.up ff⟩)
  ·obtain ⟨b,e,x⟩:=R.wd.obj m ob' h;exact ⟨b,e,x.keep ff fun b u hb hm=>kp b u hb fun z=>by rw [z] at hm;exact hne hm.symm⟩
 ·obtain ⟨v,e1,x⟩:=R.slots i o e h;exact ⟨v,e1,x.keep ff fun b u hb hr=>⟨(kp b u hb (by rw [hr];exact fun z=>by cases z)).1,hr⟩⟩
noncomputable def Wd.addF(w:Wd)(p:Addr)(o:HO)(n:Nat)(f:Str):Wd:=⟨upd w.H p o,fun b=>if b=p then some (.fld n f) else w.ow b,w.mu⟩
def Rel.newf{a dx p:Addr}{ob:Ob}{fs:List (Str×V)}{f:Str}(R:Rel cl B σ w ρ S)(hn:S[n]?=some ob)(hmu:w.mu[n]?=some a)(how:w.ow a=some (.obj n))(hH:w.H a=some (.ins (cl ob.cls) dx fs))(hF:zdt cl w n fs ob.fs)(hp:w.H p=none) :
  Rel cl B σ ((w.addF p (.ext (DN cl.P cl.wo p [])) n f).mut a (.ins (cl ob.cls) dx (zdD f (.ref p) fs))) ρ (S.set n (ob.put f true (.dic [])))/\Fut w ((w.addF p (.ext (DN cl.P cl.wo p [])) n f).mut a (.ins (cl ob.cls) dx (zdD f (.ref p) fs))):=by
 have hap:a≠p:=zaC hH hp
 have kp:∀b u,w.H b=some u->w.ow b≠some (.obj n)->((w.addF p (.ext (DN cl.P cl.wo p [])) n f).mut a (.ins (cl ob.cls) dx (zdD f (.ref p) fs))).H b=some u/\((w.addF p (.ext (DN cl.P cl.wo p [])) n f).mut a (.ins (cl ob.cls) dx (zdD f (.ref p) fs))).ow b=w.ow b:=fun b u hb hne=>by
  have hbp:b≠p:=zaC hb hp;refine ⟨?_,?_⟩
  ·show upd (upd w.H p _) a _ b=_;rw [zaq (fun z=>hne (by rw [z];exact how)),zaq hbp];exact hb
  ·show (if b=p then _ else w.ow b)=_;rw [if_neg hbp]
 have ff:Fut w ((w.addF p (.ext (DN cl.P cl.wo p [])) n f).mut a (.ins (cl ob.cls) dx (zdD f (.ref p) fs))):=⟨fun b u hb hk=>by
  have:=kp b u hb (by rw [hk];exact fun z=>by cases z)
  exact ⟨this.1,this.2.trans hk⟩,fun _ _ h=>h⟩
 have hB:B.Fr a=none:=(R.wd.own a _ how).elim (fun z=>by cases z) fun z=>z
 have hBp:B.Fr p=none:=by
  cases z:B.Fr p with
  | none=>rfl
  | some u=>have:=(R.wd.fr p u z).1;rw [hp] at this;cases this
 have Hp:((w.addF p (.ext (DN cl.P cl.wo p [])) n f).mut a (.ins (cl ob.cls) dx (zdD f (.ref p) fs))).H p=some (.ext (DN cl.P cl.wo p [])):=by
  show upd (upd w.H p _) a _ p=_;rw [zaq hap.symm,zaW]
 have owp:((w.addF p (.ext (DN cl.P cl.wo p [])) n f).mut a (.ins (cl ob.cls) dx (zdD f (.ref p) fs))).ow p=some (.fld n f):=if_pos rfl
 have owa:((w.addF p (.ext (DN cl.P cl.wo p [])) n f).mut a (.ins (cl ob.cls) dx (zdD f (.ref p) fs))).ow a=some (.obj n):=by
  show (if a=p then _ else w.ow a)=_;rw [if_neg hap];exact how
 refine ⟨⟨⟨fun b u h=>?_,fun b r h=>?_,by rw [yaJ];exact R.wd.len,fun m ob' h=>?_⟩,R.len,fun i o e h=>?_⟩,ff⟩
 ·have:=kp b u (R.wd.fr b u h).1 fun z=>by
   rcases R.wd.own b _ z with y | y
   ·cases y
   ·rw [h] at y;cases y
  exact ⟨this.1,this.2.trans (R.wd.fr b u h).2⟩
 ·have h':(if b=p then some (Root.fld n f) else w.ow b)=some r:=h;split at h'
  ·rename_i z;rw [z];exact .inr hBp
  ·exact R.wd.own b r h'
 ·rcases zim h with ⟨rfl,rfl⟩ | ⟨hne,h⟩
  ·refine ⟨a,hmu,owa,dx,_,zaW,?_⟩;refine zdt.put (hF.keepF ff fun b u g hb hg=>?_) (.inr ⟨rfl,p,[],[],[],rfl,owp,Hp,.nil,.nil,rfl⟩);have:=kp b u hb (by rw [hg];exact fun z=>by cases z);exact ⟨this.1,this.2.trans hg⟩
  ·obtain ⟨b,e,x⟩:=R.wd.obj m ob' h;exact ⟨b,e,x.keep ff fun b u hb hm=>kp b u hb fun z=>by rw [z] at hm;exact hne hm.symm⟩
 ·obtain ⟨v,e1,x⟩:=R.slots i o e h
  exact ⟨v,e1,x.keep ff fun b u hb hr=>by
   have:=kp b u hb (by rw [hr];exact fun z=>by cases z)
   exact ⟨this.1,this.2.trans hr⟩⟩
noncomputable def zfU(ob:Ob):Bool:=decide (ob.fs.map (·.1)).Nodup
def zdt.dic{w':Wd}{a:Addr}{f:Str}{d:D}(ff:Fut w w')(k:∀b o g,g≠f->w.H b=some o->w.ow b=some (.fld n g)->w'.H b=some o/\w'.ow b=some (.fld n g))(hy:ziD cl w' (.fld n f) true (.ref a) d):∀{fs:List (Str×V)} {gs:List (Str×Bool×D)},zdt cl w n fs gs->(gs.map (·.1)).Nodup->fs.lookup f=some (.ref a)->zdt cl w' n fs (zap f true d gs):=by
 intro fs gs h
 induction h with
 | nil=>intro _ e;cases e
 | @cons p q l1 l2 h t ih =>
  intro nd e;obtain ⟨h1,h2⟩:=h;obtain ⟨g,v⟩:=p;obtain ⟨g',o',d'⟩:=q;have h1':g=g':=h1;subst h1';rw [yaw,ybs] at nd;show zdt cl w' n ((g,v)::l1) (if g=f then (g,true,d)::l2 else (g,o',d')::zap f true d l2);rw [yay] at e
  by_cases hg:g=f
  ·subst hg;rw [if_pos rfl];simp only [ybF] at e;cases e;refine .cons ⟨rfl,hy⟩ ?_;have t':zdt cl w n l1 l2:=t;exact t'.keepBut ff k fun q hq hx=>absurd (yan.mpr ⟨q,hq,hx⟩) nd.1
  ·rw [if_neg hg];have hb:(f == g)=false:=ybh.mpr fun z=>hg z.symm
   rw [hb] at e;exact .cons ⟨rfl,h2.keep ff fun b o hb hr=>k b o g hg hb hr⟩ (ih nd.2 e)
def Rel.setd{a dx c:Addr}{ob:Ob}{fs:List (Str×V)}{f:Str}{xs:List (NK×Addr×Value)}{m:List (NK×V)}{ds:List (D×D)}{k:NK}{kb:Addr}{u:Value}{v:V}{d:D}(R:Rel cl B σ w ρ S)(hn:S[n]?=some ob)(hmu:w.mu[n]?=some a)(how:w.ow a=some (.obj n))(hH:w.H a=some (.ins (cl ob.cls) dx fs))(hF:zdt cl w n fs ob.fs)
  (hl:fs.lookup f=some (.ref c)) (hc:w.ow c=some (.fld n f)) (hcH:w.H c=some (.ext (DN cl.P cl.wo c xs))) (he:zju w xs m) (hs:ShdN cl w m ds) (hk:zmx w kb k) (rv:zbw v u) (hv:Shd cl w v d) (nd:zfU ob=true) :
  Rel cl B σ (w.mut c (.ext (DN cl.P cl.wo c (xs++[(k,kb,u)])))) ρ (S.set n (ob.put f true (.dic (ds++[(nkD k,d)]))))/\Fut w (w.mut c (.ext (DN cl.P cl.wo c (xs++[(k,kb,u)])))):=by
 have ff:=zfo (w:=w) (p:=c) (o:=.ext (DN cl.P cl.wo c (xs++[(k,kb,u)]))) (by rw [hc];exact yaV _)
 have kp:∀b o,w.H b=some o->w.ow b≠some (.fld n f)->(w.mut c (.ext (DN cl.P cl.wo c (xs++[(k,kb,u)])))).H b=some o/\(w.mut c (.ext (DN cl.P cl.wo c (xs++[(k,kb,u)])))).ow b=w.ow b:=fun b o hb hne=>⟨by
  show upd w.H c _ b=_
  rw [zaq (fun z=>hne (by rw [z];exact hc))];exact hb,rfl⟩
 have hB:B.Fr c=none:=(R.wd.own c _ hc).elim (fun z=>by cases z) fun z=>z
 refine ⟨⟨⟨fun b o h=>?_,R.wd.own,by rw [yaJ];exact R.wd.len,fun m' ob' h=>?_⟩,R.len,fun i o e h=>?_⟩,ff⟩
 ·refine ⟨?_,(R.wd.fr b o h).2⟩;show upd w.H c _ b=_;rw [zaq (fun z=>by rw [z,hB] at h;cases h)];exact (R.wd.fr b o h).1
 ·rcases zim h with ⟨rfl,rfl⟩ | ⟨hne,h⟩
  ·refine ⟨a,hmu,how,dx,fs,?_,?_⟩
   ·exact (kp a _ hH (by rw [how];exact fun z=>by cases z)).1
   ·refine zdt.dic (a:=c) ff (fun b o g hg hb hr=>?_) (.inr ⟨rfl,c,_,m++[(k,v)],ds++[(nkD k,d)],rfl,hc,zaW,?_,?_,rfl⟩) hF (yau nd) hl
    ·exact ⟨(kp b o hb (by rw [hr];exact fun z=>hg (by cases z;rfl))).1,hr⟩
    ·exact (he.up ff).snoc ⟨rfl,hk.up ff,rv⟩
    ·exact (hs.up ff).snoc (hv.up ff)
  ·obtain ⟨b,e,x⟩:=R.wd.obj m' ob' h;exact ⟨b,e,x.keep ff fun b o hb hm=>kp b o hb fun z=>by rw [z] at hm;exact hne hm.symm⟩
 ·obtain ⟨v',e1,x⟩:=R.slots i o e h;exact ⟨v',e1,x.keep ff fun b o hb hr=>⟨(kp b o hb (by rw [hr];exact fun z=>by cases z)).1,hr⟩⟩
noncomputable def Wd.addO(w:Wd)(x dx C:Addr)(n:Nat):Wd:=⟨upd (upd w.H dx (.own x)) x (.ins C dx []),fun b=>if b=x then some (.obj n) else if b=dx then none else w.ow b,w.mu++[x]⟩
def Rel.made{x dx:Addr}{c:Str}(R:Rel cl B σ w ρ S)(hx:w.H x=none)(hdx:w.H dx=none)(ne:dx≠x):Rel cl B σ (w.addO x dx (cl c) S.length) ρ (S++[⟨c,[]⟩])/\Fut w (w.addO x dx (cl c) S.length):=by
 have kp:∀b o,w.H b=some o->(w.addO x dx (cl c) S.length).H b=some o/\(w.addO x dx (cl c) S.length).ow b=w.ow b:=fun b o hb=>by
  have n1:b≠x:=zaC hb hx;have n2:b≠dx:=zaC hb hdx;refine ⟨?_,?_⟩
  ·show upd (upd w.H dx _) x _ b=_;rw [zaq n1,zaq n2];exact hb
  ·show (if b=x then _ else if b=dx then _ else w.ow b)=_;rw [if_neg n1,if_neg n2]
 have ff:Fut w (w.addO x dx (cl c) S.length):=⟨fun b o hb hk=>⟨(kp b o hb).1,(kp b o hb).2.trans hk⟩,fun n a h=>by
  show (w.mu++[x])[n]?=some a
  rw [yaz (yag.mp h).1];exact h⟩
 have hBx:B.Fr x=none:=by
  cases z:B.Fr x with
  | none=>rfl
  | some u=>have:=(R.wd.fr x u z).1;rw [hx] at this;cases this
 refine ⟨⟨⟨fun b o h=>?_,fun b r h=>?_,by show (w.mu++[x]).length=_;rw [yao,yao,R.wd.len];rfl,fun m ob h=>?_⟩,R.len,fun i o e h=>?_⟩,ff⟩
 ·have:=kp b o (R.wd.fr b o h).1;exact ⟨this.1,this.2.trans (R.wd.fr b o h).2⟩
 ·have h':(if b=x then some (Root.obj S.length) else if b=dx then none else w.ow b)=some r:=h;split at h'
  ·rename_i z;rw [z];exact .inr hBx
  ·split at h'
   ·cases h'
   ·exact R.wd.own b r h'
 ·by_cases hm:m<S.length
  ·rw [yaz hm] at h;obtain ⟨b,e,y⟩:=R.wd.obj m ob h;exact ⟨b,ff.mu _ _ e,y.keep ff fun b o hb _=>kp b o hb⟩
  ·have hm':m=S.length:=by
    have:=(yag.mp h).1;rw [yao,yaQ] at this;omega
   subst hm';rw [yaq (yam _),ybq] at h;cases h;refine ⟨x,?_,if_pos rfl,dx,[],zaW,.nil⟩;show (w.mu++[x])[S.length]?=some x;rw [yaq (by rw [R.wd.len];exact yam _),R.wd.len,ybq];rfl
 ·obtain ⟨v,e1,y⟩:=R.slots i o e h;exact ⟨v,e1,y.keep ff fun b o hb hr=>⟨(kp b o hb).1,(kp b o hb).2.trans hr⟩⟩
end
end S2
namespace S2
open PySem PySem.Spec PyProof.Rows L2
noncomputable def znd:D->Option (Option Int) | .non=>some none | .int i=>some (some i) | _=>none
noncomputable def zdT:List D->Option (List (Option Int))
 | []=>some []
 | d::r=>(znd d).bind fun o=>(zdT r).map (o::·)
noncomputable def zi2:D->Option NK
 | .tup [.int i,.tup l]=>(zdT l).map fun os=>(i,os)
 | _=>none
noncomputable def zbj(k:NK):List (D×D)->Option D
 | []=>none
 | (q,d)::r=>if zi2 q=some k then some d else zbj k r
def zlc(o:Option Int):znd (oDn o)=some o:=by cases o<;>rfl
theorem zfS:∀l:List (Option Int),zdT (l.map oDn)=some l
 | []=>rfl
 | o::l=>by rw [yaw];unfold zdT;rw [zlc,zfS l];rfl
def zdU(k:NK):zi2 (nkD k)=some k:=by
 show (zdT (k.2.map oDn)).map (fun os=>(k.1,os))=some k;rw [zfS];rfl
section
variable{cl:Cf}{w:Wd}
theorem zlb:∀{xs:List V} {ds:List D} {os:Z4},Shds cl w xs ds->zdT ds=some os->xs=os.map oV
 | _,_,os,.nil,h=>by cases h;rfl
 | _,_,os,.cons (v:=v) (d:=d) (ds:=ds) r t,h=>by
  unfold zdT at h
  cases h1:znd d with
  | none=>rw [h1] at h;cases h
  | some o =>
   rw [h1] at h
   cases h2:zdT ds with
   | none=>rw [h2] at h;cases h
   | some os' =>
    rw [h2] at h;cases h;rw [yaw,<-zlb t h2]
    cases d<;>simp [znd] at h1<;>subst h1<;>cases r<;>rfl
def zoo{v:V}{d:D}{k:NK}(h:Shd cl w v d)(hk:zi2 d=some k):∃kb,v=.ref kb/\zmx w kb k:=by
 unfold zi2 at hk;split at hk
 ·rename_i i l
  cases ho:zdT l with
  | none=>rw [ho] at hk;cases hk
  | some os =>
   rw [ho] at hk;cases hk
   cases h with
   | tup e o r =>
    cases r with
    | cons r1 t =>
     cases t with
     | cons r2 t =>
      cases t;cases r1
      cases r2 with
      | tup e2 o2 r2=>exact ⟨_,rfl,_,⟨e,o⟩,by rw [<-zlb r2 ho];exact e2,o2⟩
 ·cases hk
theorem znM:∀{m:List (NK×V)} {ds:List (D×D)},ShdN cl w m ds->∀k:NK,(m.lookup k=none/\zbj k ds=none)\/∃v d,m.lookup k=some v/\zbj k ds=some d/\Shd cl w v d
 | _,_,.nil,k=>.inl ⟨rfl,rfl⟩
 | _,_,.cons (k:=k') (v:=v) (d:=d) r t,k=>by
  rw [yay];unfold zbj;rw [zdU]
  by_cases e:k'=k
  ·subst e;rw [if_pos rfl,ybF];exact .inr ⟨v,d,rfl,rfl,r⟩
  ·rw [if_neg (fun z=>e (by cases z;rfl)),ybh.mpr (fun z=>e z.symm)];exact znM t k
theorem zoB:∀{m:List (NK×V)} {ds:List (D×D)},ShdN cl w m ds->m.length=ds.length
 | _,_,.nil=>rfl
 | _,_,.cons r t=>by rw [yai,yai,zoB t]
end
noncomputable def zeP(cn f:Str)(d:D)(S:Sto):Option D:=match d with
 | .ref n=>(match S[n]? with
  | some ob=>if ob.cls=cn then (match ob.fs.lookup f with | some (false,d)=>some d | _=>none) else none
  | none=>none)
 | _=>none
noncomputable def zd4(cn f:Str)(fe:Fe):Fe:=fun ρ S=>(fe ρ S).bind fun d S1=>match zeP cn f d S1 with | some r=>.ok r S1 | none=>.bad
noncomputable def zms(cl:Cf)(cn f:Str):Prop:=Cls cl.K (cl cn)/\zdB cl.K (cl cn) f
noncomputable def zgO(cn f:Str)(d:D)(S:Sto):Option (Nat×Ob×List (D×D)):=match d with
 | .ref n=>(match S[n]? with
  | some ob=>if ob.cls=cn then (match ob.fs.lookup f with | some (true,.dic ds)=>some (n,ob,ds) | _=>none) else none
  | none=>none)
 | _=>none
section
variable{cl:Cf}{cn:Str}{X:Cx}{E:St->XK}{e:Expr}{fe:Fe}{f:Str}{pos:Pos}{B:Base}{σ:St}{w:Wd}{ρ:Env}{S:Sto}
def zhS{v:V}{n:Nat}{ob:Ob}(R:Rel cl B σ w ρ S)(hv:Shd cl w v (.ref n))(hn:S[n]?=some ob):∃a dx fs,v=.ref a/\w.mu[n]?=some a/\w.ow a=some (.obj n)/\w.H a=some (.ins (cl ob.cls) dx fs)/\zdt cl w n fs ob.fs:=by
 cases hv with
 | ref e =>
  obtain ⟨h1,dx,fs,h2,h3⟩:=R.wd.atObj hn e;exact ⟨_,dx,fs,rfl,e,h1,h2,h3⟩
def ztu{v:V}{d r:D}(hk:zms cl cn f)(R:Rel cl B σ w ρ S)(hv:Shd cl w v d)(hd:zeP cn f d S=some r):∃a C dx fs y,v=.ref a/\w.H a=some (.ins C dx fs)/\Cls cl.K C/\zdB cl.K C f/\fs.lookup f=some y/\Shd cl w y r:=by
 unfold zeP at hd
 cases d with
 | ref n =>
  dsimp only at hd
  cases hS:S[n]? with
  | none=>rw [hS] at hd;cases hd
  | some ob =>
   rw [hS] at hd;dsimp only at hd;split at hd
   ·rename_i hfk;split at hd
    ·rename_i d hl;cases hd;obtain ⟨a,dx,fs,rfl,_,_,hH,hF⟩:=zhS R hv hS;obtain ⟨v,lv,fr⟩:=hF.look hl
     rcases fr with ⟨_,fr⟩ | ⟨z,_⟩
     ·exact ⟨a,_,dx,fs,v,rfl,hH,hfk ▸ hk.1,hfk ▸ hk.2,lv,fr⟩
     ·cases z
    ·cases hd
   ·cases hd
 | _=>cases hd
def zrO(hk:zms cl cn f)(kk:X.K=cl.K)(he:PE X e (tE cl E fe))(hb:attributeBase e f X.env (eval e X.env)=eval e X.env):PE X (.Attribute e f pos) (tE cl E (zd4 cn f fe)):=by
 refine PE.imp (zhg he hb) ?_;rintro σ H Q ⟨B,w,ρ,S,rfl,R,q⟩;refine ⟨B,w,ρ,S,rfl,R,?_⟩;unfold zd4 at q
 cases hf:fe ρ S with
 | bad=>rwa [hf] at q
 | exc c S1=>rwa [hf] at q
 | ok d S1 =>
  rw [hf] at q;intro v w1 R1 F1 h1;dsimp only [Out.bind] at q
  cases hd:zeP cn f d S1 with
  | none=>rw [hd] at q;exact q.elim
  | some r =>
   rw [hd] at q;obtain ⟨a,C,dx,fs,y,rfl,e1,e2,e3,e4,e5⟩:=ztu hk R1 h1 hd;rw [kk];exact ⟨a,C,dx,fs,y,rfl,e1,e2,e3,e4,q y w1 R1 F1 e5⟩
def zmk{v:V}{d:D}{n:Nat}{ob:Ob}{ds:List (D×D)}(hk:zms cl cn f)(R:Rel cl B σ w ρ S)(hv:Shd cl w v d)(hd:zgO cn f d S=some (n,ob,ds)) :
  ∃a dx fs c xs m,v=.ref a/\S[n]?=some ob/\w.mu[n]?=some a/\w.ow a=some (.obj n)/\w.H a=some (.ins (cl ob.cls) dx fs)/\zdt cl w n fs ob.fs/\Cls cl.K (cl ob.cls)/\zdB cl.K (cl ob.cls) f/\fs.lookup f=some (.ref c)/\w.ow c=some (.fld n f)/\w.H c=some (.ext (DN cl.P cl.wo c xs))/\zju w xs m/\ShdN cl w m ds:=by
 unfold zgO at hd
 cases d with
 | ref n' =>
  dsimp only at hd
  cases hS:S[n']? with
  | none=>rw [hS] at hd;cases hd
  | some ob' =>
   rw [hS] at hd;dsimp only at hd;split at hd
   ·rename_i hfk;split at hd
    ·rename_i ds' hl;cases hd;obtain ⟨a,dx,fs,rfl,hmu,how,hH,hF⟩:=zhS R hv hS;obtain ⟨v,lv,fr⟩:=hF.look hl
     rcases fr with ⟨z,_⟩ | ⟨_,c,xs,m,ds2,rfl,c1,c2,c3,c4,e⟩
     ·cases z
     ·cases e;exact ⟨a,dx,fs,c,xs,m,rfl,hS,hmu,how,hH,hF,hfk ▸ hk.1,hfk ▸ hk.2,lv,c1,c2,c3,c4⟩
    ·cases hd
   ·cases hd
 | _=>cases hd
end
end S2
namespace L2
open PySem PySem.Spec PyProof.Rows
section
variable{X:Cx}
noncomputable def zyf(ta:TA):TE:=fun σ H Q=>ta σ H fun vs H1=>∃j:Int,vs=[.int j]/\0<=j/\j<=1000/\∀p,H1 p=none->Q (.ref p) (upd H1 p (.rng 0 j))
def zsb{a:Expr}{ta:TA}{p pos:Pos}(hg:Gl X "range")(hm:X.mg "range" = none)(ha:PA X [a] ta)(hs:starEach [a] X.env=[(false,eval a X.env)]:=by rfl):PE X (.Call (.Name "range" p) [a] [] pos) (zyf ta):=by
 intro pins s σ H Q I h;refine Call_ (zdz I hg hm boot_range (yaS (thn (ha pos pins s σ H _ I h) fun us s1 ⟨vs,H1,I1,r1,q1⟩=>?_) hs rfl));obtain ⟨j,e,j0,j1,q⟩:=q1;subst e
 cases r1 with
 | cons r rr =>
  cases rr;obtain ⟨t,rfl⟩:=r;refine call_range_1 ⟨.ref s1.heap.objs.size,_,I1.laid (a:=s1.heap.objs.size) (o:=.rng 0 j) (fun _ _ q=>yaf _ q) (yam _) ⟨_,_,_,yax _ rfl⟩,rfl,q _ (I1.hok.fresh (yam _))⟩
def zjv:∀(n:Nat) (its:List Value),its.length=n->(∀(i:Nat) (v:Value),its[i]?=some v->∃t,v=.int (i:Int) t)->Vals ((List.range n).map fun (i:Nat)=>V.int (i:Int)) its:=by
 intro n
 induction n with
 | zero =>
  intro its hl _;have:its=[]:=ya3 hl;subst this;exact .nil
 | succ n ih =>
  intro its hl h
  have e:its=its.take n++[its[n]]:=by
   have:=List.take_append_drop n its
   have h2:its.drop n=[its[n]]:=by
    rw [yca (by omega),List.drop_of_length_le (by omega)]
   rw [h2] at this;exact this.symm
  rw [e,ybm,ybZ];refine (ih (its.take n) (by rw [ybu];omega) fun i v hv=>?_).append (.cons ?_ .nil)
  ·have hi:i<n:=by
    have:=(yag.mp hv).1;rw [ybu] at this;omega
   rw [ycW,if_pos hi] at hv;exact h i v hv
  ·exact h n its[n] (yaa (by omega))
def zgJ(hc:X.calm=true):zdN X (.type "list") (fun xs H Q=>∃(p:Addr) (n:Nat),xs=[.ref p]/\H p=some (.rng 0 (n:Int))/\n<=1000/\∀l,H l=none->Q (.ref l) (upd H l (.lst ((List.range n).map fun (i:Nat)=>V.int (i:Int))))):=by
 intro pins s σ H xs us Q I r h;obtain ⟨p,n,rfl,hp,hn,q⟩:=h;obtain ⟨u,rfl,rx⟩:=zgS r;cases rx;obtain ⟨t,u,v,hr⟩:=I.hok p _ hp;refine call_list_range (n:=n) (I.ok.hd hc) (show IsRange s.heap p 0 (n:Int) 1 t u v from hr) (small_one (by omega) (by omega) (by omega) (by omega)) (by rw [rangeSize_one];split<;>omega) (by omega) fun h' tk acc c' kp e hi=>?_
 refine ⟨.ref s.heap.objs.size,_,I.laid (t':=tk) kp (yam _) (show zb3 X.prog X.w _ h' _ (.lst _) from ⟨?_,acc.toList,c',zjv n acc.toList ?_ ?_,by simpa using e⟩),rfl,q _ (I.hok.fresh (yam _))⟩
 ·rw [yae,ybc];exact yah hn (by decide)
 ·have:=hi.1;simpa using this
 ·intro i v hv;have:=hi.2 i v (by simpa using hv);simpa using this
end
end L2
namespace S2
open PySem PySem.Spec PyProof.Rows L2
noncomputable def zoA(cn f:Str)(fa fo:Fe):Fe:=fun ρ S=>(fa ρ S).bind fun dk S1=>(fo ρ S1).bind fun d S2=>match zi2 dk,zgO cn f d S2 with
 | some k,some (_,_,ds)=>.ok (.bl (zbj k ds).isNone) S2
 | _,_=>.bad
noncomputable def zkj(ρ:Env)(i:Nat):Option NK:=match ρ[i]? with | some (some (false,dk))=>zi2 dk | _=>none
noncomputable def zj1(cn f:Str)(fo:Fe)(i:Nat):Fe:=fun ρ S=>(fo ρ S).bind fun d S1=>match zkj ρ i,zgO cn f d S1 with
 | some k,some (_,_,ds)=>(match zbj k ds with | some r=>.ok r S1 | none=>.bad)
 | _,_=>.bad
noncomputable def zjF(cn f:Str)(fo:Fe)(i:Nat)(fe:Fe):Fs:=fun ρ S=>match fe ρ S with
 | .bad=>.bad
 | .exc c S1=>.ex c ρ S1
 | .ok r S1=>(match fo ρ S1 with
  | .bad=>.bad
  | .exc c S2=>.ex c ρ S2
  | .ok d S2=>(match zkj ρ i,zgO cn f d S2 with
   | some k,some (n,ob,ds)=>if (zbj k ds).isNone&&decide (ds.length<=1000000)&&zfU ob then .nx ρ (S2.set n (ob.put f true (.dic (ds++[(nkD k,r)])))) else .bad
   | _,_=>.bad))
noncomputable def zeb(cn f:Str)(fo fe:Fe):Fs:=fun ρ S=>match fe ρ S with
 | .bad=>.bad
 | .exc c S1=>.ex c ρ S1
 | .ok r S1=>(match fo ρ S1 with
  | .bad=>.bad
  | .exc c S2=>.ex c ρ S2
  | .ok (.ref n) S2=>(match S2[n]? with
   | some ob=>if decide (ob.cls=cn)&&decide (ob.fs.length<1000) then .nx ρ (S2.set n (ob.put f false r)) else .bad
   | none=>.bad)
  | .ok _ _=>.bad)
noncomputable def zgh(cn f:Str)(i:Nat):Fs:=fun ρ S=>match ρ[i]? with
 | some (some (false,.ref n))=>(match S[n]? with
   | some ob=>if decide (ob.cls=cn)&&decide (ob.fs.length<1000) then .nx ρ (S.set n (ob.put f true (.dic []))) else .bad
   | none=>.bad)
 | _=>.bad
noncomputable def zcI(c m:Str)(d:D)(S:Sto):Bool:=match d with
 | .ref n=>(match S[n]? with | some ob=>decide (ob.cls=c)&&(ob.fs.lookup m).isNone | none=>false)
 | _=>false
noncomputable def zbF(c m:Str)(G:List D->Sto->Out D)(fo:Fe)(fs:List Fe):Fe:=fun ρ S=>(fo ρ S).bind fun d S1=>if zcI c m d S1 then (zan fs ρ S1).bind fun ds S2=>G (d::ds) S2 else .bad
noncomputable def eMk(c:Str)(dds:List D)(G:List D->Sto->Out D)(fs:List Fe):Fe:=fun ρ S=>(zan fs ρ S).bind fun ds S1=>(G (.ref S1.length::(ds++dds)) (S1++[⟨c,[]⟩])).bind fun r S2=>match r with | .non=>.ok (.ref S1.length) S2 | _=>.bad
structure Same'(cl:Cf)(X:Cx):Prop where
 kk:X.K=cl.K
 pp:X.prog=cl.P
 ww:X.w=cl.wo
section
variable{cl:Cf}{cn:Str}{X:Cx}{E:St->XK}{a o e:Expr}{fa fo fe:Fe}{f:Str}{pos apos:Pos}{own:Bool}
def zsD(sm:Same' cl X)(hk:zms cl cn f)(σ:St)(H:Hp)(Q:VK)(q:tE cl E (zoA cn f fa fo) σ H Q) :
  tOp (fun x y H Q=>∃kb a k xs m,x=.ref kb/\y=.ref a/\ziC H kb k/\H a=some (.ext (DN X.prog X.w a xs))/\zn6 H xs m/\Q (.bl (m.lookup k).isNone) H) (tE cl E fa) (zwq X.K (tE cl E fo) f) σ H Q:=by
 obtain ⟨B,w,ρ,S,rfl,R,q⟩:=q;refine ⟨B,w,ρ,S,rfl,R,?_⟩;unfold zoA at q
 cases hf:fa ρ S with
 | bad=>rwa [hf] at q
 | exc c S1=>rwa [hf] at q
 | ok dk S1 =>
  rw [hf] at q;intro v w1 R1 F1 h1;refine ⟨B,w1,ρ,S1,rfl,R1,?_⟩;dsimp only [Out.bind] at q
  cases hh:fo ρ S1 with
  | bad=>rwa [hh] at q
  | exc c S2=>rw [hh] at q;exact fun w2 R2 F2=>q w2 R2 (F1.trans F2)
  | ok d S2 =>
   rw [hh] at q;intro y w2 R2 F2 h2;dsimp only at q
   cases hn:zi2 dk with
   | none=>rw [hn] at q;exact q.elim
   | some k =>
    cases hd:zgO cn f d S2 with
    | none=>rw [hn,hd] at q;exact q.elim
    | some t =>
     obtain ⟨n,ob,ds⟩:=t;rw [hn,hd] at q;dsimp only at q;obtain ⟨a,dx,fs,c,xs,m,rfl,_,_,_,hH,_,c1,c2,lv,_,hc,he,hs⟩:=zmk hk R2 h2 hd;obtain ⟨kb,rfl,ks⟩:=zoo (h1.up F2) hn;rw [sm.kk];refine ⟨a,_,dx,fs,_,rfl,hH,c1,c2,lv,kb,c,k,xs,m,rfl,rfl,ks.at,by rw [sm.pp,sm.ww];exact hc,he.ents,?_⟩
     have:(m.lookup k).isNone=(zbj k ds).isNone:=by
      rcases znM hs k with ⟨e1,e2⟩ | ⟨_,_,e1,e2,_⟩<;>rw [e1,e2]<;>rfl
     rw [this];exact q _ w2 R2 (F1.trans F2) (.bl _)
def zrL(hu:X.A.units+16<cLine)(sm:Same' cl X)(hk:zms cl cn f)(ha:PE X a (tE cl E fa))(ho:PE X o (tE cl E fo))(hb:attributeBase o f X.env (eval o X.env)=eval o X.env)(hm:behindInMarks .NotIn (.Attribute o f apos)=false):PE X (.Compare a [.NotIn] [.Attribute o f apos] pos) (tE cl E (zoA cn f fa fo)) :=
 PE.imp (zk7 (zol hu) ha (zhg ho hb) hm) (zsD sm hk)
def zrp(hu:X.A.units+16<cLine)(sm:Same' cl X)(hk:zms cl cn f)(ha:PE X a (tE cl E fa))(ho:PE X o (tE cl E fo))(hb:attributeBase o f X.env (eval o X.env)=eval o X.env)(hm:behindInMarks .NotIn (.Attribute o f apos)=false):PT X (.Compare a [.NotIn] [.Attribute o f apos] pos) (tTr cl E (zoA cn f fa fo)) :=
 PT.imp (zkV (zol hu) ha (zhg ho hb) hm) fun _ _ _ q=>zsD sm hk _ _ _ (ziN q)
def zlz{B:Base}{σ:St}{w:Wd}{ρ:Env}{S:Sto}{i:Nat}{k:NK}(R:Rel cl B σ w ρ S)(h:zkj ρ i=some k):∃kb,σ[i]?=some (some (.ref kb))/\zmx w kb k:=by
 unfold zkj at h;split at h
 ·rename_i dk hi;obtain ⟨v,e,r⟩:=R.slots i false dk hi;obtain ⟨kb,rfl,ks⟩:=zoo r h;exact ⟨kb,e,ks⟩
 ·cases h
def zpj{i:Nat}{x:Str}{p:Pos}(hN:X.N[i]?=some x)(hv:Vis X.env.scope x)(hd:(x == ("__debug__":Str))=false)(hcd:(x == ("__classdict__":Str))=false)(hu:X.A.units+16<cLine)(sm:Same' cl X)(hk:zms cl cn f)(ho:PE X o (tE cl E fo))(hb:attributeBase o f X.env (eval o X.env)=eval o X.env)(hs:zgN (.Name x p)):PE X (.Subscript (.Attribute o f apos) (.Name x p) pos) (tE cl E (zj1 cn f fo i)):=by
 refine PE.imp (zsh (zs3 hu) (zhg ho hb) (zdx hN hv hd hcd) hs) ?_;rintro σ H Q ⟨B,w,ρ,S,rfl,R,q⟩;refine ⟨B,w,ρ,S,rfl,R,?_⟩;unfold zj1 at q
 cases hf:fo ρ S with
 | bad=>rwa [hf] at q
 | exc c S1=>rwa [hf] at q
 | ok d S1 =>
  rw [hf] at q;intro v w1 R1 F1 h1;dsimp only [Out.bind] at q
  cases hn:zkj ρ i with
  | none=>rw [hn] at q;exact q.elim
  | some k =>
   cases hd:zgO cn f d S1 with
   | none=>rw [hn,hd] at q;exact q.elim
   | some t =>
    obtain ⟨n,ob,ds⟩:=t;rw [hn,hd] at q;dsimp only at q;obtain ⟨a,dx,fs,c,xs,m,rfl,_,_,_,hH,_,c1,c2,lv,_,hc,he,hs⟩:=zmk hk R1 h1 hd;obtain ⟨kb,eσ,ks⟩:=zlz R1 hn
    cases hl:zbj k ds with
    | none=>rw [hl] at q;exact q.elim
    | some r =>
     rw [hl] at q
     rcases znM hs k with ⟨_,e2⟩ | ⟨y,r',e1,e2,sh⟩
     ·rw [hl] at e2;cases e2
     ·rw [hl] at e2;cases e2;rw [sm.kk];exact ⟨a,_,dx,fs,_,rfl,hH,c1,c2,lv,_,eσ,c,kb,k,xs,m,y,rfl,rfl,ks.at,by rw [sm.pp,sm.ww];exact hc,he.ents,e1,q _ w1 R1 F1 sh⟩
def zo2{i:Nat}{x:Str}{p p3:Pos}(hN:X.N[i]?=some x)(hv:Vis X.env.scope x)(hd:(x == ("__debug__":Str))=false)(hcd:(x == ("__classdict__":Str))=false)(hu:X.A.units+16<cLine)(sm:Same' cl X)(hk:zms cl cn f)(ho:PE X o (tE cl E fo))(hb:attributeBase o f X.env (eval o X.env)=eval o X.env)(he:PE X e (tE cl E fe))
  (sw1:swapsWithSole [.Subscript (.Attribute o f apos) (.Name x p) p3] e pos.line X.env=pure false) (sw2:swappedStores [.Subscript (.Attribute o f apos) (.Name x p) p3] e X.env=pure none)
  (ha:∀v,assign (.Subscript (.Attribute o f apos) (.Name x p) p3) X.env v=(do
   let ov ← holding [v] (eval (.Attribute o f apos) X.env)
   let iv ← holding [v,ov] (eval (.Name x p) X.env)
   standAt p3
   holding [v,ov,iv] (setItem ov iv v)
   release [v,ov,iv] [])):PS X (.Assign [.Subscript (.Attribute o f apos) (.Name x p) p3] e pos) (tS cl E own (zjF cn f fo i fe)):=by
 refine PS.imp (zoj he (zr8 (zhg ho hb) (zdx hN hv hd hcd) (zpf hu) ha) sw1 sw2 rfl) ?_;rintro De σ H ⟨B,w,ρ,S,rfl,R,q⟩;refine ⟨B,w,ρ,S,rfl,R,?_⟩;unfold zjF at q
 cases hf:fe ρ S with
 | bad=>rwa [hf] at q
 | exc c S1=>rw [hf] at q;exact fun w' R' F'=>q σ w' R' F'
 | ok r S1 =>
  rw [hf] at q;intro v w1 R1 F1 h1;dsimp only at q;refine ⟨B,w1,ρ,S1,rfl,R1,?_⟩
  cases hfo:fo ρ S1 with
  | bad=>rwa [hfo] at q
  | exc c S2=>rw [hfo] at q;exact fun w' R' F'=>q σ w' R' (F1.trans F')
  | ok d S2 =>
   rw [hfo] at q;intro y w2 R2 F2 h2;dsimp only at q
   cases hn:zkj ρ i with
   | none=>rw [hn] at q;exact q.elim
   | some k =>
    cases hd:zgO cn f d S2 with
    | none=>rw [hn,hd] at q;exact q.elim
    | some t =>
     obtain ⟨n,ob,ds⟩:=t;rw [hn,hd] at q;dsimp only at q;split at q
     ·rename_i hc0;rw [yab,yab] at hc0;obtain ⟨⟨z1,z2⟩,z3⟩:=hc0;obtain ⟨a,dx,fs,c,xs,m,rfl,hS,hmu,how,hH,hF,c1,c2,lv,oc,hc,he,hs⟩:=zmk hk R2 h2 hd;obtain ⟨kb,eσ,ks⟩:=zlz R2 hn
      have hno:m.lookup k=none:=by
       rcases znM hs k with ⟨e1,_⟩ | ⟨_,_,_,e2,_⟩
       ·exact e1
       ·rw [e2] at z1;cases z1
      rw [sm.kk];refine ⟨a,_,dx,fs,_,rfl,hH,c1,c2,lv,_,eσ,c,kb,k,xs,m,rfl,rfl,ks.at,by rw [sm.pp,sm.ww];exact hc,he.ents,hno,by rw [zoB hs];exact yau z2,fun u ru=>?_⟩;obtain ⟨R3,F3⟩:=R2.setd hS hmu how hH hF lv oc hc he hs ks ru (h1.up F2) z3;rw [sm.pp,sm.ww];exact q σ _ R3 (F1.trans (F2.trans F3))
     ·exact q.elim
def zo4(sm:Same' cl X)(hk:zms cl cn f)(ho:PE X o (tE cl E fo))(he:PE X e (tE cl E fe))(hs:swapsWith e (some (.Attribute o f apos)) pos.line X.env=pure false):PS X (.Assign [.Attribute o f apos] e pos) (tS cl E own (zeb cn f fo fe)):=by
 refine PS.imp (zoi ho he hs) ?_;rintro De σ H ⟨B,w,ρ,S,rfl,R,q⟩;refine ⟨B,w,ρ,S,rfl,R,?_⟩;unfold zeb at q
 cases hf:fe ρ S with
 | bad=>rwa [hf] at q
 | exc c S1=>rw [hf] at q;exact fun w' R' F'=>q σ w' R' F'
 | ok r S1 =>
  rw [hf] at q;intro v w1 R1 F1 h1;dsimp only at q;refine ⟨B,w1,ρ,S1,rfl,R1,?_⟩
  cases hfo:fo ρ S1 with
  | bad=>rwa [hfo] at q
  | exc c S2=>rw [hfo] at q;exact fun w' R' F'=>q σ w' R' (F1.trans F')
  | ok d S2 =>
   rw [hfo] at q;intro y w2 R2 F2 h2
   cases d with
   | ref n =>
    dsimp only at q
    cases hS:S2[n]? with
    | none=>rw [hS] at q;exact q.elim
    | some ob =>
     rw [hS] at q;dsimp only at q;split at q
     ·rename_i hc0;rw [yab] at hc0;obtain ⟨a,dx,fs,rfl,hmu,how,hH,hF⟩:=zhS R2 h2 hS;rw [sm.kk];refine ⟨a,_,dx,fs,rfl,hH,yau hc0.1 ▸ hk.1,yau hc0.1 ▸ hk.2,by rw [hF.len];exact yau hc0.2,?_⟩;obtain ⟨R3,F3⟩:=R2.setf (f:=f) hS hmu how hH hF (h1.up F2);exact q σ _ R3 (F1.trans (F2.trans F3))
     ·exact q.elim
   | _=>exact q.elim
def zo5{i:Nat}{x:Str}{p p2:Pos}(hN:X.N[i]?=some x)(hv:Vis X.env.scope x)(hd:(x == ("__debug__":Str))=false)(hcd:(x == ("__classdict__":Str))=false)(sm:Same' cl X)(hk:zms cl cn f)(hs:swapsWith (.Dict [] [] p) (some (.Attribute (.Name x p2) f apos)) pos.line X.env=pure false):PS X (.Assign [.Attribute (.Name x p2) f apos] (.Dict [] [] p) pos) (tS cl E own (zgh cn f i)):=by
 refine PS.imp (zoi (zdx hN hv hd hcd) zpD hs) ?_;rintro De σ H ⟨B,w,ρ,S,rfl,R,q⟩;intro pd hpd;unfold zgh at q;split at q
 ·rename_i n hi;obtain ⟨v,ev,rv⟩:=R.slots i false _ hi
  cases hS:S[n]? with
  | none=>rw [hS] at q;exact q.elim
  | some ob =>
   rw [hS] at q;dsimp only at q;split at q
   ·rename_i hc0;rw [yab] at hc0;obtain ⟨a,dx,fs,rfl,hmu,how,hH,hF⟩:=zhS R rv hS;rw [sm.kk];refine ⟨_,ev,a,_,dx,fs,rfl,?_,yau hc0.1 ▸ hk.1,yau hc0.1 ▸ hk.2,by rw [hF.len];exact yau hc0.2,?_⟩
    ·rw [zaq (zaC hH hpd)];exact hH
    ·obtain ⟨R3,F3⟩:=R.newf (f:=f) hS hmu how hH hF hpd;rw [sm.pp,sm.ww];exact q σ _ R3 F3
   ·exact q.elim
 ·exact q.elim
end
noncomputable def zgW(C:Addr)(m:Str)(sp:Sp)(dvs:List V)(E:St->XK)(ta:TE)(t:TA):TE:=fun σ H Q=>ta σ H fun x H1=>∃a dx fs,x=.ref a/\H1 a=some (.ins C dx fs)/\fs.lookup m=none ∧
 t σ H1 fun vs H2=>sp (x::(vs++dvs)) H2 Q (E σ)
noncomputable def zob(C:Addr)(sp:Sp)(dvs:List V)(E:St->XK)(t:TA):TE:=fun σ H Q=>t σ H fun vs H1=>∀x dx,H1 x=none->H1 dx=none->dx≠x →
 sp (.ref x::(vs++dvs)) (upd (upd H1 dx (.own x)) x (.ins C dx [])) (fun v H2=>v=.non/\Q (.ref x) H2) (E σ)
section
variable{X:Cx}{CX:CXT}{k:Nat}{f C:Addr}{fd:FuncData}{ps:List Str}{sp:Sp}{dvs:List V}{ds:List Value}{E:St->XK}{x m:Str}{p pos apos:Pos}{e o:Expr}{es:List Expr}{ta:TE}{t:TA}
def zm7{pl:Sem Bool}(he:PE X o ta)(c:Cls X.K C)(hm:Meth X.K C m f)(F:FnOk X.prog X.w X.K X.mg X.base CX k f fd ps sp)(hr:Room k X.A)(hb:zbQ X.K fd ps ds)(hd:Vals dvs ds)(hx:zdi CX X E)(ha:PA X (e::es) t)
  (hst:starEach (e::es) X.env=(false,eval e X.env)::starEach es X.env) (hpl:(backTo pos (starEach es X.env)).any (·.1)=false)
  (ht:eval (.Call (.Attribute o m apos) (e::es) [] pos) X.env=(do
   let ov ← eval o X.env
   standAt apos.atName
   let (f,first) ← holding [ov] (getMethod ov m pl)
   callWith pos f first (backTo pos (starEach (e::es) X.env)) (backToKw pos (keywordEach [] X.env)))) :
  PE X (.Call (.Attribute o m apos) (e::es) [] pos) (zgW C m sp dvs E ta t):=by
 intro pins s σ H Q I h;refine PySem.W.methodCall_KW (pl:=pl) (thn (he pins s σ H _ I h) fun u s1 ⟨x,H1,I1,rx,a,dx,fs,ex,ea,l,q⟩=>?_) ht;subst ex;obtain rfl:u=Value.ref a:=rx;refine zfY I1 ea c hm l ?_;refine ycT (first:=[.ref a]) (h₀:=X.base) I.ok.mod.kin hm.kp (thn (ha pos pins s1 σ H1 _ I1 q) fun us s2 ⟨vs,H2,I2,r,q2⟩=>⟨I2.kIn,?_⟩) hst hpl;exact zgk (us:=.ref a::us) (vs:=.ref a::vs) F hr hb hd hx I2 (.cons rfl r) q2
def zk5{pl:Sem Bool}(he:PE X o ta)(c:Cls X.K C)(hm:Meth X.K C m f)(F:FnOk X.prog X.w X.K X.mg X.base CX k f fd ps sp)(hr:Room k X.A)(hb:zbQ X.K fd ps ds)(hd:Vals dvs ds)(hx:zdi CX X E)
  (ht:eval (.Call (.Attribute o m apos) [] [] pos) X.env=(do
   let ov ← eval o X.env
   standAt apos.atName
   let (f,first) ← holding [ov] (getMethod ov m pl)
   callWith pos f first (backTo pos (starEach [] X.env)) (backToKw pos (keywordEach [] X.env)))) :
  PE X (.Call (.Attribute o m apos) [] [] pos) (zgW C m sp dvs E ta zup):=by
 intro pins s σ H Q I h;refine PySem.W.methodCall_KW (pl:=pl) (thn (he pins s σ H _ I h) fun u s1 ⟨x,H1,I1,rx,a,dx,fs,ex,ea,l,q⟩=>?_) ht;subst ex;obtain rfl:u=Value.ref a:=rx;refine zfY I1 ea c hm l ?_;exact PySem.W.callWith_K0 (first:=[.ref a]) I1.kIn hm.kp (zgk (us:=[.ref a]) (vs:=[.ref a]) F hr hb hd hx I1 (.cons rfl .nil) q)
def zkM{pins:Z3}{σ:St}{H:Hp}{s:Shared}{Q:VK}{us:List Value}{vs:List V}(M:Mk X.K C f)(F:FnOk X.prog X.w X.K X.mg X.base CX k f fd ps sp)(hr:Room (k+1) X.A)(hb:zbQ X.K fd ps ds)(hd:Vals dvs ds)
  (hx:zdi CX X E) (I:Inv X pins σ H s) (r:Vals vs us)
  (h:∀x dx,H x=none->H dx=none->dx≠x->sp (.ref x::(vs++dvs)) (upd (upd H dx (.own x)) x (.ins C dx [])) (fun v H2=>v=.non/\Q (.ref x) H2) (E σ)) :
  wpAny (model X.prog X.w) X.A (call (.ref C) us) (EP X pins σ Q) X.xe s:=by
 have hq:=h (s.heap.objs.size+1) s.heap.objs.size (I.hok.fresh (yct _)) (I.hok.fresh (yam _)) (yaG (ybS _));have I2:=Inv.made (C:=C) I;have r2:Vals (V.ref (s.heap.objs.size+1)::(vs++dvs)) (Value.ref (s.heap.objs.size+1)::(us++ds)):=.cons rfl (r.append hd)
 have hl:(Value.ref (s.heap.objs.size+1)::us++ds).length=ps.length:=by
  have e:=r2.length;rw [F.len _ _ _ _ hq] at e;exact e.symm
 refine wpAny_call (znp (f:=f) I.kIn M.makes M.init (ybT.mp M.fn) (codeAny_mono (F.run _ X.stack _ _ ⟨Value.ref (s.heap.objs.size+1)::us,[]⟩ (Value.ref (s.heap.objs.size+1)::(us++ds)) _ _ (E σ) (hr.make C us [])
  (I2.env0.make C us []) (hb _ (Value.ref (s.heap.objs.size+1)::us) I2.kIn hl) r2 hq) fun r s' hq'=>?_))
 cases r with
 | error e=>exact hx pins σ _ _ e s' I2 hq'
 | ok fl =>
  cases fl with
  | ret u =>
   obtain ⟨v,H',I3,rv,ev,q3⟩:=I2.after hq';subst ev;exact ⟨rv,⟨V.ref (s.heap.objs.size+1),H',I3,rfl,q3⟩⟩
  | next=>exact False.elim hq'
  | brk=>exact False.elim hq'
  | cont=>exact False.elim hq'
def ziW(M:Mk X.K C f)(F:FnOk X.prog X.w X.K X.mg X.base CX k f fd ps sp)(hr:Room (k+1) X.A)(hg:Gl X x)(hm:X.mg x=some (.ref C))(hb:zbQ X.K fd ps ds)(hd:Vals dvs ds)(hx:zdi CX X E)
  (ha:PA X (e::es) t) (hdb:(x == ("__debug__":Str))=false) (he:starEach (e::es) X.env=(false,eval e X.env)::starEach es X.env) (hpl:(backTo pos (starEach es X.env)).any (·.1)=false) :
  PE X (.Call (.Name x p) (e::es) [] pos) (zob C sp dvs E t):=by
 intro pins s σ H Q I h;refine ybV (zej I hg hm ?_ hdb);refine ycT (h₀:=X.base) I.ok.mod.kin M.kp (thn (ha pos pins s σ H _ I h) fun us s1 ⟨vs,H1,I1,r,q⟩=>⟨I1.kIn,?_⟩) he hpl;exact zkM M F hr hb hd hx I1 r q
end
section
variable{cl:Cf}{E:St->XK}{fs:List Fe}{fo:Fe}{G:List D->Sto->Out D}{σ:St}{H:Hp}{Q:VK}{n:Nat}{c m:Str}{ρ:Env}
theorem zd1:∀{fs:List Fe} {S S1:Sto} {ds:List D},zan fs ρ S=.ok ds S1->ds.length=fs.length
 | [],S,S1,ds,h=>by cases h;rfl
 | f::fs,S,S1,ds,h=>by
  unfold zan at h
  cases h1:f ρ S with
  | bad=>rw [h1] at h;cases h
  | exc c S2=>rw [h1] at h;cases h
  | ok d S2 =>
   rw [h1] at h;dsimp only [Out.bind] at h
   cases h2:zan fs ρ S2 with
   | bad=>rw [h2] at h;cases h
   | exc c S3=>rw [h2] at h;cases h
   | ok es S3=>rw [h2] at h;cases h;rw [yai,yai,zd1 h2]
def zlo{B:Base}{w:Wd}{S:Sto}{v:V}{d:D}(R:Rel cl B σ w ρ S)(hv:Shd cl w v d)(h:zcI c m d S=true):∃a dx fs,v=.ref a/\w.H a=some (.ins (cl c) dx fs)/\fs.lookup m=none:=by
 unfold zcI at h
 cases d with
 | ref n =>
  dsimp only at h
  cases hS:S[n]? with
  | none=>rw [hS] at h;cases h
  | some ob =>
   rw [hS] at h;dsimp only at h;rw [yab] at h;obtain ⟨a,dx,fs,rfl,_,_,hH,hF⟩:=zhS R hv hS;have e:=yau h.1;subst e;exact ⟨a,dx,fs,rfl,hH,hF.miss (by simpa using h.2)⟩
 | _=>cases h
def zsH(q:tE cl E (zbF c m G fo fs) σ H Q)(hn:fs.length+1=n):zgW (cl c) m (zg0 cl n false G) [] E (tE cl E fo) (tAs cl E fs) σ H Q:=by
 obtain ⟨B,w,ρ,S,rfl,R,q⟩:=q;refine ⟨B,w,ρ,S,rfl,R,?_⟩;unfold zbF at q
 cases hfo:fo ρ S with
 | bad=>rwa [hfo] at q
 | exc c S1=>rwa [hfo] at q
 | ok d S0 =>
 rw [hfo] at q;intro v w0 R0 F0 h0;dsimp only [Out.bind] at q
 cases hok:zcI c m d S0 with
 | false=>rw [hok] at q;exact q.elim
 | true =>
 rw [hok,if_pos rfl] at q;obtain ⟨a,dx,fs',rfl,hH,hm⟩:=zlo R0 h0 hok;refine ⟨a,dx,fs',rfl,hH,hm,B,w0,ρ,S0,rfl,R0,?_⟩
 cases hf:zan fs ρ S0 with
 | bad=>rwa [hf] at q
 | exc c S1=>rw [hf] at q;exact fun w1 R1 F1=>q w1 R1 (F0.trans F1)
 | ok ds S1 =>
  rw [hf] at q;intro vs w1 R1 F1 h1;dsimp only at q;refine ⟨?_,w1.base,w1.inn,d::ds,S1,rfl,R1.wd.enter,?_,?_⟩
  ·rw [yaY,yai,h1.length,zd1 hf];exact hn
  ·rw [yaY];exact .cons ((h0.up F1).up (zcA w1)) (h1.up (zcA w1))
  cases hg:G (d::ds) S1 with
  | bad=>rwa [hg] at q
  | exc c S2 =>
   rw [hg] at q;intro w2 W2 F2;obtain ⟨R3,F3⟩:=R1.leave W2 F2;exact q (w1.back w2) R3 (F0.trans (F1.trans F3))
  | ok r S2 =>
   rw [hg] at q;intro v w2 W2 F2 r2;obtain ⟨R3,F3⟩:=R1.leave W2 F2;exact q v (w1.back w2) R3 (F0.trans (F1.trans F3)) (Shd.up (zdm W2) r2)
def zsG(q:tN cl E (zbF c m G fo fs) σ H Q)(hn:fs.length+1=n):zgW (cl c) m (zg0 cl n true G) [] E (tE cl E fo) (tAs cl E fs) σ H Q:=by
 obtain ⟨B,w,ρ,S,rfl,R,q⟩:=q;refine ⟨B,w,ρ,S,rfl,R,?_⟩;unfold zbF at q
 cases hfo:fo ρ S with
 | bad=>rwa [hfo] at q
 | exc c S1=>rwa [hfo] at q
 | ok d S0 =>
 rw [hfo] at q;intro v w0 R0 F0 h0;dsimp only [Out.bind] at q
 cases hok:zcI c m d S0 with
 | false=>rw [hok] at q;exact q.elim
 | true =>
 rw [hok,if_pos rfl] at q;obtain ⟨a,dx,fs',rfl,hH,hm⟩:=zlo R0 h0 hok;refine ⟨a,dx,fs',rfl,hH,hm,B,w0,ρ,S0,rfl,R0,?_⟩
 cases hf:zan fs ρ S0 with
 | bad=>rwa [hf] at q
 | exc c S1=>rw [hf] at q;exact fun w1 R1 F1=>q w1 R1 (F0.trans F1)
 | ok ds S1 =>
  rw [hf] at q;intro vs w1 R1 F1 h1;dsimp only at q;refine ⟨?_,w1.base,w1.inn,d::ds,S1,rfl,R1.wd.enter,?_,?_⟩
  ·rw [yaY,yai,h1.length,zd1 hf];exact hn
  ·rw [yaY];exact .cons ((h0.up F1).up (zcA w1)) (h1.up (zcA w1))
  cases hg:G (d::ds) S1 with
  | bad=>rwa [hg] at q
  | exc c S2 =>
   rw [hg] at q;intro w2 W2 F2;obtain ⟨R3,F3⟩:=R1.leave W2 F2;exact q (w1.back w2) R3 (F0.trans (F1.trans F3))
  | ok r S2 =>
   rw [hg] at q;intro v w2 W2 F2 r2;obtain ⟨R3,F3⟩:=R1.leave W2 F2;obtain ⟨a,o,i,rfl,k1,k2,t⟩:=r2;have hfr:w1.base.Fr a=none:=(W2.own a _ k1).elim (fun z=>by cases z) fun z=>z
   have k3:(w1.back w2).ow a=some .far:=by
    show (if (w1.base.Fr a).isSome=true then w1.ow a else Root.out (w2.ow a))=_;rw [hfr,k1];rfl
   have hb:B.Fr a=none:=by
    cases z:B.Fr a with
    | none=>rfl
    | some u=>rw [zdK R1.wd z] at hfr;cases hfr
   have hd:=zin (w:=w1.back w2) (a:=a) (by rw [k3];exact yaV _);have:=q a o ((w1.back w2).del a) (R3.del k3 hb) (F0.trans (F1.trans (F3.trans hd))) (if_pos rfl) ((t.up (zdm W2)).up hd);rwa [zkn (w:=w1.back w2) k2] at this
def zwB{dds:List D}{dvs:List V}(hdv:∀w,Shds cl w dvs dds)(q:tE cl E (eMk c dds G fs) σ H Q)(hn:fs.length+dds.length+1=n):zob (cl c) (zg0 cl n false G) dvs E (tAs cl E fs) σ H Q:=by
 obtain ⟨B,w,ρ,S,rfl,R,q⟩:=q;refine ⟨B,w,ρ,S,rfl,R,?_⟩;unfold eMk at q
 cases hf:zan fs ρ S with
 | bad=>rwa [hf] at q
 | exc c S1=>rwa [hf] at q
 | ok ds S1 =>
  rw [hf] at q;intro vs w1 R1 F1 h1;dsimp only [Out.bind] at q;intro x dx hx hdx ne;obtain ⟨R2,F2⟩:=R1.made (c:=c) hx hdx ne
  have hmu:(w1.addO x dx (cl c) S1.length).mu[S1.length]?=some x:=by
   show (w1.mu++[x])[S1.length]?=some x;rw [yaq (by rw [R1.wd.len];exact yam _),R1.wd.len,ybq];rfl
  refine ⟨?_,(w1.addO x dx (cl c) S1.length).base,(w1.addO x dx (cl c) S1.length).inn,.ref S1.length::(ds++dds),S1++[⟨c,[]⟩],rfl,R2.wd.enter,?_,?_⟩
  ·rw [yai,yao,h1.length,zd1 hf,(hdv w1).length];exact hn
  ·exact .cons (.ref hmu) (((h1.up F2).up (zcA _)).append (hdv _))
  cases hg:G (.ref S1.length::(ds++dds)) (S1++[⟨c,[]⟩]) with
  | bad=>rwa [hg] at q
  | exc c S2 =>
   rw [hg] at q;intro w2 W2 F3;obtain ⟨R3,F4⟩:=R2.leave W2 F3;exact q ((w1.addO x dx _ S1.length).back w2) R3 (F1.trans (F2.trans F4))
  | ok r S2 =>
   rw [hg] at q;intro v w2 W2 F3 r2
   cases r with
   | non =>
    obtain ⟨R3,F4⟩:=R2.leave W2 F3;refine ⟨by cases r2;rfl,q (.ref x) ((w1.addO x dx _ S1.length).back w2) R3 (F1.trans (F2.trans F4)) (.ref (F4.mu _ _ hmu))⟩
   | _=>exact q.elim
end
end S2
namespace L2
open PySem PySem.Spec PyProof.Rows
section
variable{X:Cx}
noncomputable def zn3(ns:List Int):Nat:=argBest (fun i j=>decide (ns.getD i 0<ns.getD j 0)) (ns.length-1)
noncomputable def zeh(ns:List Int):Int:=ns.getD (zn3 ns) 0
theorem zmg(bt:Nat->Nat->Bool):∀k,argBest bt k<=k
 | 0=>yam _
 | k+1=>by
  unfold argBest;split
  ·exact yam _
  ·exact Nat.le_succ_of_le (zmg bt k)
def zmb(hc:X.calm=true):zdN X (.builtin "min") (fun xs H Q=>∃(p:Addr) (ns:List Int),xs=[.ref p]/\SqL X.K H p (ns.map V.int)/\ns≠[]/\Q (.int (zeh ns)) H):=by
 intro pins s σ H xs us Q I r h;obtain ⟨p,ns,rfl,hq,hne,q⟩:=h;obtain ⟨u,rfl,rx⟩:=zgS r;cases rx;obtain ⟨its,rv,pl,hz⟩:=I.list hq;have hl:=pl.isList
 have hlt:p<s.heap.objs.size:=by obtain ⟨_,e,_⟩:=hl;exact yas e
 have hn:its.length=ns.length:=by have:=rv.length;rw [yae] at this;exact this.symm
 have hpos:0<ns.length:=ycN.mpr hne
 have at_:∀(i:Nat) (v:Value),its[i]?=some v->i<ns.length/\∃t,v=.int (ns.getD i 0) t:=by
  intro i v hv
  have hi:i<ns.length:=by rw [<-hn];exact (yag.mp hv).1
  obtain ⟨u,hu,ru⟩:=rv.get (i:=i) (x:=.int ns[i]) (by rw [yak,yaa hi];rfl);rw [hv] at hu;cases hu;obtain ⟨t,rfl⟩:=ru;exact ⟨hi,t,by simp [List.getD,hi]⟩
 refine call_min_walk (yb3 hl ?_);refine ⟨s.heap.objs.size,[s.heap.objs.size,p],[s.heap.objs.size],its.toArray.size,_,_,fun i j=>decide (ns.getD i 0<ns.getD j 0),rfl,Walks.list (A:=X.A.in1) (I.ok.hd hc) _ p (yaG hlt) its.toArray,⟨⟨_,yax _ rfl,rfl,rfl⟩,hl.push _⟩,fun b hm=>?_,by rw [yal,hn];exact hpos,CmpOf.ints_lt (fun i=>ns.getD i 0) (fun i v hP=>?_),fun v h' tk hP hk=>?_⟩
 ·show b<(s.heap.push _).objs.size;rw [ya9];simp only [yav,yaF,ybP] at hm
  rcases hm with z | z
  ·rw [z];exact ybS _
  ·rw [z];exact yc1 hlt
 ·have hv:its[i]?=some v:=by simpa using hP
  exact (at_ i v hv).2
 ·rw [yal,hn] at hP
  have hv:its[zn3 ns]?=some v:=by simpa [zn3] using hP
  obtain ⟨_,t,rfl⟩:=at_ _ _ hv;refine ⟨.int (zeh ns),H,I.kept (t':=tk) fun b o e=>?_,⟨t,rfl⟩,q⟩;exact hk b o (fun hm=>by rw [yaO.mp hm] at e;exact yaT _ (yas e)) (yaf _ e)
end
end L2
namespace S2
open PySem PySem.Spec PyProof.Rows L2
noncomputable def ztZ:Operator->Option (Int->Int->Int) | .Add=>some (·+·) | .Sub=>some (· - ·) | _=>none
noncomputable def zrV(i:Nat)(g:Int->Int->Int)(fe:Fe):Fs:=fun ρ S=>match ρ[i]? with
 | some (some (false,.int a))=>(match fe ρ S with
  | .ok (.int b) S1=>.nx (ρ.set i (some (false,.int (g a b)))) S1
  | .ok _ _=>.bad
  | .exc c S1=>.ex c ρ S1
  | .bad=>.bad)
 | _=>.bad
noncomputable def lrD:D->Option D | .int n=>if decide (0<=n/\n<=1000) then some (.lst ((List.range n.toNat).map fun (i:Nat)=>D.int (i:Int))) else none | _=>none
section
variable{cl:Cf}{X:Cx}{E:St->XK}{e:Expr}{fe f:Fe}{pos:Pos}{own:Bool}
def zrw{i:Nat}{x:Str}{op:Operator}{g:Int->Int->Int}{p:Pos}(hop:ztZ op=some g)(hN:X.N.Nodup)(hi:X.N[i]?=some x)(hx:Loc X.env.scope x)(he:PE X e (tE cl E fe))(hf:X.fn x=true\/X.env.scope.names.lookup x=some .local):PS X (.AugAssign (.Name x p) op e pos) (tS cl E own (zrV i g fe)):=by
 have main:∀ti:TIp,PIp X op ti->(∀a b H Q,Q (.int (g a b)) H->ti (.int a) (.int b) H Q)->PS X (.AugAssign (.Name x p) op e pos) (tS cl E own (zrV i g fe)):=by
  intro ti ho hti;refine PS.imp (zr5 hN hi hx he ho hf) ?_;rintro De σ H ⟨B,w,ρ,S,rfl,R,q⟩;unfold zrV at q;split at q
  ·rename_i a ha;obtain ⟨v,ev,rv⟩:=R.slots i false _ ha;have rv':Shd cl w v (.int a):=rv;cases rv';refine ⟨_,ev,B,w,ρ,S,rfl,R,?_⟩
   cases hfe:fe ρ S with
   | bad=>rwa [hfe] at q
   | exc c S1=>rw [hfe] at q;exact fun w' R' F'=>q σ w' R' F'
   | ok d S1 =>
    rw [hfe] at q;intro y w1 R1 F1 h1
    cases d with
    | int b =>
     cases h1;exact hti a b _ _ (q _ w1 (R1.put (.int _)) F1)
    | _=>exact q.elim
  ·exact q.elim
 cases op<;>simp [ztZ] at hop<;>subst hop
 ·exact main zww zs9 fun a b H Q q=>⟨a,b,rfl,rfl,q⟩
 ·exact main zwv zs8 fun a b H Q q=>⟨a,b,rfl,rfl,q⟩
theorem zhz{w:Wd}:∀l:List Nat,Shds cl w (l.map fun (i:Nat)=>V.int (i:Int)) (l.map fun (i:Nat)=>D.int (i:Int))
 | []=>.nil
 | a::l=>.cons (.int _) (zhz l)
def zkc:bootBuiltins "list" = some (.type "list"):=by decide +kernel
def zuH{p p2 pos2:Pos}(hc:X.calm=true)(hg:Gl X "list")(hm:X.mg "list" = none)(hg2:Gl X "range")(hm2:X.mg "range" = none)(he:PE X e (tE cl E f))(hs:starEach [e] X.env=[(false,eval e X.env)]) :
  PE X (.Call (.Name "list" p) [.Call (.Name "range" p2) [e] [] pos2] [] pos) (tN cl E (eUn lrD f)):=by
 refine PE.imp (ze6 (zgJ hc) hg hm zkc (zcO (zsb hg2 hm2 (zby he zet hs) hs) ze7)) ?_;rintro σ H Q ⟨B,w,ρ,S,rfl,R,q⟩;refine ⟨B,w,ρ,S,rfl,R,?_⟩;unfold eUn at q
 cases hf:f ρ S with
 | bad=>rw [hf] at q;exact q.elim
 | exc c S1=>rw [hf] at q;simp only [zan,hf,Out.bind];exact q
 | ok d S1 =>
  rw [hf] at q;simp only [zan,hf,Out.bind];intro vs w1 R1 F1 sh;dsimp only [Out.bind] at q
  cases hl:lrD d with
  | none=>rw [hl] at q;exact q.elim
  | some r =>
   rw [hl] at q;unfold lrD at hl;split at hl
   ·rename_i n;split at hl
    ·rename_i hz;cases hl;have hz':=yau hz
     cases sh with
     | cons h1 hn =>
      cases hn;cases h1;refine ⟨n,rfl,hz'.1,hz'.2,fun pr hpr=>⟨pr,n.toNat,rfl,?_,by omega,fun l hl=>?_⟩⟩
      ·rw [show ((n.toNat:Nat):Int)=n by omega];exact zaW
      ·exact q l _ (w1.add pr (.rng 0 n)) (R1.grow (zaD hpr _)) (F1.trans (zaD hpr _).fut) hl (.lst (zhz _))
    ·cases hl
   ·cases hl
def zne:OpR X (compareOp .Is) (fun x y H Q=>∃i j,x=.bl i/\y=.bl j/\Q (.bl (decide (i=j))) H):=by
 intro pins s σ H x y v u Q I rx ry h;obtain ⟨i,j,rfl,rfl,q⟩:=h;cases rx;cases ry;refine wpAny_is_plain (by rfl) ?_;refine ⟨.bl (decide (i=j)),H,I,?_,q⟩;show _=Value.bool _;congr 1
 cases i<;>cases j<;>rfl
noncomputable def ztV:D->D->Option D | .bl a,.bl b=>some (.bl (decide (a=b))) | _,_=>none
def zsy:OpD X cl (compareOp .Is) ztV:=by
 intro pins s σ H x y v u Q I rx ry h;obtain ⟨w,d,e,r,rfl,hx,hy,hg,q⟩:=h;unfold ztV at hg;split at hg
 ·cases hg;obtain rfl:=hx.blI;obtain rfl:=hy.blI;exact zne pins s σ w.H _ _ v u Q I rx ry ⟨_,_,rfl,rfl,q _ w (Grow.refl _) (.bl _)⟩
 ·cases hg
noncomputable def zgw:List D->Option D
 | [.lst l]=>(zb1 l).bind fun ns=>if ns.isEmpty then none else some (.int (zeh ns))
 | ds=>ztM ds
def zqv(hc:X.calm=true):zhU X cl (.builtin "min") zgw:=by
 intro pins s σ H xs us Q I r h;obtain ⟨w,ds,d,rfl,hx,hg,q⟩:=h;unfold zgw at hg;split at hg
 ·rename_i l
  cases hi:zb1 l with
  | none=>rw [hi] at hg;cases hg
  | some ns =>
   rw [hi] at hg;have hg':(if ns.isEmpty then none else some (D.int (zeh ns)))=some d:=hg;split at hg'
   ·cases hg'
   ·rename_i hne;cases hg'
    cases hx with
    | cons h1 h2 =>
     cases h2;obtain ⟨p,ys,rfl,ep,rs⟩:=h1.lstI;obtain rfl:=zhy rs hi;exact zmb hc pins s σ w.H _ us Q I r ⟨p,ns,rfl,SqL.of ep,fun z=>hne (by rw [z];rfl),q _ w (Grow.refl _) (.int _)⟩
 ·exact ztn hc pins s σ w.H xs us Q I r ⟨w,_,d,rfl,hx,hg,q⟩
end
end S2
namespace S2
open PySem PySem.Spec PyProof.Rows L2
structure FnI where
 ar:Nat
 own:Bool
 run:List D->Sto->Out D
structure ObE where
 cur:Str
 fk:Str->Str->Bool
 df:Str->Bool
 mt:Str->Option (Str×FnI)
 mks:Str->Option (List D×FnI)
structure Genv where
 con:Str->Option D
 fn:Str->Option FnI
 blt:Str->Bool
 exc:Str->Bool
 und:Str->Str->Bool
 isx:Str->Str->Option Bool
 ob:ObE
abbrev bmV:List Value:=[.type "ValueError",.type "Exception",.type "BaseException",.type "object"]
structure GOk(cl:Cf)(G:Genv)(P:Program)(wo:PySem.World)(K:PySem.W.Frag)(mg:Z6)(base:Heap)(k:Nat):Prop where
 con:∀x d,G.con x=some d->∃v u,mg x=some u/\zbw v u/\∀w,Shd cl w v d
 fn:∀x fi,G.fn x=some fi->∃f fd ps,mg x=some (.ref f)/\PySem.W.keepIn K (.ref f)=true/\zbQ K fd ps []/\FnOk P wo K mg base (CXE P wo) k f fd ps (zg0 cl fi.ar fi.own fi.run)
 blt:∀x,G.blt x=true->mg x=none
 exc:∀c,G.exc c=true->mg c=some (.ref (cl c))/\PySem.W.excIn K (cl c) bmV "ValueError.__new__" = true
 und:∀c C,G.und c C=true->L2.zn5 K (cl c) (cl C)
 isx:∀c C b,G.isx c C=some b->PySem.W.ExcCls K (cl c)/\PySem.W.kitOne K (.ref (cl c)) (ztl cl C)=some b
 fk:∀c f,G.ob.fk c f=true->zms cl c f
 mt:∀m c fi,G.ob.mt m=some (c,fi)->∃f fd ps,Cls K (cl c)/\Meth K (cl c) m f/\zbQ K fd ps []/\FnOk P wo K mg base (CXE P wo) k f fd ps (zg0 cl fi.ar fi.own fi.run)
 mks:∀c dds fi,G.ob.mks c=some (dds,fi)->∃f fd ps dvs ds k',k'+1<=k/\mg c=some (.ref (cl c))/\Mk K (cl c) f/\zbQ K fd ps []/\zbQ K fd ps ds/\Vals dvs ds/\(∀w,Shds cl w dvs dds)/\FnOk P wo K mg base (CXE P wo) k' f fd ps (zg0 cl fi.ar false fi.run)
noncomputable abbrev Names:=List (Str×NameKind)
structure Gx(cl:Cf)(G:Genv)(k:Nat)(X:Cx)(nm:Names)(N:List Str)(E:St->XK):Prop where
 gok:GOk cl G X.prog X.w X.K X.mg X.base k
 room:Room k X.A
 calm:X.calm=true
 pass:zdi (CXE X.prog X.w) X E
 eN:X.N=N
 kk:X.K=cl.K
 pp:X.prog=cl.P
 ww:X.w=cl.wo
 nd:N.Nodup
 vis:∀x kd,nm.lookup x=some kd->∃kd',X.env.scope.names.lookup x=some kd'/\(kd'=kd\/(kd=.free/\kd'=.cell))
 fnx:∀x,nm.lookup x=some .local->X.env.scope.names.lookup x=some .local
noncomputable def idx:List Str->Str->Option Nat
 | [],_=>none
 | y::l,x=>if y=x then some 0 else (idx l x).map (·+1)
theorem zfn:∀{N:List Str} {x:Str} {i:Nat},idx N x=some i->N[i]?=some x
 | y::l,x,i,h=>by
  unfold idx at h;split at h
  ·rename_i e;cases h;rw [e];rfl
  ·cases hr:idx l x with
   | none=>rw [hr] at h;cases h
   | some j=>rw [hr] at h;cases h;simpa using zfn hr
noncomputable def zhl(x:Str):Bool:=!(x == ("__debug__":Str))&&!(x == ("__classdict__":Str))&&!decide (x = "__name__")
def ze8{x:Str}(h:zhl x=true):(x == ("__debug__":Str))=false/\(x == ("__classdict__":Str))=false/\x ≠ "__name__":=by
 unfold zhl at h;simp only [yab,ybO,ybQ] at h;exact ⟨h.1.1,h.1.2,h.2⟩
noncomputable def zvk:Option NameKind->Bool | some .local=>true | some .cell=>true | some .free=>true | _=>false
noncomputable def zcY(nm:Names)(N:List Str)(x:Str):Option Nat:=if zvk (nm.lookup x)&&zhl x then idx N x else none
noncomputable def zcj(nm:Names)(x:Str):Bool:=decide (nm.lookup x=some .globalImplicit)&&zhl x
section
variable{cl:Cf}{G:Genv}{k:Nat}{X:Cx}{nm:Names}{N:List Str}{E:St->XK}
def Gx.slot(g:Gx cl G k X nm N E){x:Str}{i:Nat}(h:zcY nm N x=some i):X.N[i]?=some x/\Vis X.env.scope x/\(x == ("__debug__":Str))=false/\(x == ("__classdict__":Str))=false:=by
 unfold zcY at h;split at h
 ·rename_i hv;rw [yab] at hv;obtain ⟨h1,h2,_⟩:=ze8 hv.2;refine ⟨by rw [g.eN];exact zfn h,?_,h1,h2⟩
  cases hk:nm.lookup x with
  | none=>rw [hk] at hv;exact absurd hv.1 (by decide)
  | some kd =>
   obtain ⟨kd',e,z⟩:=g.vis x kd hk;rw [hk] at hv;unfold Vis;rw [e]
   rcases z with rfl | ⟨_,rfl⟩
   ·cases kd'<;>first | exact .inl rfl | exact .inr (.inl rfl) | exact .inr (.inr rfl) | exact absurd hv.1 (by decide)
   ·exact .inr (.inl rfl)
 ·cases h
def Gx.glob(g:Gx cl G k X nm N E){x:Str}(h:zcj nm x=true):Gl X x/\(x == ("__debug__":Str))=false/\x ≠ "__name__":=by
 unfold zcj at h;rw [yab] at h;obtain ⟨h1,_,h3⟩:=ze8 h.2;obtain ⟨kd',e,z⟩:=g.vis x _ (yau h.1)
 rcases z with rfl | ⟨z,_⟩
 ·exact ⟨e,h1,h3⟩
 ·cases z
end
noncomputable abbrev Rec:=Names->List Str->Expr->Option (Bool×Fe)
noncomputable def okE:Expr->Bool | .Starred _ _=>false | .Set _ _ _=>false | _=>true
def zal{e:Expr}(h:okE e=true):zct e=true:=by cases e<;>first | rfl | cases h
def ze9{e:Expr}{op:CmpOp}(h:okE e=true):behindInMarks op e=false:=by cases e<;>first | rfl | cases h
def zgr{e:Expr}{env:PySem.Env}(h:okE e=true)(v:Value):foldedSetIterable e env v=pure v:=by cases e<;>first | rfl | cases h
noncomputable def zb8:Expr->Bool | .IfExp _ _ _ _=>false | _=>true
noncomputable def zbI(cl:Cf)(G:Genv)(k:Nat)(rc:Rec):Prop:=∀(X:Cx) (nm:Names) (N:List Str) (E:St->XK),Gx cl G k X nm N E->∀(e:Expr) (o:Bool) (f:Fe),rc nm N e=some (o,f) →
 (o=true->PE X e (tN cl E f))/\PE X e (tE cl E f)/\(zb8 e=true->PT X e (tTr cl E f))/\okE e=true
noncomputable def shE(rc:Rec)(nm:Names)(N:List Str)(e:Expr):Option Fe:=(rc nm N e).map (·.2)
noncomputable def opE(rc:Rec)(nm:Names)(N:List Str)(e:Expr):Option Fe:=match e with
 | .Name x _=>(match zcY nm N x with | some i=>some (zah i) | none=>shE rc nm N e)
 | _=>shE rc nm N e
noncomputable def shL(rc:Rec)(nm:Names)(N:List Str):List Expr->Option (List Fe)
 | []=>some []
 | e::es=>(shE rc nm N e).bind fun f=>(shL rc nm N es).bind fun fs=>some (f::fs)
noncomputable def opL(rc:Rec)(nm:Names)(N:List Str):List Expr->Option (List Fe)
 | []=>some []
 | e::es=>(opE rc nm N e).bind fun f=>(opL rc nm N es).bind fun fs=>some (f::fs)
section
variable{cl:Cf}{G:Genv}{k:Nat}{rc:Rec}{X:Cx}{nm:Names}{N:List Str}{E:St->XK}
def zaL(hs:zbI cl G k rc)(g:Gx cl G k X nm N E){e:Expr}{f:Fe}(h:shE rc nm N e=some f):PE X e (tE cl E f)/\(zb8 e=true->PT X e (tTr cl E f))/\okE e=true:=by
 unfold shE at h
 cases hr:rc nm N e with
 | none=>rw [hr] at h;cases h
 | some p =>
  obtain ⟨o,f'⟩:=p;rw [hr] at h;cases h;obtain ⟨_,h2,h3,h4⟩:=hs X nm N E g e o _ hr;exact ⟨h2,h3,h4⟩
def zcp(hs:zbI cl G k rc)(g:Gx cl G k X nm N E){e:Expr}{f:Fe}(h:opE rc nm N e=some f):PE X e (tH cl E f)/\okE e=true:=by
 unfold opE at h;split at h
 ·rename_i x pos;split at h
  ·rename_i i hi;cases h;obtain ⟨h1,h2,h3,h4⟩:=g.slot hi;exact ⟨zrQ h1 h2 h3 h4,rfl⟩
  ·obtain ⟨h1,_,h3⟩:=zaL hs g h;exact ⟨zkI h1,h3⟩
 ·obtain ⟨h1,_,h3⟩:=zaL hs g h;exact ⟨zkI h1,h3⟩
theorem zeX(hs:zbI cl G k rc)(g:Gx cl G k X nm N E):∀{es:List Expr} {fs:List Fe},shL rc nm N es=some fs->PA X es (tAs cl E fs)/\es.all zct=true/\fs.length=es.length
 | [],fs,h=>by cases h;exact ⟨zet,rfl,rfl⟩
 | e::es,fs,h=>by
  unfold shL at h
  cases h1:shE rc nm N e with
  | none=>rw [h1] at h;cases h
  | some f =>
   rw [h1] at h
   cases h2:shL rc nm N es with
   | none=>rw [h2] at h;cases h
   | some fs' =>
    rw [h2] at h;cases h;obtain ⟨a1,_,a3⟩:=zaL hs g h1;obtain ⟨b1,b2,b3⟩:=zeX hs g h2;exact ⟨zby a1 b1 (za9 (zal a3)),by rw [ybH,zal a3,b2];rfl,by rw [yai,yai,b3]⟩
theorem zom(hs:zbI cl G k rc)(g:Gx cl G k X nm N E):∀{es:List Expr} {fs:List Fe},opL rc nm N es=some fs->PA X es (tHs cl E fs)/\es.all zct=true/\fs.length=es.length
 | [],fs,h=>by cases h;exact ⟨zoe,rfl,rfl⟩
 | e::es,fs,h=>by
  unfold opL at h
  cases h1:opE rc nm N e with
  | none=>rw [h1] at h;cases h
  | some f =>
   rw [h1] at h
   cases h2:opL rc nm N es with
   | none=>rw [h2] at h;cases h
   | some fs' =>
    rw [h2] at h;cases h;obtain ⟨a1,a3⟩:=zcp hs g h1;obtain ⟨b1,b2,b3⟩:=zom hs g h2;exact ⟨zkE a1 b1 (za9 (zal a3)),by rw [ybH,zal a3,b2];rfl,by rw [yai,yai,b3]⟩
end
noncomputable def zxy:Const->Option D
 | .int i=>some (.int i)
 | .bool b=>some (.bl b)
 | .none=>some .non
 | .str x=>some (.str x)
 | _=>none
noncomputable def zvC:Operator->Option (D->D->Option D)
 | .Add=>some zb7 | .Sub=>some zqM | .Mult=>some zea | .Mod=>some zkh | .FloorDiv=>some zti | _=>none
noncomputable def zlI:Expr->Bool | .Constant .none _ _=>true | _=>false
noncomputable def zlJ:Expr->Bool | .Constant (.bool _) _ _=>true | _=>false
noncomputable def ltD:=zqO fun i j=>decide (i<j)
noncomputable def leD:=zqO fun i j=>decide (i<=j)
noncomputable def gtD:=zqO fun i j=>decide (j<i)
noncomputable def geD:=zqO fun i j=>decide (j<=i)
noncomputable def ztk:CmpOp->Expr->Option (D->D->Option D)
 | .Eq,_=>some eqD | .NotEq,_=>some neD | .Lt,_=>some ltD | .LtE,_=>some leD | .Gt,_=>some gtD | .GtE,_=>some geD | .In,_=>some inD | .NotIn,_=>some zlh
 | .Is,b=>if zlI b then some zmv else if zlJ b then some ztV else none
 | .IsNot,b=>if zlI b then some zhn else if zlJ b then some znh else none
noncomputable def zkd(rc:Rec)(nm:Names)(N:List Str)(op:BoolOp):List Expr->Option Fe
 | []=>none
 | [a]=>if zb8 a then shE rc nm N a else none
 | a::b::r=>if zb8 a then (shE rc nm N a).bind fun f=>(zkd rc nm N op (b::r)).bind fun h=>some (match op with | .And=>zfI f h | .Or=>eOr f h) else none
structure BI where
 g:List D->Option D
 nw:Bool
noncomputable def zmf(x:Str):Option BI :=
 if x = "len" then some ⟨zei,false⟩
 else if x = "all" then some ⟨zqQ,false⟩
 else if x = "sum" then some ⟨zmG,false⟩
 else if x = "tuple" then some ⟨zbl,false⟩
 else if x = "list" then some ⟨zjR,true⟩
 else if x = "min" then some ⟨zgw,false⟩
 else none
noncomputable def zra(x:Str):Option String:=if x = "int" then some "int" else if x = "bool" then some "bool" else if x = "tuple" then some "tuple" else if x = "str" then some "str" else if x = "list" then some "list" else none
noncomputable def zvA(G:Genv)(t:Str):Bool:=if t = "ValueError" then G.blt t else G.exc t
noncomputable def zqy(G:Genv)(rc:Rec)(nm:Names)(N:List Str)(x:Str)(args:List Expr):Option (Bool×Fe) :=
 if zcj nm x then
  match G.fn x with
  | some fi=>if args.length=fi.ar then (shL rc nm N args).bind fun fs=>some (fi.own,eFn fi.run fs) else none
  | none=>if G.blt x then
    (if x = "isinstance" then (match args with
     | [a,.Name t _]=>if zcj nm t&&G.blt t&&(zra t).isSome then (zra t).bind fun T=>(opE rc nm N a).bind fun f=>some (false,eUn (zeI T) f)
      else if zcj nm t&&zvA G t then (opE rc nm N a).bind fun f=>some (false,eUn (zlG G.isx t) f) else none
     | _=>none)
    else match args with
     | []=>none
     | _::_=>(zmf x).bind fun bi=>(opL rc nm N args).bind fun fs=>some (bi.nw,zaz bi.g fs)) else none
 else none
noncomputable def zov:Expr->Bool | .Tuple _ _ _=>true | _=>false
noncomputable def zjT(G:Genv)(rc:Rec)(nm:Names)(N:List Str)(tg e:Expr):Option Fi:=match e with
 | .Call (.Name x p) args [] pos=>if x = "range" then (if zcj nm x&&G.blt x then (match args with
   | [a]=>(shE rc nm N a).bind fun f=>some (zcU f)
   | [a,b]=>(shE rc nm N a).bind fun f=>(shE rc nm N b).bind fun h=>some (zl0 f h)
   | [a,b,c]=>(shE rc nm N a).bind fun f=>(shE rc nm N b).bind fun h=>(shE rc nm N c).bind fun g=>some (zj0 f h g)
   | _=>none) else none)
  else if x = "enumerate" then (if zcj nm x&&G.blt x&&zov tg then (match args with
   | [a]=>(shE rc nm N a).bind fun f=>some (zj2 f)
   | _=>none) else none)
  else if x = "zip" then (if zcj nm x&&G.blt x&&zov tg then (match args with
   | [a,b]=>(shE rc nm N a).bind fun f=>(shE rc nm N b).bind fun h=>some (zth f h)
   | [a,b,c]=>(shE rc nm N a).bind fun f=>(shE rc nm N b).bind fun h=>(shE rc nm N c).bind fun g=>some (zjZ f h g)
   | _=>none) else none)
  else (shE rc nm N e).map za3
 | _=>(shE rc nm N e).map za3
noncomputable def zuD:Expr->Option (Str×Expr×Pos×Pos) | .Call (.Name y p) [a] [] q=>some (y,a,p,q) | _=>none
noncomputable def spA:List Expr->Option (Str×Expr×Pos×Pos) | [e]=>zuD e | _=>none
def zrz{args:List Expr}{c:Str×Expr×Pos×Pos}(h:spA args=some c):args=[.Call (.Name c.1 c.2.2.1) [c.2.1] [] c.2.2.2]:=by
 match args,h with
 | [e],h =>
  have h':zuD e=some c:=h;unfold zuD at h';split at h'
  ·cases h';rfl
  ·cases h'
noncomputable def spG(G:Genv)(rc:Rec)(nm:Names)(N:List Str)(x:Str)(args:List Expr):Option (Bool×Fe):=(spA args).bind fun c =>
 if decide (x = "list")&&decide (c.1 = "range")&&zcj nm "list" && G.blt "list" && zcj nm "range" && G.blt "range" then (shE rc nm N c.2.1).map fun f=>(true,eUn lrD f)
 else none
section
variable{cl:Cf}{G:Genv}{k:Nat}{rc:Rec}{X:Cx}{nm:Names}{N:List Str}{E:St->XK}
theorem Gx.units(g:Gx cl G k X nm N E):X.A.units+64<cLine:=g.room.units
def zoH{op:Operator}{gg:D->D->Option D}(h:zvC op=some gg):OpD X cl (binaryOp op) gg:=by
 cases op<;>simp [zvC] at h<;>subst h
 ·exact zsA
 ·exact zst
 ·exact zsv
 ·exact zsw
 ·exact zsz
def zf3(g:Gx cl G k X nm N E){op:CmpOp}{b:Expr}{gg:D->D->Option D}(h:ztk op b=some gg):OpD X cl (compareOp op) gg:=by
 cases op<;>simp only [ztk] at h
 ·cases h;exact zu0 g.kk g.units
 ·cases h;exact zuY g.kk g.units
 ·cases h;exact zgt zuU
 ·cases h;exact zgt zuV
 ·cases h;exact zgt zuW
 ·cases h;exact zgt zuX
 ·split at h
  ·cases h;exact zsx
  ·split at h
   ·cases h;exact zsy
   ·cases h
 ·split at h
  ·cases h;exact zpM
  ·split at h
   ·cases h;exact zpN
   ·cases h
 ·cases h;exact zuZ g.kk g.units
 ·cases h;exact zsu g.kk g.units
theorem zme(hs:zbI cl G k rc)(g:Gx cl G k X nm N E){op:BoolOp}{pos:Pos}:∀{es:List Expr} {f:Fe},zkd rc nm N op es=some f->PE X (.BoolOp op es pos) (tE cl E f)/\PW X (.BoolOp op es pos) (tTr cl E f)
 | [],f,h=>by cases h
 | [a],f,h=>by
  unfold zkd at h;split at h
  ·rename_i ht;obtain ⟨h1,h2,_⟩:=zaL hs g h;refine ⟨zsd h1,?_⟩
   cases op with
   | And=>exact zpq (h2 ht)
   | Or=>exact zr0 (h2 ht)
  ·cases h
 | a::b::r,f,h=>by
  unfold zkd at h;split at h
  ·rename_i ht
   cases h1:shE rc nm N a with
   | none=>rw [h1] at h;cases h
   | some fa =>
    rw [h1] at h
    cases h2:zkd rc nm N op (b::r) with
    | none=>rw [h2] at h;cases h
    | some fb =>
     rw [h2] at h;obtain ⟨a1,a2,_⟩:=zaL hs g h1;obtain ⟨b1,b2⟩:=zme hs g (pos:=pos) h2
     cases op with
     | And=>cases h;exact ⟨zrR a1 b1,zrl (a2 ht) b2⟩
     | Or=>cases h;exact ⟨zuG a1 b1,zuy (a2 ht) b2⟩
  ·cases h
def zn1:bootBuiltins "all" = some (.builtin "all"):=by decide +kernel
def zf5:bootBuiltins "tuple" = some (.type "tuple"):=by decide +kernel
def zhK:bootBuiltins "list" = some (.type "list"):=by decide +kernel
def zn0:bootBuiltins "int" = some (.type "int"):=by decide +kernel
def zmd:bootBuiltins "bool" = some (.type "bool"):=by decide +kernel
def ztX:bootBuiltins "max" = some (.builtin "max"):=by decide +kernel
def znZ:bootBuiltins "min" = some (.builtin "min"):=by decide +kernel
def ztY:bootBuiltins "abs" = some (.builtin "abs"):=by decide +kernel
def znY:bootBuiltins "str" = some (.type "str"):=by decide +kernel
def ztt(g:Gx cl G k X nm N E){x:Str}{bi:BI}{e:Expr}{es:List Expr}{fs:List Fe}{p pos:Pos}(h:zmf x=some bi)(hg:zcj nm x=true)(hb:G.blt x=true)(ha:PA X (e::es) (tHs cl E fs))(hp:(e::es).all zct=true) :
  (bi.nw=true->PE X (.Call (.Name x p) (e::es) [] pos) (tN cl E (zaz bi.g fs)))/\PE X (.Call (.Name x p) (e::es) [] pos) (tE cl E (zaz bi.g fs)):=by
 obtain ⟨g1,g2,g3⟩:=g.glob hg;have m:=g.gok.blt x hb;rw [ybH,yab] at hp;have st:=za9 (es:=es) (env:=X.env) hp.1;have pl:=zbb (pos:=pos) (env:=X.env) hp.2
 have D1:∀{id:String} {gg:List D->Option D},zhU X cl (.builtin id) gg->bootBuiltins x=some (.builtin id)->PE X (.Call (.Name x p) (e::es) [] pos) (tE cl E (zaz gg fs)):=fun hc hv =>
  PE.imp (zgq hc g1 m hv ha g3 g2 st pl) fun _ _ _ q=>zrh (fun _ _ _ z=>z) q
 have D2:∀{T:String} {gg:List D->Option D},zhU X cl (.type T) gg->bootBuiltins x=some (.type T)->PE X (.Call (.Name x p) (e::es) [] pos) (tE cl E (zaz gg fs)):=fun hc hv =>
  PE.imp (ze6 hc g1 m hv ha g3 g2 st pl) fun _ _ _ q=>zrh (fun _ _ _ z=>z) q
 have N2:∀{T:String} {gg:List D->Option D},ztE X cl (.type T) gg->bootBuiltins x=some (.type T)->PE X (.Call (.Name x p) (e::es) [] pos) (tN cl E (zaz gg fs)):=fun hc hv =>
  PE.imp (ze6 hc g1 m hv ha g3 g2 st pl) fun _ _ _ q=>zuw (fun _ _ _ z=>z) q
 unfold zmf at h;split at h
 ·rename_i e';cases h;exact ⟨(fun z=>absurd z (by decide)),D1 (zto g.kk) (by rw [e'];exact PySem.boot_len)⟩
 split at h
 ·rename_i e';cases h;exact ⟨(fun z=>absurd z (by decide)),D1 (ztp g.calm) (by rw [e'];exact zn1)⟩
 split at h
 ·rename_i e';cases h;exact ⟨(fun z=>absurd z (by decide)),D1 (ztm g.calm) (by rw [e'];exact PyProof.Rows.boot_sum)⟩
 split at h
 ·rename_i e';cases h;exact ⟨(fun z=>absurd z (by decide)),D2 znV (by rw [e'];exact zf5)⟩
 split at h
 ·rename_i e';cases h;have n:=N2 zqu (by rw [e'];exact zhK);exact ⟨fun _=>n,zdu n⟩
 split at h
 ·rename_i e';cases h;exact ⟨(fun z=>absurd z (by decide)),D1 (zqv g.calm) (by rw [e'];exact znZ)⟩
 ·cases h
def zuf{t:Str}{T:String}(h:zra t=some T):bootBuiltins t=some (.type T):=by
 unfold zra at h;split at h
 ·rename_i e;cases h;rw [e];exact zn0
 split at h
 ·rename_i e;cases h;rw [e];exact zmd
 split at h
 ·rename_i e;cases h;rw [e];exact zf5
 split at h
 ·rename_i e;cases h;rw [e];exact znY
 split at h
 ·rename_i e;cases h;rw [e];exact zhK
 ·cases h
def zqx(hs:zbI cl G k rc)(g:Gx cl G k X nm N E){x:Str}{args:List Expr}{o:Bool}{f:Fe}{p pos:Pos}(h:zqy G rc nm N x args=some (o,f)) :
  (o=true->PE X (.Call (.Name x p) args [] pos) (tN cl E f))/\PE X (.Call (.Name x p) args [] pos) (tE cl E f):=by
 unfold zqy at h;split at h
 ·rename_i hg;obtain ⟨g1,g2,g3⟩:=g.glob hg;split at h
  ·rename_i fi hfi;split at h
   ·rename_i hl;obtain ⟨fa,fd,ps,m1,m2,m3,m4⟩:=g.gok.fn x fi hfi
    cases h1:shL rc nm N args with
    | none=>rw [h1] at h;cases h
    | some fs =>
     rw [h1] at h;cases h;obtain ⟨a1,a2,a3⟩:=zeX hs g h1;have hlen:fs.length=fi.ar:=a3.trans hl
     have main:PE X (.Call (.Name x p) args [] pos) (zgX (zg0 cl fi.ar fi.own fi.run) [] E (tAs cl E fs)):=by
      cases args with
      | nil =>
       cases h1;refine PE.imp (zk8 m4 g.room g1 m1 m2 m3 .nil g.pass g2) ?_;rintro σ H Q ⟨B,w,ρ,S,rfl,R,q⟩;exact q [] w R (Fut.refl _) .nil
      | cons e es =>
       rw [ybH,yab] at a2;exact znb m4 g.room g1 m1 m2 m3 .nil g.pass a1 g2 (za9 a2.1) (zbb a2.2)
     cases ho:fi.own with
     | false =>
      rw [ho] at main;exact ⟨(fun z=>by cases z),PE.imp main fun _ _ _ q=>zts q hlen⟩
     | true =>
      rw [ho] at main;have n:PE X (.Call (.Name x p) args [] pos) (tN cl E (eFn fi.run fs)):=PE.imp main fun _ _ _ q=>ztr q hlen
      exact ⟨fun _=>n,zdu n⟩
   ·cases h
  ·split at h
   ·rename_i hb;split at h
    ·rename_i hx;subst hx;split at h
     ·rename_i a t p2;split at h
      ·rename_i ht;rw [yab,yab] at ht;replace ht:=ht.1
       cases hT:zra t with
       | none=>rw [hT] at h;cases h
       | some T =>
        rw [hT] at h
        cases h1:opE rc nm N a with
        | none=>rw [h1] at h;cases h
        | some fa =>
         rw [h1] at h;cases h;obtain ⟨t1,t2,t3⟩:=g.glob ht.1;obtain ⟨a1,a2⟩:=zcp hs g h1;exact ⟨(fun z=>by cases z),zpi g1 (g.gok.blt _ hb) t1 (g.gok.blt _ ht.2) (zuf hT) t3 t2 (zal a2) a1⟩
      ·split at h
       ·rename_i ht;rw [yab] at ht
        cases h1:opE rc nm N a with
        | none=>rw [h1] at h;cases h
        | some fa =>
         rw [h1] at h;cases h;obtain ⟨t1,t2,t3⟩:=g.glob ht.1;obtain ⟨a1,a2⟩:=zcp hs g h1;refine ⟨(fun z=>by cases z),?_⟩
         by_cases hv:t = "ValueError"
         ·subst hv
          have ht2:G.blt "ValueError" = true:=by simpa [zvA] using ht.2
          exact zof (vC:=.ty "ValueError") g1 (g.gok.blt _ hb) (zk9 t1 (g.gok.blt _ ht2) zkb rfl t3 t2) (fun u r=>by rw [show u=Value.type "ValueError" from r];rfl) (fun c b hc=>g.gok.isx c _ b hc) (zal a2) a1
         ·have ht2:G.exc t=true:=by simpa [zvA,hv] using ht.2
          exact zof (vC:=.ref (cl t)) g1 (g.gok.blt _ hb) (zk6 t1 (g.gok.exc t ht2).1 rfl t2) (fun u r=>by rw [show u=Value.ref (cl t) from r];unfold ztl;rw [if_neg hv]) (fun c b hc=>g.gok.isx c _ b hc) (zal a2) a1
       ·cases h
     ·cases h
    ·split at h
     ·cases h
     ·rename_i e es
      cases h2:zmf x with
      | none=>rw [h2] at h;cases h
      | some bi =>
       rw [h2] at h
       cases h1:opL rc nm N (e::es) with
       | none=>rw [h1] at h;cases h
       | some fs =>
        rw [h1] at h;cases h;obtain ⟨a1,a2,_⟩:=zom hs g h1;exact ztt g h2 hg hb a1 a2
   ·cases h
 ·cases h
def zlF(hs:zbI cl G k rc)(g:Gx cl G k X nm N E){e tg:Expr}{fi:Fi}(h:zjT G rc nm N tg e=some fi):PI X tg e (tI cl E fi)/\okE e=true:=by
 have gen:∀{e:Expr},(shE rc nm N e).map za3=some fi->PI X tg e (tI cl E fi)/\okE e=true:=fun {e} h=>by
  cases h1:shE rc nm N e with
  | none=>rw [h1] at h;cases h
  | some f =>
   rw [h1] at h;cases h;obtain ⟨a1,_,a3⟩:=zaL hs g h1;exact ⟨zrD g.kk a1,a3⟩
 unfold zjT at h;split at h
 ·rename_i x p args pos;split at h
  ·rename_i hx;subst hx;split at h
   ·rename_i hb;rw [yab] at hb;obtain ⟨g1,_,_⟩:=g.glob hb.1;have m:=g.gok.blt _ hb.2;split at h
    ·rename_i a
     cases h1:shE rc nm N a with
     | none=>rw [h1] at h;cases h
     | some f =>
      rw [h1] at h;cases h;obtain ⟨a1,_,a3⟩:=zaL hs g h1;exact ⟨zpc g1 m (zby a1 zet (za9 (zal a3))) (za9 (zal a3)),rfl⟩
    ·rename_i a b
     cases h1:shE rc nm N a with
     | none=>rw [h1] at h;cases h
     | some f =>
      rw [h1] at h
      cases h2:shE rc nm N b with
      | none=>rw [h2] at h;cases h
      | some f2 =>
       rw [h2] at h;cases h;obtain ⟨a1,_,a3⟩:=zaL hs g h1;obtain ⟨b1,_,b3⟩:=zaL hs g h2;have s1:=za9 (es:=[b]) (env:=X.env) (zal a3);have s2:=za9 (es:=[]) (env:=X.env) (zal b3);exact ⟨zpb g1 m (zby a1 (zby b1 zet s2) s1) (by rw [s1,s2];rfl) s2,rfl⟩
    ·rename_i a b c
     cases h1:shE rc nm N a with
     | none=>rw [h1] at h;cases h
     | some f =>
      rw [h1] at h
      cases h2:shE rc nm N b with
      | none=>rw [h2] at h;cases h
      | some f2 =>
       rw [h2] at h
       cases h3:shE rc nm N c with
       | none=>rw [h3] at h;cases h
       | some f3 =>
        rw [h3] at h;cases h;obtain ⟨a1,_,a3⟩:=zaL hs g h1;obtain ⟨b1,_,b3⟩:=zaL hs g h2;obtain ⟨c1,_,c3⟩:=zaL hs g h3;have s1:=za9 (es:=[b,c]) (env:=X.env) (zal a3);have s2:=za9 (es:=[c]) (env:=X.env) (zal b3);have s3:=za9 (es:=[]) (env:=X.env) (zal c3);exact ⟨zpa g1 m (zby a1 (zby b1 (zby c1 zet s3) s2) s1) s1 (zbb (by simp [zal b3,zal c3])),rfl⟩
    ·cases h
   ·cases h
  split at h
  ·rename_i hx;subst hx;split at h
   ·rename_i hb;rw [yab,yab] at hb;obtain ⟨g1,_,_⟩:=g.glob hb.1.1;have m:=g.gok.blt _ hb.1.2;split at h
    ·rename_i a
     cases h1:shE rc nm N a with
     | none=>rw [h1] at h;cases h
     | some f =>
      rw [h1] at h;cases h;obtain ⟨a1,_,a3⟩:=zaL hs g h1
      cases tg with
      | Tuple es kk tp=>exact ⟨zpd g1 m (zby a1 zet (za9 (zal a3))) (za9 (zal a3)),rfl⟩
      | _=>cases hb.2
    ·cases h
   ·cases h
  split at h
  ·rename_i hx;subst hx;split at h
   ·rename_i hb;rw [yab,yab] at hb;obtain ⟨g1,_,_⟩:=g.glob hb.1.1;have m:=g.gok.blt _ hb.1.2;split at h
    ·rename_i a b
     cases h1:shE rc nm N a with
     | none=>rw [h1] at h;cases h
     | some f =>
      rw [h1] at h
      cases h2:shE rc nm N b with
      | none=>rw [h2] at h;cases h
      | some f2 =>
       rw [h2] at h;cases h;obtain ⟨a1,_,a3⟩:=zaL hs g h1;obtain ⟨b1,_,b3⟩:=zaL hs g h2;have s1:=za9 (es:=[b]) (env:=X.env) (zal a3);have s2:=za9 (es:=[]) (env:=X.env) (zal b3)
       cases tg with
       | Tuple es kk tp=>exact ⟨zrB g1 m (zby a1 (zby b1 zet s2) s1) s1 (zbb (by simp [zal b3])),rfl⟩
       | _=>cases hb.2
    ·rename_i a b c
     cases h1:shE rc nm N a with
     | none=>rw [h1] at h;cases h
     | some f =>
     rw [h1] at h
     cases h2:shE rc nm N b with
     | none=>rw [h2] at h;cases h
     | some f2 =>
     rw [h2] at h
     cases h3:shE rc nm N c with
     | none=>rw [h3] at h;cases h
     | some f3 =>
     rw [h3] at h;cases h;obtain ⟨a1,_,a3⟩:=zaL hs g h1;obtain ⟨b1,_,b3⟩:=zaL hs g h2;obtain ⟨c1,_,c3⟩:=zaL hs g h3;have s1:=za9 (es:=[b,c]) (env:=X.env) (zal a3);have s2:=za9 (es:=[c]) (env:=X.env) (zal b3);have s3:=za9 (es:=[]) (env:=X.env) (zal c3)
     cases tg with
     | Tuple es kk tp=>exact ⟨zo9 g1 m (zby a1 (zby b1 (zby c1 zet s3) s2) s1) s1 (zbb (by simp [zal b3,zal c3])),rfl⟩
     | _=>cases hb.2
    ·cases h
   ·cases h
  ·exact gen h
 ·exact gen h
def zuC(hs:zbI cl G k rc)(g:Gx cl G k X nm N E){x:Str}{args:List Expr}{p pos:Pos}{o:Bool}{f:Fe}(h:spG G rc nm N x args=some (o,f)):(o=true->PE X (.Call (.Name x p) args [] pos) (tN cl E f))/\PE X (.Call (.Name x p) args [] pos) (tE cl E f):=by
 unfold spG at h
 cases hc:spA args with
 | none=>rw [hc] at h;cases h
 | some c =>
 rw [hc] at h;obtain rfl:=zrz hc;obtain ⟨y,a,p2,pos2⟩:=c;dsimp only [Option.bind] at h ⊢;clear hc;split at h
 ·rename_i hb;simp only [yab,ybw] at hb;obtain ⟨⟨⟨⟨⟨rfl,rfl⟩,b1⟩,b2⟩,b3⟩,b4⟩:=hb;obtain ⟨g1,_,_⟩:=g.glob b1;obtain ⟨g2,_,_⟩:=g.glob b3
  cases h1:shE rc nm N a with
  | none=>rw [h1] at h;cases h
  | some fa =>
   rw [h1] at h;cases h;obtain ⟨a1,_,a3⟩:=zaL hs g h1;have n:=zuH (p:=p) (p2:=p2) (pos:=pos) (pos2:=pos2) g.calm g1 (g.gok.blt _ b2) g2 (g.gok.blt _ b4) a1 (za9 (zal a3));exact ⟨fun _=>n,zdu n⟩
 ·cases h
noncomputable def zoh:Expr->Bool | .Name _ _=>true | .Call (.Name _ _) (_::_) _ _=>true | .Attribute (.Name _ _) _ _=>true | _=>false
noncomputable def zpS(G:Genv)(rc:Rec)(nm:Names)(N:List Str)(o:Expr)(m:Str)(ap cp:Pos)(args:List Expr)(kws:List Keyword):Option (Bool×Fe) :=
 if kws.isEmpty&&zoh o&&(ap.endLine == cp.line)&&decide (args.length<30) then (G.ob.mt m).bind fun c=>if args.length+1=c.2.ar then (shE rc nm N o).bind fun fo=>(shL rc nm N args).bind fun fs=>some (c.2.own,zbF c.1 m c.2.run fo fs) else none else none
noncomputable def mkG(G:Genv)(rc:Rec)(nm:Names)(N:List Str)(x:Str)(args:List Expr):Option (Bool×Fe) :=
 if zcj nm x&&!args.isEmpty then (G.ob.mks x).bind fun c=>(shL rc nm N args).bind fun fs =>
  if args.length+1=c.2.ar then some (false,eMk x [] c.2.run fs) else if args.length+c.1.length+1=c.2.ar then some (false,eMk x c.1 c.2.run fs) else none
 else none
noncomputable def zgz:Expr->Bool | .Name _ _=>true | _=>false
noncomputable def zvu(G:Genv)(rc:Rec)(nm:Names)(N:List Str)(o:Expr)(f:Str):Option (Bool×Fe):=if zgz o&&!G.ob.df f&&G.ob.fk G.ob.cur f then (shE rc nm N o).map fun fo=>(false,zd4 G.ob.cur f fo) else none
noncomputable def zvD:Expr->Option (Expr×Str×Pos) | .Attribute o m p=>some (o,m,p) | _=>none
def zmj{e:Expr}{x:Expr×Str×Pos}(h:zvD e=some x):e=.Attribute x.1 x.2.1 x.2.2:=by cases e<;>first | (cases h;done) | (cases h;rfl)
noncomputable def nmF:Expr->Option (Str×Pos) | .Name x p=>some (x,p) | _=>none
def zi1{e:Expr}{x:Str×Pos}(h:nmF e=some x):e=.Name x.1 x.2:=by cases e<;>first | (cases h;done) | (cases h;rfl)
noncomputable def zow:List CmpOp->Bool | [.NotIn]=>true | _=>false
noncomputable def zwy:List Expr->Option Expr | [a]=>some a | _=>none
noncomputable def zu1(G:Genv)(rc:Rec)(nm:Names)(N:List Str)(a:Expr)(ops:List CmpOp)(bs:List Expr):Option (Bool×Fe) :=
 if zow ops then (zwy bs).bind fun b=>(zvD b).bind fun t=>if zgz t.1&&G.ob.df t.2.1&&G.ob.fk G.ob.cur t.2.1 then (shE rc nm N a).bind fun fa=>(shE rc nm N t.1).bind fun fo=>some (false,zoA G.ob.cur t.2.1 fa fo) else none else none
noncomputable def zvr(G:Genv)(rc:Rec)(nm:Names)(N:List Str)(a i:Expr):Option (Bool×Fe) :=
 (zvD a).bind fun t=>if zgz t.1&&G.ob.df t.2.1&&G.ob.fk G.ob.cur t.2.1 then (nmF i).bind fun x=>(zcY nm N x.1).bind fun j=>(shE rc nm N t.1).bind fun fo=>some (false,zj1 G.ob.cur t.2.1 fo j) else none
def Gx.same(g:Gx cl G k X nm N E):Same' cl X:=⟨g.kk,g.pp,g.ww⟩
def Gx.u16(g:Gx cl G k X nm N E):X.A.units+16<cLine:=ycU (Nat.add_le_add_left (by decide) _) g.units
def zaH{α β:Type}{o:Option α}{f:α->Option β}{b:β}(h:o.bind f=some b):∃a,o=some a/\f a=some b:=by
 cases o with
 | none=>cases h
 | some a=>exact ⟨a,rfl,h⟩
def ztd(hs:zbI cl G k rc)(g:Gx cl G k X nm N E){o:Expr}{f:Str}{pos:Pos}{w:Bool}{fe:Fe}(h:zvu G rc nm N o f=some (w,fe)):w=false/\PE X (.Attribute o f pos) (tE cl E fe):=by
 unfold zvu at h;split at h
 ·rename_i hc;rw [yab,yab] at hc
  cases h1:shE rc nm N o with
  | none=>rw [h1] at h;cases h
  | some fo =>
   rw [h1] at h;cases h;refine ⟨rfl,zrO (g.gok.fk _ _ hc.2) g.kk (zaL hs g h1).1 ?_⟩
   cases o<;>first | rfl | cases hc.1.1
 ·cases h
def zsC(hs:zbI cl G k rc)(g:Gx cl G k X nm N E){a:Expr}{ops:List CmpOp}{bs:List Expr}{pos:Pos}{w:Bool}{fe:Fe}(h:zu1 G rc nm N a ops bs=some (w,fe)):w=false/\PE X (.Compare a ops bs pos) (tE cl E fe)/\PT X (.Compare a ops bs pos) (tTr cl E fe):=by
 unfold zu1 at h;split at h
 ·rename_i hn
  have eo:ops=[.NotIn]:=by
   unfold zow at hn;split at hn
   ·rfl
   ·cases hn
  subst eo;obtain ⟨b,h1,hz⟩:=zaH h;obtain ⟨t,h2,hy⟩:=zaH hz
  have eb:bs=[b]:=by
   unfold zwy at h1;split at h1
   ·cases h1;rfl
   ·cases h1
  have e2:=zmj h2;clear h hz h1 h2;subst eb;subst e2;obtain ⟨o,f,ap⟩:=t;dsimp only at hy ⊢;split at hy
  ·rename_i hc;rw [yab,yab] at hc;obtain ⟨fa,h3,hy⟩:=zaH hy;obtain ⟨fo,h4,hy⟩:=zaH hy;cases hy
   have hb:attributeBase o f X.env (eval o X.env)=eval o X.env:=by cases o<;>first | rfl | cases hc.1.1
   exact ⟨rfl,zrL g.u16 g.same (g.gok.fk _ _ hc.2) (zaL hs g h3).1 (zaL hs g h4).1 hb rfl,zrp g.u16 g.same (g.gok.fk _ _ hc.2) (zaL hs g h3).1 (zaL hs g h4).1 hb rfl⟩
  ·cases hy
 ·cases h
def zta(hs:zbI cl G k rc)(g:Gx cl G k X nm N E){a i:Expr}{pos:Pos}{w:Bool}{fe:Fe}(h:zvr G rc nm N a i=some (w,fe)):w=false/\PE X (.Subscript a i pos) (tE cl E fe):=by
 unfold zvr at h;obtain ⟨t,h2,hz⟩:=zaH h;have e2:=zmj h2;clear h h2;subst e2;obtain ⟨o,f,ap⟩:=t;dsimp only at hz ⊢;split at hz
 ·rename_i hc;rw [yab,yab] at hc;obtain ⟨x,h3,hz⟩:=zaH hz;obtain ⟨j,h4,hz⟩:=zaH hz;obtain ⟨fo,h5,hz⟩:=zaH hz;cases hz;have e3:=zi1 h3;clear h3;subst e3;obtain ⟨s1,s2,s3,s4⟩:=g.slot h4;refine ⟨rfl,zpj s1 s2 s3 s4 g.u16 g.same (g.gok.fk _ _ hc.2) (zaL hs g h5).1 ?_ (fun _ _=>rfl)⟩
  cases o<;>first | rfl | cases hc.1.1
 ·cases hz
def zy9{pos:Pos}{env:PySem.Env}{args:List Expr}(hp:args.all zct=true)(hl:args.length<30):methodCallForm (args.length+0) (backTo pos (starEach args env)) (backToKw pos (keywordEach [] env))=true:=by
 have h:=zbb (pos:=pos) (env:=env) hp;unfold methodCallForm
 have h1:(backTo pos (starEach args env)).all (!·.1)=true:=by
  rw [List.all_eq_not_any_not];simpa using h
 rw [h1];show (true&&true&&decide (args.length+0+0<30))=true;rw [yaB (by omega)];rfl
def zln{o:Expr}{m:Str}{ap pos:Pos}{env:PySem.Env}{args:List Expr}(hb:attributeBase o m env (eval o env)=eval o env)(hf:methodCallForm (args.length+0) (backTo pos (starEach args env)) (backToKw pos (keywordEach [] env))=true)(hp:(ap.endLine == pos.line)=true) :
  eval (.Call (.Attribute o m ap) args [] pos) env=(do
   let ov ← eval o env
   standAt ap.atName
   let (f,first) ← holding [ov] (getMethod ov m (do return (← importBound o env).getD true))
   callWith pos f first (backTo pos (starEach args env)) (backToKw pos (keywordEach [] env))):=by
 show (do
  let ov ← attributeBase o m env (eval o env)
  standAt ap.atName
  methodCall o m ap pos env ov (args.length+0) (backTo pos (starEach args env)) (backToKw pos (keywordEach [] env)))=_
 rw [hb]
 have e:∀ov,methodCall o m ap pos env ov (args.length+0) (backTo pos (starEach args env)) (backToKw pos (keywordEach [] env))=(do
   let (f,first) ← holding [ov] (getMethod ov m (do return (← importBound o env).getD true))
   callWith pos f first (backTo pos (starEach args env)) (backToKw pos (keywordEach [] env))):=fun ov=>by
  unfold methodCall calleeOf methodCallPos;rw [hf,hp];rfl
 simp only [e]
def zpR(hs:zbI cl G k rc)(g:Gx cl G k X nm N E){o:Expr}{m:Str}{args:List Expr}{kws:List Keyword}{ap pos:Pos}{w:Bool}{fe:Fe}(h:zpS G rc nm N o m ap pos args kws=some (w,fe)):(w=true->PE X (.Call (.Attribute o m ap) args kws pos) (tN cl E fe))/\PE X (.Call (.Attribute o m ap) args kws pos) (tE cl E fe):=by
 unfold zpS at h;split at h
 ·rename_i hc;simp only [yab,ybw] at hc;obtain ⟨⟨⟨z1,z2⟩,z3⟩,z4⟩:=hc;obtain rfl:=ybf.mp z1;obtain ⟨⟨c,fi⟩,h1,h⟩:=zaH h;dsimp only at h;split at h
  ·rename_i hl;obtain ⟨fo,h2,h⟩:=zaH h;obtain ⟨fs,h3,h⟩:=zaH h;cases h;obtain ⟨f,fd,ps,c1,c2,c3,c4⟩:=g.gok.mt m c fi h1;obtain ⟨a1,a2,a3⟩:=zeX hs g h3
   have hlen:fs.length+1=fi.ar:=by rw [a3];exact hl
   have hb:attributeBase o m X.env (eval o X.env)=eval o X.env:=by
    unfold zoh at z2
    split at z2<;>first | rfl | cases z2
   have ht:=zln (ap:=ap) hb (zy9 (pos:=pos) a2 z4) z3
   have main:PE X (.Call (.Attribute o m ap) args [] pos) (zgW (cl c) m (zg0 cl fi.ar fi.own fi.run) [] E (tE cl E fo) (tAs cl E fs)):=by
    cases args with
    | nil =>
     cases h3;refine PE.imp (zk5 (zaL hs g h2).1 c1 c2 c4 g.room c3 .nil g.pass ht) ?_;rintro σ H Q ⟨B,w,ρ,S,rfl,R,q⟩;refine ⟨B,w,ρ,S,rfl,R,?_⟩
     cases hfo:fo ρ S with
     | bad=>rwa [hfo] at q
     | exc c S1=>rwa [hfo] at q
     | ok d S1 =>
      rw [hfo] at q;intro v w1 R1 F1 sh;obtain ⟨a,dx,fs,e1,e2,e3,B',w',ρ',S',e4,R',q⟩:=q v w1 R1 F1 sh;refine ⟨a,dx,fs,e1,e2,e3,?_⟩;have:=q [] w' R' (Fut.refl _) .nil;rwa [e4] at this
    | cons e es =>
     rw [ybH,yab] at a2;exact zm7 (zaL hs g h2).1 c1 c2 c4 g.room c3 .nil g.pass a1 (za9 a2.1) (zbb a2.2) ht
   cases ho:fi.own with
   | false =>
    rw [ho] at main;exact ⟨(fun z=>by cases z),PE.imp main fun _ _ _ q=>zsH q hlen⟩
   | true =>
    rw [ho] at main;have n:=PE.imp main fun _ _ _ q=>zsG q hlen
    exact ⟨fun _=>n,zdu n⟩
  ·cases h
 ·cases h
def zu3(hs:zbI cl G k rc)(g:Gx cl G k X nm N E){x:Str}{args:List Expr}{p pos:Pos}{w:Bool}{fe:Fe}(h:mkG G rc nm N x args=some (w,fe)):w=false/\PE X (.Call (.Name x p) args [] pos) (tE cl E fe):=by
 unfold mkG at h;split at h
 ·rename_i hc;rw [yab] at hc;obtain ⟨⟨dds,fi⟩,h1,h⟩:=zaH h;obtain ⟨fs,h2,h⟩:=zaH h;dsimp only at h;obtain ⟨f,fd,ps,dvs,ds,k',hk,mC,M,B0,BD,vd,sd,F⟩:=g.gok.mks x dds fi h1;obtain ⟨a1,a2,a3⟩:=zeX hs g h2;obtain ⟨g1,g2,g3⟩:=g.glob hc.1
  cases args with
  | nil=>cases hc.2
  | cons e es =>
   rw [ybH,yab] at a2;have hr:Room (k'+1) X.A:=g.room.mono hk;split at h
   ·rename_i hl;cases h;exact ⟨rfl,PE.imp (ziW M F hr g1 mC B0 .nil g.pass a1 g2 (za9 a2.1) (zbb a2.2)) fun _ _ _ q=>zwB (dds:=[]) (fun _=>.nil) q (by rw [a3];exact hl)⟩
   ·split at h
    ·rename_i hl;cases h;exact ⟨rfl,PE.imp (ziW M F hr g1 mC BD vd g.pass a1 g2 (za9 a2.1) (zbb a2.2)) fun _ _ _ q=>zwB sd q (by rw [a3];exact hl)⟩
    ·cases h
 ·cases h
end
end S2
namespace S2
open PySem PySem.Spec PyProof.Rows L2
noncomputable def zsF:Expr->Option Str | .Name x _=>some x | _=>none
noncomputable def zvl(df:Bool):Option NameKind->Bool | some .local=>true | some .cell=>df | _=>false
noncomputable def tgI(df:Bool)(nm:Names)(N:List Str)(n:Nat)(x:Str):Option Nat:=if zvl df (nm.lookup x) then (idx N x).bind fun i=>if i<n then some i else none else none
noncomputable def zqL(df:Bool)(nm:Names)(N:List Str)(n:Nat):List Expr->Option (List Nat)
 | []=>some []
 | .Name x _::es=>(tgI df nm N n x).bind fun i=>(zqL df nm N n es).bind fun is=>some (i::is)
 | _::_=>none
noncomputable def tgG(df:Bool)(nm:Names)(N:List Str)(n:Nat):Expr->Option Tg
 | .Name x _=>(tgI df nm N n x).map .one
 | .Tuple es _ _=>(zqL df nm N n es).map .tup
 | _=>none
structure Sto'(X:Cx)(nm:Names)(df:Bool):Prop where
 fn:df=true->∀x,nm.lookup x=some .cell->X.fn x=true
section
variable{cl:Cf}{G:Genv}{k:Nat}{X:Cx}{nm:Names}{N:List Str}{E:St->XK}{df:Bool}{n:Nat}
def zfL(g:Gx cl G k X nm N E)(sd:Sto' X nm df){x:Str}{i:Nat}(h:tgI df nm N n x=some i):i<n/\X.N.Nodup/\X.N[i]?=some x/\Loc X.env.scope x/\(X.fn x=true\/X.env.scope.names.lookup x=some .local):=by
 unfold tgI at h;split at h
 ·rename_i hl
  cases hi:idx N x with
  | none=>rw [hi] at h;cases h
  | some j =>
   rw [hi] at h;dsimp only [Option.bind] at h;split at h
   ·rename_i hn;cases h;refine ⟨hn,by rw [g.eN];exact g.nd,by rw [g.eN];exact zfn hi,?_,?_⟩
    ·cases hk:nm.lookup x with
     | none=>rw [hk] at hl;cases hl
     | some kd =>
      obtain ⟨kd',e,z⟩:=g.vis x kd hk;rw [hk] at hl;unfold L2.Loc;rw [e]
      rcases z with rfl | ⟨rfl,_⟩
      ·cases kd'<;>first | exact .inl rfl | exact .inr rfl | cases hl
      ·cases hl
    ·cases hk:nm.lookup x with
     | none=>rw [hk] at hl;cases hl
     | some kd =>
      rw [hk] at hl
      cases kd<;>first | exact .inr (g.fnx x hk) | exact .inl (sd.fn hl x hk) | cases hl
   ·cases h
 ·cases h
theorem zkq(g:Gx cl G k X nm N E)(sd:Sto' X nm df):∀{es:List Expr} {is:List Nat},zqL df nm N n es=some is->PGs X es (tGs cl n is)/\(assignEach es X.env).length=is.length/\(assignEach es X.env).findIdx? (·.1)=none
 | [],is,h=>by cases h;exact ⟨zpe,rfl,rfl⟩
 | e::es,is,h=>by
  cases e with
  | Name x pos =>
   unfold zqL at h
   cases h1:tgI df nm N n x with
   | none=>rw [h1] at h;cases h
   | some i =>
    rw [h1] at h
    cases h2:zqL df nm N n es with
    | none=>rw [h2] at h;cases h
    | some is' =>
     rw [h2] at h;cases h;obtain ⟨a1,a2,a3,a4,a5⟩:=zfL g sd h1;obtain ⟨b1,b2,b3⟩:=zkq g sd h2;refine ⟨zmM a1 a2 a3 a4 a5 b1,?_,?_⟩
     ·show (assignEach es X.env).length+1=_;rw [b2];rfl
     ·show ((false,assign (.Name x pos) X.env)::assignEach es X.env).findIdx? (·.1)=none;rw [List.findIdx?_cons];simp [b3]
  | _=>cases h
def zoS(g:Gx cl G k X nm N E)(sd:Sto' X nm df){tg:Expr}{t:Tg}(h:tgG df nm N n tg=some t):PG X tg (tG cl n t):=by
 unfold tgG at h;split at h
 ·rename_i x pos
  cases h1:tgI df nm N n x with
  | none=>rw [h1] at h;cases h
  | some i =>
   rw [h1] at h;cases h;obtain ⟨a1,a2,a3,a4,a5⟩:=zfL g sd h1;exact zrF a1 a2 a3 a4 a5
 ·rename_i es kk pos
  cases h1:zqL df nm N n es with
  | none=>rw [h1] at h;cases h
  | some is =>
   rw [h1] at h;cases h;obtain ⟨b1,b2,b3⟩:=zkq g sd h1;exact zrE g.calm b1 b2 b3
 ·cases h
end
noncomputable def zbi:Expr->List Str
 | .Name x _=>[x]
 | .Tuple es _ _=>es.filterMap zsF
 | _=>[]
noncomputable def zbo(names:Names)(N:List Str):List (Str×Nat):=names.filterMap fun p=>if p.2=.free then (idx N p.1).map fun i=>(p.1,i) else none
noncomputable def zy0:Option NameKind->Bool | some .cell=>true | some .free=>true | _=>false
noncomputable def zl8(nm:Names)(scope:Scope)(xs:List Str)(caps:List (Str×Nat)):Bool :=
 decide (scope.kind=.function)&&decide ((scope.names.map (·.1)).Nodup)&&scope.names.all (fun y=>!decide (y.2=.local)||decide (scope.names.lookup y.1=some .local))
 && scope.names.all (fun y=>!decide (y.2=.free)||zy0 (nm.lookup y.1))&&caps.all (fun p=>scope.names.all fun z=>!decide (z.1=p.1)||decide (z.2=.free))&&decide ((xs++caps.map (·.1)).Nodup)
noncomputable def znT(rc:Rec)(nm:Names)(N:List Str):List Expr->Option Fe
 | []=>some zdq
 | [c]=>if zb8 c then shE rc nm N c else none
 | _=>none
noncomputable def zj6(G:Genv)(rc:Rec)(nm:Names)(N:List Str)(elt:Expr)(g:Comprehension)(scope:Scope):Option Fe :=
 if decide (g.is_async=0)&&zl8 nm scope (zbi g.target) (zbo scope.names N) then
  (zjT G rc nm N g.target g.iter).bind fun it =>
  (tgG true scope.names (zbi g.target++(zbo scope.names N).map (·.1)) (zbi g.target).length g.target).bind fun t =>
  (znT rc scope.names (zbi g.target++(zbo scope.names N).map (·.1)) g.ifs).bind fun c =>
  (shE rc scope.names (zbi g.target++(zbo scope.names N).map (·.1)) elt).bind fun el =>
  some (zb5 (zbi g.target).length t it c el ((zbo scope.names N).map (·.2)))
 else none
theorem zdC{scope:Scope}{env:PySem.Env}:∀{names:Names} {x:Str} {kd:NameKind},names.lookup x=some kd →
  ∃kd',(names.map fun (n,k)=>if (k == NameKind.free&&env.scope.kind == .function&&env.kindOf n == some .cell) then (n,NameKind.cell) else (n,k)).lookup x=some kd'/\(kd'=kd\/(kd=.free/\kd'=.cell))
 | [],_,_,h=>by cases h
 | (n,k0)::r,x,kd,h=>by
  rw [yay] at h;rw [yaw];dsimp only
  by_cases hc:(k0 == NameKind.free&&env.scope.kind == .function&&env.kindOf n == some .cell)=true
  ·rw [if_pos hc,yay]
   cases hx:x == n with
   | true =>
    rw [hx] at h;cases h;simp only [yab,ybT] at hc;exact ⟨_,rfl,.inr ⟨hc.1.1,rfl⟩⟩
   | false=>rw [hx] at h;exact zdC (scope:=scope) h
  ·rw [if_neg hc,yay]
   cases hx:x == n with
   | true=>rw [hx] at h;cases h;exact ⟨_,rfl,.inl rfl⟩
   | false=>rw [hx] at h;exact zdC (scope:=scope) h
section
variable{cl:Cf}{G:Genv}{k:Nat}{rc:Rec}{X:Cx}{nm:Names}{N:List Str}{E:St->XK}
def zj5(g:Gx cl G k X nm N E){scope:Scope}{xs:List Str}(h:zl8 nm scope xs (zbo scope.names N)=true):CompScopeG X.env.scope scope X.N xs (zbo scope.names N)/\(xs++(zbo scope.names N).map (·.1)).Nodup:=by
 unfold zl8 at h;simp only [yab,ybe,ybw,ycL,ybO,ybQ] at h;obtain ⟨⟨⟨⟨⟨h1,h2⟩,h3⟩,h4⟩,h5⟩,h6⟩:=h
 have fr:∀y∈scope.names,y.2=.free->X.env.scope.names.lookup y.1=some .cell\/X.env.scope.names.lookup y.1=some .free:=fun y hy hf=>by
  rcases h4 y hy with z | z
  ·exact absurd hf z
  ·cases hk:nm.lookup y.1 with
   | none=>rw [hk] at z;cases z
   | some kd =>
    obtain ⟨kd',e,zz⟩:=g.vis y.1 kd hk;rw [hk] at z;rw [e]
    rcases zz with rfl | ⟨_,rfl⟩
    ·cases kd'<;>first | exact .inl rfl | exact .inr rfl | cases z
    ·exact .inl rfl
 refine ⟨⟨h2,h1,fun y hy hl=>(h3 y hy).elim (fun z=>absurd hl z) fun z=>z,fr,fun p hp=>?_,fun p hp z hz e=>(h5 p hp z hz).elim (fun w=>absurd e w) fun w=>w⟩,h6⟩;unfold zbo at hp;obtain ⟨q,hq,e⟩:=ya4.mp hp;split at e
 ·rename_i hf
  cases hi:idx N q.1 with
  | none=>rw [hi] at e;cases e
  | some i =>
   rw [hi] at e;have e':(q.1,i)=p:=Option.some.inj e;subst e';refine ⟨by rw [g.eN];exact zfn hi,by rw [<-hf];exact hq,?_⟩
   rcases fr q hq hf with z | z<;>rw [z]<;>exact fun w=>by cases w
 ·cases e
def zgC(g:Gx cl G k X nm N E){scope:Scope}{xs:List Str}(hn:(xs++(zbo scope.names N).map (·.1)).Nodup)(cl':List (Str×Addr))(C:Addr)(s:Shared)(H:Hp)(fp:List Addr) :
  Gx cl G k (zbk X xs (zbo scope.names N) scope cl' C s H fp) scope.names (xs++(zbo scope.names N).map (·.1)) noE where
 gok:=g.gok
 room:=g.room
 calm:=g.calm
 pass:=fun pins σ H s e s' I q=>by
  obtain ⟨a,cls,a0,H',B,_,_,_,_,_,_,_,_,_,z⟩:=q;exact z.elim
 eN:=rfl
 kk:=g.kk
 pp:=g.pp
 ww:=g.ww
 nd:=hn
 vis:=fun x kd h=>zdC (scope:=scope) h
 fnx:=fun x h=>lookup_relabel_local h
def zqt(hs:zbI cl G k rc)(g:Gx cl G k X nm N noE){ifs:List Expr}{c:Fe}(h:znT rc nm N ifs=some c):PIf X ifs (tTr cl noE c):=by
 unfold znT at h;split at h
 ·cases h;intro pins s σ H Q I q;obtain ⟨B,w,ρ,S,rfl,R,q⟩:=q;exact zpA pins s σ w.H Q I (q w R (Fut.refl _))
 ·split at h
  ·rename_i c ht;obtain ⟨_,a2,_⟩:=zaL hs g h;exact zpz (a2 ht)
  ·cases h
 ·cases h
def zf2(hs:zbI cl G k rc)(g:Gx cl G k X nm N E){elt:Expr}{gg:Comprehension}{scope:Scope}{f:Fe}(h:zj6 G rc nm N elt gg scope=some f) :
  ∃it t c el,f=zb5 (zbi gg.target).length t it c el ((zbo scope.names N).map (·.2))/\gg=⟨gg.target,gg.iter,gg.ifs,0⟩/\CompScopeG X.env.scope scope X.N (zbi gg.target) (zbo scope.names N)/\PI X gg.target gg.iter (tI cl E it)/\okE gg.iter=true ∧
   (∀cl' C s H fp,PG (zbk X (zbi gg.target) (zbo scope.names N) scope cl' C s H fp) gg.target (tG cl (zbi gg.target).length t)) ∧
   (∀cl' C s H fp,PIf (zbk X (zbi gg.target) (zbo scope.names N) scope cl' C s H fp) gg.ifs (tTr cl noE c)) ∧
   ∀cl' C s H fp,PE (zbk X (zbi gg.target) (zbo scope.names N) scope cl' C s H fp) elt (tE cl noE el):=by
 unfold zj6 at h;split at h
 ·rename_i hc;rw [yab] at hc;obtain ⟨S,hn⟩:=zj5 g hc.2
  cases h1:zjT G rc nm N gg.target gg.iter with
  | none=>rw [h1] at h;cases h
  | some it =>
   rw [h1] at h;dsimp only [Option.bind] at h
   cases h2:tgG true scope.names (zbi gg.target++(zbo scope.names N).map (·.1)) (zbi gg.target).length gg.target with
   | none=>rw [h2] at h;cases h
   | some t =>
    rw [h2] at h;dsimp only at h
    cases h3:znT rc scope.names (zbi gg.target++(zbo scope.names N).map (·.1)) gg.ifs with
    | none=>rw [h3] at h;cases h
    | some c =>
     rw [h3] at h;dsimp only at h
     cases h4:shE rc scope.names (zbi gg.target++(zbo scope.names N).map (·.1)) elt with
     | none=>rw [h4] at h;cases h
     | some el =>
      rw [h4] at h;cases h;obtain ⟨i1,i2⟩:=zlF hs g (tg:=gg.target) h1;refine ⟨it,t,c,el,rfl,?_,S,i1,i2,fun cl' C s H fp=>zoS (zgC g hn cl' C s H fp) ⟨fun _ x hx=>yaB hx⟩ h2,fun cl' C s H fp=>zqt hs (zgC g hn cl' C s H fp) h3,fun cl' C s H fp=>(zaL hs (zgC g hn cl' C s H fp) h4).1⟩;have:=yau hc.1;cases gg;simp only at this;rw [this]
 ·cases h
def zl6(hs:zbI cl G k rc)(g:Gx cl G k X nm N E){elt:Expr}{gg:Comprehension}{scope:Scope}{f:Fe}{pos:Pos}(h:zj6 G rc nm N elt gg scope=some f):PE X (.ListComp elt [gg] scope pos) (tN cl E f):=by
 obtain ⟨it,t,c,el,rfl,eg,S,i1,i2,i3,i4,i5⟩:=zf2 hs g h;rw [eg];exact PE.imp (zm9 g.calm S i1 i3 i4 i5 (zgr i2)) fun _ _ _ q=>zoE q
end
noncomputable def zxs:Expr->Bool | .Slice _ _ _ _=>false | _=>true
noncomputable def ztK(rc:Rec)(nm:Names)(N:List Str):Option Expr->Option (Option Fe)
 | none=>some none
 | some e=>(opE rc nm N e).map some
noncomputable def zwA(m:Str):Option (List D->D->Option D):=if m = "count" then some zdf else if m = "index" then some zeB else none
def zl2:∀(l:List D) (d r:D),zdf l d=some r->∃n,r=.int n:=by
 intro l d r h;unfold zdf at h;split at h
 ·cases h;exact ⟨_,rfl⟩
 ·cases h
def zlM:∀(l:List D) (d r:D),zeB l d=some r->∃n,r=.int n:=by
 intro l d r h;unfold zeB at h;split at h
 ·cases h;exact ⟨_,rfl⟩
 ·cases h
noncomputable def unG(rc:Rec)(nm:Names)(N:List Str)(a:Expr):UnaryOp->Option (Bool×Fe)
 | .Not=>if zb8 a then (shE rc nm N a).map fun f=>(false,eUn zho f) else none
 | .USub=>(opE rc nm N a).map fun f=>(false,eUn zmu f)
 | _=>none
noncomputable def ztj(rc:Rec)(nm:Names)(N:List Str)(a:Expr):List CmpOp->List Expr->Option (Bool×Fe)
 | [op],[b]=>(ztk op b).bind fun g=>(opE rc nm N a).bind fun f=>(opE rc nm N b).bind fun h=>some (false,zaf g f h)
 | [op,op'],[b,c]=>(ztk op b).bind fun g=>(ztk op' c).bind fun g'=>(opE rc nm N a).bind fun f=>(opE rc nm N b).bind fun h=>(opE rc nm N c).bind fun k=>some (false,zdA g g' f h k)
 | _,_=>none
noncomputable def zws(rc:Rec)(nm:Names)(N:List Str)(a:Expr):Expr->Option (Bool×Fe)
 | .Slice lo hi none _=>(opE rc nm N a).bind fun f=>(ztK rc nm N lo).bind fun l=>(ztK rc nm N hi).bind fun u=>some (false,eSl f l u)
 | i=>if zxs i then (opE rc nm N a).bind fun f=>(opE rc nm N i).bind fun h=>some (false,zaf ixD f h) else none
noncomputable def zxz(rc:Rec)(nm:Names)(N:List Str)(x m:Str)(ap cp:Pos):List Expr->List Keyword->Option (Bool×Fe)
 | [a],[]=>if ap.endLine == cp.line then (zcY nm N x).bind fun i=>(opE rc nm N a).bind fun f=>(zwA m).bind fun g=>some (false,eMt g i f) else none
 | _,_=>none
noncomputable def zoG(G:Genv)(rc:Rec)(nm:Names)(N:List Str)(args:List Expr)(kws:List Keyword)(cp:Pos):Expr->Option (Bool×Fe)
 | .Attribute o m ap=>(match (nmF o).bind fun x=>zxz rc nm N x.1 m ap cp args kws with | some p=>some p | none=>zpS G rc nm N o m ap cp args kws)
 | .Name x _=>if kws.isEmpty then (match mkG G rc nm N x args with | some p=>some p | none=>(match spG G rc nm N x args with | some p=>some p | none=>zqy G rc nm N x args)) else none
 | _=>none
noncomputable def lcG(G:Genv)(rc:Rec)(nm:Names)(N:List Str)(elt:Expr)(scope:Scope):List Comprehension->Option (Bool×Fe)
 | [g]=>(zj6 G rc nm N elt g scope).map fun f=>(true,f)
 | _=>none
noncomputable def ziw(G:Genv)(rc:Rec):Rec:=fun nm N e=>match e with
 | .Constant c _ _=>(zxy c).map fun d=>(false,zag d)
 | .Name x _=>(match zcY nm N x with
  | some i=>some (false,zae i)
  | none=>if zcj nm x then (G.con x).map fun d=>(false,zag d) else none)
 | .Tuple es _ _=>(shL rc nm N es).map fun fs=>(false,zcT fs)
 | .List es _=>(shL rc nm N es).map fun fs=>(true,zeF fs)
 | .BinOp a op b _=>if zqe a&&zs7 op then (opE rc nm N a).bind fun f=>(opE rc nm N b).bind fun h=>some (true,zaf zhr f h) else (zvC op).bind fun g=>(opE rc nm N a).bind fun f=>(opE rc nm N b).bind fun h=>some (false,zaf g f h)
 | .UnaryOp op a _=>unG rc nm N a op
 | .BoolOp op es _=>(zkd rc nm N op es).map fun f=>(false,f)
 | .Compare a ops bs _=>(match zu1 G rc nm N a ops bs with | some p=>some p | none=>ztj rc nm N a ops bs)
 | .IfExp c a b _=>if zb8 c then (shE rc nm N c).bind fun g=>(shE rc nm N a).bind fun f=>(shE rc nm N b).bind fun h=>some (false,eIf g f h) else none
 | .Subscript a i _=>(match zvr G rc nm N a i with | some p=>some p | none=>zws rc nm N a i)
 | .Attribute o f _=>zvu G rc nm N o f
 | .Call f args kws cp=>zoG G rc nm N args kws cp f
 | .ListComp elt gs scope _=>lcG G rc nm N elt scope gs
 | _=>none
noncomputable def zvz(G:Genv):Nat->Rec
 | 0=>fun _ _ _=>none
 | n+1=>ziw G (zvz G n)
section
variable{cl:Cf}{G:Genv}{k:Nat}{rc:Rec}
def znz{i:Expr}(h:zxs i=true):zgN i:=by
 intro o j
 cases i<;>first | rfl | cases h
def zaa{α β:Type}{o:Option α}{f:α->Option β}{b:β}(h:o.bind f=some b):∃a,o=some a/\f a=some b:=by
 cases o with
 | none=>cases h
 | some a=>exact ⟨a,rfl,h⟩
def za0{α β:Type}{o:Option α}{f:α->β}{b:β}(h:o.map f=some b):∃a,o=some a/\f a=b:=by
 cases o with
 | none=>cases h
 | some a=>exact ⟨a,rfl,Option.some.inj h⟩
def ziX{X:Cx}{nm:Names}{N:List Str}{E:St->XK}(hs:zbI cl G k rc)(g:Gx cl G k X nm N E){o:Option Expr}{f:Option Fe}(h:ztK rc nm N o=some f):PO X o (ztJ cl E f):=by
 unfold ztK at h;split at h
 ·cases h;exact zpx
 ·obtain ⟨a,h1,rfl⟩:=za0 h;exact zpw (zcp hs g h1).1
def znP(hs:zbI cl G k rc):zbI cl G k (ziw G rc):=by
 intro X nm N E g e o f h;unfold ziw at h;split at h
 ·obtain ⟨d,h1,h2⟩:=za0 h;cases h2;rename_i c kk pos
  have p:PE X (.Constant c kk pos) (tE cl E (zag d)):=by
   cases c<;>simp [zxy] at h1<;>subst h1
   ·exact zkH zsf fun w=>.non
   ·exact zkH zuT fun w=>.bl _
   ·exact zkH zsi fun w=>.int _
   ·exact zkH zsa fun w=>.str _
  exact ⟨(fun z=>by cases z),p,fun _=>zbJ p (fun _=>rfl),rfl⟩
 ·rename_i x pos;split at h
  ·rename_i i hi;cases h;obtain ⟨h1,h2,h3,h4⟩:=g.slot hi;have p:PE X (.Name x pos) (tE cl E (zae i)):=zrH h1 h2 h3 h4;exact ⟨(fun z=>by cases z),p,fun _=>zbJ p (fun _=>rfl),rfl⟩
  ·split at h
   ·rename_i hg;obtain ⟨d,h1,h2⟩:=za0 h;cases h2;obtain ⟨g1,g2,g3⟩:=g.glob hg;obtain ⟨v,u,m,r,sh⟩:=g.gok.con x d h1;have p:PE X (.Name x pos) (tE cl E (zag d)):=zkH (zk6 g1 m r g2) sh;exact ⟨(fun z=>by cases z),p,fun _=>zbJ p (fun _=>rfl),rfl⟩
   ·cases h
 ·obtain ⟨fs,h1,h2⟩:=za0 h;cases h2;rename_i es kk pos;have p:PE X (.Tuple es kk pos) (tE cl E (zcT fs)):=zrI (zeX hs g h1).1;exact ⟨(fun z=>by cases z),p,fun _=>zbJ p (fun _=>rfl),rfl⟩
 ·obtain ⟨fs,h1,h2⟩:=za0 h;cases h2;rename_i es pos;have p:PE X (.List es pos) (tN cl E (zeF fs)):=zrN (zeX hs g h1).1;exact ⟨fun _=>p,zdu p,fun _=>zbJ (zdu p) (fun _=>rfl),rfl⟩
 ·split at h
  ·rename_i a op b pos hm;obtain ⟨fa,h2,h⟩:=zaa h;obtain ⟨fb,h3,h⟩:=zaa h;cases h;rw [yab] at hm
   have ho:op=.Mult:=by cases op<;>first | rfl | cases hm.2
   subst ho;have p:PE X (.BinOp a .Mult b pos) (tN cl E (zaf zhr fa fb)):=zph (zcp hs g h2).1 (zcp hs g h3).1;exact ⟨fun _=>p,zdu p,fun _=>zbJ (zdu p) (fun _=>rfl),rfl⟩
  obtain ⟨gg,h1,h⟩:=zaa h;obtain ⟨fa,h2,h⟩:=zaa h;obtain ⟨fb,h3,h⟩:=zaa h;cases h;exact ⟨(fun z=>by cases z),zog (zoH h1) (zcp hs g h2).1 (zcp hs g h3).1,fun _=>zbJ (zog (zoH h1) (zcp hs g h2).1 (zcp hs g h3).1) (fun _=>rfl),rfl⟩
 ·rename_i op a pos;unfold unG at h;split at h
  ·split at h
   ·rename_i ht;obtain ⟨fa,h1,h2⟩:=za0 h;cases h2;obtain ⟨a1,a2,_⟩:=zaL hs g h1;exact ⟨(fun z=>by cases z),zrK a1,fun _=>zro (a2 ht),rfl⟩
   ·cases h
  ·obtain ⟨fa,h1,h2⟩:=za0 h;cases h2;have p:PE X (.UnaryOp .USub a pos) (tE cl E (eUn zmu fa)):=zuF zq8 (zcp hs g h1).1;exact ⟨(fun z=>by cases z),p,fun _=>zbJ p (fun _=>rfl),rfl⟩
  ·cases h
 ·obtain ⟨fa,h1,h2⟩:=za0 h;cases h2;rename_i op es pos;obtain ⟨b1,b2⟩:=zme hs g (pos:=pos) h1;exact ⟨(fun z=>by cases z),b1,fun _=>b2.pt,rfl⟩
 ·rename_i a ops bs pos;split at h
  ·rename_i p hp;obtain ⟨w,fe⟩:=p;cases h;obtain ⟨rfl,n1,n2⟩:=zsC hs g (pos:=pos) hp;exact ⟨(fun z=>by cases z),n1,fun _=>n2,rfl⟩
  unfold ztj at h;split at h
  ·obtain ⟨gg,h1,h⟩:=zaa h;obtain ⟨fa,h2,h⟩:=zaa h;obtain ⟨fb,h3,h⟩:=zaa h;cases h;obtain ⟨a1,_⟩:=zcp hs g h2;obtain ⟨b1,b2⟩:=zcp hs g h3;exact ⟨(fun z=>by cases z),zrP (zf3 g h1) a1 b1 (ze9 b2),fun _=>zrq (zf3 g h1) a1 b1 (ze9 b2),rfl⟩
  ·obtain ⟨gg,h1,h⟩:=zaa h;obtain ⟨gg',h1',h⟩:=zaa h;obtain ⟨fa,h2,h⟩:=zaa h;obtain ⟨fb,h3,h⟩:=zaa h;obtain ⟨fc,h4,h⟩:=zaa h;cases h;obtain ⟨a1,_⟩:=zcp hs g h2;obtain ⟨b1,_⟩:=zcp hs g h3;obtain ⟨c1,c2⟩:=zcp hs g h4;have hm:∀{op op':CmpOp} {b c:Expr},okE c=true->lastMarks [op,op'] [b,c]=false:=fun h=>ze9 h
   exact ⟨(fun z=>by cases z),zmO (zf3 g h1) (zf3 g h1') a1 b1 c1 (hm c2),fun _=>zmH (zf3 g h1) (zf3 g h1') a1 b1 c1 (hm c2),rfl⟩
  ·cases h
 ·split at h
  ·rename_i c a b pos ht;obtain ⟨fc,h1,h⟩:=zaa h;obtain ⟨fa,h2,h⟩:=zaa h;obtain ⟨fb,h3,h⟩:=zaa h;cases h;obtain ⟨_,c2,_⟩:=zaL hs g h1;exact ⟨(fun z=>by cases z),zuJ (c2 ht) (zaL hs g h2).1 (zaL hs g h3).1,(fun z=>by cases z),rfl⟩
  ·cases h
 ·rename_i a i pos;split at h
  ·rename_i p hp;obtain ⟨w,fe⟩:=p;cases h;obtain ⟨rfl,n1⟩:=zta hs g (pos:=pos) hp;exact ⟨(fun z=>by cases z),n1,fun _=>zbJ n1 (fun _=>rfl),rfl⟩
  unfold zws at h;split at h
  ·obtain ⟨fa,h1,h⟩:=zaa h;obtain ⟨fl,h2,h⟩:=zaa h;obtain ⟨fu,h3,h⟩:=zaa h;cases h;exact ⟨(fun z=>by cases z),zrJ (zcp hs g h1).1 (ziX hs g h2) (ziX hs g h3),fun _=>zbJ (zrJ (zcp hs g h1).1 (ziX hs g h2) (ziX hs g h3)) (fun _=>rfl),rfl⟩
  ·split at h
   ·rename_i hix;obtain ⟨fa,h1,h⟩:=zaa h;obtain ⟨fb,h2,h⟩:=zaa h;cases h;have p:PE X (.Subscript a _ pos) (tE cl E (zaf ixD fa fb)):=zuI (zvm g.kk) (zcp hs g h1).1 (zcp hs g h2).1 (znz hix);exact ⟨(fun z=>by cases z),p,fun _=>zbJ p (fun _=>rfl),rfl⟩
   ·cases h
 ·rename_i o fl pos;obtain ⟨rfl,n1⟩:=ztd hs g (pos:=pos) h;exact ⟨(fun z=>by cases z),n1,fun _=>zbJ n1 (fun _=>rfl),rfl⟩
 ·rename_i fn args kws cp;unfold zoG at h;split at h
  ·rename_i o m ap;split at h
   rotate_left
   ·obtain ⟨a1,a2⟩:=zpR hs g (ap:=ap) (pos:=cp) h;exact ⟨a1,a2,fun _=>zbJ a2 (fun _=>rfl),rfl⟩
   rename_i pp hpp;obtain ⟨⟨x,p⟩,e1,h2⟩:=zaa hpp;have e2:=zi1 e1;have h3:=h;cases h3;clear hpp e1;subst e2;replace h:=h2;clear h2;dsimp only at h ⊢;unfold zxz at h;split at h
   ·rename_i a;split at h
    ·rename_i hln;obtain ⟨i,h1,h⟩:=zaa h;obtain ⟨fa,h2,h⟩:=zaa h;obtain ⟨gg,h3,h⟩:=zaa h;cases h;obtain ⟨n1,n2,n3,n4⟩:=g.slot h1;obtain ⟨a1,a2⟩:=zcp hs g h2
     have p:PE X (.Call (.Attribute (.Name x p) m ap) [a] [] cp) (tE cl E (eMt gg i fa)):=by
      unfold zwA at h3;split at h3
      ·rename_i em;cases h3;subst em;exact zrM PySem.F.slot_list_count PySem.F.type_list_count (zno g.kk g.units) zl2 n1 n2 n3 n4 a1 (zal a2) hln
      ·split at h3
       ·rename_i em;cases h3;subst em;exact zrM PySem.F.slot_list_index PySem.F.type_list_index (znn g.kk g.units) zlM n1 n2 n3 n4 a1 (zal a2) hln
       ·cases h3
     exact ⟨(fun z=>by cases z),p,fun _=>zbJ p (fun _=>rfl),rfl⟩
    ·cases h
   ·cases h
  ·rename_i x p;split at h
   ·rename_i hk
    have hk':kws=[]:=by simpa using hk
    subst hk';split at h
    ·rename_i pm hmk;obtain ⟨w,fe⟩:=pm;cases h;obtain ⟨rfl,n1⟩:=zu3 hs g (p:=p) (pos:=cp) hmk;exact ⟨(fun z=>by cases z),n1,fun _=>zbJ n1 (fun _=>rfl),rfl⟩
    split at h
    ·rename_i hsp;cases h;obtain ⟨a1,a2⟩:=zuC hs g (p:=p) (pos:=cp) hsp;exact ⟨a1,a2,fun _=>zbJ a2 (fun _=>rfl),rfl⟩
    ·obtain ⟨a1,a2⟩:=zqx hs g (p:=p) (pos:=cp) h;exact ⟨a1,a2,fun _=>zbJ a2 (fun _=>rfl),rfl⟩
   ·cases h
  ·cases h
 ·rename_i elt gs scope pos;unfold lcG at h;split at h
  ·obtain ⟨fa,h1,h2⟩:=za0 h;cases h2;rename_i gg;have p:PE X (.ListComp elt [gg] scope pos) (tN cl E f):=zl6 hs g h1;exact ⟨fun _=>p,zdu p,fun _=>zbJ (zdu p) (fun _=>rfl),rfl⟩
  ·cases h
 ·cases h
theorem zoC:∀n,zbI cl G k (zvz G n)
 | 0=>fun _ _ _ _ _ _ _ _ h=>by cases h
 | n+1=>znP (zoC n)
end
end S2
namespace S2
open PySem PySem.Spec PyProof.Rows L2
noncomputable def zmq(X:Cx)(E:St->XK):Prop:=∀(C:Addr) (pins:Z3) (σ:St) (H:Hp) (s:Shared) (e:Addr) (h':Heap) (vs:List Value),Inv X pins σ H s->Heap.MadeExcOf s.heap h' e (.ref C) vs->E σ (.ref C) none H->X.xe (.ref e) { s with heap:=h' }
noncomputable def zoW(C:Addr)(E:St->XK)(t:TA):TS:=fun _ σ H=>t σ H fun vs H1=>vs.length<=sizeLine/\E σ (.ref C) none H1
def zkY{X:Cx}{x:Str}{C:Addr}{E:St->XK}{np cpos pos:Pos}{e:Expr}{es:List Expr}{t:TA}(hr:zmq X E)(hc:X.calm=true)(hg:Gl X x)(hm:X.mg x=some (.ref C))
  (z:PySem.W.excIn X.K C bmV "ValueError.__new__" = true) (ha:PA X (e::es) t)
  (he:starEach (e::es) X.env=(false,eval e X.env)::starEach es X.env) (hpl:(backTo cpos (starEach es X.env)).any (·.1)=false) (hdb:(x == ("__debug__":Str))=false) :
  PS X (.Raise (some (.Call (.Name x np) (e::es) [] cpos)) none pos) (zoW C E t):=by
 intro pins s σ H D I h;obtain ⟨bm,N,nm,qn,bs,hd,sn,sub,ab,col,dd,c0,c1,c2,c3,c5,mN,o1,o2,o3,o4⟩:=zis I.mod.kin z
 refine wpAny_Raise_call_subU (C:=C) (nm:=nm) (q:=qn) (N:=N) (bs:=bs) (bm:=bm) (hdct:=hd) (sn:=sn) (sub:=sub) (ab:=ab) (col:=col) (dd:=dd) (k0:=c0) (k1:=c1) (k2:=c2) (k3:=c3) (k5:=c5)
  yb5 (by decide +kernel) yb5 (mN:=mN) (o4.hasType yb5.hasBase) (I.ok.hd hc) (by rw [he];show (false||(backTo cpos (starEach es X.env)).any (·.1))=false;rw [hpl];rfl) o3 (zej I hg hm ⟨rfl,?_⟩ hdb)
 have go:=ha cpos pins s σ H _ I h;rw [he] at go ⊢;exact Calls.evalArgs_plain (thn go fun us s2 ⟨vs,H2,I2,r2,q1,q2⟩=>⟨rfl,by rw [<-r2.length];exact q1,I2.bk _ _ o1,o2.keeps I2.bk,o4.keeps I2.bk,fun h' a mk=>hr C pins σ H2 s2 a h' us I2 mk q2⟩)
noncomputable def sRz(c:Str)(fs:List Fe):Fs:=fun ρ S=>match zan fs ρ S with | .ok ds S'=>if small ds.length then .ex c ρ S' else .bad | .exc x S'=>.ex x ρ S' | .bad=>.bad
noncomputable def zn9(X:Cx)(pins:Z3)(E:St->XK):Cx:={ X with pn:=X.pn++pins,xe:=fun e s'=>∃σ H1 s1,Inv X pins σ H1 s1/\CXE X.prog X.w X.stack H1 s1 (E σ) e s' }
section
variable{X:Cx}{pins:Z3}{σ:St}{H:Hp}{s:Shared}{E:St->XK}
def zsr(ok:X.Ok):(zn9 X pins E).Ok :=
 ⟨ok.mod,ok.kind,ok.glob,ok.blt,ok.above,ok.inj,ok.has,ok.cab,ok.hd,ok.frames,ok.stk,ok.exf,ok.bs,ok.bsz,ok.noex,ok.exfs,ok.funs,ok.frf⟩
def zng(ok:(zn9 X pins E).Ok):X.Ok :=
 ⟨ok.mod,ok.kind,ok.glob,ok.blt,ok.above,ok.inj,ok.has,ok.cab,ok.hd,ok.frames,ok.stk,ok.exf,ok.bs,ok.bsz,ok.noex,ok.exfs,ok.funs,ok.frf⟩
def zqf(I:Inv X pins σ H s):Inv (zn9 X pins E) [] σ H s :=
 ⟨zsr I.ok,I.os,I.bare,I.base,I.loc,I.cell,I.free,I.freeC,fun p hp=>I.pin p (by simpa [zn9] using hp),I.hok,I.len⟩
def zc7{pins':Z3}(I:Inv (zn9 X pins E) pins' σ H s):Inv X pins σ H s :=
 ⟨zng I.ok,I.os,I.bare,I.base,I.loc,I.cell,I.free,I.freeC,fun p hp=>I.pin p (ycB _ hp),I.hok,I.len⟩
def zmI{De:Ends}{f:Flow}(h:SP (zn9 X pins E) [] De f s):SP X pins De f s:=by
 cases f with
 | next=>obtain ⟨σ',H',I,q⟩:=h;exact ⟨σ',H',zc7 I,q⟩
 | brk=>obtain ⟨σ',H',I,q⟩:=h;exact ⟨σ',H',zc7 I,q⟩
 | cont=>obtain ⟨σ',H',I,q⟩:=h;exact ⟨σ',H',zc7 I,q⟩
 | ret u=>obtain ⟨v,σ',H',I,r,q⟩:=h;exact ⟨v,σ',H',zc7 I,r,q⟩
end
noncomputable def zuk(K:PySem.W.Frag)(C:Addr)(i:Nat)(th:TS)(De:Ends):St->XK:=fun σ cls _ H'=>∃C',cls=.ref C'/\zn5 K C' C/\∀a ob,H' a=none->ob.cls=.ref C'->th (De.goes i) (σ.set i (some (.ref a))) (upd H' a (.frz ob (.own a)))
def zpt{X:Cx}{body:List Stmt}{b0:Stmt}{suite:List Stmt}{c n:Str}{C:Addr}{i:Nat}{bD:List Value}{iD:String}{tb:(St->XK)->TS}{th:TS}{np hpos pos:Pos}(hs:X.stack=X.env::X.outer)(hf:X.env.frame=some X.env.locals)(hN:X.N.Nodup)(hi:X.N[i]?=some n)
  (hk:X.env.scope.names.lookup n=some .local) (hg:Gl X c) (hm:X.mg c=some (.ref C)) (z:PySem.W.excIn X.K C bD iD=true) (hb:bD.contains (.type "BaseException")=true) (h1:∀pins E,PSs (zn9 X pins E) body (tb E)) (h2:∀a,PSs (X.inH a) (b0::suite) th) (hdb:(c == ("__debug__":Str))=false) :
  PS X (.Try body [.ExceptHandler (some (.Name c np)) (some n) (b0::suite) hpos] [] [] pos) (fun De σ H=>tb (zuk X.K C i th De) De σ H):=by
 intro pins s σ H D I h
 have hfr:X.A.frames=some (X.env::X.outer):=by rw [<-hs];exact I.ok.frames
 refine wpAny_Try_except (ybt (h1 pins (zuk X.K C i th D) [] s σ H D (zqf I) h) (fun f s1 q=>?_) fun e s1 q=>?_)
 ·have q':=zmI q
  cases f with
  | next=>exact ycI q'
  | ret v=>exact q'
  | brk=>exact q'
  | cont=>exact q'
 ·obtain ⟨σ1,H1,s2,I1,a,cls,a0,H',B,rfl,fl,c1,c2,c3,os,bare,un,hok,C',rfl,⟨⟨bC,iC,zC⟩,up⟩,q⟩:=q;have fl':=fl;rw [hs] at fl';refine wpAny_looks_onW hfr hf fl' fun h4 hd4 u4=>?_
  refine wpAny_landsW hd4 fun h5 fl5 u5=>?_
  rw [<-hs] at fl5;obtain ⟨I5,ob5,oc5,og5,_,_⟩:=zf4 (s':=s1) I1 fl5 (u4.trans u5) c1 c2 c3 os bare un hok;refine wpAny_handleBy_cons (codeAny_handlers_test ?_) (by intro q;cases q);refine zej (I5.inH a) hg hm ?_ hdb;refine zgx I5.kIn zC z og5 oc5 hb up ?_;refine codeAny_handlers_suite_as ?_;refine lands_againW fl5 fun h6 fl6 u6=>?_
  obtain ⟨_,ob,oc,og,na,I6⟩:=zf4 (s':=s1) I1 fl6 ((u4.trans u5).trans u6) c1 c2 c3 os bare un hok;refine zdO (v:=.ref a) I6 hN hi (.inl hk) rfl (fun s7 I7=>?_) (.inr hk);exact ybt (h2 a pins s7 _ _ (D.goes i) (I7.inH a) (q a ob na oc)) (fun f s8 q8=>zo7 I.ok hN hi hk q8) fun _ _ z=>z.elim
noncomputable def zrT(und:Str->Str->Bool)(C:Str)(i j:Nat)(fb:Fs):Fs:=fun ρ S=>match fb ρ S with
 | .ex c ρ' S'=>if und c C&&decide (i<ρ'.length) then .nx ((ρ'.set j (some (false,.exc c))).set i none) S' else .bad
 | o=>o
def Rel.clear{cl:Cf}{B:Base}{σ:St}{w:Wd}{ρ:Env}{S:Sto}(R:Rel cl B σ w ρ S)(i:Nat):Rel cl B (σ.set i none) w (ρ.set i none) S where
 wd:=R.wd
 len:=by rw [yaJ,yaJ];exact R.len
 slots:=fun j o e hj=>by
  by_cases hij:i=j
  ·subst hij
   have hlt:i<ρ.length:=by
    have:=(yag.mp hj).1;rwa [yaJ] at this
   rw [yaA hlt] at hj;cases hj
  ·rw [yaP hij] at hj ⊢;exact R.slots j o e hj
section
variable{X:Cx}{cl:Cf}{E:St->XK}{own:Bool}
def zmD{K:PySem.W.Frag}{und:Str->Str->Bool}{C:Str}{i j:Nat}{fb:Fs}(hij:i≠j)(hu:∀c,und c C=true->zn5 K (cl c) (cl C)){De:Ends}{σ:St}{H:Hp}(q:tS cl E own (zrT und C i j fb) De σ H) :
  tS cl (zuk K (cl C) i (zoX (zwo i) (zjW j)) De) own fb De σ H:=by
 obtain ⟨B,w,ρ,S,rfl,R,q⟩:=q;refine ⟨B,w,ρ,S,rfl,R,?_⟩;unfold zrT at q;have hl:ρ.length=σ.length:=R.len.symm
 cases hf:fb ρ S with
 | nx ρ' S'=>rwa [hf] at q
 | bk ρ' S'=>rwa [hf] at q
 | ct ρ' S'=>rwa [hf] at q
 | rt d S'=>rwa [hf] at q
 | bad=>rwa [hf] at q
 | ex c ρ' S' =>
  rw [hf] at q;dsimp only at q
  cases hc:und c C&&decide (i<ρ'.length) with
  | false=>rw [hc,if_neg (by decide)] at q;exact q.elim
  | true =>
   rw [hc,if_pos rfl] at q;rw [yab] at hc;intro σ' w' R' F';refine ⟨cl c,rfl,hu c hc.1,fun a ob ha hob=>?_⟩;have g:=zaD (w:=w') ha (.frz ob (.own a));have sh:Shd cl (w'.add a (.frz ob (.own a))) (.ref a) (.exc c):=.exc zmo zhT hob
   have hi':i<σ'.length:=by rw [R'.len];exact yau hc.2
   refine ⟨.ref a,yaA hi',?_⟩;have R2:=((R'.grow g).put (i:=j) sh).clear i;refine q _ (w'.add a (.frz ob (.own a))) ?_ (F'.trans g.fut)
   have e:((σ'.set i (some (V.ref a))).set j (some (.ref a))).set i none=(σ'.set j (some (V.ref a))).set i none:=by
    rw [List.set_comm _ _ hij,ycg]
   show Rel cl B (((σ'.set i (some (V.ref a))).set j (some (.ref a))).set i none) _ _ _;rw [e];exact R2
end
end S2
namespace S2
open PySem PySem.Spec PyProof.Rows L2
section
variable{cl:Cf}{B:Base}{σ:St}{w:Wd}{ρ:Env}{S:Sto}
end
noncomputable def tO(cl:Cf)(E:St->XK):Bool->Fe->TE | true,f=>tN cl E f | false,f=>tE cl E f
section
variable{X:Cx}{cl:Cf}{E:St->XK}{own:Bool}
end
noncomputable def zhx:Expr->Bool | .ListComp _ _ _ _=>true | .SetComp _ _ _ _=>true | .DictComp _ _ _ _ _=>true | _=>false
def zgc{e:Expr}{t:Option Expr}{l:Nat}{env:PySem.Env}(h:zhx e=false):swapsWith e t l env=pure false:=by
 cases e<;>first | rfl | cases h
structure Gd(cl:Cf)(G:Genv)(k:Nat)(X:Cx)(nm:Names)(N:List Str)(E:St->XK)(full:Bool):Prop where
 gx:Gx cl G k X nm N E
 fn:∀x,X.fn x=true
 kind:X.env.scope.kind=.function
 sc:X.env.scope.names=nm
 own:full=true->PassesOwn (model X.prog X.w) X.A X.env X.xe
 raises:full=true->zmq X E
 stk:X.stack=X.env::X.outer
 frm:X.env.frame=some X.env.locals
noncomputable def zcN:Nat->Names->List Str->Expr->List Nat
 | 0,_,_,_=>[]
 | n+1,nm,N,e =>
  let rc:=zcN n nm N
  let op:=fun (e:Expr)=>match e with | .Name _ _=>[] | e=>rc e
  match e with
  | .Name x _=>(zcY nm N x).toList
  | .Tuple es _ _=>es.flatMap rc
  | .List es _=>es.flatMap rc
  | .BinOp a _ b _=>op a++op b
  | .UnaryOp _ a _=>rc a
  | .BoolOp _ es _=>es.flatMap rc
  | .Compare a _ bs _=>op a++bs.flatMap op
  | .IfExp c a b _=>rc c++rc a++rc b
  | .Subscript a (.Slice lo hi _ _) _=>op a++lo.toList.flatMap op++hi.toList.flatMap op
  | .Subscript a i _=>op a++op i
  | .Call (.Name f _) args [] _=>if (zmf f).isSome||decide (f = "isinstance") then args.flatMap op else args.flatMap rc
  | .Call (.Attribute o _ _) args [] _=>op o++args.flatMap rc
  | .Attribute o _ _=>op o
  | .ListComp _ [g] scope _=>rc g.iter++(zbo scope.names N).map (·.2)
  | _=>[]
noncomputable def zh4(t:Tg)(f:Fe):Fs:=fun ρ S=>match f ρ S with
 | .ok d S'=>(match t.put ρ d with | some ρ'=>.nx ρ' S' | none=>.bad)
 | .exc c S'=>.ex c ρ S'
 | .bad=>.bad
noncomputable def zxt:Expr->Bool | .Constant _ _ _=>true | _=>false
noncomputable def zqp:Expr->Option (List (Option Expr)×List Expr×Pos) | .Dict ks vs p=>some (ks,vs,p) | _=>none
def znN{e:Expr}{x:List (Option Expr)×List Expr×Pos}(h:zqp e=some x):e=.Dict x.1 x.2.1 x.2.2:=by cases e<;>first | (cases h;done) | (cases h;rfl)
noncomputable def zil(e:Expr):Bool:=match zqp e with | some x=>x.1.isEmpty&&x.2.1.isEmpty | none=>false
def znO{e:Expr}(h:zil e=true):∃p,e=.Dict [] [] p:=by
 unfold zil at h
 cases h1:zqp e with
 | none=>rw [h1] at h;cases h
 | some x =>
  rw [h1] at h;dsimp only at h;rw [yab,ybf,ybf] at h;exact ⟨_,by rw [znN h1,h.1,h.2]⟩
noncomputable def zon{α:Type}:List α->Option α | [a]=>some a | _=>none
def zfT{α:Type}{l:List α}{a:α}(h:zon l=some a):l=[a]:=by
 cases l with
 | nil=>cases h
 | cons b t=>cases t with
  | nil=>cases h;rfl
  | cons _ _=>cases h
noncomputable def zfF:Expr->Option (Str×Pos) | .Name x p=>some (x,p) | _=>none
def zcP{e:Expr}{x:Str×Pos}(h:zfF e=some x):e=.Name x.1 x.2:=by cases e<;>first | (cases h;done) | (cases h;rfl)
noncomputable def zqz:Expr->Option (Expr×List Expr×List Keyword×Pos) | .Call f a k p=>some (f,a,k,p) | _=>none
def zjp{e:Expr}{x:Expr×List Expr×List Keyword×Pos}(h:zqz e=some x):e=.Call x.1 x.2.1 x.2.2.1 x.2.2.2:=by cases e<;>first | (cases h;done) | (cases h;rfl)
noncomputable def zqP:Expr->Option (Expr×Str×Pos) | .Attribute o m p=>some (o,m,p) | _=>none
def ziB{e:Expr}{x:Expr×Str×Pos}(h:zqP e=some x):e=.Attribute x.1 x.2.1 x.2.2:=by cases e<;>first | (cases h;done) | (cases h;rfl)
noncomputable def zxA:Stmt->Option (List Expr×Expr×Pos) | .Assign t e p=>some (t,e,p) | _=>none
def zqD{e:Stmt}{x:List Expr×Expr×Pos}(h:zxA e=some x):e=.Assign x.1 x.2.1 x.2.2:=by cases e<;>first | (cases h;done) | (cases h;rfl)
noncomputable def zqK:Expr->Option (List Expr×Nat×Pos) | .Tuple es k p=>some (es,k,p) | _=>none
def zoQ{e:Expr}{x:List Expr×Nat×Pos}(h:zqK e=some x):e=.Tuple x.1 x.2.1 x.2.2:=by cases e<;>first | (cases h;done) | (cases h;rfl)
noncomputable def zwt:Expr->Option (Expr×Expr×Pos) | .Subscript a i p=>some (a,i,p) | _=>none
def zoY{e:Expr}{x:Expr×Expr×Pos}(h:zwt e=some x):e=.Subscript x.1 x.2.1 x.2.2:=by cases e<;>first | (cases h;done) | (cases h;rfl)
noncomputable def lcE:Expr->Option (Expr×List Comprehension×Scope×Pos) | .ListComp elt gs scope p=>some (elt,gs,scope,p) | _=>none
def zsI{e:Expr}{x:Expr×List Comprehension×Scope×Pos}(h:lcE e=some x):e=.ListComp x.1 x.2.1 x.2.2.1 x.2.2.2:=by cases e<;>first | (cases h;done) | (cases h;rfl)
noncomputable def zvI(G:Genv)(rc:Rec)(nm:Names)(N:List Str)(x:Str)(e:Expr):Option Fs :=
 (tgI true nm N N.length x).bind fun i=>match lcE e with
  | some c=>(zon c.2.1).bind fun g=>(zj6 G rc nm N c.1 g c.2.2.1).bind fun f=>some (za6 i true f)
  | none=>if zhx e then none else (rc nm N e).bind fun p=>some (za6 i p.1 p.2)
noncomputable def zvH(rc:Rec)(nm:Names)(N:List Str)(t:List Expr×Nat×Pos)(e:Expr):Option Fs:=match zqK e with
 | some _=>none
 | none=>(tgG true nm N N.length (.Tuple t.1 t.2.1 t.2.2)).bind fun t=>(shE rc nm N e).bind fun f=>some (zh4 t f)
noncomputable def zvK(G:Genv)(rc:Rec)(nm:Names)(N:List Str)(o:Expr)(f:Str)(e:Expr):Option Fs :=
 (nmF o).bind fun x=>if zil e then (if G.ob.df f&&G.ob.fk G.ob.cur f then (zcY nm N x.1).map fun i=>zgh G.ob.cur f i else none) else (if G.ob.df f||!G.ob.fk G.ob.cur f then none else (shE rc nm N o).bind fun fo=>(shE rc nm N e).bind fun fe=>some (zeb G.ob.cur f fo fe))
noncomputable def zvJ(G:Genv)(rc:Rec)(nm:Names)(N:List Str)(o:Expr)(f:Str)(ix e:Expr):Option Fs :=
 if zgz o&&G.ob.df f&&!zhx e&&G.ob.fk G.ob.cur f then (nmF ix).bind fun x=>(zcY nm N x.1).bind fun i=>(shE rc nm N o).bind fun fo=>(shE rc nm N e).bind fun fe=>some (zjF G.ob.cur f fo i fe) else none
noncomputable def zty(G:Genv)(rc:Rec)(nm:Names)(N:List Str)(q:Expr×Expr×Pos)(e:Expr):Option Fs:=match zqP q.1 with
 | some a=>zvJ G rc nm N a.1 a.2.1 q.2.1 e
 | none=>none
noncomputable def zt1(G:Genv)(rc:Rec)(nm:Names)(N:List Str)(tg e:Expr):Option Fs:=match zfF tg with
 | some x=>zvI G rc nm N x.1 e
 | none=>match zqK tg with
  | some t=>zvH rc nm N t e
  | none=>match zqP tg with
   | some a=>zvK G rc nm N a.1 a.2.1 e
   | none=>(zwt tg).bind fun q=>zty G rc nm N q e
structure Mc where
 x:Str
 px:Pos
 m:Str
 ap:Pos
 a:Expr
 cp:Pos
noncomputable def znm(e:Expr):Option Mc:=(zqz e).bind fun c=>if c.2.2.1.isEmpty then (zqP c.1).bind fun t=>(zfF t.1).bind fun x=>(zon c.2.1).bind fun a=>some ⟨x.1,x.2,t.2.1,t.2.2,a,c.2.2.2⟩ else none
noncomputable def zqn(G:Genv)(rc:Rec)(nm:Names)(N:List Str)(e:Expr):Option Fs:=match znm e with
 | some c=>if decide (c.m = "append")&&(c.ap.endLine == c.cp.line) then (zcY nm N c.x).bind fun i=>(shE rc nm N c.a).bind fun f=>some (zh5 i f)
  else if decide (c.m = "extend")&&(c.ap.endLine == c.cp.line) then (zcY nm N c.x).bind fun i=>(opE rc nm N c.a).bind fun f=>some (zqN i f) else if zhx e then none else (shE rc nm N e).map zmQ
 | none=>if zhx e then none else (shE rc nm N e).map zmQ
noncomputable def zuM(rc:Rec)(nm:Names)(N:List Str)(own:Bool)(e:Expr):Option Fs:=match own with
 | true=>(match e with
  | .Name x _=>(zcY nm N x).map zjE
  | e=>(rc nm N e).bind fun p=>if p.1 then some (zbx p.2) else none)
 | false=>(shE rc nm N e).map zbx
noncomputable def rzG(G:Genv)(rc:Rec)(nm:Names)(N:List Str)(full:Bool)(a b:Option Expr):Option Fs:=if b.isNone then a.bind fun e=>(zqz e).bind fun c=>(zfF c.1).bind fun x=>if c.2.2.1.isEmpty&&!c.2.1.isEmpty&&full&&zcj nm x.1&&G.exc x.1 then (shL rc nm N c.2.1).bind fun fs=>some (sRz x.1 fs) else none else none
noncomputable def zwn(G:Genv)(rs:Bool->List Stmt->Option Fs)(nm:Names)(N:List Str)(body:List Stmt):ExceptHandler->Option Fs
 | .ExceptHandler t n b _=>t.bind fun te=>(zfF te).bind fun C=>n.bind fun nn=>(zon b).bind fun st=>(zxA st).bind fun as=>(zon as.1).bind fun tg=>(zfF tg).bind fun m=>(zfF as.2.1).bind fun n' =>
  if zcj nm C.1&&G.exc C.1&&decide (nn=n'.1)&&decide (nm.lookup nn=some .local)&&zhl nn then (idx N nn).bind fun i=>(tgI true nm N N.length m.1).bind fun j=>if i=j then none else (rs false body).bind fun b=>some (zrT G.und C.1 i j b) else none
noncomputable def zuj(G:Genv)(rs:Bool->List Stmt->Option Fs)(nm:Names)(N:List Str)(body:List Stmt)(hs:List ExceptHandler)(es fs:List Stmt):Option Fs:=if es.isEmpty&&fs.isEmpty then (zon hs).bind fun h=>zwn G rs nm N body h else none
noncomputable def stG(G:Genv)(rc:Rec)(rs:Bool->List Stmt->Option Fs)(nm:Names)(N:List Str)(own full:Bool)(st:Stmt):Option Fs:=match st with
 | .Pass _=>some sNx
 | .Break _=>some sBk
 | .Assign ts e _=>(zon ts).bind fun tg=>zt1 G rc nm N tg e
 | .Expr e _=>zqn G rc nm N e
 | .AugAssign tg op e _=>(zfF tg).bind fun x=>(ztZ op).bind fun gg=>(tgI true nm N N.length x.1).bind fun i=>(shE rc nm N e).bind fun f=>some (zrV i gg f)
 | .Return o _=>(match o with | some e=>zuM rc nm N own e | none=>if own then none else some zmP)
 | .If c a b _=>if zb8 c then (shE rc nm N c).bind fun f=>(rs full a).bind fun g=>(rs full b).bind fun h=>some (sIf f g h) else none
 | .For tg it body el _=>if full&&el.isEmpty then (zjT G rc nm N tg it).bind fun i=>(tgG true nm N N.length tg).bind fun t=>(rs full body).bind fun b=>some (zgg t i b) else none
 | .Raise a b _=>rzG G rc nm N full a b
 | .Try body hs es fs _=>zuj G rs nm N body hs es fs
 | _=>none
end S2
namespace S2
open PySem PySem.Spec PyProof.Rows L2
noncomputable def zpy(n:Nat)(own:Bool)(nm:Names)(N:List Str):Stmt->List Nat
 | .Assign [_] e _=>zcN n nm N e
 | .Expr (.Call (.Attribute _ _ _) args [] _) _=>args.flatMap (zcN n nm N)
 | .Expr e _=>zcN n nm N e
 | .Return (some (.Name x p)) _=>if own then [] else zcN n nm N (.Name x p)
 | .Return (some e) _=>zcN n nm N e
 | .If c _ _ _=>zcN n nm N c
 | .For _ it _ _ _=>zcN n nm N it
 | .While c _ _ _=>zcN n nm N c
 | _=>[]
noncomputable def blk(ds:Stmt->Option Fs):List Stmt->Option Fs
 | []=>some sNx
 | s::r=>(ds s).bind fun f=>(blk ds r).bind fun g=>some (zaj f g)
noncomputable def znQ(G:Genv)(own:Bool):Nat->Bool->Names->List Str->Stmt->Option Fs
 | 0,_,_,_,_=>none
 | n+1,full,nm,N,st=>(stG G (zvz G n) (fun fl b=>blk (znQ G own n fl nm N) b) nm N own full st).map (sFz (zpy n own nm N st))
section
variable{cl:Cf}{G:Genv}{k:Nat}{rc:Rec}{X:Cx}{nm:Names}{N:List Str}{E:St->XK}{own full:Bool}
def Gd.sto(g:Gd cl G k X nm N E full):Sto' X nm true:=⟨fun _ x _=>g.fn x⟩
def zjA{elt:Expr}{gs:List Comprehension}{scope:Scope}{p px:Pos}{x:Str}{l:Nat}{env:PySem.Env}:∃b,swapsWith (.ListComp elt gs scope p) (some (.Name x px)) l env=pure b:=⟨_,rfl⟩
def zmm{n:Nat}{t:Tg}{f:Fe}{De:Ends}{σ:St}{H:Hp}(q:tS cl E own (zh4 t f) De σ H):zoX (tE cl E f) (tG cl n t) De σ H:=by
 obtain ⟨B,w,ρ,S,rfl,R,q⟩:=q;refine ⟨B,w,ρ,S,rfl,R,?_⟩;unfold zh4 at q
 cases hf:f ρ S with
 | bad=>rwa [hf] at q
 | exc c S1=>rw [hf] at q;exact fun w' R' F'=>q σ w' R' F'
 | ok d S1 =>
  rw [hf] at q;intro v w' R' F' h';dsimp only at q
  cases hp:t.put ρ d with
  | none=>rw [hp] at q;exact q.elim
  | some ρ'=>rw [hp] at q;exact ⟨B,w',ρ,S1,d,ρ',rfl,R',h',hp,fun σ' _ _ R2=>q σ' w' R2 F'⟩
def znU(hs:zbI cl G k rc)(g:Gd cl G k X nm N E full){elt:Expr}{gg:Comprehension}{scope:Scope}{x:Str}{i:Nat}{f:Fe}{p px pos:Pos}(hi:tgI true nm N N.length x=some i)(h:zj6 G rc nm N elt gg scope=some f) :
  PS X (.Assign [.Name x px] (.ListComp elt [gg] scope p) pos) (tS cl E own (za6 i true f)):=by
 obtain ⟨a1,a2,a3,a4,a5⟩:=zfL g.gx g.sto hi;obtain ⟨b,hb⟩:=zjA (elt:=elt) (gs:=[gg]) (scope:=scope) (p:=p) (px:=px) (x:=x) (l:=pos.line) (env:=X.env)
 cases b with
 | false=>exact zkA a2 a3 a4 (zl6 hs g.gx h) hb a5
 | true =>
  obtain ⟨it,t,c,el,rfl,eg,S,i1,i2,i3,i4,i5⟩:=zf2 hs g.gx h;rw [eg] at hb ⊢;refine PS.imp (zmZ g.gx.calm S a2 a3 a4 i1 i3 i4 i5 hb a5 (zgr i2)) ?_;intro De σ H q;exact zoE (ztx q)
def zrk{a i e:Expr}{p:Pos}{l:Nat}{env:PySem.Env}:swapsWithSole [.Subscript a i p] e l env=pure false:=by cases e<;>rfl
def zrn{a i e:Expr}{p:Pos}{env:PySem.Env}:swappedStores [.Subscript a i p] e env=pure none:=by cases e<;>rfl
def zrj{es:List Expr}{kk l:Nat}{p:Pos}{e:Expr}{env:PySem.Env}:swapsWithSole [.Tuple es kk p] e l env=pure false:=by cases e<;>rfl
def zrm{es:List Expr}{kk:Nat}{p:Pos}{e:Expr}{env:PySem.Env}(h:zqK e=none):swappedStores [.Tuple es kk p] e env=pure none:=by cases e<;>first | rfl | cases h
def zoc{o e:Expr}{f:Str}{p:Pos}{l:Nat}{env:PySem.Env}:swapsWith e (some (.Attribute o f p)) l env=pure false:=by cases e<;>rfl
def zqE(hs:zbI cl G k rc)(g:Gd cl G k X nm N E full){e:Expr}{x:Str}{px:Pos}{f:Fs}{pos:Pos}(h:zvI G rc nm N x e=some f):PS X (.Assign [.Name x px] e pos) (tS cl E own f):=by
 unfold zvI at h;obtain ⟨i,h1,h⟩:=zaa h
 cases hl:lcE e with
 | some c =>
  rw [hl] at h;obtain ⟨gg,h2,h⟩:=zaa h;obtain ⟨fe,h3,h⟩:=zaa h;cases h;rw [zsI hl,zfT h2];exact znU hs g h1 h3
 | none =>
  rw [hl] at h;dsimp only at h;split at h
  ·cases h
  ·rename_i hc;obtain ⟨⟨o,fe⟩,h2,h⟩:=zaa h;cases h;obtain ⟨a1,a2,a3,a4,a5⟩:=zfL g.gx g.sto h1;obtain ⟨b1,b2,_,_⟩:=hs X nm N E g.gx _ o fe h2;have sw:=zgc (t:=some (.Name x px)) (l:=pos.line) (env:=X.env) (by simpa using hc)
   cases o with
   | false=>exact zrx a2 a3 a4 b2 sw a5
   | true=>exact zkA a2 a3 a4 (b1 rfl) sw a5
def zqC(hs:zbI cl G k rc)(g:Gd cl G k X nm N E full){e:Expr}{t:List Expr×Nat×Pos}{f:Fs}{pos:Pos}(h:zvH rc nm N t e=some f):PS X (.Assign [.Tuple t.1 t.2.1 t.2.2] e pos) (tS cl E own f):=by
 have tupCase:swappedStores [.Tuple t.1 t.2.1 t.2.2] e X.env=pure none->((tgG true nm N N.length (.Tuple t.1 t.2.1 t.2.2)).bind fun t=>(shE rc nm N e).bind fun f=>some (zh4 t f))=some f->PS X (.Assign [.Tuple t.1 t.2.1 t.2.2] e pos) (tS cl E own f):=by
  intro sw2 h;obtain ⟨t',h1,h⟩:=zaa h;obtain ⟨fe,h2,h⟩:=zaa h;cases h;exact PS.imp (zoj (zaL hs g.gx h2).1 (zoS g.gx g.sto h1) zrj sw2 rfl) fun _ _ _ q=>zmm q
 unfold zvH at h
 cases hv:zqK e with
 | none =>
  rw [hv] at h;exact tupCase (zrm hv) h
 | some v=>rw [hv] at h;cases h
def zqG(hs:zbI cl G k rc)(g:Gd cl G k X nm N E full){o e:Expr}{fl:Str}{ap:Pos}{f:Fs}{pos:Pos}(h:zvK G rc nm N o fl e=some f):PS X (.Assign [.Attribute o fl ap] e pos) (tS cl E own f):=by
 unfold zvK at h;obtain ⟨x,h1,hz⟩:=zaa h;have e1:=zi1 h1;clear h h1;subst e1;split at hz
 ·rename_i hd;split at hz
  ·rename_i hf;rw [yab] at hf;obtain ⟨i,h1,hz⟩:=za0 hz;subst hz;obtain ⟨s1,s2,s3,s4⟩:=g.gx.slot h1;obtain ⟨p,rfl⟩:=znO hd;exact zo5 s1 s2 s3 s4 g.gx.same (g.gx.gok.fk _ _ hf.2) zoc
  ·cases hz
 ·split at hz
  ·cases hz
  ·rename_i hf;rw [Bool.not_eq_true,Bool.or_eq_false_iff,Bool.not_eq_false'] at hf;obtain ⟨fo,h2,hz⟩:=zaa hz;obtain ⟨fe,h3,hz⟩:=zaa hz;cases hz;exact zo4 g.gx.same (g.gx.gok.fk _ _ hf.2) (zaL hs g.gx h2).1 (zaL hs g.gx h3).1 zoc
def zqF(hs:zbI cl G k rc)(g:Gd cl G k X nm N E full){o ix e:Expr}{fl:Str}{ap p3:Pos}{f:Fs}{pos:Pos}(h:zvJ G rc nm N o fl ix e=some f):PS X (.Assign [.Subscript (.Attribute o fl ap) ix p3] e pos) (tS cl E own f):=by
 unfold zvJ at h;split at h
 ·rename_i hc;rw [yab,yab,yab,ybO] at hc;obtain ⟨x,h1,hz⟩:=zaa h;have e1:=zi1 h1;clear h h1;subst e1;obtain ⟨i,h1,hz⟩:=zaa hz;obtain ⟨fo,h2,hz⟩:=zaa hz;obtain ⟨fe,h3,hz⟩:=zaa hz;cases hz;obtain ⟨s1,s2,s3,s4⟩:=g.gx.slot h1;refine zo2 s1 s2 s3 s4 g.gx.u16 g.gx.same (g.gx.gok.fk _ _ hc.2) (zaL hs g.gx h2).1 ?_ (zaL hs g.gx h3).1 zrk zrn ?_
  ·cases o<;>first | rfl | cases hc.1.1.1
  ·intro _;rfl
 ·cases h
def ztw(hs:zbI cl G k rc)(g:Gd cl G k X nm N E full){tg e:Expr}{f:Fs}{pos:Pos}(h:zt1 G rc nm N tg e=some f):PS X (.Assign [tg] e pos) (tS cl E own f):=by
 unfold zt1 at h
 cases h1:zfF tg with
 | some x=>rw [h1] at h;rw [zcP h1];exact zqE hs g h
 | none =>
  rw [h1] at h
  cases h2:zqK tg with
  | some t=>rw [h2] at h;rw [zoQ h2];exact zqC hs g h
  | none =>
   rw [h2] at h
   cases h3:zqP tg with
   | some a=>rw [h3] at h;rw [ziB h3];exact zqG hs g h
   | none =>
    rw [h3] at h;obtain ⟨q,h4,h⟩:=zaa h;rw [zoY h4];unfold zty at h
    cases h5:zqP q.1 with
    | some a=>rw [h5] at h;rw [ziB h5];exact zqF hs g h
    | none =>
     rw [h5] at h;cases h
def znl{e:Expr}{c:Mc}(h:znm e=some c):e=.Call (.Attribute (.Name c.x c.px) c.m c.ap) [c.a] [] c.cp:=by
 unfold znm at h;obtain ⟨c1,h1,h⟩:=zaa h;split at h
 ·rename_i hk;obtain ⟨t,h2,h⟩:=zaa h;obtain ⟨x,h3,h⟩:=zaa h;obtain ⟨a,h4,h⟩:=zaa h;cases h;rw [zjp h1,ziB h2,zcP h3,zfT h4,ybf.mp hk]
 ·cases h
def zqm(hs:zbI cl G k rc)(g:Gd cl G k X nm N E full){e:Expr}{f:Fs}{pos:Pos}(h:zqn G rc nm N e=some f):PS X (.Expr e pos) (tS cl E own f):=by
 unfold zqn at h
 cases hc:znm e with
 | some c =>
  obtain ⟨x,px,m,ap,a,cp⟩:=c;obtain rfl:=znl hc;rw [hc] at h;dsimp only at h;split at h
  ·rename_i hm;rw [yab] at hm;have em:=yau hm.1;subst em;obtain ⟨i,h1,h⟩:=zaa h;obtain ⟨fe,h2,h⟩:=zaa h;cases h;obtain ⟨s1,s2,s3,s4⟩:=g.gx.slot h1;obtain ⟨a1,_,a3⟩:=zaL hs g.gx h2;exact zry s1 s2 s3 s4 a1 (zal a3) hm.2
  split at h
  ·rename_i hm;rw [yab] at hm;have em:=yau hm.1;subst em;obtain ⟨i,h1,h⟩:=zaa h;obtain ⟨fe,h2,h⟩:=zaa h;cases h;obtain ⟨s1,s2,s3,s4⟩:=g.gx.slot h1;obtain ⟨a1,a3⟩:=zcp hs g.gx h2;exact zru s1 s2 s3 s4 a1 (zal a3) hm.2
  split at h
  ·cases h
  ·rename_i hc;obtain ⟨fe,h2,h⟩:=za0 h;subst h;exact zod (zaL hs g.gx h2).1 (zgc (by simpa using hc))
 | none =>
  rw [hc] at h;dsimp only at h;split at h
  ·cases h
  ·rename_i hc;obtain ⟨fe,h2,h⟩:=za0 h;subst h;exact zod (zaL hs g.gx h2).1 (zgc (by simpa using hc))
def zrW(hs:zbI cl G k rc)(g:Gd cl G k X nm N E full){e:Expr}{f:Fs}{pos:Pos}(h:zuM rc nm N own e=some f):PS X (.Return (some e) pos) (tS cl E own f):=by
 unfold zuM at h;split at h
 ·split at h
  ·obtain ⟨i,h1,h⟩:=za0 h;subst h;obtain ⟨s1,s2,s3,s4⟩:=g.gx.slot h1;exact zoZ s1 s2 s3 s4
  ·obtain ⟨⟨o,fe⟩,h1,h⟩:=zaa h;dsimp only at h;split at h
   ·rename_i ho;cases h;exact zo0 ((hs X nm N E g.gx _ o fe h1).1 ho)
   ·cases h
 ·obtain ⟨fe,h2,h⟩:=za0 h;subst h;exact zrr (zaL hs g.gx h2).1
def zrc(g:Gd cl G k X nm N E full)(pins:Z3)(E':St->XK):Gd cl G k (zn9 X pins E') nm N E' false where
 gx:=⟨g.gx.gok,g.gx.room,g.gx.calm,fun pins' σ H s e s' I q=>⟨σ,H,s,zc7 I,q⟩,g.gx.eN,g.gx.kk,g.gx.pp,g.gx.ww,g.gx.nd,g.gx.vis,g.gx.fnx⟩
 fn:=g.fn
 kind:=g.kind
 sc:=g.sc
 own:=fun z=>by cases z
 raises:=fun z=>by cases z
 stk:=g.stk
 frm:=g.frm
def zuz(hs:zbI cl G k rc){rs:Bool->List Stmt->Option Fs}(hr:∀(fl:Bool) (X:Cx) (E:St->XK),Gd cl G k X nm N E fl->∀b f,rs fl b=some f->PSs X b (tS cl E own f))(g:Gd cl G k X nm N E full){st:Stmt}{f:Fs}(h:stG G rc rs nm N own full st=some f):PS X st (tS cl E own f):=by
 cases st with
 | Pass p=>cases h;exact zo3
 | Break p=>cases h;exact zrv
 | Assign ts e p =>
  obtain ⟨tg,h1,h⟩:=zaa (show ((zon ts).bind fun tg=>zt1 G rc nm N tg e)=some f from h);obtain rfl:=zfT h1;exact ztw hs g h
 | Expr e p=>exact zqm hs g h
 | AugAssign tg op e p =>
  obtain ⟨x,h1,hz⟩:=zaa (show ((zfF tg).bind fun x=>(ztZ op).bind fun gg=>(tgI true nm N N.length x.1).bind fun i=>(shE rc nm N e).bind fun f=>some (zrV i gg f))=some f from h);obtain ⟨gg,h2,hz⟩:=zaa hz;obtain ⟨i,h3,hz⟩:=zaa hz;obtain ⟨fe,h4,hz⟩:=zaa hz;cases hz;rw [zcP h1];obtain ⟨_,a2,a3,a4,a5⟩:=zfL g.gx g.sto h3;exact zrw h2 a2 a3 a4 (zaL hs g.gx h4).1 a5
 | Return o p =>
  cases o with
  | some e=>exact zrW hs g h
  | none =>
   have h':(if own then none else some zmP)=some f:=h;split at h'
   ·cases h'
   ·rename_i ho;cases h'
    have:own=false:=by simpa using ho
    subst this;exact zo1
 | If c a b p =>
  have h':(if zb8 c then (shE rc nm N c).bind fun f=>(rs full a).bind fun g=>(rs full b).bind fun h=>some (sIf f g h) else none)=some f:=h;split at h'
  ·rename_i ht;obtain ⟨fc,h1,h⟩:=zaa h';obtain ⟨fa,h2,h⟩:=zaa h;obtain ⟨fb,h3,h⟩:=zaa h;cases h;exact zuA ((zaL hs g.gx h1).2.1 ht) (hr full X E g a fa h2) (hr full X E g b fb h3)
  ·cases h'
 | For tg it body el p =>
  have h':(if full&&el.isEmpty then (zjT G rc nm N tg it).bind fun i=>(tgG true nm N N.length tg).bind fun t=>(rs full body).bind fun b=>some (zgg t i b) else none)=some f:=h;split at h'
  ·rename_i hf;rw [yab] at hf;obtain rfl:=ybf.mp hf.2;obtain ⟨it,h1,h⟩:=zaa h';obtain ⟨t,h2,h⟩:=zaa h;obtain ⟨fb,h3,h⟩:=zaa h;cases h;obtain ⟨i1,i2⟩:=zlF hs g.gx (tg:=_) h1;exact zrt (g.own hf.1) g.gx.calm i1 (zoS g.gx g.sto h2) (hr full X E g _ fb h3) (zgr i2)
  ·cases h'
 | Raise ea eb p =>
  have h':rzG G rc nm N full ea eb=some f:=h;unfold rzG at h';split at h'
  ·rename_i hb;obtain rfl:=Option.isNone_iff_eq_none.mp hb;obtain ⟨e0,e1,hz⟩:=zaa h';obtain ⟨c0,h1,hy⟩:=zaa hz;obtain ⟨⟨c,p⟩,h2,hx⟩:=zaa hy;have e2:=zjp h1;obtain ⟨fn,args,kws,cp⟩:=c0;have e3:fn=.Name c p:=zcP h2;clear h h' hz hy h1 h2;subst e1;subst e2;subst e3;dsimp only at hx ⊢;split at hx
   ·rename_i hf;simp only [yab] at hf;obtain ⟨⟨⟨⟨k0,a0⟩,f0⟩,g0⟩,x0⟩:=hf;obtain rfl:=ybf.mp k0
    cases args with
    | nil=>cases a0
    | cons e es =>
    obtain ⟨fs,h1,h⟩:=zaa hx;cases h;obtain ⟨g1,g2,_⟩:=g.gx.glob g0;obtain ⟨m,z⟩:=g.gx.gok.exc c x0;obtain ⟨a1,a2,_⟩:=zeX hs g.gx h1;rw [ybH,yab] at a2;refine PS.imp (zkY (g.raises f0) g.gx.calm g1 m z a1 (za9 a2.1) (zbb a2.2) g2) ?_;rintro De σ H ⟨B,w,ρ,S,rfl,R,q⟩;refine ⟨B,w,ρ,S,rfl,R,?_⟩;unfold sRz at q
    cases hv:zan fs ρ S with
    | bad=>rwa [hv] at q
    | exc c S1=>rw [hv] at q;exact fun w' R' F'=>q σ w' R' F'
    | ok ds S1 =>
     rw [hv] at q;dsimp only at q
     cases hz:small ds.length with
     | false=>rw [hz,if_neg (by decide)] at q;exact q.elim
     | true =>
      rw [hz,if_pos rfl] at q;exact fun vs w' R' F' sh=>⟨by rw [sh.length];exact zbf hz,q σ w' R' F'⟩
   ·cases hx
  ·cases h'
 | Try body hs' es' fs' p =>
  have h':zuj G rs nm N body hs' es' fs'=some f:=h;unfold zuj at h';split at h'
  ·rename_i he;rw [yab] at he;obtain rfl:=ybf.mp he.1;obtain rfl:=ybf.mp he.2;obtain ⟨hd,h1,hz⟩:=zaa h';have e1:=zfT h1;clear h h' h1;subst e1;obtain ⟨ty,nn,bb,hp⟩:=hd;unfold zwn at hz;obtain ⟨te,e2,hz⟩:=zaa hz;obtain ⟨⟨C,np⟩,h2,hz⟩:=zaa hz;obtain ⟨n,e3,hz⟩:=zaa hz;obtain ⟨st,h3,hz⟩:=zaa hz;obtain ⟨⟨ts,v,ap⟩,h4,hz⟩:=zaa hz;obtain ⟨tg,h5,hz⟩:=zaa hz;obtain ⟨⟨m,mp⟩,h6,hz⟩:=zaa hz;obtain ⟨⟨n',n'p⟩,h7,h⟩:=zaa hz;rw [e2,e3,zcP h2,zfT h3,zqD h4];dsimp only at h5 h7 h ⊢;rw [zfT h5,zcP h6,zcP h7];dsimp only;split at h
   ·rename_i hc;simp only [yab,ybw] at hc;obtain ⟨⟨⟨⟨c1,c2⟩,c3⟩,c4⟩,c5⟩:=hc;subst c3;obtain ⟨i,h1,h⟩:=zaa h;obtain ⟨j,h2,h⟩:=zaa h;split at h
    ·cases h
    ·rename_i hij;obtain ⟨fb,h3,h⟩:=zaa h;cases h;obtain ⟨g1,g2,_⟩:=g.gx.glob c1;obtain ⟨mC,zC⟩:=g.gx.gok.exc C c2;obtain ⟨o1,o2,_⟩:=ze8 c5
     have hnl:X.env.scope.names.lookup n=some .local:=by rw [g.sc];exact c4
     have hNi:X.N[i]?=some n:=by rw [g.gx.eN];exact zfn h1
     obtain ⟨_,a2,a3,a4,a5⟩:=zfL g.gx g.sto h2;refine PS.imp (zpt (tb:=fun E'=>tS cl E' own fb) g.stk g.frm (by rw [g.gx.eN];exact g.gx.nd) hNi hnl g1 mC zC (by decide +kernel) (fun pins E'=>hr false _ E' (zrc g pins E') _ fb h3) (fun a=>zpr (zkW (X:=X.inH a) a2 a3 a4 (zdx (X:=X.inH a) hNi (.inl hnl) o1 o2) rfl a5)) g2) ?_;intro De σ H q;exact zmD hij (fun c hc'=>g.gx.gok.und c C hc') q
   ·cases h
  ·cases h'
 | _=>cases h
theorem zjq{ds:Stmt->Option Fs}(hd:∀st f,ds st=some f->PS X st (tS cl E own f)):∀{b:List Stmt} {f:Fs},blk ds b=some f->PSs X b (tS cl E own f)
 | [],f,h=>by cases h;exact zrs
 | s::r,f,h=>by
  unfold blk at h;obtain ⟨f1,h1,h⟩:=zaa h;obtain ⟨f2,h2,h⟩:=zaa h;cases h;exact zo6 (hd s f1 h1) (zjq hd h2)
theorem zgF:∀(n:Nat) (fl:Bool) (X:Cx) (E:St->XK),Gd cl G k X nm N E fl->∀st f,znQ G own n fl nm N st=some f->PS X st (tS cl E own f)
 | 0,_,_,_,_,_,_,h=>by cases h
 | n+1,fl,X,E,g,st,f,h=>by
  unfold znQ at h;obtain ⟨f1,h1,h⟩:=za0 h;subst h;exact zuB _ (zuz (zoC n) (fun fl X E g b f hb=>zjq (fun st f hst=>zgF n fl X E g st f hst) hb) g h1)
end
noncomputable def zbL(nN:Nat)(own:Bool)(fs:Fs)(ds:List D)(S:Sto):Out D:=match fs (ds.map (fun d=>some (false,d))++List.replicate (nN-ds.length) none) S with
 | .rt d S'=>.ok d S'
 | .nx _ S'=>if own then .bad else .ok .non S'
 | .ex c _ S'=>.exc c S'
 | _=>.bad
noncomputable def zao(G:Genv)(own:Bool)(N:List Str)(st:Stmt):Option Fs:=blk (znQ G own 40 true (zab st).names N) (zbt st)
def zio{P:Program}{wo:PySem.World}{K:PySem.W.Frag}{mg:Z6}{base:Heap}{cl:Cf}{G:Genv}{k:Nat}{x qual:Str}{st:Stmt}{f:Addr}{fd:FuncData}{N ps:List Str}{own:Bool}{fs:Fs}(F:Fun K x qual st f fd)(S:FnScope N ps (zab st))(hG:GOk cl G P wo K mg base k)
  (hk:K=cl.K) (hP:P=cl.P) (hW:wo=cl.wo) (hd:zao G own N st=some fs):FnOk P wo K mg base (CXE P wo) (k+1) f fd ps (zg0 cl ps.length own (zbL N.length own fs)):=by
 obtain ⟨oc,od,kV,doc,pm,an,cdv,ct,osl,rfl,lk,hcd⟩:=F.ex;refine ztc lk hcd S (fun vs H Q E h=>h.1) fun A outer s H vs Q E hr hsp=>?_
 refine ⟨tS cl (fun _=>E) own fs,?_,?_⟩
 ·have g:Gd cl G k (zl1 (CXE P wo) P wo K mg base N qual (zab st) f cdv A outer s H E) (zab st).names N (fun _=>E) true :=
   ⟨⟨hG,hr,rfl,fun pins σ H1 s1 e s' I q=>zsk pins σ H1 s1 e s' I q,rfl,hk,hP,hW,S.nd,fun x kd h=>⟨kd,h,.inl rfl⟩,fun x h=>h⟩,fun _=>rfl,S.kind,rfl,fun _=>PassesOwn.leaving,fun _ C pins σ H1 s1 e h' vs I mk q=>zkT C pins σ H1 s1 e h' vs I mk q,rfl,rfl⟩
  exact zjq (fun st f hst=>zgF 40 true _ _ g st f hst) hd
 ·obtain ⟨hl,B,w,ds,S0,rfl,W,sh,q⟩:=hsp;have hdl:ds.length=vs.length:=sh.length.symm;refine ⟨B,w,ds.map (fun d=>some (false,d))++List.replicate (N.length-ds.length) none,S0,rfl,⟨W,?_,fun i o d hi=>?_⟩,?_⟩
  ·unfold L2.zeW;rw [yao,yao,yae,yae,yaD,yaD,hdl]
  ·by_cases hlt:i<ds.length
   ·rw [yaz (by rw [yae];exact hlt),yak] at hi
    cases hdi:ds[i]? with
    | none=>rw [hdi] at hi;cases hi
    | some d' =>
     rw [hdi] at hi;cases hi;obtain ⟨v,e1,e2⟩:=sh.at hdi;refine ⟨v,?_,e2⟩;unfold L2.zeW;rw [yaz (by rw [yae];omega),yak,e1];rfl
   ·rw [yaq (by rw [yae];omega),yba] at hi
    split at hi<;>cases hi
  ·unfold zbL at q
   cases hf:fs (ds.map (fun d=>some (false,d))++List.replicate (N.length-ds.length) none) S0 with
   | bad=>rwa [hf] at q
   | bk _ _=>rw [hf] at q;exact q.elim
   | ct _ _=>rw [hf] at q;exact q.elim
   | rt d S'=>rwa [hf] at q
   | ex c ρ' S'=>rw [hf] at q;exact fun σ' w' R' F'=>q w' R'.wd F'
   | nx ρ' S' =>
    rw [hf] at q;dsimp only at q
    cases own with
    | true=>exact q.elim
    | false=>exact fun σ' w' R' F'=>q .non w' R'.wd F' .non
structure FunD(K:PySem.W.Frag)(x qual:Str)(st:Stmt)(f:Addr)(fd:FuncData)(items:Array Value):Prop where
 ex:∃(oc:Value) (od:Option Addr) (T:Addr) (o:Obj) (n:Nat) (kV doc pm:Value) (an:Option Addr) (cdv ct:Value) (osl:Array (Option Value)),
  fd=PySem.W.fnOf x qual (zbG st) (zbt st) (zab st) (.ref T) kV doc pm an cdv ct/\K.lookup f=some ⟨oc,od,.func fd,osl⟩/\PySem.W.codeIn K cdv qual=true/\K.lookup T=some o/\o.data=.seq items n
noncomputable def inC(j:Nat):Stmt->Stmt | .ClassDef _ _ _ b ..=>b.getD j (.Pass ⟨0,0,0,0⟩) | s=>s
def ztb{P:Program}{wo:PySem.World}{K:PySem.W.Frag}{mg:Z6}{base:Heap}{cl:Cf}{G:Genv}{k:Nat}{x qual:Str}{st:Stmt}{f:Addr}{fd:FuncData}{N ps:List Str}{own:Bool}{fs:Fs}{items:Array Value}(F:FunD K x qual st f fd items)(S:FnScope N ps (zab st))(hG:GOk cl G P wo K mg base k)
  (hk:K=cl.K) (hP:P=cl.P) (hW:wo=cl.wo) (hd:zao G own N st=some fs):FnOk P wo K mg base (CXE P wo) (k+1) f fd ps (zg0 cl ps.length own (zbL N.length own fs)):=by
 obtain ⟨oc,od,T,o,n,kV,doc,pm,an,cdv,ct,osl,rfl,lk,hcd,_⟩:=F.ex;refine ztc lk hcd S (fun vs H Q E h=>h.1) fun A outer s H vs Q E hr hsp=>?_
 refine ⟨tS cl (fun _=>E) own fs,?_,?_⟩
 ·have g:Gd cl G k (zl1 (CXE P wo) P wo K mg base N qual (zab st) f cdv A outer s H E) (zab st).names N (fun _=>E) true :=
   ⟨⟨hG,hr,rfl,fun pins σ H1 s1 e s' I q=>zsk pins σ H1 s1 e s' I q,rfl,hk,hP,hW,S.nd,fun x kd h=>⟨kd,h,.inl rfl⟩,fun x h=>h⟩,fun _=>rfl,S.kind,rfl,fun _=>PassesOwn.leaving,fun _ C pins σ H1 s1 e h' vs I mk q=>zkT C pins σ H1 s1 e h' vs I mk q,rfl,rfl⟩
  exact zjq (fun st f hst=>zgF 40 true _ _ g st f hst) hd
 ·obtain ⟨hl,B,w,ds,S0,rfl,W,sh,q⟩:=hsp;have hdl:ds.length=vs.length:=sh.length.symm;refine ⟨B,w,ds.map (fun d=>some (false,d))++List.replicate (N.length-ds.length) none,S0,rfl,⟨W,?_,fun i o d hi=>?_⟩,?_⟩
  ·unfold L2.zeW;rw [yao,yao,yae,yae,yaD,yaD,hdl]
  ·by_cases hlt:i<ds.length
   ·rw [yaz (by rw [yae];exact hlt),yak] at hi
    cases hdi:ds[i]? with
    | none=>rw [hdi] at hi;cases hi
    | some d' =>
     rw [hdi] at hi;cases hi;obtain ⟨v,e1,e2⟩:=sh.at hdi;refine ⟨v,?_,e2⟩;unfold L2.zeW;rw [yaz (by rw [yae];omega),yak,e1];rfl
   ·rw [yaq (by rw [yae];omega),yba] at hi
    split at hi<;>cases hi
  ·unfold zbL at q
   cases hf:fs (ds.map (fun d=>some (false,d))++List.replicate (N.length-ds.length) none) S0 with
   | bad=>rwa [hf] at q
   | bk _ _=>rw [hf] at q;exact q.elim
   | ct _ _=>rw [hf] at q;exact q.elim
   | rt d S'=>rwa [hf] at q
   | ex c ρ' S'=>rw [hf] at q;exact fun σ' w' R' F'=>q w' R'.wd F'
   | nx ρ' S' =>
    rw [hf] at q;dsimp only at q
    cases own with
    | true=>exact q.elim
    | false=>exact fun σ' w' R' F'=>q .non w' R'.wd F' .non
end S2
namespace S2
open PySem PySem.Spec PyProof.Rows L2
structure Tab where
 con:List (Str×D)
 blt:List Str
 exc:List Str
 und:List (Str×Str)
 rz:List Str
 fk:List (Str×Str)
 df:List Str
noncomputable def ztU(rz exc:List Str)(c C:Str):Option Bool:=if rz.contains c then (if C = "ValueError" then some true else if exc.contains C then some (decide (C=c)||decide (C = "FloorError")) else none) else none
noncomputable def zq6(l:List (Str×Str))(c C:Str):Bool:=l.contains (c,C)
structure Fn3 where
 cur:Str
 fs:List (Str×FnI)
 ms:List (Str×Str×FnI)
 ks:List (Str×List D×FnI)
noncomputable def Gn(T:Tab)(F:Fn3):Genv:=⟨fun x=>T.con.lookup x,fun x=>F.fs.lookup x,fun x=>T.blt.contains x,fun x=>T.exc.contains x,zq6 T.und,ztU T.rz T.exc,⟨F.cur,zq6 T.fk,fun f=>T.df.contains f,fun m=>F.ms.lookup m,fun c=>F.ks.lookup c⟩⟩
noncomputable def Fn3.fn(F:Fn3)(x:Str)(fi:FnI):Fn3:=⟨F.cur,(x,fi)::F.fs,F.ms,F.ks⟩
noncomputable def Fn3.mt(F:Fn3)(m c:Str)(fi:FnI):Fn3:=⟨F.cur,F.fs,(m,c,fi)::F.ms,F.ks⟩
noncomputable def Fn3.cls(F:Fn3)(c:Str)(dds:List D)(fi:FnI):Fn3:=⟨F.cur,F.fs,F.ms,(c,dds,fi)::F.ks⟩
noncomputable def Fn3.at(F:Fn3)(c:Str):Fn3:=⟨c,F.fs,F.ms,F.ks⟩
section
variable{cl:Cf}{T:Tab}{P:Program}{wo:PySem.World}{K:PySem.W.Frag}{mg:Z6}{base:Heap}{k:Nat}{fs:Fn3}
def zcu{α:Type}{x y:Str}{a:α}{l:List (Str×α)}{b:α}(h:((x,a)::l).lookup y=some b):(y=x/\b=a)\/l.lookup y=some b:=by
 rw [yay] at h
 cases e:y == x with
 | true=>rw [e] at h;cases h;exact .inl ⟨eq_of_beq e,rfl⟩
 | false=>rw [e] at h;exact .inr h
def zeE{α:Type}{p:α->Prop}:∀x∈([]:List α),p x:=fun _ h=>nomatch h
def zai{α:Type}{p:α->Prop}{a:α}{l:List α}(h:p a)(t:∀x∈l,p x):∀x∈a::l,p x:=fun x hx=>(yav.mp hx).elim (fun e=>e ▸ h) (t x)
theorem zht{α:Type}{x:Str}{a:α}:∀{l:List (Str×α)},l.lookup x=some a->(x,a)∈l
 | [],h=>by cases h
 | (y,b)::l,h=>by
  rcases zcu h with ⟨rfl,rfl⟩ | h
  ·exact yat
  ·exact yap _ (zht h)
noncomputable def ztD(K:PySem.W.Frag)(cl:Cf)(exc:List Str)(c:Str):Prop:=PySem.W.ExcCls K (cl c)/\PySem.W.kitOne K (.ref (cl c)) (.type "ValueError")=some true/\∀C∈exc,PySem.W.kitOne K (.ref (cl c)) (.ref (cl C))=some (decide (C=c)||decide (C = "FloorError"))
def zy3(hc:∀p∈T.con,∃v u,mg p.1=some u/\zbw v u/\∀w,Shd cl w v p.2)(hb:∀x∈T.blt,mg x=none)(he:∀c∈T.exc,mg c=some (.ref (cl c))/\PySem.W.excIn K (cl c) bmV "ValueError.__new__" = true)(hu:∀p∈T.und,L2.zn5 K (cl p.1) (cl p.2))(hx:∀c∈T.rz,ztD K cl T.exc c)(hfk:∀p∈T.fk,Cls cl.K (cl p.1)/\zdB cl.K (cl p.1) p.2):GOk cl (Gn T ⟨"",[],[],[]⟩) P wo K mg base 0 where
 fk:=fun c f h=>hfk (c,f) (by simpa using (show T.fk.contains (c,f)=true from h))
 mt:=fun m c fi h=>by cases h
 mks:=fun c dds fi h=>by cases h
 con:=fun x d h=>hc (x,d) (zht h)
 fn:=fun x fi h=>by cases h
 blt:=fun x h=>hb x (by simpa using (show T.blt.contains x=true from h))
 exc:=fun c h=>he c (by simpa using (show T.exc.contains c=true from h))
 und:=fun c C h=>hu (c,C) (by simpa using (show T.und.contains (c,C)=true from h))
 isx:=fun c C b h=>by
  have h':ztU T.rz T.exc c C=some b:=h;unfold ztU at h';split at h'
  ·rename_i hc;obtain ⟨x1,x2,x3⟩:=hx c (by simpa using hc);refine ⟨x1,?_⟩;unfold ztl;split at h'
   ·rename_i hC;cases h';rw [if_pos hC];exact x2
   ·rename_i hC;rw [if_neg hC];split at h'
    ·rename_i hm;cases h';exact x3 C (by simpa using hm)
    ·cases h'
  ·cases h'
def GOk.add{x:Str}{fi:FnI}{f:Addr}{fd:FuncData}{ps:List Str}(g:GOk cl (Gn T fs) P wo K mg base k)(m:mg x=some (.ref f))(kp:PySem.W.keepIn K (.ref f)=true)(b:zbQ K fd ps [])(F:FnOk P wo K mg base (CXE P wo) (k+1) f fd ps (zg0 cl fi.ar fi.own fi.run)) :
  GOk cl (Gn T (fs.fn x fi)) P wo K mg base (k+1) where
 con:=g.con
 fn:=fun y fj h=>by
  rcases zcu h with ⟨rfl,rfl⟩ | h
  ·exact ⟨f,fd,ps,m,kp,b,F⟩
  ·obtain ⟨f',fd',ps',h1,h2,h3,h4⟩:=g.fn y fj h;exact ⟨f',fd',ps',h1,h2,h3,h4.mono (yct _)⟩
 blt:=g.blt
 exc:=g.exc
 und:=g.und
 isx:=g.isx
 fk:=g.fk
 mt:=fun m c fi h=>by
  obtain ⟨f',fd',ps',h1,h2,h3,h4⟩:=g.mt m c fi h;exact ⟨f',fd',ps',h1,h2,h3,h4.mono (yct _)⟩
 mks:=fun c dds fi h=>by
  obtain ⟨f',fd',ps',dvs,ds,k',hk,z⟩:=g.mks c dds fi h;exact ⟨f',fd',ps',dvs,ds,k',Nat.le_succ_of_le hk,z⟩
theorem GOk.at(g:GOk cl (Gn T fs) P wo K mg base k)(c:Str):GOk cl (Gn T (fs.at c)) P wo K mg base k:=⟨g.con,g.fn,g.blt,g.exc,g.und,g.isx,g.fk,g.mt,g.mks⟩
def GOk.up{k':Nat}(g:GOk cl (Gn T fs) P wo K mg base k)(hk:k<=k'):GOk cl (Gn T fs) P wo K mg base k' where
 con:=g.con
 fn:=fun y fj h=>by
  obtain ⟨f',fd',ps',h1,h2,h3,h4⟩:=g.fn y fj h;exact ⟨f',fd',ps',h1,h2,h3,h4.mono hk⟩
 blt:=g.blt
 exc:=g.exc
 und:=g.und
 isx:=g.isx
 fk:=g.fk
 mt:=fun m c fi h=>by
  obtain ⟨f',fd',ps',h1,h2,h3,h4⟩:=g.mt m c fi h;exact ⟨f',fd',ps',h1,h2,h3,h4.mono hk⟩
 mks:=fun c dds fi h=>by
  obtain ⟨f',fd',ps',dvs,ds,j,hj,z⟩:=g.mks c dds fi h;exact ⟨f',fd',ps',dvs,ds,j,yah hj hk,z⟩
def GOk.addM{m c:Str}{fi:FnI}{f:Addr}{fd:FuncData}{ps:List Str}(g:GOk cl (Gn T fs) P wo K mg base k)(cc:Cls K (cl c))(hm:Meth K (cl c) m f)(b:zbQ K fd ps [])(F:FnOk P wo K mg base (CXE P wo) k f fd ps (zg0 cl fi.ar fi.own fi.run)) :
  GOk cl (Gn T (fs.mt m c fi)) P wo K mg base k where
 con:=g.con
 fn:=g.fn
 blt:=g.blt
 exc:=g.exc
 und:=g.und
 isx:=g.isx
 fk:=g.fk
 mt:=fun m' c' fi' h=>by
  rcases zcu h with ⟨rfl,e⟩ | h
  ·cases e;exact ⟨f,fd,ps,cc,hm,b,F⟩
  ·exact g.mt m' c' fi' h
 mks:=g.mks
def GOk.addK{c:Str}{dds:List D}{fi:FnI}{f:Addr}{fd:FuncData}{ps:List Str}{dvs:List V}{ds:List Value}{k':Nat}(g:GOk cl (Gn T fs) P wo K mg base k)(hk:k'+1<=k)(hm:mg c=some (.ref (cl c)))(M:Mk K (cl c) f)(b0:zbQ K fd ps [])(bD:zbQ K fd ps ds)(vd:Vals dvs ds)(sd:∀w,Shds cl w dvs dds)(F:FnOk P wo K mg base (CXE P wo) k' f fd ps (zg0 cl fi.ar false fi.run)) :
  GOk cl (Gn T (fs.cls c dds fi)) P wo K mg base k where
 con:=g.con
 fn:=g.fn
 blt:=g.blt
 exc:=g.exc
 und:=g.und
 isx:=g.isx
 fk:=g.fk
 mt:=g.mt
 mks:=fun c' dds' fi' h=>by
  rcases zcu h with ⟨rfl,e⟩ | h
  ·cases e;exact ⟨f,fd,ps,dvs,ds,k',hk,hm,M,b0,bD,vd,sd,F⟩
  ·exact g.mks c' dds' fi' h
def zfM{n:Nat}{own:Bool}{vs:List V}{H:Hp}{Q:VK}{E:XK}(h:zg0 cl n own (fun _ _=>.bad) vs H Q E):False:=by
 obtain ⟨_,B,w,ds,S,_,_,_,q⟩:=h;exact q
def zl9{C:Addr}{b:List Value}{i:String}(x:PySem.W.excIn K C b i=true):(PySem.W.clsIn K C).isSome=true/\PySem.W.typeIn K (.ref C)=some (.type "type"):=by
 unfold PySem.W.excIn at x;split at x
 ·rename_i d cd sl e;refine ⟨?_,?_⟩
  ·unfold PySem.W.clsIn;rw [e];rfl
  ·show (K.lookup C).map (·.cls)=_;rw [e];rfl
 ·cases x
def zgd{C:Addr}{el:Value}{ed:Option Addr}{ec:ClassData}{es:Array (Option Value)}{m:List Value}{v:Value}(lk:K.lookup C=some ⟨el,ed,.cls ec,es⟩)(mr:ec.mro=.ref C::m):PySem.W.subIn K (.ref C) v=some ((Value.ref C::m).contains v):=by
 show PySem.W.mroIn K C v=_;unfold PySem.W.mroIn PySem.W.clsIn;rw [lk];show (if ec.mro.isEmpty then none else some (ec.mro.contains v))=_;rw [mr];rfl
def zkR{a b:Addr}(h:a≠b):(Value.ref a == Value.ref b)=false:=Bool.eq_false_iff.mpr fun z=>h (Value.ref.inj (ybT.mp z))
def zpX{C F:Addr}{el:Value}{ed:Option Addr}{ec:ClassData}{es:Array (Option Value)}(lk:K.lookup C=some ⟨el,ed,.cls ec,es⟩)(mr:ec.mro=.ref C::.ref F::bmV):PySem.W.kitOne K (.ref C) (.type "ValueError")=some true:=by
 have h1:PySem.W.kitMeta "ValueError" = true:=by decide +kernel
 have h0:(Value.ref C == Value.type "ValueError")=false:=by with_unfolding_all rfl
 unfold PySem.W.kitOne PySem.W.kitCls;simp only [h0,h1,zgd lk mr];simp
def zpY{C D F:Addr}{el:Value}{ed:Option Addr}{ec:ClassData}{es:Array (Option Value)}{b:List Value}{i:String}(lk:K.lookup C=some ⟨el,ed,.cls ec,es⟩)(mr:ec.mro=.ref C::.ref F::bmV)(x:PySem.W.excIn K D b i=true):PySem.W.kitOne K (.ref C) (.ref D)=some (decide (D=C)||decide (D=F)):=by
 by_cases h:D=C
 ·subst h;unfold PySem.W.kitOne;rw [if_pos (ybF _)];simp
 ·obtain ⟨h1,h2⟩:=zl9 x;have h0:=zkR (fun z=>h z.symm:C≠D);unfold PySem.W.kitOne PySem.W.kitCls;simp only [h0,h1,h2,zgd lk mr];have e1:(Value.ref D == Value.ref C)=false:=zkR h;simp only [ycm,e1,Bool.false_or,yaU,ybW,ybF,Bool.and_self,yb7,h,decide_false]
  by_cases h4:D=F
  ·subst h4;simp
  ·have e2:(Value.ref D == Value.ref F)=false:=zkR h4;simp only [e2,Bool.false_or,h4,decide_false,Option.some.injEq]
   with_unfolding_all rfl
def zlk{c:ClassData}{C F:Addr}{m:List Value}(h:c.mro=.ref C::.ref F::m):c.mro.contains (.ref F)=true:=by
 rw [h,ycm,ycm,ybF,Bool.true_or,Bool.or_true]
def zoI{L:List (Str×Addr)}:∀{C:Str},C∈L.map (·.1)->∃a,L.lookup C=some a/\(C,a)∈L:=by
 induction L with
 | nil=>intro C h;simp at h
 | cons p L ih =>
  intro C h;rw [yay]
  cases e:C == p.1 with
  | true=>exact ⟨p.2,rfl,by rw [eq_of_beq e];exact yat⟩
  | false =>
   have:C∈L.map (·.1):=by
    rw [yaw,yav] at h
    rcases h with h | h
    ·rw [h] at e;simp at e
    ·exact h
   obtain ⟨a,h1,h2⟩:=ih this;exact ⟨a,h1,yap _ h2⟩
theorem zkB:∀{L:List (Str×Addr)},(L.map (·.2)).Nodup->∀{C c:Str} {a:Addr},(C,a)∈L->(c,a)∈L->C=c
 | [],_,_,_,_,h,_=>by simp at h
 | p::L,nd,C,c,a,h,h'=>by
  rw [yaw,ybs] at nd;rw [yav] at h h'
  rcases h with h | h<;>rcases h' with h' | h'
  ·rw [<-h'] at h;exact (Prod.mk.inj h).1
  ·exact absurd (yan.mpr ⟨_,h',by rw [<-h]⟩) nd.1
  ·exact absurd (yan.mpr ⟨_,h,by rw [<-h']⟩) nd.1
  ·exact zkB nd.2 h h'
def ztz{L:List (Str×Addr)}(nd:(L.map (·.2)).Nodup){C c:Str}(hC:C∈L.map (·.1))(hc:c∈L.map (·.1)):(L.lookup C).getD 0=(L.lookup c).getD 0↔C=c:=by
 obtain ⟨a,h1,h2⟩:=zoI hC;obtain ⟨b,h3,h4⟩:=zoI hc;rw [h1,h3];constructor
 ·intro e;have:a=b:=e;subst this;exact zkB nd h2 h4
 ·rintro rfl;rw [h1] at h3;cases h3;rfl
def zou{c:Str}{cl:Cf}{exc:List Str}{F:Addr}{el:Value}{ed:Option Addr}{ec:ClassData}{es:Array (Option Value)}
  (lk:K.lookup (cl c)=some ⟨el,ed,.cls ec,es⟩) (mr:ec.mro=.ref (cl c)::.ref F::bmV) (hF:cl "FloorError" = F)
  (ga:PySem.W.findIn K (.ref (cl c)) "__getattribute__" = some (some (.builtin "BaseException.__getattribute__"))) (gt:PySem.W.findIn K (.ref (cl c)) "__getattr__" = some none) (cc:PySem.W.findIn K (.ref (cl c)) "__class__" = some (some (.builtin "object.__class__")))
  (hx:∀C∈exc,PySem.W.excIn K (cl C) bmV "ValueError.__new__" = true) (hi:∀C∈exc,(cl C=cl c↔C=c)/\(cl C=cl "FloorError" ↔ C = "FloorError")):ztD K cl exc c:=by
 refine ⟨⟨ga,gt,cc,?_,?_,_,_,_,_,lk⟩,zpX lk mr,fun C hC=>?_⟩
 ·rw [zgd lk mr];simp
 ·rw [zgd lk mr];simp
 ·rw [zpY lk mr (hx C hC)];obtain ⟨i1,i2⟩:=hi C hC;rw [hF] at i2;simp only [i1,i2]
end
noncomputable def zmJ(K:PySem.W.Frag):Sp:=fun vs H Q _=>∃(a:Addr) (ns:List Int),vs=[.ref a]/\ns.length<=63/\zt2 H/\SqL K H a (ns.map V.int)/\∀H',Q (.bl true) H'
def zsJ{cl:Cf}{run:List D->Sto->Out D}(hr:∀l:List Int,l.length<=63->∃S,run [.scr l] []=.ok (.bl true) S):∀vs H Q E,zmJ cl.K vs H Q E->zg0 cl 1 false run vs H Q E:=by
 rintro vs H Q E ⟨a,ns,rfl,hl,hO,hS,q⟩;refine ⟨rfl,⟨fun _=>none,fun _=>none⟩,⟨H,fun _=>none,[]⟩,[.scr ns],[],rfl,⟨(fun a o h=>by cases h),(fun a r h=>by cases h),rfl,(fun n ob h=>by simp at h)⟩,.cons ?_ .nil,?_⟩
 ·rcases hS with (hS | ⟨o,hS⟩) | hS
  ·rcases hO a with z | ⟨o,xs,z⟩
   ·rw [hS] at z;cases z
   ·rw [hS] at z;cases z
  ·exact .scr hS rfl
  ·exact .scrK fun H=>.inr hS
 ·obtain ⟨S',e⟩:=hr ns hl;rw [e];intro v w' _ _ r;have r':Shd cl w' v (.bl true):=r;cases r';exact q _
end S2
namespace S2
open PySem PySem.Spec PyProof.Rows L2
noncomputable abbrev Rn:=List D->Sto->Out D
noncomputable def zfB(n1 n2 n3:Nat)(b1 b2 b3:Rn->Rn->Rn->Fs):Nat->Rn×Rn×Rn
 | 0=>(fun _ _=>.bad,fun _ _=>.bad,fun _ _=>.bad)
 | n+1=>(zbL n1 false (b1 (zfB n1 n2 n3 b1 b2 b3 n).1 (zfB n1 n2 n3 b1 b2 b3 n).2.1 (zfB n1 n2 n3 b1 b2 b3 n).2.2),zbL n2 false (b2 (zfB n1 n2 n3 b1 b2 b3 n).1 (zfB n1 n2 n3 b1 b2 b3 n).2.1 (zfB n1 n2 n3 b1 b2 b3 n).2.2),zbL n3 false (b3 (zfB n1 n2 n3 b1 b2 b3 n).1 (zfB n1 n2 n3 b1 b2 b3 n).2.1 (zfB n1 n2 n3 b1 b2 b3 n).2.2))
section
variable{cl:Cf}{T:Tab}{P:Program}{wo:PySem.World}{K:PySem.W.Frag}{mg:Z6}{base:Heap}{k:Nat}{fs:Fn3}
theorem GOk.addR3{m1 m2 m3 c q1 q2 q3:Str}{st1 st2 st3:Stmt}{f1 f2 f3:Addr}{fd1 fd2 fd3:FuncData}{N1 N2 N3 ps1 ps2 ps3:List Str}{b1 b2 b3:Rn->Rn->Rn->Fs}(g:GOk cl (Gn T fs) P wo K mg base k)
  (U1:Fun K m1 q1 st1 f1 fd1) (U2:Fun K m2 q2 st2 f2 fd2) (U3:Fun K m3 q3 st3 f3 fd3) (S1:FnScope N1 ps1 (zab st1)) (S2:FnScope N2 ps2 (zab st2)) (S3:FnScope N3 ps3 (zab st3)) (hK:K=cl.K) (hP:P=cl.P) (hW:wo=cl.wo) (cc:Cls K (cl c))
  (e1:Meth K (cl c) m1 f1) (e2:Meth K (cl c) m2 f2) (e3:Meth K (cl c) m3 f3) (w1:zbQ K fd1 ps1 []) (w2:zbQ K fd2 ps2 []) (w3:zbQ K fd3 ps3 [])
  (d1:∀r1 r2 r3,zao (Gn T ((((fs.mt m1 c ⟨ps1.length,false,r1⟩).mt m2 c ⟨ps2.length,false,r2⟩).mt m3 c ⟨ps3.length,false,r3⟩).at c)) false N1 st1=some (b1 r1 r2 r3))
  (d2:∀r1 r2 r3,zao (Gn T ((((fs.mt m1 c ⟨ps1.length,false,r1⟩).mt m2 c ⟨ps2.length,false,r2⟩).mt m3 c ⟨ps3.length,false,r3⟩).at c)) false N2 st2=some (b2 r1 r2 r3))
  (d3:∀r1 r2 r3,zao (Gn T ((((fs.mt m1 c ⟨ps1.length,false,r1⟩).mt m2 c ⟨ps2.length,false,r2⟩).mt m3 c ⟨ps3.length,false,r3⟩).at c)) false N3 st3=some (b3 r1 r2 r3)) :
  ∀n,GOk cl (Gn T (((fs.mt m1 c ⟨ps1.length,false,(zfB N1.length N2.length N3.length b1 b2 b3 n).1⟩).mt m2 c ⟨ps2.length,false,(zfB N1.length N2.length N3.length b1 b2 b3 n).2.1⟩).mt m3 c ⟨ps3.length,false,(zfB N1.length N2.length N3.length b1 b2 b3 n).2.2⟩)) P wo K mg base (k+n)
 | 0=>((g.addM cc e1 w1 ⟨fun vs H Q E h=>(zfM h).elim,fun A outer s H args us vs Q E hr he hb hv h=>(zfM h).elim⟩).addM cc e2 w2 ⟨fun vs H Q E h=>(zfM h).elim,fun A outer s H args us vs Q E hr he hb hv h=>(zfM h).elim⟩).addM cc e3 w3 ⟨fun vs H Q E h=>(zfM h).elim,fun A outer s H args us vs Q E hr he hb hv h=>(zfM h).elim⟩
 | n+1 =>
  have ih:=(GOk.addR3 g U1 U2 U3 S1 S2 S3 hK hP hW cc e1 e2 e3 w1 w2 w3 d1 d2 d3 n).at c
  (((g.up (ycA k (n+1))).addM cc e1 w1 (zio U1 S1 ih hK hP hW (d1 _ _ _))).addM cc e2 w2 (zio U2 S2 ih hK hP hW (d2 _ _ _))).addM cc e3 w3 (zio U3 S3 ih hK hP hW (d3 _ _ _))
def GOk.addR3x{m1 m2 m3 c q1 q2 q3:Str}{st1 st2 st3:Stmt}{f1 f2 f3:Addr}{fd1 fd2 fd3:FuncData}{N1 N2 N3 ps1 ps2 ps3:List Str}{b1 b2 b3:Rn->Rn->Rn->Fs}{n n1 n2 n3 l1 l2 l3:Nat}{r1 r2 r3:Rn}(g:GOk cl (Gn T fs) P wo K mg base k)
  (U1:Fun K m1 q1 st1 f1 fd1) (U2:Fun K m2 q2 st2 f2 fd2) (U3:Fun K m3 q3 st3 f3 fd3) (S1:FnScope N1 ps1 (zab st1)) (S2:FnScope N2 ps2 (zab st2)) (S3:FnScope N3 ps3 (zab st3)) (hK:K=cl.K) (hP:P=cl.P) (hW:wo=cl.wo) (cc:Cls K (cl c))
  (e1:Meth K (cl c) m1 f1) (e2:Meth K (cl c) m2 f2) (e3:Meth K (cl c) m3 f3) (w1:zbQ K fd1 ps1 []) (w2:zbQ K fd2 ps2 []) (w3:zbQ K fd3 ps3 [])
  (d1:∀r1 r2 r3,zao (Gn T ((((fs.mt m1 c ⟨ps1.length,false,r1⟩).mt m2 c ⟨ps2.length,false,r2⟩).mt m3 c ⟨ps3.length,false,r3⟩).at c)) false N1 st1=some (b1 r1 r2 r3))
  (d2:∀r1 r2 r3,zao (Gn T ((((fs.mt m1 c ⟨ps1.length,false,r1⟩).mt m2 c ⟨ps2.length,false,r2⟩).mt m3 c ⟨ps3.length,false,r3⟩).at c)) false N2 st2=some (b2 r1 r2 r3))
  (d3:∀r1 r2 r3,zao (Gn T ((((fs.mt m1 c ⟨ps1.length,false,r1⟩).mt m2 c ⟨ps2.length,false,r2⟩).mt m3 c ⟨ps3.length,false,r3⟩).at c)) false N3 st3=some (b3 r1 r2 r3))
  (a1:N1.length=n1) (a2:N2.length=n2) (a3:N3.length=n3) (p1:ps1.length=l1) (p2:ps2.length=l2) (p3:ps3.length=l3) (z1:r1=(zfB n1 n2 n3 b1 b2 b3 n).1) (z2:r2=(zfB n1 n2 n3 b1 b2 b3 n).2.1) (z3:r3=(zfB n1 n2 n3 b1 b2 b3 n).2.2) :
  GOk cl (Gn T (((fs.mt m1 c ⟨l1,false,r1⟩).mt m2 c ⟨l2,false,r2⟩).mt m3 c ⟨l3,false,r3⟩)) P wo K mg base (k+n):=by
 subst a1 a2 a3 p1 p2 p3 z1 z2 z3;exact GOk.addR3 g U1 U2 U3 S1 S2 S3 hK hP hW cc e1 e2 e3 w1 w2 w3 d1 d2 d3 n
end
end S2
namespace S2
open PySem PySem.Spec PyProof.Rows L2
structure FnT(K:PySem.W.Frag)(x q:Str)(st:Stmt)(f:Addr):Prop where
 ex:∃(oc:Value) (od:Option Addr) (kV dc pm:Value) (an:Option Addr) (cd ct:Value) (sl:Array (Option Value)),K.lookup f=some ⟨oc,od,.func (PySem.W.fnOf x q (zbG st) (zbt st) (zab st) .none kV dc pm an cd ct),sl⟩/\PySem.W.codeIn K cd q=true/\PySem.W.keepIn K (.ref f)=true/\PySem.W.isFn K (.ref f)=true
structure GFn(K:PySem.W.Frag)(x:Str)(st:Stmt):Prop where
 ex:∃f,PySem.W.nsIn K mainGlobals x=some (some (.ref f))/\FnT K x x st f
structure MFn(K:PySem.W.Frag)(C:Addr)(m q:Str)(st:Stmt):Prop where
 ex:∃f,PySem.W.findIn K (.ref C) m=some (some (.ref f))/\FnT K m q st f
noncomputable def BB(x q:Str)(st:Stmt)(ps:List Str):Prop:=∀(kV doc pm:Value) (an:Option Addr) (cdv ct:Value) (us:List Value),us.length=ps.length->bindArgs (PySem.W.fnOf x q (zbG st) (zbt st) (zab st) .none kV doc pm an cdv ct) ⟨us,[]⟩=pure (ps.zip us)
def bb0{p:List Value->Prop}(h:p []):∀us:List Value,us.length=0->p us:=fun us e=>by rw [ya3 e];exact h
def bbS{n:Nat}{p:List Value->Prop}(h:∀a:Value,∀us:List Value,us.length=n->p (a::us)):∀us:List Value,us.length=n+1->p us:=fun us e=>by
 cases us with
 | nil=>cases e
 | cons a us=>exact h a us (Nat.succ.inj e)
def bb1{p:List Value->Prop}(h:∀a0:Value,p [a0]):∀us:List Value,us.length=1->p us:=bbS fun a0=>bb0 (h a0)
def bb2{p:List Value->Prop}(h:∀a0 a1:Value,p [a0,a1]):∀us:List Value,us.length=2->p us:=bbS fun a0=>bbS fun a1=>bb0 (h a0 a1)
def bb3{p:List Value->Prop}(h:∀a0 a1 a2:Value,p [a0,a1,a2]):∀us:List Value,us.length=3->p us:=bbS fun a0=>bbS fun a1=>bbS fun a2=>bb0 (h a0 a1 a2)
def bb4{p:List Value->Prop}(h:∀a0 a1 a2 a3:Value,p [a0,a1,a2,a3]):∀us:List Value,us.length=4->p us:=bbS fun a0=>bbS fun a1=>bbS fun a2=>bbS fun a3=>bb0 (h a0 a1 a2 a3)
def bb5{p:List Value->Prop}(h:∀a0 a1 a2 a3 a4:Value,p [a0,a1,a2,a3,a4]):∀us:List Value,us.length=5->p us:=bbS fun a0=>bbS fun a1=>bbS fun a2=>bbS fun a3=>bbS fun a4=>bb0 (h a0 a1 a2 a3 a4)
def bb6{p:List Value->Prop}(h:∀a0 a1 a2 a3 a4 a5:Value,p [a0,a1,a2,a3,a4,a5]):∀us:List Value,us.length=6->p us:=bbS fun a0=>bbS fun a1=>bbS fun a2=>bbS fun a3=>bbS fun a4=>bbS fun a5=>bb0 (h a0 a1 a2 a3 a4 a5)
section
variable{cl:Cf}{T:Tab}{P:Program}{wo:PySem.World}{K:PySem.W.Frag}{mg:Z6}{base:Heap}{k:Nat}{fs:Fn3}
def FnT.un{x q:Str}{st:Stmt}{f:Addr}{ps:List Str}(p:FnT K x q st f)(b:BB x q st ps):∃fd,Fun K x q st f fd/\zbQ K fd ps []/\PySem.W.keepIn K (.ref f)=true/\PySem.W.isFn K (.ref f)=true:=by
 obtain ⟨oc,od,kV,dc,pm,an,cd,ct,sl,l,c,kp,i⟩:=p.ex;have U:=zox (st:=st) l c kp;exact ⟨_,U,U.binds b,kp,i⟩
def GOk.addG{x:Str}{st:Stmt}{N ps:List Str}{own:Bool}{f_:Fs}{h:Heap}(g:GOk cl (Gn T fs) P wo K mg base k)(X:K.In h)(G:h.Ns mainGlobals mg)(p:GFn K x st)(S:FnScope N ps (zab st))(hK:K=cl.K)(hP:P=cl.P)(hW:wo=cl.wo)(b:BB x x st ps)(hd:zao (Gn T fs) own N st=some f_) :
  GOk cl (Gn T (fs.fn x ⟨ps.length,own,zbL N.length own f_⟩)) P wo K mg base (k+1):=by
 obtain ⟨f,a,p⟩:=p.ex;obtain ⟨fd,U,B,kp,_⟩:=p.un b;exact GOk.add g (ya5 X G a) kp B (zio U S g hK hP hW hd)
def GOk.addMG{m c q:Str}{st:Stmt}{N ps:List Str}{own:Bool}{f_:Fs}(g:GOk cl (Gn T fs) P wo K mg base k)(cc:Cls K (cl c))(p:MFn K (cl c) m q st)(S:FnScope N ps (zab st))(hK:K=cl.K)(hP:P=cl.P)(hW:wo=cl.wo)(b:BB m q st ps)(hd:zao (Gn T (fs.at c)) own N st=some f_) :
  GOk cl (Gn T (fs.mt m c ⟨ps.length,own,zbL N.length own f_⟩)) P wo K mg base (k+1):=by
 obtain ⟨f,a,p⟩:=p.ex;obtain ⟨fd,U,B,kp,i⟩:=p.un b;exact GOk.addM (g.up (yct _)) cc ⟨a,i,kp⟩ B (zio U S (g.at c) hK hP hW hd)
def GOk.addKG{c q:Str}{st:Stmt}{N ps:List Str}{f_:Fs}{h:Heap}(g:GOk cl (Gn T fs) P wo K mg base k)(X:K.In h)(G:h.Ns mainGlobals mg)(ny:PySem.W.nsIn K mainGlobals c=some (some (.ref (cl c))))(mk:PySem.W.makesIn K (cl c)=true)(kpc:PySem.W.keepIn K (.ref (cl c))=true)(p:MFn K (cl c) "__init__" q st)(S:FnScope N ps (zab st))(hK:K=cl.K)(hP:P=cl.P)(hW:wo=cl.wo)(b:BB "__init__" q st ps)(hd:zao (Gn T (fs.at c)) false N st=some f_) :
  GOk cl (Gn T (fs.cls c [] ⟨ps.length,false,zbL N.length false f_⟩)) P wo K mg base (k+2):=by
 obtain ⟨f,a,p⟩:=p.ex;obtain ⟨fd,U,B,kp,i⟩:=p.un b;exact GOk.addK (k':=k+1) (dvs:=[]) (fi:=⟨ps.length,false,zbL N.length false f_⟩) (g.up (ycA k 2)) (yam _) (ya5 X G ny) ⟨mk,a,i,kpc⟩ B B .nil (fun _=>.nil) (zio U S (g.at c) hK hP hW hd)
def GOk.addR3G{m1 m2 m3 c q1 q2 q3:Str}{st1 st2 st3:Stmt}{N1 N2 N3 ps1 ps2 ps3:List Str}{b1 b2 b3:Rn->Rn->Rn->Fs}{n n1 n2 n3 l1 l2 l3:Nat}{r1 r2 r3:Rn}(g:GOk cl (Gn T fs) P wo K mg base k)(cc:Cls K (cl c))(e1:MFn K (cl c) m1 q1 st1)(e2:MFn K (cl c) m2 q2 st2)(e3:MFn K (cl c) m3 q3 st3)
  (S1:FnScope N1 ps1 (zab st1)) (S2:FnScope N2 ps2 (zab st2)) (S3:FnScope N3 ps3 (zab st3)) (hK:K=cl.K) (hP:P=cl.P) (hW:wo=cl.wo) (w1:BB m1 q1 st1 ps1) (w2:BB m2 q2 st2 ps2) (w3:BB m3 q3 st3 ps3)
  (d1:∀r1 r2 r3,zao (Gn T ((((fs.mt m1 c ⟨ps1.length,false,r1⟩).mt m2 c ⟨ps2.length,false,r2⟩).mt m3 c ⟨ps3.length,false,r3⟩).at c)) false N1 st1=some (b1 r1 r2 r3))
  (d2:∀r1 r2 r3,zao (Gn T ((((fs.mt m1 c ⟨ps1.length,false,r1⟩).mt m2 c ⟨ps2.length,false,r2⟩).mt m3 c ⟨ps3.length,false,r3⟩).at c)) false N2 st2=some (b2 r1 r2 r3))
  (d3:∀r1 r2 r3,zao (Gn T ((((fs.mt m1 c ⟨ps1.length,false,r1⟩).mt m2 c ⟨ps2.length,false,r2⟩).mt m3 c ⟨ps3.length,false,r3⟩).at c)) false N3 st3=some (b3 r1 r2 r3))
  (a1:N1.length=n1) (a2:N2.length=n2) (a3:N3.length=n3) (p1:ps1.length=l1) (p2:ps2.length=l2) (p3:ps3.length=l3) (z1:r1=(zfB n1 n2 n3 b1 b2 b3 n).1) (z2:r2=(zfB n1 n2 n3 b1 b2 b3 n).2.1) (z3:r3=(zfB n1 n2 n3 b1 b2 b3 n).2.2) :
  GOk cl (Gn T (((fs.mt m1 c ⟨l1,false,r1⟩).mt m2 c ⟨l2,false,r2⟩).mt m3 c ⟨l3,false,r3⟩)) P wo K mg base (k+n):=by
 obtain ⟨f1,x1,y1⟩:=e1.ex;obtain ⟨f2,x2,y2⟩:=e2.ex;obtain ⟨f3,x3,y3⟩:=e3.ex;obtain ⟨_,U1,B1,k1,i1⟩:=y1.un w1;obtain ⟨_,U2,B2,k2,i2⟩:=y2.un w2;obtain ⟨_,U3,B3,k3,i3⟩:=y3.un w3;exact GOk.addR3x g U1 U2 U3 S1 S2 S3 hK hP hW cc ⟨x1,i1,k1⟩ ⟨x2,i2,k2⟩ ⟨x3,i3,k3⟩ B1 B2 B3 d1 d2 d3 a1 a2 a3 p1 p2 p3 z1 z2 z3
end
end S2
namespace S2
open PySem
open L2 hiding D
noncomputable def zcb:Fs :=
  (zaj (sFz [] (zbx (zfI (eUn (zeI "tuple") (zah 0)) (zdA leD leD (zah 1) (zaz zei [(zah 0)]) (zah 2)))))
  sNx)
noncomputable def zaY:List S2.D->Sto->Out S2.D:=zbL 3 false zcb
noncomputable def zft:Fs :=
  (zaj (sFz [] (za6 1 false (eIf (zaf gtD (zaz zei [(zah 0)]) (zag (.int 0))) (zaz zei [(zaf ixD (zah 0) (zag (.int 0)))]) (zag (.int 0)))))
  (zaj (sFz [1] (zbx (zcT [(zaz zei [(zah 0)]),(zae 1)])))
  sNx))
noncomputable def zbW:List S2.D->Sto->Out S2.D:=zbL 2 false zft
noncomputable def zcd:Fs :=
  (zaj (sFz [3,4] (zh5 2 (zcT [(zae 3),(zae 4)]))) sNx)
noncomputable def zcW:Fs :=
  (zaj (sFz [] (zgg (.one 4) (zcU (zaf ixD (zah 1) (zag (.int 1)))) zcd)) sNx)
noncomputable def zdF:Fs :=
  (zaj (sFz [0] (za6 1 false (eFn zbW [(zae 0)])))
  (zaj (sFz [] (za6 2 true (zeF [])))
  (zaj (sFz [] (zgg (.one 3) (zcU (zaf ixD (zah 1) (zag (.int 0)))) zcW))
  (zaj (sFz [] (zjE 2))
  sNx))))
noncomputable def zaX:List S2.D->Sto->Out S2.D:=zbL 5 true zdF
noncomputable def zcR:Fs :=
  (zaj (sFz [1] (zbx (eFn zaY [(zae 1),(zaz zei [(zah 0)]),(zaz zei [(zah 0)])])))
  sNx)
noncomputable def zbz:List S2.D->Sto->Out S2.D:=zbL 2 false zcR
noncomputable def zdZ:Fs :=
  (zaj (sFz [1] (sIf (eUn zho (eFn zaY [(zae 1),(zaz zei [(zah 0)]),(zaz zei [(zah 0)])])) (zaj (sFz [] (zbx (zag (.bl false)))) sNx) sNx))
  (zaj (sFz [0,1] (zbx (zaz zqQ [(zb5 2 (.tup [0,1]) (zth (zae 0) (zae 1)) zdq (eFn zbz [(zae 0),(zae 1)]) [])])))
  sNx))
noncomputable def zc5:List S2.D->Sto->Out S2.D:=zbL 2 false zdZ
noncomputable def zdG:Fs :=
  (zaj (sFz [] (zbx (zaf ixD (zaf ixD (zah 0) (zaf ixD (zah 1) (zag (.int 0)))) (zaf ixD (zah 1) (zag (.int 1))))))
  sNx)
noncomputable def zaI:List S2.D->Sto->Out S2.D:=zbL 2 false zdG
noncomputable def zck:Fs :=
  (zaj (sFz [] (sIf (zaf ltD (zah 1) (zaz zei [(zah 0)])) (zaj (sFz [] (zbx (zaf ixD (zah 0) (zah 1)))) sNx) sNx))
  (zaj (sFz [] (sIf (zaf eqD (zah 0) (zeF [])) (zaj (sFz [] (zbx (zag (.int 0)))) sNx) sNx))
  (zaj (sFz [] (zbx (zaf zb7 (zaf zea (zaf ixD (zah 0) (zaf zkh (zah 1) (zaz zei [(zah 0)]))) (zag (.int 31))) (zah 1))))
  sNx)))
noncomputable def zbN:List S2.D->Sto->Out S2.D:=zbL 2 false zck
noncomputable def zdH:Fs :=
  (zaj (sFz [0,1] (za6 3 false (zaf zkh (zaf zea (zaf zb7 (eFn zbN [(zae 0),(zae 1)]) (zaf zea (zag (.int 6151)) (zaf zb7 (zah 1) (zag (.int 1))))) (zag (.int 40692))) (zag (.int 2147483399)))))
  (zaj (sFz [] (zbx (zaf zkh (zaf zkh (zaf zb7 (zaf zea (zah 3) (zah 3)) (zaf zti (zah 3) (zag (.int 31)))) (zag (.int 2147483629))) (zah 2))))
  sNx))
noncomputable def zaA:List S2.D->Sto->Out S2.D:=zbL 4 false zdH
noncomputable def zbp:Fs :=
  (zaj (sFz [1,3,5,0] (za6 6 false (zaz zbl [(zb5 1 (.one 0) (zcU (zag (.int 4))) zdq (eFn zaA [(zae 4),(zaf zb7 (zaf zb7 (zaf zb7 (zah 1) (zaf zea (zag (.int 4)) (zah 3))) (zag (.int 2))) (zah 0)),(zae 2)]) [1,3,5,0])]))) (zaj (sFz [0] (sIf (zaf eqD (eFn zaA [(zae 0),(zaf zb7 (zaf zb7 (zah 1) (zag (.int 60))) (zah 5)),(zag (.int 3))]) (zag (.int 0))) (zaj (sFz [] (za6 6 false (zcT [(zaf ixD (zah 6) (zag (.int 0))),(zaf ixD (zah 6) (zag (.int 1))),(zaf ixD (zah 6) (zag (.int 0))),(zaf ixD (zah 6) (zag (.int 1)))]))) sNx) sNx)) (zaj (sFz [] (sIf (zaf zlh (zah 6) (zah 4)) (zaj (sFz [6] (zh5 4 (zae 6))) sNx) sNx)) sNx)))
noncomputable def zdb:Fs :=
  (zaj (sFz [0,1] (za6 3 false (zaf zb7 (zag (.int 2)) (eFn zaA [(zae 0),(zae 1),(zag (.int 2))]))))
  (zaj (sFz [] (za6 4 true (zeF [])))
  (zaj (sFz [0,2] (zgg (.one 5) (zcU (zaf zb7 (zag (.int 1)) (eFn zaA [(zae 0),(zaf zb7 (zah 1) (zag (.int 1))),(zae 2)]))) zbp))
  (zaj (sFz [] (zbx (zaz zbl [(zah 4)])))
  sNx))))
noncomputable def zcr:List S2.D->Sto->Out S2.D:=zbL 7 false zdb
noncomputable def zbq:Fs :=
  (zaj (sFz [0] (za6 10 false (eFn zaA [(zae 0),(zaf zb7 (zaf zb7 (zah 1) (zaf zea (zag (.int 7)) (zah 7))) (zah 9)),(zaf zea (zaz zei [(zah 2)]) (zah 5))]))) (zaj (sFz [10] (zh5 8 (eIf (zaf ltD (zah 10) (zaz zei [(zah 2)])) (zae 10) (zag .non)))) sNx))
noncomputable def zcD:Fs :=
  (zaj (sFz [] (za6 8 true (zeF []))) (zaj (sFz [4] (zgg (.one 9) (zcU (zae 4)) zbq)) (zaj (sFz [] (zh5 6 (zaz zbl [(zah 8)]))) sNx)))
noncomputable def zdd:Fs :=
  (zaj (sFz [] (za6 6 true (zeF [])))
  (zaj (sFz [3] (zgg (.one 7) (zcU (zae 3)) zcD))
  (zaj (sFz [] (zbx (zaz zbl [(zah 6)])))
  sNx)))
noncomputable def zaM:List S2.D->Sto->Out S2.D:=zbL 11 false zdd
noncomputable def zdp:Fs :=
  (zaj (sFz [] (zbx (zfI (eUn (zeI "int") (zah 0)) (eUn zho (eUn (zeI "bool") (zah 0))))))
  sNx)
noncomputable def zcf:List S2.D->Sto->Out S2.D:=zbL 1 false zdp
noncomputable def zcx:Fs :=
  (zaj (sFz [1] (zbx (zfI (eFn zcf [(zae 1)]) (zdA leD ltD (zag (.int 0)) (zah 1) (zaz zei [(zah 0)])))))
  sNx)
noncomputable def zbX:List S2.D->Sto->Out S2.D:=zbL 2 false zcx
noncomputable def zdc:Fs :=
  (zaj (sFz [0,1] (zbx (zaf ixD (zeF [(zcT [(zag (.int 1)),(zag (.int 1))]),(zcT [(zag (.int 1)),(zag (.int 2))]),(zcT [(zag (.int 2)),(zag (.int 1))]),(zcT [(zag (.int 2)),(zag (.int 2))]),(zcT [(zag (.int 2)),(zag (.int 2))]),(zcT [(zag (.int 1)),(zag (.int 4))]),(zcT [(zag (.int 2)),(zag (.int 3))]),(zcT [(zag (.int 3)),(zag (.int 2))]),(zcT [(zag (.int 3)),(zag (.int 1))]),(zcT [(zag (.int 2)),(zag (.int 3))])]) (eFn zaA [(zae 0),(zae 1),(zag (.int 10))]))))
  sNx)
noncomputable def zcs:List S2.D->Sto->Out S2.D:=zbL 2 false zdc
noncomputable def zcE:Fs :=
  (zaj (sFz [] (zqN 3 (zaz zjR [(zah 4)]))) sNx)
noncomputable def zbV:Fs :=
  (zaj (sFz [10] (za6 12 false (zaf inD (zah 7) (zcT [(zag .non),(zae 10)])))) (zaj (sFz [] (sIf (zfI (zaf gtD (zaf zkh (zah 6) (zah 2)) (zag (.int 0))) (zaf neD (zaf ixD (zaf ixD (zah 0) (zaf ixD (zah 9) (eUn zmu (zag (.int 1))))) (zag (.int 1))) (zaf ixD (zah 11) (zag (.int 3))))) (zaj (sFz [] (za6 12 false (zag (.bl false)))) sNx) sNx)) (zaj (sFz [] (sIf (zfI (zaf geD (zah 6) (zah 2)) (zaf neD (zaf ixD (zaf ixD (zah 0) (zaf ixD (zah 9) (zaf zqM (zah 6) (zah 2)))) (zag (.int 2))) (zaf ixD (zah 11) (zag (.int 0))))) (zaj (sFz [] (za6 12 false (zag (.bl false)))) sNx) sNx)) (zaj (sFz [12] (sIf (zae 12) (zaj (sFz [10] (zh5 8 (zaf zb7 (zah 9) (zcT [(zae 10)])))) sNx) sNx)) sNx))))
noncomputable def zbU:Fs :=
  (zaj (sFz [0] (zgg (.tup [10,11]) (zj2 (zae 0)) zbV)) sNx)
noncomputable def zbT:Fs :=
  (zaj (sFz [] (za6 8 true (zeF []))) (zaj (sFz [5] (zgg (.one 9) (za3 (zae 5)) zbU)) (zaj (sFz [8] (za6 5 false (zae 8))) sNx)))
noncomputable def zde:Fs :=
  (zaj (sFz [] (za6 2 false (zaz zei [(zaf ixD (zah 1) (zag (.int 0)))])))
  (zaj (sFz [] (za6 3 true (zeF [])))
  (zaj (sFz [1] (zgg (.one 4) (za3 (zae 1)) zcE))
  (zaj (sFz [] (za6 5 true (zeF [(zcT [])])))
  (zaj (sFz [3] (zgg (.tup [6,7]) (zj2 (zae 3)) zbT))
  (zaj (sFz [5] (zbx (zae 5)))
  sNx))))))
noncomputable def zbv:List S2.D->Sto->Out S2.D:=zbL 13 false zde
noncomputable def zcl:Fs :=
  (zaj (sFz [1,1,0] (zbx (zaz zbl [(zb5 1 (.one 0) (zj0 (zag (.int 0)) (zaz zei [(zah 0)]) (zae 1)) zdq (zaz zbl [(eSl (zah 2) (some (zah 0)) (some (zaf zb7 (zah 0) (zah 1))))]) [1,0])])))
  sNx)
noncomputable def zaP:List S2.D->Sto->Out S2.D:=zbL 2 false zcl
noncomputable def zir:Fs :=
  (zaj (sFz [] (zbx (zaf zea (zcT [(zaf zea (zcT [(zag .non)]) (zah 1))]) (zah 0))))
  sNx)
noncomputable def ze5:List S2.D->Sto->Out S2.D:=zbL 2 false zir
noncomputable def zbd:Fs :=
  (zaj (sFz [0,1] (sIf (eUn zho (eFn zc5 [(zae 0),(zae 1)])) (zaj (sFz [] (sRz "Unlike" [(zag (.str "the sizes are unlike"))])) sNx) sNx))
  sNx)
noncomputable def zau:List S2.D->Sto->Out S2.D:=zbL 2 false zbd
noncomputable def ziq:Fs :=
  (zaj (sFz [] (zbx (eOr (zaf zmv (zah 0) (zag .non)) (zaf eqD (zah 0) (zah 1)))))
  sNx)
noncomputable def ze4:List S2.D->Sto->Out S2.D:=zbL 2 false ziq
noncomputable def zcn:Fs :=
  (zaj (sFz [1] (zeb "Ways" "tiles" (zae 0) (zae 1)))
  (zaj (sFz [2,2] (zeb "Ways" "ground" (zae 0) (zb5 1 (.one 0) (za3 (eFn zaX [(zae 2)])) zdq (eFn zaI [(zae 1),(zae 0)]) [2])))
  (zaj (sFz [2] (zeb "Ways" "size" (zae 0) (eFn zbW [(zae 2)])))
  (zaj (sFz [3] (zeb "Ways" "is_round" (zae 0) (zae 3)))
  (zaj (sFz [] (zgh "Ways" "known" 0))
  sNx)))))
noncomputable def zba:List S2.D->Sto->Out S2.D:=zbL 4 false zcn
noncomputable def zbO:Fs :=
  (zaj (sFz [] (zbx (zaf zea (zcT [(zag .non)]) (zaf zb7 (zaf ixD (zd4 "Ways" "size" (zae 0)) (zag (.int 1))) (zag (.int 2))))))
  sNx)
noncomputable def zaR:List S2.D->Sto->Out S2.D:=zbL 1 false zbO
noncomputable def zcm:Fs :=
  (zaj (sFz [] (zbx (zaf eqD (zaf zkh (zaf zb7 (zah 1) (zag (.int 1))) (zaf ixD (zd4 "Ways" "size" (zae 0)) (zag (.int 1)))) (zag (.int 0)))))
  sNx)
noncomputable def zaS:List S2.D->Sto->Out S2.D:=zbL 2 false zcm
noncomputable def za2:Fs :=
  (zaj (sFz [] (zbx (eIf (zaf eqD (zaf zkh (zah 1) (zaf ixD (zd4 "Ways" "size" (zae 0)) (zag (.int 1)))) (zag (.int 0))) (zaf ixD (zah 3) (zag (.int 3))) (zaf ixD (zah 2) (eUn zmu (zag (.int 1)))))))
  sNx)
noncomputable def zav:List S2.D->Sto->Out S2.D:=zbL 4 false za2
noncomputable def zbE:Fs :=
  (zaj (sFz [1] (za6 4 false (zbF "Ways" "ends_row" zaS (zae 0) [(zae 1)])))
  (zaj (sFz [] (za6 5 false (zaf geD (zaf zb7 (zah 1) (zaf ixD (zd4 "Ways" "size" (zae 0)) (zag (.int 1)))) (zaz zei [(zd4 "Ways" "ground" (zae 0))]))))
  (zaj (sFz [4] (za6 6 false (eIf (zae 4) (zag .non) (zaf ixD (zah 3) (zag (.int 1))))))
  (zaj (sFz [5] (za6 7 false (eIf (zae 5) (zag .non) (zaf ixD (zah 3) (zag (.int 2))))))
  (zaj (sFz [4,1,2,3] (za6 8 false (eIf (zfI (zd4 "Ways" "is_round" (zae 0)) (eUn zho (zae 4))) (zbF "Ways" "colour_round" zav (zae 0) [(zae 1),(zae 2),(zae 3)]) (zag .non))))
  (zaj (sFz [6,7,8] (zbx (zaf zb7 (zaf zb7 (zcT [(zae 6)]) (eSl (zah 2) (some (zag (.int 2))) (some (eUn zmu (zag (.int 1)))))) (zcT [(zae 7),(zae 8)]))))
  sNx))))))
noncomputable def za7:List S2.D->Sto->Out S2.D:=zbL 9 false zbE
noncomputable def za8:Fs :=
  (zaj (sFz [] (za6 2 false (zaf ixD (zd4 "Ways" "ground" (zae 0)) (zah 1))))
  (zaj (sFz [] (sIf (zaf zmv (zah 2) (zag .non)) (zaj (sFz [] (zbx (eUn lrD (zaz zei [(zd4 "Ways" "tiles" (zae 0))])))) sNx) sNx))
  (zaj (sFz [2,2] (zbx (eIf (eFn zbX [(zd4 "Ways" "tiles" (zae 0)),(zae 2)]) (zeF [(zae 2)]) (zeF []))))
  sNx)))
noncomputable def zaN:List S2.D->Sto->Out S2.D:=zbL 3 false za8
noncomputable def zbg:Fs :=
  (zaj (sFz [1] (sIf (eOr (eUn zho (zd4 "Ways" "is_round" (zae 0))) (eUn zho (zbF "Ways" "ends_row" zaS (zae 0) [(zae 1)]))) (zaj (sFz [] (zbx (zag (.bl true)))) sNx) sNx))
  (zaj (sFz [1,2,3] (zbx (zaf eqD (zaf ixD (zah 3) (zag (.int 1))) (zbF "Ways" "colour_round" zav (zae 0) [(zae 1),(zae 2),(zae 3)]))))
  sNx))
noncomputable def zaQ:List S2.D->Sto->Out S2.D:=zbL 4 false zbg
noncomputable def zdJ:Fs :=
  (zaj (sFz [] (sIf (eOr (eUn zho (eFn ze4 [(zaf ixD (zah 2) (zag (.int 0))),(zaf ixD (zah 3) (zag (.int 3)))])) (eUn zho (eFn ze4 [(zaf ixD (zah 2) (zag (.int 1))),(zaf ixD (zah 3) (zag (.int 0)))]))) (zaj (sFz [] (zbx (zag (.bl false)))) sNx) sNx))
  (zaj (sFz [1,2,3] (zbx (zbF "Ways" "fits_round" zaQ (zae 0) [(zae 1),(zae 2),(zae 3)])))
  sNx))
noncomputable def zcM:List S2.D->Sto->Out S2.D:=zbL 4 false zdJ
noncomputable def za5:Fs :=
  (zaj (sFz [] (za6 5 false (zaf ixD (zd4 "Ways" "tiles" (zae 0)) (zah 4)))) (zaj (sFz [1,2,5] (sIf (zbF "Ways" "fits" zcM (zae 0) [(zae 1),(zae 2),(zae 5)]) (zaj (sFz [4,1,2,5] (zh5 3 (zcT [(zae 4),(zbF "Ways" "seam_behind" za7 (zae 0) [(zae 1),(zae 2),(zae 5)])]))) sNx) sNx)) sNx))
noncomputable def zcB:Fs :=
  (zaj (sFz [] (za6 3 true (zeF [])))
  (zaj (sFz [1] (zgg (.one 4) (za3 (zbF "Ways" "numbers_for" zaN (zae 0) [(zae 1)])) za5))
  (zaj (sFz [] (zjE 3))
  sNx)))
noncomputable def zbR:List S2.D->Sto->Out S2.D:=zbL 6 true zcB
noncomputable def zfu:Fs :=
  (zaj (sFz [0,1] (zbx (zaz zbl [(zb5 1 (.one 0) (zcU (zaf ixD (zah 1) (zag (.int 0)))) zdq (zaz zbl [(eSl (zah 1) (some (zaf zea (zah 0) (zaf ixD (zah 2) (zag (.int 1))))) (some (zaf zea (zaf zb7 (zah 0) (zag (.int 1))) (zaf ixD (zah 2) (zag (.int 1))))))]) [0,1])])))
  sNx)
noncomputable def zdR:List S2.D->Sto->Out S2.D:=zbL 2 false zfu
noncomputable def zd0:Fs :=
  (zaj (sFz [1] (zbx (eIf (eOr (zaf zmv (zah 0) (zag .non)) (zaf eqD (zah 0) (zah 2))) (zag (.int 0)) (zae 1))))
  sNx)
noncomputable def zcG:List S2.D->Sto->Out S2.D:=zbL 3 false zd0
noncomputable def zdL:Fs :=
  (zaj (sFz [0,4,1,4,2,4] (zh5 3 (eFn zcG [(eFn zaI [(zae 0),(zae 4)]),(eFn zaI [(zae 1),(zae 4)]),(eFn zaI [(zae 2),(zae 4)])]))) sNx)
noncomputable def zda:Fs :=
  (zaj (sFz [0,1] (zmQ (eFn zau [(zae 0),(zae 1)])))
  (zaj (sFz [0,2] (zmQ (eFn zau [(zae 0),(zae 2)])))
  (zaj (sFz [] (za6 3 true (zeF [])))
  (zaj (sFz [0] (zgg (.one 4) (za3 (eFn zaX [(zae 0)])) zdL))
  (zaj (sFz [] (zbx (zaz zmG [(zah 3)])))
  sNx)))))
noncomputable def zbY:List S2.D->Sto->Out S2.D:=zbL 5 false zda
noncomputable def zb4:Fs :=
  (zaj (sFz [2] (zeb "Mends" "size" (zae 0) (eFn zbW [(zae 2)])))
  (zaj (sFz [1] (zeb "Mends" "ways" (zae 0) (eMk "Ways" [(.bl false)] zba [(zae 1),(eFn ze5 [(zaf ixD (zd4 "Mends" "size" (zae 0)) (zag (.int 0))),(zaf ixD (zd4 "Mends" "size" (zae 0)) (zag (.int 1)))])])))
  (zaj (sFz [2,2] (zeb "Mends" "laid" (zae 0) (zb5 1 (.one 0) (za3 (eFn zaX [(zae 2)])) zdq (eFn zaI [(zae 1),(zae 0)]) [2])))
  (zaj (sFz [2,3] (zeb "Mends" "weights" (zae 0) (zb5 1 (.one 0) (za3 (eFn zaX [(zae 2)])) zdq (eFn zaI [(zae 1),(zae 0)]) [3])))
  (zaj (sFz [] (zgh "Mends" "known" 0))
  sNx)))))
noncomputable def za4:List S2.D->Sto->Out S2.D:=zbL 4 false zb4
noncomputable def zbr(rec_least_from:List S2.D->Sto->Out S2.D):Fs :=
  (zaj (sFz [5] (za6 6 false (zbF "Mends" "least_from" rec_least_from (zae 0) [(zaf zb7 (zah 1) (zag (.int 1))),(zae 5)]))) (zaj (sFz [] (sIf (zaf zhn (zah 6) (zag .non)) (zaj (sFz [4] (za6 7 false (zaf zb7 (eFn zcG [(zaf ixD (zd4 "Mends" "laid" (zae 0)) (zah 1)),(zaf ixD (zd4 "Mends" "weights" (zae 0)) (zah 1)),(zae 4)]) (zaf ixD (zah 6) (zag (.int 0)))))) (zaj (sFz [7,4,5] (zh5 3 (zcT [(zae 7),(zaf ixD (zah 6) (zag (.int 1))),(zae 4),(zae 5)]))) sNx)) sNx)) sNx))
noncomputable def zaF(rec_offers rec_least_by_offers rec_least_from:List S2.D->Sto->Out S2.D):Fs :=
  (zaj (sFz [] (za6 3 true (zeF [])))
  (zaj (sFz [1,2] (zgg (.tup [4,5]) (za3 (zbF "Ways" "choices" zbR (zd4 "Mends" "ways" (zae 0)) [(zae 1),(zae 2)])) (zbr rec_least_from)))
  (zaj (sFz [3] (zbx (zae 3)))
  sNx)))
noncomputable def zak(rec_offers rec_least_by_offers rec_least_from:List S2.D->Sto->Out S2.D):Fs :=
  (zaj (sFz [1,2] (za6 3 false (zbF "Mends" "offers" rec_offers (zae 0) [(zae 1),(zae 2)])))
  (zaj (sFz [] (sIf (zaf eqD (zaz zei [(zah 3)]) (zag (.int 0))) (zaj (sFz [] (zbx (zag .non))) sNx) sNx))
  (zaj (sFz [3] (za6 4 false (zaz zgw [(zb5 1 (.one 0) (za3 (zae 3)) zdq (zaf ixD (zah 0) (zag (.int 0))) [])])))
  (zaj (sFz [4,3,4] (zbx (zcT [(zae 4),(zaz zmG [(zb5 1 (.one 0) (za3 (zae 3)) (zaf eqD (zaf ixD (zah 0) (zag (.int 0))) (zah 1)) (zaf ixD (zah 0) (zag (.int 1))) [4])])])))
  sNx))))
noncomputable def zam(rec_offers rec_least_by_offers rec_least_from:List S2.D->Sto->Out S2.D):Fs :=
  (zaj (sFz [] (sIf (zaf eqD (zah 1) (zaz zei [(zd4 "Mends" "laid" (zae 0))])) (zaj (sFz [] (zbx (zcT [(zag (.int 0)),(zag (.int 1))]))) sNx) sNx))
  (zaj (sFz [1,2] (za6 3 false (zcT [(zae 1),(zae 2)])))
  (zaj (sFz [] (sIf (zoA "Mends" "known" (zae 3) (zae 0)) (zaj (sFz [1,2] (zjF "Mends" "known" (zae 0) 3 (zbF "Mends" "least_by_offers" rec_least_by_offers (zae 0) [(zae 1),(zae 2)]))) sNx) sNx))
  (zaj (sFz [] (zbx (zj1 "Mends" "known" (zae 0) 3)))
  sNx))))
noncomputable def zbS:List S2.D->Sto->Out S2.D:=(zfB 8 5 4 zaF zak zam 60).1
noncomputable def zbA:List S2.D->Sto->Out S2.D:=(zfB 8 5 4 zaF zak zam 60).2.1
noncomputable def zay:List S2.D->Sto->Out S2.D:=(zfB 8 5 4 zaF zak zam 60).2.2
noncomputable def zbP:Fs :=
  (zaj (sFz [] (zbx (zbF "Mends" "least_from" zay (zae 0) [(zag (.int 0)),(zbF "Ways" "first_seam" zaR (zd4 "Mends" "ways" (zae 0)) [])])))
  sNx)
noncomputable def zaT:List S2.D->Sto->Out S2.D:=zbL 1 false zbP
noncomputable def zaO:Fs :=
  (zaj (sFz [3,2] (za6 4 false (zaf ixD (zbF "Mends" "least_from" zay (zae 0) [(zae 3),(zae 2)]) (zag (.int 0))))) (zaj (sFz [3,2,4] (za6 5 false (zaf ixD (zb5 1 (.one 0) (za3 (zbF "Mends" "offers" zbS (zae 0) [(zae 3),(zae 2)])) (zaf eqD (zaf ixD (zah 0) (zag (.int 0))) (zah 1)) (zae 0) [4]) (zag (.int 0))))) (zaj (sFz [] (zh5 1 (zaf ixD (zah 5) (zag (.int 2))))) (zaj (sFz [] (za6 2 false (zaf ixD (zah 5) (zag (.int 3))))) sNx))))
noncomputable def zbs:Fs :=
  (zaj (sFz [] (za6 1 true (zeF [])))
  (zaj (sFz [] (za6 2 false (zbF "Ways" "first_seam" zaR (zd4 "Mends" "ways" (zae 0)) [])))
  (zaj (sFz [] (zgg (.one 3) (zcU (zaz zei [(zd4 "Mends" "laid" (zae 0))])) zaO))
  (zaj (sFz [1] (zbx (eFn zdR [(zae 1),(zd4 "Mends" "size" (zae 0))])))
  sNx))))
noncomputable def zaZ:List S2.D->Sto->Out S2.D:=zbL 6 false zbs
noncomputable def zcw:Fs :=
  (zaj (sFz [1,2] (zmQ (eFn zau [(zae 1),(zae 2)])))
  (zaj (sFz [0,1,2] (zbx (zbF "Mends" "least_all" zaT (eMk "Mends" [] za4 [(zae 0),(zae 1),(zae 2)]) [])))
  sNx))
noncomputable def zbu:List S2.D->Sto->Out S2.D:=zbL 3 false zcw
noncomputable def zdY:Fs :=
  (zaj (sFz [1,2] (zmQ (eFn zau [(zae 1),(zae 2)])))
  (zaj (sFz [0,1,2] (za6 3 false (eMk "Mends" [] za4 [(zae 0),(zae 1),(zae 2)])))
  (zaj (sFz [] (sIf (zaf zmv (zbF "Mends" "least_all" zaT (zae 3) []) (zag .non)) (zaj (sFz [] (sRz "NoFill" [(zag (.str "there is no right floor of this size"))])) sNx) sNx))
  (zaj (sFz [] (zbx (zbF "Mends" "least_whole" zaZ (zae 3) [])))
  sNx))))
noncomputable def zcL:List S2.D->Sto->Out S2.D:=zbL 4 false zdY
noncomputable def zcX:Fs :=
  (zaj (sFz [4,5,6] (za6 3 false (zaf zb7 (zah 3) (zaz zmG [(zb5 3 (.tup [0,1,2]) (zjZ (zae 4) (zae 5) (zae 6)) (zfI (zaf zhn (zah 0) (zag .non)) (zaf neD (zah 0) (zah 2))) (zae 1) [])])))) sNx)
noncomputable def zdI:Fs :=
  (zaj (sFz [] (za6 3 false (zag (.int 0))))
  (zaj (sFz [0,1,2] (zgg (.tup [4,5,6]) (zjZ (zae 0) (zae 1) (zae 2)) zcX))
  (zaj (sFz [3] (zbx (zae 3)))
  sNx)))
noncomputable def zaJ:List S2.D->Sto->Out S2.D:=zbL 7 false zdI
end S2
namespace S2
open PySem
open L2 hiding D
noncomputable def Fo.seq(b:Fs):Fo->Fo | .nx ρ' S'=>b ρ' S' | o=>o
noncomputable def ztS(a b:Fs)(ρ:Env):Out D->Fo | .ok d S'=>(match isB d with | some true=>a ρ S' | some false=>b ρ S' | none=>.bad) | .exc x S'=>.ex x ρ S' | .bad=>.bad
noncomputable def zvi(i:Nat)(o:Bool)(ρ:Env):Out D->Fo | .ok d S'=>.nx (ρ.set i (some (o,d))) S' | .exc c S'=>.ex c ρ S' | .bad=>.bad
noncomputable def zvg(ρ:Env):Out D->Fo | .ok _ S'=>.nx ρ S' | .exc c S'=>.ex c ρ S' | .bad=>.bad
noncomputable def zve(ρ:Env):Out D->Fo | .ok d S'=>.rt d S' | .exc c S'=>.ex c ρ S' | .bad=>.bad
noncomputable def zs0(S:Sto):Option (Option (Bool×D))->Fo | some (some (true,d))=>.rt d S | _=>.bad
noncomputable def zny(i:Nat)(ρ:Env)(l:List D):Out D->Fo
 | .ok d S'=>if small l.length then .nx (ρ.set i (some (true,.lst (l++[d])))) S' else .bad
 | .exc c S'=>.ex c ρ S' | .bad=>.bad
noncomputable def zxr(i:Nat)(f:Fe)(ρ:Env)(S:Sto):Option (Option (Bool×D))->Fo | some (some (true,.lst l))=>zny i ρ l (f ρ S) | _=>.bad
noncomputable def zp6(i:Nat)(ρ:Env)(l:List D):Out D->Fo
 | .ok (.lst k) S'=>if small (l.length+k.length) then .nx (ρ.set i (some (true,.lst (l++k)))) S' else .bad
 | .ok _ _=>.bad
 | .exc c S'=>.ex c ρ S' | .bad=>.bad
noncomputable def zxo(i:Nat)(f:Fe)(ρ:Env)(S:Sto):Option (Option (Bool×D))->Fo | some (some (true,.lst l))=>zp6 i ρ l (f ρ S) | _=>.bad
noncomputable def zvf(S:Sto):Option Env->Fo | some ρ'=>.nx ρ' S | none=>.bad
noncomputable def zqb(t:Tg)(ρ:Env):Out D->Fo | .ok d S'=>zvf S' (t.put ρ d) | .exc c S'=>.ex c ρ S' | .bad=>.bad
noncomputable def zxm(t:Tg)(a:Fs)(ρ:Env):Out (List D)->Fo | .ok ds S'=>zfq t a ds ρ S' | .exc c S'=>.ex c ρ S' | .bad=>.bad
noncomputable def zxg(S:Sto):Option (Option (Bool×D))->Out D | some (some (false,d))=>.ok d S | _=>.bad
noncomputable def zxq(S:Sto):Option (Option (Bool×D))->Out D | some (some (_,d))=>.ok d S | _=>.bad
noncomputable def kUn(u:D->Option D):Out D->Out D | .ok a S=>Out.of (u a) S | .exc c S=>.exc c S | .bad=>.bad
noncomputable def zlD(u:D->D->Option D)(a:D):Out D->Out D | .ok b S=>Out.of (u a b) S | .exc c S=>.exc c S | .bad=>.bad
noncomputable def zvh(u:D->D->Option D)(g:Fe)(ρ:Env):Out D->Out D | .ok a S=>zlD u a (g ρ S) | .exc c S=>.exc c S | .bad=>.bad
noncomputable def kIf(f g:Fe)(ρ:Env):Out D->Out D | .ok d S1=>(match isB d with | some true=>f ρ S1 | some false=>g ρ S1 | none=>.bad) | .exc c S=>.exc c S | .bad=>.bad
noncomputable def zvj(g:Fe)(ρ:Env):Out D->Out D | .ok d S1=>(match isB d with | some true=>g ρ S1 | some false=>.ok (.bl false) S1 | none=>.bad) | .exc c S=>.exc c S | .bad=>.bad
noncomputable def kOr(g:Fe)(ρ:Env):Out D->Out D | .ok d S1=>(match isB d with | some true=>.ok (.bl true) S1 | some false=>g ρ S1 | none=>.bad) | .exc c S=>.exc c S | .bad=>.bad
noncomputable def zhv(d:D):Out (List D)->Out (List D) | .ok ds S=>.ok (d::ds) S | .exc c S=>.exc c S | .bad=>.bad
noncomputable def zp8(fs:List Fe)(ρ:Env):Out D->Out (List D) | .ok d S=>zhv d (zan fs ρ S) | .exc c S=>.exc c S | .bad=>.bad
noncomputable def zxh:Out (List D)->Out D | .ok ds S=>if small ds.length then .ok (.tup ds) S else .bad | .exc c S=>.exc c S | .bad=>.bad
noncomputable def zxj:Out (List D)->Out D | .ok ds S=>if small ds.length then .ok (.lst ds) S else .bad | .exc c S=>.exc c S | .bad=>.bad
noncomputable def zqa(u:List D->Option D):Out (List D)->Out D | .ok ds S=>Out.of (u ds) S | .exc c S=>.exc c S | .bad=>.bad
noncomputable def kFn(r:List D->Sto->Out D):Out (List D)->Out D | .ok ds S=>r ds S | .exc c S=>.exc c S | .bad=>.bad
noncomputable def zfj(v:D->D->Option D)(b:D):Out D->Out D | .ok c S=>Out.of (v b c) S | .exc c S=>.exc c S | .bad=>.bad
noncomputable def zfi(v:D->D->Option D)(h:Fe)(ρ:Env)(b:D)(S:Sto):Option D->Out D | some d=>(match isB d with | some true=>zfj v b (h ρ S) | some false=>.ok (.bl false) S | none=>.bad) | none=>.bad
noncomputable def zgy(u v:D->D->Option D)(h:Fe)(ρ:Env)(a:D):Out D->Out D | .ok b S=>zfi v h ρ b S (u a b) | .exc c S=>.exc c S | .bad=>.bad
noncomputable def zop(u v:D->D->Option D)(g h:Fe)(ρ:Env):Out D->Out D | .ok a S=>zgy u v h ρ a (g ρ S) | .exc c S=>.exc c S | .bad=>.bad
noncomputable def zxk:Out D->Out (Option Int) | .ok (.int i) S=>.ok (some i) S | .ok _ _=>.bad | .exc c S=>.exc c S | .bad=>.bad
noncomputable def ztN(d:D)(l:Option Int):Out (Option Int)->Out D | .ok u S=>Out.of (slD d l u) S | .exc c S=>.exc c S | .bad=>.bad
noncomputable def ztO(d:D)(u:Option Fe)(ρ:Env):Out (Option Int)->Out D | .ok l S=>ztN d l (zc2 u ρ S) | .exc c S=>.exc c S | .bad=>.bad
noncomputable def kSl(l u:Option Fe)(ρ:Env):Out D->Out D | .ok d S=>ztO d u ρ (zc2 l ρ S) | .exc c S=>.exc c S | .bad=>.bad
noncomputable def zlB:Out D->Out (List D) | .ok (.lst l) S=>.ok l S | .ok (.tup l) S=>.ok l S | .ok _ _=>.bad | .exc c S=>.exc c S | .bad=>.bad
noncomputable def zp7:Out (List D)->Out (List D) | .ok [.lst l] S=>.ok (zcC l) S | .ok [.tup l] S=>.ok (zcC l) S | .ok _ _=>.bad | .exc c S=>.exc c S | .bad=>.bad
noncomputable def zsV:Out (List D)->Out (List D) | .ok ds S1=>(match ds with | [.tup l,.tup k,.tup m]=>if k.length=l.length/\m.length=l.length then .ok (zeU l k m) S1 else .bad | _=>.bad) | .exc c S=>.exc c S | .bad=>.bad
noncomputable def zsW:Out (List D)->Out (List D) | .ok ds S1=>(match ds with | [x,y]=>(match zrG x,zrG y with | some l,some k=>.ok (zfJ l k) S1 | _,_=>.bad) | _=>.bad) | .exc c S=>.exc c S | .bad=>.bad
noncomputable def zsZ:Out (List D)->Out (List D) | .ok ds S1=>(match ds with | [.int j]=>if -1000000<=j/\j<=1000000 then .ok (zax 0 j) S1 else .bad | _=>.bad) | .exc c S=>.exc c S | .bad=>.bad
noncomputable def zsY:Out (List D)->Out (List D) | .ok ds S1=>(match ds with | [.int i,.int j]=>if (-1000000<=i/\i<=1000000)/\-1000000<=j/\j<=1000000 then .ok (zax i j) S1 else .bad | _=>.bad) | .exc c S=>.exc c S | .bad=>.bad
noncomputable def zsX:Out (List D)->Out (List D) | .ok ds S1=>(match ds with | [.int i,.int j,.int c]=>if i=0/\0<=j/\j<=1000/\1<=c/\c<=1000 then .ok (zdQ j c) S1 else .bad | _=>.bad) | .exc c S=>.exc c S | .bad=>.bad
noncomputable def zlC:Out (List D)->Out D | .ok ys S2=>if small ys.length then .ok (.lst ys) S2 else .bad | _=>.bad
noncomputable def zp9(tg:Tg)(c elt:Fe)(ρ0:Env):Out (List D)->Out D | .ok ds S1=>zlC (zbn tg c elt ρ0 ds S1) | .exc c S=>.exc c S | .bad=>.bad
noncomputable def zxp:Option (Option (Bool×D))->Option (Bool×D) | some (some (false,d))=>some (false,d) | _=>none
noncomputable def ztT(ρ:Env)(i:Nat):Option (Option (Bool×D))->Env | some (some (true,d))=>ρ.set i (some (false,d)) | _=>ρ
noncomputable def ztP(own:Bool):Fo->Out D | .rt d S'=>.ok d S' | .nx _ S'=>if own then .bad else .ok .non S' | .ex c _ S'=>.exc c S' | _=>.bad
noncomputable def kRz(c:Str)(ρ:Env):Out (List D)->Fo | .ok ds S'=>if small ds.length then .ex c ρ S' else .bad | .exc x S'=>.ex x ρ S' | .bad=>.bad
noncomputable def ztQ(u:List D->D->Option D)(l:List D):Out D->Out D | .ok d S=>Out.of (u l d) S | .exc c S=>.exc c S | .bad=>.bad
noncomputable def kMt(u:List D->D->Option D)(f:Fe)(ρ:Env)(S:Sto):Option (Option (Bool×D))->Out D | some (some (_,.lst l))=>ztQ u l (f ρ S) | _=>.bad
section
variable{ρ:Env}{S:Sto}{f g h k c:Fe}{a b:Fs}
@[simp] def zx5{u:List D->D->Option D}{i:Nat}:eMt u i f ρ S=kMt u f ρ S ρ[i]?:=by
 show (match ρ[i]? with | some (some (_,.lst l))=>(f ρ S).bind fun d S1=>Out.of (u l d) S1 | _=>.bad)=_
 cases ρ[i]? with
 | none=>rfl
 | some o=>cases o with
  | none=>rfl
  | some p =>
   obtain ⟨b,d⟩:=p
   cases d with
   | lst l=>show ((f ρ S).bind fun d S1=>Out.of (u l d) S1)=ztQ u l (f ρ S);cases f ρ S<;>rfl
   | _=>rfl
@[simp] def zzp{u:List D->D->Option D}{o:Bool}{l:List D}:kMt u f ρ S (some (some (o,.lst l)))=ztQ u l (f ρ S):=(rfl)
@[simp] def zyE{u:List D->D->Option D}{l:List D}{d:D}:ztQ u l (.ok d S)=Out.of (u l d) S:=(rfl)
@[simp] def zqV:zaj a b ρ S=(a ρ S).seq b:=by
 show (match a ρ S with | .nx ρ' S'=>b ρ' S' | o=>o)=_
 cases a ρ S<;>rfl
@[simp] def zwM:(Fo.nx ρ S).seq b=b ρ S:=(rfl)
@[simp] def zsP{d:D}:(Fo.rt d S).seq b=.rt d S:=(rfl)
@[simp] def zwL:(Fo.bk ρ S).seq b=.bk ρ S:=(rfl)
@[simp] def zwK:(Fo.ct ρ S).seq b=.ct ρ S:=(rfl)
@[simp] def zwJ{x:Str}:(Fo.ex x ρ S).seq b=.ex x ρ S:=(rfl)
@[simp] def zwI:Fo.bad.seq b=.bad:=(rfl)
@[simp] def zt8{is:List Nat}:sFz is a ρ S=a (frz is ρ) S:=(rfl)
@[simp] def zq0:frz [] ρ=ρ:=(rfl)
@[simp] def zqZ{i:Nat}{is:List Nat}:frz (i::is) ρ=frz is (frz1 ρ i):=(rfl)
@[simp] def zuc(i:Nat):frz1 ρ i=ztT ρ i ρ[i]?:=(rfl)
@[simp] def zw0{i:Nat}{d:D}:ztT ρ i (some (some (true,d)))=ρ.set i (some (false,d)):=(rfl)
@[simp] def zsT{i:Nat}{d:D}:ztT ρ i (some (some (false,d)))=ρ:=(rfl)
@[simp] def zwZ{i:Nat}:ztT ρ i (some none)=ρ:=(rfl)
@[simp] def zxL:sNx ρ S=.nx ρ S:=(rfl)
@[simp] def zxN:sBk ρ S=.bk ρ S:=(rfl)
@[simp] def zvS{i:Nat}{o:Bool}:za6 i o f ρ S=zvi i o ρ (f ρ S):=(rfl)
@[simp] def zxb{i:Nat}{o:Bool}{d:D}:zvi i o ρ (.ok d S)=.nx (ρ.set i (some (o,d))) S:=(rfl)
@[simp] def zxa{i:Nat}{o:Bool}{x:Str}:zvi i o ρ (.exc x S)=.ex x ρ S:=(rfl)
@[simp] def zvR:zmQ f ρ S=zvg ρ (f ρ S):=(rfl)
@[simp] def zw4{d:D}:zvg ρ (.ok d S)=.nx ρ S:=(rfl)
@[simp] def zw3{x:Str}:zvg ρ (.exc x S)=.ex x ρ S:=(rfl)
@[simp] def zqW:zbx f ρ S=zve ρ (f ρ S):=(rfl)
@[simp] def zsS{d:D}:zve ρ (.ok d S)=.rt d S:=(rfl)
@[simp] def zwS{x:Str}:zve ρ (.exc x S)=.ex x ρ S:=(rfl)
@[simp] def zt6:zmP ρ S=.rt .non S:=(rfl)
@[simp] def zt5{i:Nat}:zjE i ρ S=zs0 S ρ[i]?:=(rfl)
@[simp] def zwR{d:D}:zs0 S (some (some (true,d)))=.rt d S:=(rfl)
@[simp] def zxM:sIf c a b ρ S=ztS a b ρ (c ρ S):=(rfl)
@[simp] def zwY:ztS a b ρ (.ok (.bl true) S)=a ρ S:=(rfl)
@[simp] def zwX:ztS a b ρ (.ok (.bl false) S)=b ρ S:=(rfl)
@[simp] def zwW{x:Str}:ztS a b ρ (.exc x S)=.ex x ρ S:=(rfl)
@[simp] def zvT{i:Nat}:zh5 i f ρ S=zxr i f ρ S ρ[i]?:=(rfl)
@[simp] def zyZ{i:Nat}{l:List D}:zxr i f ρ S (some (some (true,.lst l)))=zny i ρ l (f ρ S):=(rfl)
@[simp] def zxd{i:Nat}{l:List D}{d:D}:zny i ρ l (.ok d S)=if small l.length then .nx (ρ.set i (some (true,.lst (l++[d])))) S else .bad:=(rfl)
@[simp] def zxc{i:Nat}{l:List D}{x:Str}:zny i ρ l (.exc x S)=.ex x ρ S:=(rfl)
@[simp] def zvQ{i:Nat}:zqN i f ρ S=zxo i f ρ S ρ[i]?:=(rfl)
@[simp] def zyR{i:Nat}{l:List D}:zxo i f ρ S (some (some (true,.lst l)))=zp6 i ρ l (f ρ S):=(rfl)
@[simp] def zw2{i:Nat}{l k:List D}:zp6 i ρ l (.ok (.lst k) S)=if small (l.length+k.length) then .nx (ρ.set i (some (true,.lst (l++k)))) S else .bad:=(rfl)
@[simp] def zua{t:Tg}:zh4 t f ρ S=zqb t ρ (f ρ S):=by
 unfold zh4 zqb
 cases f ρ S with
 | ok d S'=>dsimp only;cases t.put ρ d<;>rfl
 | exc c S'=>rfl
 | bad=>rfl
@[simp] def zw9{t:Tg}{d:D}:zqb t ρ (.ok d S)=zvf S (t.put ρ d):=(rfl)
@[simp] def zyA{ρ':Env}:zvf S (some ρ')=.nx ρ' S:=(rfl)
@[simp] def zvP{t:Tg}{it:Fi}:zgg t it a ρ S=zxm t a ρ (it ρ S):=(rfl)
@[simp] def zyN{t:Tg}{ds:List D}:zxm t a ρ (.ok ds S)=zfq t a ds ρ S:=(rfl)
@[simp] def zxK{x:Str}{fs:List Fe}:sRz x fs ρ S=kRz x ρ (zan fs ρ S):=(rfl)
@[simp] def zzo{x:Str}{ds:List D}:kRz x ρ (.ok ds S)=if small ds.length then .ex x ρ S else .bad:=(rfl)
@[simp] def zvZ{i:Nat}{d:D}:(Tg.one i).put ρ d=some (ρ.set i (some (false,d))):=(rfl)
@[simp] def zvW{is:List Nat}{ds:List D}:(Tg.tup is).put ρ (.tup ds)=zey is ds ρ:=(rfl)
@[simp] def zvY{i:Nat}{is:List Nat}{d:D}{ds:List D}:zey (i::is) (d::ds) ρ=zey is ds (ρ.set i (some (false,d))):=(rfl)
@[simp] def zvX:zey [] [] ρ=some ρ:=(rfl)
@[simp] def zq1{i:Nat}:zae i ρ S=zxg S ρ[i]?:=(rfl)
@[simp] def zu6{d:D}:zxg S (some (some (false,d)))=.ok d S:=(rfl)
@[simp] def zq3{i:Nat}:zah i ρ S=zxq S ρ[i]?:=(rfl)
@[simp] def zvc{o:Bool}{d:D}:zxq S (some (some (o,d)))=.ok d S:=(rfl)
@[simp] def zq2{d:D}:zag d ρ S=.ok d S:=(rfl)
@[simp] def zx2{u:D->Option D}:eUn u f ρ S=kUn u (f ρ S):=by
 unfold eUn;cases f ρ S<;>rfl
@[simp] def zyw{u:D->Option D}{d:D}:kUn u (.ok d S)=Out.of (u d) S:=(rfl)
@[simp] def zyv{u:D->Option D}{x:Str}:kUn u (.exc x S)=.exc x S:=(rfl)
@[simp] def zwj{u:D->D->Option D}:zaf u f g ρ S=zvh u g ρ (f ρ S):=by
 unfold zaf
 cases f ρ S with
 | ok a S1=>show ((g ρ S1).bind fun b S2=>Out.of (u a b) S2)=zlD u a (g ρ S1);cases g ρ S1<;>rfl
 | exc c S=>rfl
 | bad=>rfl
@[simp] def zw8{u:D->D->Option D}{d:D}:zvh u g ρ (.ok d S)=zlD u d (g ρ S):=(rfl)
@[simp] def zw7{u:D->D->Option D}{x:Str}:zvh u g ρ (.exc x S)=.exc x S:=(rfl)
@[simp] def zw6{u:D->D->Option D}{d e:D}:zlD u d (.ok e S)=Out.of (u d e) S:=(rfl)
@[simp] def zw5{u:D->D->Option D}{d:D}{x:Str}:zlD u d (.exc x S)=.exc x S:=(rfl)
@[simp] def zx7:eIf c f g ρ S=kIf f g ρ (c ρ S):=by
 unfold eIf;cases c ρ S<;>rfl
@[simp] def zyL:kIf f g ρ (.ok (.bl true) S)=f ρ S:=(rfl)
@[simp] def zyK:kIf f g ρ (.ok (.bl false) S)=g ρ S:=(rfl)
@[simp] def zwk:zfI f g ρ S=zvj g ρ (f ρ S):=by
 unfold zfI;cases f ρ S<;>rfl
@[simp] def zxf:zvj g ρ (.ok (.bl true) S)=g ρ S:=(rfl)
@[simp] def zxe:zvj g ρ (.ok (.bl false) S)=.ok (.bl false) S:=(rfl)
@[simp] def zx4:eOr f g ρ S=kOr g ρ (f ρ S):=by
 unfold eOr;cases f ρ S<;>rfl
@[simp] def zyC:kOr g ρ (.ok (.bl true) S)=.ok (.bl true) S:=(rfl)
@[simp] def zyB:kOr g ρ (.ok (.bl false) S)=g ρ S:=(rfl)
@[simp] def zoN:zan [] ρ S=.ok [] S:=(rfl)
@[simp] def zoO{fs:List Fe}:zan (f::fs) ρ S=zp8 fs ρ (f ρ S):=by
 show ((f ρ S).bind fun d S1=>(zan fs ρ S1).bind fun ds S2=>.ok (d::ds) S2)=_
 cases f ρ S with
 | ok a S1=>show ((zan fs ρ S1).bind fun ds S2=>.ok (a::ds) S2)=zhv a (zan fs ρ S1);cases zan fs ρ S1<;>rfl
 | exc c S=>rfl
 | bad=>rfl
@[simp] def zp1{fs:List Fe}{d:D}:zp8 fs ρ (.ok d S)=zhv d (zan fs ρ S):=(rfl)
@[simp] def zu9{fs:List Fe}{x:Str}:zp8 fs ρ (.exc x S)=.exc x S:=(rfl)
@[simp] def zp0{d:D}{ds:List D}:zhv d (.ok ds S)=.ok (d::ds) S:=(rfl)
@[simp] def zu8{d:D}{x:Str}:zhv d (.exc x S)=.exc x S:=(rfl)
@[simp] def zwe{fs:List Fe}:zcT fs ρ S=zxh (zan fs ρ S):=by
 unfold zcT;cases zan fs ρ S<;>rfl
@[simp] def zyx{ds:List D}:zxh (.ok ds S)=if small ds.length then .ok (.tup ds) S else .bad:=(rfl)
@[simp] def zwg{fs:List Fe}:zeF fs ρ S=zxj (zan fs ρ S):=by
 unfold zeF;cases zan fs ρ S<;>rfl
@[simp] def zyG{ds:List D}:zxj (.ok ds S)=if small ds.length then .ok (.lst ds) S else .bad:=(rfl)
@[simp] def zoP{u:List D->Option D}{fs:List Fe}:zaz u fs ρ S=zqa u (zan fs ρ S):=by
 unfold zaz;cases zan fs ρ S<;>rfl
@[simp] def zp3{u:List D->Option D}{ds:List D}:zqa u (.ok ds S)=Out.of (u ds) S:=(rfl)
@[simp] def zvb{u:List D->Option D}{x:Str}:zqa u (.exc x S)=.exc x S:=(rfl)
@[simp] def zx8{r:List D->Sto->Out D}{fs:List Fe}:eFn r fs ρ S=kFn r (zan fs ρ S):=by
 unfold eFn;cases zan fs ρ S<;>rfl
@[simp] def zyP{r:List D->Sto->Out D}{ds:List D}:kFn r (.ok ds S)=r ds S:=(rfl)
@[simp] def zyO{r:List D->Sto->Out D}{x:Str}:kFn r (.exc x S)=.exc x S:=(rfl)
@[simp] def ztH{u v:D->D->Option D}:zdA u v f g h ρ S=zop u v g h ρ (f ρ S):=by
 show ((f ρ S).bind fun a S1=>(g ρ S1).bind fun b S2=>match (u a b).bind isB with
  | some true=>(h ρ S2).bind fun c S3=>Out.of (v b c) S3
  | some false=>.ok (.bl false) S2
  | none=>.bad)=_
 cases f ρ S with
 | ok a S1 =>
  show ((g ρ S1).bind fun b S2=>match (u a b).bind isB with
   | some true=>(h ρ S2).bind fun c S3=>Out.of (v b c) S3
   | some false=>.ok (.bl false) S2
   | none=>.bad)=zgy u v h ρ a (g ρ S1)
  cases g ρ S1 with
  | ok b S2 =>
   show (match (u a b).bind isB with
    | some true=>(h ρ S2).bind fun c S3=>Out.of (v b c) S3
    | some false=>.ok (.bl false) S2
    | none=>.bad)=zfi v h ρ b S2 (u a b)
   cases hu:u a b with
   | none=>rfl
   | some d =>
    show (match isB d with
     | some true=>(h ρ S2).bind fun c S3=>Out.of (v b c) S3
     | some false=>.ok (.bl false) S2
     | none=>.bad)=(match isB d with | some true=>zfj v b (h ρ S2) | some false=>.ok (.bl false) S2 | none=>.bad)
    cases hb:isB d with
    | none=>rfl
    | some x=>cases x with
     | true=>show ((h ρ S2).bind fun c S3=>Out.of (v b c) S3)=zfj v b (h ρ S2);cases h ρ S2<;>rfl
     | false=>rfl
  | exc c S=>rfl
  | bad=>rfl
 | exc c S=>rfl
 | bad=>rfl
@[simp] def zyY{u v:D->D->Option D}{d:D}:zop u v g h ρ (.ok d S)=zgy u v h ρ d (g ρ S):=(rfl)
@[simp] def zyX{u v:D->D->Option D}{d e:D}:zgy u v h ρ d (.ok e S)=zfi v h ρ e S (u d e):=(rfl)
@[simp] def zyW{v:D->D->Option D}{e:D}:zfi v h ρ e S (some (.bl true))=zfj v e (h ρ S):=(rfl)
@[simp] def zyV{v:D->D->Option D}{e:D}:zfi v h ρ e S (some (.bl false))=.ok (.bl false) S:=(rfl)
@[simp] def zyU{v:D->D->Option D}{d e:D}:zfj v e (.ok d S)=Out.of (v e d) S:=(rfl)
@[simp] def ztG:zc2 none ρ S=.ok none S:=(rfl)
@[simp] def ztF:zc2 (some f) ρ S=zxk (f ρ S):=by
 show ((f ρ S).bind fun d S1=>match d with | .int i=>.ok (some i) S1 | _=>.bad)=_
 cases f ρ S with
 | ok d S'=>cases d<;>rfl
 | exc c S'=>rfl
 | bad=>rfl
@[simp] def zyJ{i:Int}:zxk (.ok (.int i) S)=.ok (some i) S:=(rfl)
@[simp] def zx3{l u:Option Fe}:eSl f l u ρ S=kSl l u ρ (f ρ S):=by
 unfold eSl
 cases f ρ S with
 | ok d S1 =>
  show ((zc2 l ρ S1).bind fun l S2=>(zc2 u ρ S2).bind fun u S3=>Out.of (slD d l u) S3)=ztO d u ρ (zc2 l ρ S1)
  cases zc2 l ρ S1 with
  | ok l S2=>show ((zc2 u ρ S2).bind fun u S3=>Out.of (slD d l u) S3)=ztN d l (zc2 u ρ S2);cases zc2 u ρ S2<;>rfl
  | exc c S=>rfl
  | bad=>rfl
 | exc c S=>rfl
 | bad=>rfl
@[simp] def zzn{l u:Option Fe}{d:D}:kSl l u ρ (.ok d S)=ztO d u ρ (zc2 l ρ S):=(rfl)
@[simp] def zyz{u:Option Fe}{d:D}{l:Option Int}:ztO d u ρ (.ok l S)=ztN d l (zc2 u ρ S):=(rfl)
@[simp] def zyy{d:D}{l u:Option Int}:ztN d l (.ok u S)=Out.of (slD d l u) S:=(rfl)
@[simp] def zub:za3 f ρ S=zlB (f ρ S):=by
 show ((f ρ S).bind fun d S1=>match d with | .lst l=>.ok l S1 | .tup l=>.ok l S1 | _=>.bad)=_
 cases f ρ S with
 | ok d S'=>cases d<;>rfl
 | exc c S'=>rfl
 | bad=>rfl
@[simp] def zyI{l:List D}:zlB (.ok (.lst l) S)=.ok l S:=(rfl)
@[simp] def zyH{l:List D}:zlB (.ok (.tup l) S)=.ok l S:=(rfl)
@[simp] def zwd:zj2 f ρ S=zp7 (zan [f] ρ S):=by
 show ((zan [f] ρ S).bind fun ds S1=>match ds with | [.lst l]=>.ok (zcC l) S1 | [.tup l]=>.ok (zcC l) S1 | _=>.bad)=_
 cases zan [f] ρ S with
 | ok ds S' =>
  cases ds with
  | nil=>rfl
  | cons d ds=>cases ds with
   | nil=>cases d<;>rfl
   | cons e ds=>cases d<;>rfl
 | exc c S'=>rfl
 | bad=>rfl
@[simp] def zyT{l:List D}:zp7 (.ok [.lst l] S)=.ok (zcC l) S:=(rfl)
@[simp] def zyS{l:List D}:zp7 (.ok [.tup l] S)=.ok (zcC l) S:=(rfl)
@[simp] def zvM{h:Fe}:zjZ f g h ρ S=zsV (zan [f,g,h] ρ S):=by
 unfold zjZ;cases zan [f,g,h] ρ S<;>rfl
@[simp] def zu5{l k m:List D}:zsV (.ok [.tup l,.tup k,.tup m] S)=if k.length=l.length/\m.length=l.length then .ok (zeU l k m) S else .bad:=(rfl)
@[simp] def zxF:zth f g ρ S=zsW (zan [f,g] ρ S):=by
 unfold zth;cases zan [f,g] ρ S<;>rfl
@[simp] def zwF{l k:List D}:zsW (.ok [.tup l,.tup k] S)=.ok (zfJ l k) S:=(rfl)
@[simp] def zwE{l k:List D}:zsW (.ok [.lst l,.tup k] S)=.ok (zfJ l k) S:=(rfl)
@[simp] def zwD{l k:List D}:zsW (.ok [.tup l,.lst k] S)=.ok (zfJ l k) S:=(rfl)
@[simp] def zwC{l k:List D}:zsW (.ok [.lst l,.lst k] S)=.ok (zfJ l k) S:=(rfl)
@[simp] def zvV:zcU f ρ S=zsZ (zan [f] ρ S):=by
 unfold zcU;cases zan [f] ρ S<;>rfl
@[simp] def zwQ{j:Int}:zsZ (.ok [.int j] S)=if -1000000<=j/\j<=1000000 then .ok (zax 0 j) S else .bad:=(rfl)
@[simp] def zvU:zl0 f g ρ S=zsY (zan [f,g] ρ S):=by
 unfold zl0;cases zan [f,g] ρ S<;>rfl
@[simp] def zwP{i j:Int}:zsY (.ok [.int i,.int j] S)=if (-1000000<=i/\i<=1000000)/\-1000000<=j/\j<=1000000 then .ok (zax i j) S else .bad:=(rfl)
@[simp] def zqX:zj0 f g h ρ S=zsX (zan [f,g,h] ρ S):=by
 unfold zj0;cases zan [f,g,h] ρ S<;>rfl
@[simp] def zsR{i j m:Int}:zsX (.ok [.int i,.int j,.int m] S)=if i=0/\0<=j/\j<=1000/\1<=m/\m<=1000 then .ok (zdQ j m) S else .bad:=(rfl)
@[simp] def zq4{n:Nat}{t:Tg}{it:Fi}{caps:List Nat}:zb5 n t it c f caps ρ S=zp9 t c f (zb6 n caps ρ) (it ρ S):=by
 unfold zb5
 cases it ρ S with
 | ok ds S' =>
  simp only [Out.bind,zp9]
  cases zbn t c f (zb6 n caps ρ) ds S'<;>rfl
 | exc c S'=>rfl
 | bad=>rfl
@[simp] def zsU{t:Tg}{ρ0:Env}{ds:List D}:zp9 t c f ρ0 (.ok ds S)=zlC (zbn t c f ρ0 ds S):=(rfl)
@[simp] def zp2{ys:List D}:zlC (.ok ys S)=if small ys.length then .ok (.lst ys) S else .bad:=(rfl)
@[simp] def zxG:zdq ρ S=.ok (.bl true) S:=(rfl)
@[simp] def zkm{n:Nat}{caps:List Nat}:zb6 n caps ρ=List.replicate n none++caps.map (ztq ρ):=(rfl)
@[simp] def zq5{i:Nat}:ztq ρ i=zxp ρ[i]?:=(rfl)
@[simp] def zva{d:D}:zxp (some (some (false,d)))=some (false,d):=(rfl)
def zas{n:Nat}{own:Bool}{fs:Fs}{ds:List D}:zbL n own fs ds S=ztP own (fs (ds.map (fun d=>some (false,d))++List.replicate (n-ds.length) none) S):=(rfl)
@[simp] def zsQ{own:Bool}{d:D}:ztP own (.rt d S)=.ok d S:=(rfl)
@[simp] def zwO:ztP false (.nx ρ S)=.ok .non S:=(rfl)
@[simp] def zwN{own:Bool}{x:Str}:ztP own (.ex x ρ S)=.exc x S:=(rfl)
@[simp] def zx0{b:Bool}:isB (.bl b)=some b:=(rfl)
@[simp] def zxO{b:Bool}:zho (.bl b)=some (.bl (!b)):=(rfl)
@[simp] def zxP{i:Int}:zmu (.int i)=some (.int (-i)):=(rfl)
@[simp] def zwm{i j:Int}:zb7 (.int i) (.int j)=some (.int (i+j)):=(rfl)
@[simp] def zn8{x y:List D}:zb7 (.tup x) (.tup y)=if small (x.length+y.length) then some (.tup (x++y)) else none:=(rfl)
@[simp] def zwl{x y:List D}:zb7 (.lst x) (.lst y)=if small (x.length+y.length) then some (.lst (x++y)) else none:=(rfl)
@[simp] def zxH{i j:Int}:zqM (.int i) (.int j)=some (.int (i-j)):=(rfl)
@[simp] def zxR{i j:Int}:zea (.int i) (.int j)=if zb2 i||zb2 j then some (.int (i*j)) else none:=(rfl)
@[simp] def zxS{i j:Int}:zkh (.int i) (.int j)=if 0<j then some (.int (i % j)) else none:=(rfl)
@[simp] def zx9{i j:Int}:zti (.int i) (.int j)=if 0<j/\j<1073741824 then some (.int (i / j)) else none:=(rfl)
@[simp] def zzi{i j:Int}:ltD (.int i) (.int j)=some (.bl (decide (i<j))):=(rfl)
@[simp] def zzj{i j:Int}:leD (.int i) (.int j)=some (.bl (decide (i<=j))):=(rfl)
@[simp] def zzk{i j:Int}:gtD (.int i) (.int j)=some (.bl (decide (j<i))):=(rfl)
@[simp] def zzl{i j:Int}:geD (.int i) (.int j)=some (.bl (decide (j<=i))):=(rfl)
@[simp] def zxW{l:List D}{i:Int}:ixD (.lst l) (.int i)=atI l i:=(rfl)
@[simp] def zxU{l:List D}{i:Int}:ixD (.tup l) (.int i)=atI l i:=(rfl)
@[simp] def zxV{l:List Int}{i:Int}:ixD (.scr l) (.int i)=(atI l i).map D.int:=(rfl)
@[simp] def zwc{l:List D}:zei [.lst l]=some (.int l.length):=(rfl)
@[simp] def zqY{l:List D}:zei [.tup l]=some (.int l.length):=(rfl)
@[simp] def zwb{l:List Int}:zei [.scr l]=some (.int l.length):=(rfl)
@[simp] def zqU{l:List D}:zbl [.lst l]=some (.tup l):=(rfl)
@[simp] def zvN{l:List D}:zbl [.tup l]=some (.tup l):=(rfl)
@[simp] def zwa{l:List D}:zjR [.lst l]=some (.lst l):=(rfl)
@[simp] def zv9{l:List D}:zjR [.tup l]=some (.lst l):=(rfl)
@[simp] def zxY{d:D}:zmv d .non=some (.bl (zc6 d)):=(rfl)
@[simp] def zv0{d:D}:zhn d .non=some (.bl (!zc6 d)):=(rfl)
@[simp] def zv6:zc6 .non=true:=(rfl)
@[simp] def zv5{i:Int}:zc6 (.int i)=false:=(rfl)
@[simp] def zv4{l:List D}:zc6 (.tup l)=false:=(rfl)
@[simp] def zxI{l:List D}{x y:Option Int}:slD (.tup l) x y=some (.tup (zgG l x y)):=(rfl)
@[simp] def zxJ{l:List D}{x y:Option Int}:slD (.lst l) x y=some (.lst (zgG l x y)):=(rfl)
@[simp] def zv1{x y:Bool}:znh (.bl x) (.bl y)=some (.bl (!decide (x=y))):=(rfl)
@[simp] def zv8{i j:Int}:zgw [.int i,.int j]=some (.int (if j<i then j else i)):=(rfl)
@[simp] def zxT{i j:Int}:ztM [.int i,.int j]=some (.int (if j<i then j else i)):=(rfl)
@[simp] def zhZ{n:Nat}:small n=decide (n<=100000):=(rfl)
def zbH{α:Type}(xs:List α)(j:Nat):atI xs (j:Int)=xs[j]?:=by
 unfold atI ixN
 by_cases h:j<xs.length
 ·simp [h]
 ·simp [h]
@[simp] def zt0{α:Type}(xs:List α):atI xs 0=xs[0]?:=zbH xs 0
@[simp] def zvF{α:Type}(xs:List α):atI xs 1=xs[1]?:=zbH xs 1
@[simp] def zvE{α:Type}(xs:List α):atI xs 2=xs[2]?:=zbH xs 2
@[simp] def ztv{α:Type}(xs:List α):atI xs 3=xs[3]?:=zbH xs 3
def zeT{α:Type}{xs:List α}{i:Int}(h:0<=i):atI xs i=xs[i.toNat]?:=by
 obtain ⟨n,rfl⟩:=ybR h;exact zbH xs n
end
def zcQ{tg:Tg}{body:Fs}{ds:List D}{S:Sto}(Iv:Nat->Env->Prop)(step:∀k d ρ,ds[k]?=some d->Iv k ρ->∃ρ1 ρ2,tg.put ρ d=some ρ1/\body ρ1 S=.nx ρ2 S/\Iv (k+1) ρ2){ρ:Env}(h0:Iv 0 ρ):∃ρ',zfq tg body ds ρ S=.nx ρ' S/\Iv ds.length ρ':=by
 have go:∀(n:Nat) (es:List D) (k:Nat) (ρ:Env),es.length=n->ds.drop k=es->k+n=ds.length->Iv k ρ->∃ρ',zfq tg body es ρ S=.nx ρ' S/\Iv ds.length ρ':=by
  intro n
  induction n with
  | zero =>
   intro es k ρ hl he hk hi;obtain rfl:es=[]:=ya3 hl;exact ⟨ρ,rfl,by rw [show ds.length=k by omega];exact hi⟩
  | succ n ih =>
   intro es k ρ hl he hk hi
   cases es with
   | nil=>cases hl
   | cons d es =>
    have hd:ds[k]?=some d:=by
     have:=congrArg (fun l=>l[0]?) he;rw [ybl] at this;simpa using this
    obtain ⟨ρ1,ρ2,e1,e2,hi2⟩:=step k d ρ hd hi;obtain ⟨ρ',e3,e4⟩:=ih es (k+1) ρ2 (by simpa using hl) (by rw [<-List.drop_drop,he];rfl) (by omega) hi2;refine ⟨ρ',?_,e4⟩;unfold zfq;rw [e1];dsimp only;rw [e2];exact e3
 exact go ds.length ds 0 ρ rfl (by simp) (by omega) h0
theorem zdg{tg:Tg}{c elt:Fe}{ρ0:Env}{S:Sto}{g:D->D}{p:D->Bool}:∀{ds:List D},(∀d∈ds,∃ρ1,tg.put ρ0 d=some ρ1/\c ρ1 S=.ok (.bl (p d)) S/\(p d=true->elt ρ1 S=.ok (g d) S))->zbn tg c elt ρ0 ds S=.ok ((ds.filter p).map g) S
 | [],_=>rfl
 | d::ds,h=>by
  obtain ⟨ρ1,e1,e2,e3⟩:=h d yat;have ih:=zdg (ds:=ds) fun x hx=>h x (yap _ hx)
  unfold zbn;rw [e1];dsimp only;rw [e2]
  cases hp:p d with
  | true=>simp [e3 hp,ih,hp]
  | false=>simp [ih,hp]
def zbe{tg:Tg}{elt:Fe}{ρ0:Env}{S:Sto}{g:D->D}{ds:List D}(h:∀d∈ds,∃ρ1,tg.put ρ0 d=some ρ1/\elt ρ1 S=.ok (g d) S):zbn tg zdq elt ρ0 ds S=.ok (ds.map g) S:=by
 have:=zdg (c:=zdq) (p:=fun _=>true) (tg:=tg) (elt:=elt) (ρ0:=ρ0) (S:=S) (g:=g) (ds:=ds) fun d hd=>by
  obtain ⟨ρ1,e1,e2⟩:=h d hd;exact ⟨ρ1,e1,rfl,fun _=>e2⟩
 rw [this,List.filter_eq_self.mpr (fun _ _=>rfl)]
mutual
noncomputable def D.pl:D->Bool
 | .non=>true
 | .int _=>true
 | .str _=>true
 | .tup l=>D.pls l
 | .lst l=>D.pls l
 | _=>false
noncomputable def D.pls:List D->Bool
 | []=>true
 | d::l=>d.pl&&D.pls l
end
theorem D.pls_iff:∀{l:List D},D.pls l=true↔∀d∈l,d.pl=true
 | []=>by simp [D.pls]
 | d::l=>by simp [D.pls,D.pls_iff (l:=l)]
mutual
theorem zjh:∀(d e:D),d.pl=true->e.pl=true->(d.py.eqv e.py=true↔d=e)
 | .non,e,_,h=>by cases e<;>simp [D.py,PyData.eqv,D.pl] at h ⊢
 | .int i,e,_,h=>by cases e<;>simp [D.py,PyData.eqv,D.pl] at h ⊢
 | .str x,e,_,h=>by cases e<;>simp [D.py,PyData.eqv,D.pl] at h ⊢
 | .tup l,e,hd,h=>by
  cases e with
  | tup k =>
   simp only [D.py,PyData.eqv,D.pl] at hd h ⊢;rw [zit l k hd h];simp
  | _=>simp [D.py,PyData.eqv,D.pl] at h ⊢
 | .lst l,e,hd,h=>by
  cases e with
  | lst k =>
   simp only [D.py,PyData.eqv,D.pl] at hd h ⊢;rw [zit l k hd h];simp
  | _=>simp [D.py,PyData.eqv,D.pl] at h ⊢
 | .bl _,_,hd,_=>by simp [D.pl] at hd
 | .dic _,_,hd,_=>by simp [D.pl] at hd
 | .ref _,_,hd,_=>by simp [D.pl] at hd
 | .exc _,_,hd,_=>by simp [D.pl] at hd
 | .scr _,_,hd,_=>by simp [D.pl] at hd
theorem zit:∀(l k:List D),D.pls l=true->D.pls k=true->(PyData.eqvAll (D.pys l) (D.pys k)=true↔l=k)
 | [],[],_,_=>by simp [D.pys,PyData.eqvAll]
 | [],_::_,_,_=>by simp [D.pys,PyData.eqvAll]
 | _::_,[],_,_=>by simp [D.pys,PyData.eqvAll]
 | d::l,e::k,h1,h2=>by
  simp only [D.pls,yab] at h1 h2;simp only [D.pys,PyData.eqvAll,yab,List.cons.injEq];rw [zjh d e h1.1 h2.1,zit l k h1.2 h2.2]
end
end S2
namespace S2
open PySem
open L2 hiding D
@[simp] def zqk{n:Nat}{i:Int}:D.fit n (.int i)=true:=by cases n<;>rfl
@[simp] def zvw{n:Nat}:D.fit n .non=true:=by cases n<;>rfl
@[simp] def zvv{n:Nat}{l:List D}:D.fit (n+1) (.tup l)=D.fits n l:=(rfl)
@[simp] def zvx{n:Nat}{l:List D}:D.fit (n+1) (.lst l)=D.fits n l:=(rfl)
@[simp] def zje{n:Nat}:D.fits n []=true:=by cases n<;>rfl
@[simp] def zdW{n:Nat}{d:D}{l:List D}:D.fits n (d::l)=(d.fit n&&D.fits n l):=by cases n<;>rfl
@[simp] def zx1{i j:Int}:eqD (.int i) (.int j)=some (.bl (decide (i=j))):=by
 unfold eqD zex;simp [D.py,PyData.eqv]
 cases h:(i == j)<;>simp_all
@[simp] def zxQ{i j:Int}:neD (.int i) (.int j)=some (.bl (!decide (i=j))):=by
 unfold neD zex;simp [D.py,PyData.eqv]
 cases h:(i == j)<;>simp_all
def zdr{l:List Int}:eqD (.scr l) (.lst [])=some (.bl (decide (l=[]))):=by
 cases l with
 | nil=>rfl
 | cons a l=>simp [eqD,D.fit,D.fits,zex,D.py,D.pys,PyData.eqv,PyData.eqvAll]
noncomputable def zj9(l:List Int)(k:Int):Int:=if k<l.length then l.getD k.toNat 0 else if l=[] then 0 else l.getD (k % l.length).toNat 0*31+k
noncomputable def zbZ(l:List Int)(k:Int)(many:Int):Int :=
 let d:=(zj9 l k+6151*(k+1))*40692 % 2147483399
 (d*d+d / 31) % 2147483629 % many
def zch(l:List Int)(k:Int){many:Int}(h:0<many):0<=zbZ l k many/\zbZ l k many<many:=⟨Int.emod_nonneg _ (by omega),ycX _ h⟩
@[simp] def zxx:zb2 31=true:=by decide
@[simp] def ztW:zb2 6151=true:=by decide
@[simp] def ztf:zb2 40692=true:=by decide
def zoz{i:Int}(h0:-(2 ^ 64)<i)(h:i<2 ^ 64):zb2 i=true:=by unfold zb2;simp;omega
def zmT{l:List Int}{k:Int}{S:Sto}(hk:0<=k):zbN [.scr l,.int k] S=.ok (.int (zj9 l k)) S:=by
 unfold zj9
 by_cases h:k<l.length
 ·have hx:l[k.toNat]?=some l[k.toNat]:=yaa (by omega);rw [if_pos h,yad,hx];simp [zbN,zas,zck,h,zeT hk,hx]
 ·by_cases h0:l=[]
  ·subst h0;simp [zbN,zas,zck,zdr,show ¬ k<0 by omega]
  ·have hl:0<l.length:=by cases l with | nil=>exact absurd rfl h0 | cons _ _=>simp
   have hm0:0<=k % (l.length:Int):=Int.emod_nonneg _ (by omega);have hm1:k % (l.length:Int)<l.length:=ycX _ (by omega);have hx:l[(k % (l.length:Int)).toNat]?=some (l[(k % (l.length:Int)).toNat]'(by omega)):=yaa (by omega);rw [if_neg h,if_neg h0,yad,hx];simp [zbN,zas,zck,h,h0,zdr,zeT hm0,hx,hl]
def zb9{l:List Int}{k many:Int}{S:Sto}(hk:0<=k)(hm:0<many):zaA [.scr l,.int k,.int many] S=.ok (.int (zbZ l k many)) S:=by
 unfold zbZ;have h0:0<=(zj9 l k+6151*(k+1))*40692 % 2147483399:=Int.emod_nonneg _ (by omega);have h1:(zj9 l k+6151*(k+1))*40692 % 2147483399<2147483399:=ycX _ (by omega);have hf:zb2 ((zj9 l k+6151*(k+1))*40692 % 2147483399)=true:=zoz (by omega) (by omega);simp [zaA,zas,zdH,zmT hk,hf,hm]
noncomputable def zad(t:List Int):D:=.tup (t.map D.int)
def znA{t u:List Int}:t.map D.int=u.map D.int↔t=u:=by
 constructor
 ·intro h
  induction t generalizing u with
  | nil=>cases u with | nil=>rfl | cons _ _=>cases h
  | cons a t ih=>cases u with
   | nil=>cases h
   | cons b u =>
    simp only [yaw,List.cons.injEq,D.int.injEq] at h;rw [h.1,ih h.2]
 ·rintro rfl;rfl
def zmE{t u:List Int}:zad t=zad u↔t=u:=by unfold zad;rw [D.tup.injEq];exact znA
def zm1{t:List Int}:D.pls (t.map D.int)=true:=by rw [D.pls_iff];intro d hd;obtain ⟨i,_,rfl⟩:=yan.mp hd;rfl
def zk0{t:List Int}:(zad t).pl=true:=zm1
def zlX{n:Nat}{t:List Int}:D.fits n (t.map D.int)=true:=by rw [D.fits_iff];intro d hd;obtain ⟨i,_,rfl⟩:=yan.mp hd;exact zqk
def zjf{n:Nat}{t:List Int}:(zad t).fit (n+1)=true:=zlX
theorem zlq{d:D}:∀{l:List D},d.pl=true->D.pls l=true->(zij d l=true↔d∈l)
 | [],_,_=>by simp [zij]
 | e::l,h,hl=>by
  simp only [D.pls,yab] at hl;have ih:=zlq (d:=d) (l:=l) h hl.2;have e1:=zjh e d hl.1 h;unfold zij;simp only [List.any_cons,ycL,yav];unfold zij at ih;rw [ih];unfold zex;rw [e1]
  constructor<;>(intro z;rcases z with z | z<;>simp [z])
def zhq{t:List Int}{ts:Z2}:zlh (zad t) (.lst (ts.map zad))=some (.bl (!decide (t∈ts))):=by
 have f1:(zad t).fit 8=true:=zjf
 have f2:D.fits 8 (ts.map zad)=true:=by rw [D.fits_iff];intro d hd;obtain ⟨i,_,rfl⟩:=yan.mp hd;exact zjf
 have p2:D.pls (ts.map zad)=true:=by rw [D.pls_iff];intro d hd;obtain ⟨i,_,rfl⟩:=yan.mp hd;exact zk0
 have m:=zlq (d:=zad t) zk0 p2
 have:(zad t∈ts.map zad)↔t∈ts:=by
  rw [yan];constructor
  ·rintro ⟨u,hu,e⟩;rw [<-zmE.mp e];exact hu
  ·intro h;exact ⟨t,h,rfl⟩
 rw [this] at m;unfold zlh;simp only [zgf,f1,f2,Bool.and_self,yb7,Option.some.injEq,D.bl.injEq];congr 1
 by_cases h:t∈ts
 ·rw [m.mpr h];simp [h]
 ·cases hm:zij (zad t) (ts.map zad)
  ·simp [h]
  ·exact absurd (m.mp hm) h
structure Tiles(most:Int)(ts:Z2):Prop where
 ne:1<=ts.length
 le:(ts.length:Int)<=most
 four:∀t∈ts,t.length=4
 col:∀t∈ts,∀c∈t,0<=c/\c<3
 nd:ts.Nodup
def zc4{hi:Int}{k:Nat}{d:D}(h:(zax 0 hi)[k]?=some d):d=.int k/\(k:Int)<hi:=by
 unfold zax at h;rw [yak] at h
 cases hr:(List.range (hi-0).toNat)[k]? with
 | none=>rw [hr] at h;cases h
 | some j =>
  rw [hr] at h;obtain ⟨h1,h2⟩:=yag.mp hr;simp at h1 h2;subst h2;simp at h;exact ⟨h.symm,by omega⟩
@[simp] def zkS{hi:Int}:(zax 0 hi).length=hi.toNat:=by unfold zax;simp
end S2
namespace S2
open PySem
open L2 hiding D
def zrY:zax 0 4=[.int 0,.int 1,.int 2,.int 3]:=by rfl
@[simp] def zzb:zb2 4=true:=by decide
@[simp] def zza:zb2 7=true:=by decide
def zoR{l:List Int}{at' most col k:Int}{S:Sto}{ts:Z2}{y:Option (Bool×D)}(ha:0<=at')(hk:0<=k)(hc:0<col)(hc3:col<=3)(hn:ts.length<=1000) :
  ∃t y',t.length=4/\(∀c∈t,0<=c/\c<3)/\zbp [some (false,.scr l),some (false,.int at'),some (false,.int most),some (false,.int col),some (true,.lst (ts.map zad)),some (false,.int k),y] S
   = .nx [some (false,.scr l),some (false,.int at'),some (false,.int most),some (false,.int col),some (true,.lst ((if t∈ts then ts else ts++[t]).map zad)),some (false,.int k),y'] S:=by
 have hcomp:∀ρ0:Env,ρ0=[none,some (false,.int at'),some (false,.int col),some (false,.int k),some (false,.scr l)]->zbn (.one 0) zdq (eFn zaA [(zae 4),(zaf zb7 (zaf zb7 (zaf zb7 (zah 1) (zaf zea (zag (.int 4)) (zah 3))) (zag (.int 2))) (zah 0)),(zae 2)]) ρ0 (zax 0 4) S
   = .ok ([zbZ l (at'+4*k+2+0) col,zbZ l (at'+4*k+2+1) col,zbZ l (at'+4*k+2+2) col,zbZ l (at'+4*k+2+3) col].map D.int) S:=by
  rintro _ rfl;rw [zrY,zbe (g:=fun d=>match d with | .int i=>.int (zbZ l (at'+4*k+2+i) col) | _=>.non)]
  ·rfl
  ·intro d hd;simp only [yav,yaF,ybP] at hd
   rcases hd with rfl | rfl | rfl | rfl<;>exact ⟨_,rfl,by simp;rw [zb9 (by omega) hc]⟩
 have b0:=zch l (at'+4*k+2+0) hc;have b1:=zch l (at'+4*k+2+1) hc;have b2:=zch l (at'+4*k+2+2) hc;have b3:=zch l (at'+4*k+2+3) hc;generalize zbZ l (at'+4*k+2+0) col=p0 at *;generalize zbZ l (at'+4*k+2+1) col=p1 at *;generalize zbZ l (at'+4*k+2+2) col=p2 at *;generalize zbZ l (at'+4*k+2+3) col=p3 at *
 have fin:∀t:List Int,(zaj (sFz [] (sIf (zaf zlh (zah 6) (zah 4)) (zaj (sFz [6] (zh5 4 (zae 6))) sNx) sNx)) sNx) [some (false,.scr l),some (false,.int at'),some (false,.int most),some (false,.int col),some (true,.lst (ts.map zad)),some (false,.int k),some (false,zad t)] S
   = .nx [some (false,.scr l),some (false,.int at'),some (false,.int most),some (false,.int col),some (true,.lst ((if t∈ts then ts else ts++[t]).map zad)),some (false,.int k),some (false,zad t)] S:=by
  intro t
  by_cases h:t∈ts
  ·simp [zhq,h]
  ·simp [zhq,h,show ts.length<=100000 by omega]
 by_cases h3:zbZ l (at'+60+k) 3=0
 ·refine ⟨[p0,p1,p0,p1],some (false,zad [p0,p1,p0,p1]),rfl,by simp;omega,?_⟩;rw [<-fin];simp [zbp,hcomp,zb9 (show 0<=at'+60+k by omega) (show (0:Int)<3 by omega),h3];rfl
 ·refine ⟨[p0,p1,p2,p3],some (false,zad [p0,p1,p2,p3]),rfl,by simp;omega,?_⟩;rw [<-fin];simp [zbp,hcomp,zb9 (show 0<=at'+60+k by omega) (show (0:Int)<3 by omega),h3];rfl
def zkK{l:List Int}{at' most:Int}{S:Sto}(ha:0<=at')(hm:0<most)(hm2:most<=100):∃ts,Tiles most ts/\zcr [.scr l,.int at',.int most] S=.ok (.tup (ts.map zad)) S:=by
 have b:=zch l at' (many:=2) (by omega);have n:=zch l (at'+1) hm;have p1:=zb9 (l:=l) (S:=S) ha (show (0:Int)<2 by omega);have p2:=zb9 (l:=l) (S:=S) (show 0<=at'+1 by omega) hm;generalize zbZ l at' 2=c at *;generalize zbZ l (at'+1) most=m at *
 obtain ⟨ρ',e,ts,x,y,rfl,h1,h2,h3,h4,h5⟩:=zcQ (tg:=.one 5) (body:=zbp) (ds:=zax 0 (1+m)) (S:=S) (fun k ρ=>∃ts x y,ρ=[some (false,.scr l),some (false,.int at'),some (false,.int most),some (false,.int (2+c)),some (true,.lst (ts.map zad)),x,y]/\ts.length<=k/\(0<k->1<=ts.length)/\(∀t∈ts,t.length=4)/\(∀t∈ts,∀c∈t,0<=c/\c<3)/\ts.Nodup) (by
   rintro k d ρ hd ⟨ts,x,y,rfl,h1,h2,h3,h4,h5⟩;obtain ⟨rfl,hk⟩:=zc4 hd;obtain ⟨t,y',a1,a2,a3⟩:=zoR (l:=l) (at':=at') (most:=most) (col:=2+c) (k:=k) (S:=S) (ts:=ts) (y:=y) ha (by omega) (by omega) (by omega) (by omega);refine ⟨_,_,rfl,a3,_,_,_,rfl,?_,?_,?_,?_,?_⟩
   ·split<;>(try simp)<;>omega
   ·intro _;split
    ·rename_i h;exact List.length_pos_of_mem h
    ·simp
   ·intro u hu;split at hu
    ·exact h3 u hu
    ·rw [ybL,yaO] at hu
     rcases hu with hu | rfl
     ·exact h3 u hu
     ·exact a1
   ·intro u hu;split at hu
    ·exact h4 u hu
    ·rw [ybL,yaO] at hu
     rcases hu with hu | rfl
     ·exact h4 u hu
     ·exact a2
   ·split
    ·exact h5
    ·rename_i h;rw [List.nodup_append];refine ⟨h5,by simp,?_⟩
     intro a ha b hb;rw [yaO] at hb;subst hb;rintro rfl;exact h ha)
  (ρ:=[some (false,.scr l),some (false,.int at'),some (false,.int most),some (false,.int (2+c)),some (true,.lst []),none,none]) ⟨[],none,none,rfl,by simp,by simp,by simp,by simp,by simp⟩
 rw [zkS] at h1 h2;refine ⟨ts,⟨h2 (by omega),by omega,h3,h4,h5⟩,?_⟩;simp [zcr,zas,zdb,p1,p2,show -1000000<=1+m/\1+m<=1000000 by omega,e]
end S2
namespace S2
open PySem
open L2 hiding D
noncomputable def oD:Option Int->D | none=>.non | some i=>.int i
noncomputable def zce(c:Nat)(g:Nat->Option Int):List D:=(List.range c).map fun j=>oD (g j)
noncomputable def zc1(c:Nat)(g:Nat->Option Int):D:=.tup (zce c g)
noncomputable def zbD(r c:Nat)(g:Z1):List D:=(List.range r).map fun i=>zc1 c (g i)
noncomputable def flr(r c:Nat)(g:Z1):D:=.tup (zbD r c g)
@[simp] def zgm{c:Nat}{g:Nat->Option Int}:(zce c g).length=c:=by simp [zce]
@[simp] def zdo{r c:Nat}{g:Z1}:(zbD r c g).length=r:=by simp [zbD]
def zgn{c j:Nat}{g:Nat->Option Int}(h:j<c):(zce c g)[j]?=some (oD (g j)):=by simp [zce,h]
def zeO{r c i:Nat}{g:Z1}(h:i<r):(zbD r c g)[i]?=some (zc1 c (g i)):=by simp [zbD,h]
@[simp] def zuL{c j:Nat}{g:Nat->Option Int}(h:j<(zce c g).length):(zce c g)[j]=oD (g j):=by simp [zce]
@[simp] def zvt{r c i:Nat}{g:Z1}(h:i<(zbD r c g).length):(zbD r c g)[i]=zc1 c (g i):=by simp [zbD]
def zkN{k:Nat}{g:Nat->Option Int}:zce (k+1) g=zce k g++[oD (g k)]:=by simp [zce,ybm]
def zlV{k c:Nat}{g:Z1}:zbD (k+1) c g=zbD k c g++[zc1 c (g k)]:=by simp [zbD,ybm]
noncomputable def zmt(l:List Int)(at' n m:Int)(i j:Nat):Option Int:=if zbZ l (at'+7*i+j) (n*m)<n then some (zbZ l (at'+7*i+j) (n*m)) else none
def znH{l:List Int}{at' m:Int}{ts:List D}{r c:Nat}{i:Nat}{S:Sto}{A B Mm:Option (Bool×D)}{y:Option (Bool×D)}{z:Option (Bool×D)}(ha:0<=at')(hp:0<(ts.length:Int)*m)(hm:zb2 m=true)(hc:c<=1000) :
  ∃y' z',zfq (.one 9) zbq (zax 0 c) [some (false,.scr l),some (false,.int at'),some (false,.tup ts),A,B,some (false,.int m),Mm,some (false,.int i),some (true,.lst []),y,z] S
   = .nx [some (false,.scr l),some (false,.int at'),some (false,.tup ts),A,B,some (false,.int m),Mm,some (false,.int i),some (true,.lst (zce c (zmt l at' ts.length m i))),y',z'] S:=by
 obtain ⟨ρ',e,y',z',rfl⟩:=zcQ (tg:=.one 9) (body:=zbq) (ds:=zax 0 c) (S:=S) (fun k ρ=>∃y z,ρ=[some (false,.scr l),some (false,.int at'),some (false,.tup ts),A,B,some (false,.int m),Mm,some (false,.int i),some (true,.lst (zce k (zmt l at' ts.length m i))),y,z]) (by
  rintro k d ρ hd ⟨y,z,rfl⟩;obtain ⟨rfl,hk⟩:=zc4 hd;have p:=zb9 (l:=l) (S:=S) (show 0<=at'+7*(i:Int)+(k:Int) by omega) hp;have pn:=zch l (at'+7*(i:Int)+(k:Int)) hp;refine ⟨_,_,rfl,?_,some (false,.int k),some (false,.int (zbZ l (at'+7*i+k) (ts.length*m))),rfl⟩
  ·rw [zkN]
   by_cases h:zbZ l (at'+7*(i:Int)+(k:Int)) (ts.length*m)<ts.length
   ·simp [zbq,p,hm,h,zmt,oD,show k<=100000 by omega]
   ·simp [zbq,p,hm,h,zmt,oD,show k<=100000 by omega])
  (ρ:=[some (false,.scr l),some (false,.int at'),some (false,.tup ts),A,B,some (false,.int m),Mm,some (false,.int i),some (true,.lst []),y,z]) ⟨y,z,rfl⟩
 exact ⟨y',z',by simpa using e⟩
def zg6{l:List Int}{at' m:Int}{ts:List D}{r c:Int}{S:Sto}(ha:0<=at')(hp:0<(ts.length:Int)*m)(hm:zb2 m=true)(hr:0<=r)(hr2:r<=1000)(hc:0<=c)(hc2:c<=1000) :
  zaM [.scr l,.int at',.tup ts,.int r,.int c,.int m] S=.ok (flr r.toNat c.toNat (zmt l at' ts.length m)) S:=by
 obtain ⟨r,rfl⟩:=ybR hr;obtain ⟨c,rfl⟩:=ybR hc
 obtain ⟨ρ',e,x1,x2,x3,x4,rfl⟩:=zcQ (tg:=.one 7) (body:=zcD) (ds:=zax 0 r) (S:=S) (fun k ρ=>∃x1 x2 x3 x4,ρ=[some (false,.scr l),some (false,.int at'),some (false,.tup ts),some (false,.int r),some (false,.int c),some (false,.int m),some (true,.lst (zbD k c (zmt l at' ts.length m))),x1,x2,x3,x4]) (by
  rintro k d ρ hd ⟨x1,x2,x3,x4,rfl⟩;obtain ⟨rfl,hk⟩:=zc4 hd;obtain ⟨y',z',e⟩:=znH (l:=l) (at':=at') (m:=m) (ts:=ts) (r:=r) (c:=c) (i:=k) (S:=S) (A:=some (false,.int r)) (B:=some (false,.int c)) (Mm:=some (true,.lst (zbD k c (zmt l at' ts.length m)))) (y:=x3) (z:=x4) ha hp hm (by omega);refine ⟨_,_,rfl,?_,some (false,.int k),some (true,.lst (zce c (zmt l at' ts.length m k))),y',z',rfl⟩
  ·rw [zlV]
   simp [zcD,e,zc1,show -1000000<=(c:Int)/\(c:Int)<=1000000 by omega,show k<=100000 by omega])
  (ρ:=[some (false,.scr l),some (false,.int at'),some (false,.tup ts),some (false,.int r),some (false,.int c),some (false,.int m),some (true,.lst []),none,none,none,none]) ⟨none,none,none,none,rfl⟩
 simp at e;simp [zaM,zas,zdd,e,flr,show -1000000<=(r:Int)/\(r:Int)<=1000000 by omega]
end S2
namespace S2
open PySem
open L2 hiding D
noncomputable abbrev plD(i j:Nat):D:=.tup [.int i,.int j]
noncomputable def zd9(r c:Nat):List D:=(List.range r).flatMap fun i=>(List.range c).map fun j=>plD i j
def zhd{k c:Nat}:zd9 (k+1) c=zd9 k c++(List.range c).map fun j=>plD k j:=by simp [zd9,ybm]
def zif{r c:Nat}{d:D}(h:d∈zd9 r c):∃i j,i<r/\j<c/\d=plD i j:=by
 simp only [zd9,ybg,yaE,yan] at h;obtain ⟨i,hi,j,hj,e⟩:=h;exact ⟨i,j,hi,hj,e.symm⟩
def zig{r c:Nat}:(zd9 r c).length=r*c:=by
 induction r with
 | zero=>simp [zd9]
 | succ k ih=>rw [zhd,yao,ih];simp [ybX]
def zgi{r c:Nat}{g:Z1}{S:Sto}(h:1<=r):zbW [flr r c g] S=.ok (.tup [.int r,.int c]) S:=by
 have e:=zeO (c:=c) (g:=g) (i:=0) (r:=r) (by omega);simp [zbW,zas,zft,flr,e,zc1,show 0<r by omega]
def zed{r c:Nat}{g:Z1}{S:Sto}(h:1<=r)(hr:r<=100)(hc:c<=100):zaX [flr r c g] S=.ok (.lst (zd9 r c)) S:=by
 have inner:∀(k:Nat) (y:Option (Bool×D)),k<r->∃y',zfq (.one 4) zcd (zax 0 c) [some (false,flr r c g),some (false,.tup [.int r,.int c]),some (true,.lst (zd9 k c)),some (false,.int k),y] S
   = .nx [some (false,flr r c g),some (false,.tup [.int r,.int c]),some (true,.lst (zd9 (k+1) c)),some (false,.int k),y'] S:=by
  intro k y hk
  obtain ⟨ρ',e,y',rfl⟩:=zcQ (tg:=.one 4) (body:=zcd) (ds:=zax 0 c) (S:=S) (fun j ρ=>∃y,ρ=[some (false,flr r c g),some (false,.tup [.int r,.int c]),some (true,.lst (zd9 k c++(List.range j).map fun j=>plD k j)),some (false,.int k),y]) (by
   rintro j d ρ hd ⟨y,rfl⟩;obtain ⟨rfl,hj⟩:=zc4 hd
   have hl:k*c+j<=100000:=by
    have:k*c<=100*100:=ybJ (by omega) (by omega);omega
   refine ⟨_,_,rfl,?_,some (false,.int j),rfl⟩
   simp [zcd,ybm,zig,hl])
   (ρ:=[some (false,flr r c g),some (false,.tup [.int r,.int c]),some (true,.lst (zd9 k c)),some (false,.int k),y]) ⟨y,by simp⟩
  refine ⟨y',?_⟩;rw [e,zhd];simp
 obtain ⟨ρ',e,x,y,rfl⟩:=zcQ (tg:=.one 3) (body:=zcW) (ds:=zax 0 r) (S:=S) (fun k ρ=>∃x y,ρ=[some (false,flr r c g),some (false,.tup [.int r,.int c]),some (true,.lst (zd9 k c)),x,y]) (by
  rintro k d ρ hd ⟨x,y,rfl⟩;obtain ⟨rfl,hk⟩:=zc4 hd;obtain ⟨y',e⟩:=inner k y (by omega);refine ⟨_,_,rfl,?_,some (false,.int k),y',rfl⟩
  simp [zcW,e,show -1000000<=(c:Int)/\(c:Int)<=1000000 by omega])
  (ρ:=[some (false,flr r c g),some (false,.tup [.int r,.int c]),some (true,.lst []),none,none]) ⟨none,none,rfl⟩
 simp at e;simp [zaX,zas,zdF,zgi h,e,show -1000000<=(r:Int)/\(r:Int)<=1000000 by omega]
def zcF{r c i j:Nat}{g:Z1}{S:Sto}(hi:i<r)(hj:j<c):zaI [flr r c g,plD i j] S=.ok (oD (g i j)) S:=by
 simp [zaI,zas,zdG,flr,plD,zbH,zeO hi,zgn hj,zc1]
def zeu{l:List D}{a b:Int}{S:Sto}:zaY [.tup l,.int a,.int b] S=.ok (.bl (decide (a<=l.length/\(l.length:Int)<=b))) S:=by
 by_cases h1:a<=(l.length:Int)
 ·by_cases h2:(l.length:Int)<=b<;>simp [zaY,zas,zcb,zeI,h1,h2]
 ·simp [zaY,zas,zcb,zeI,h1]
def zg4{l k:List D}{S:Sto}:zbz [.tup l,.tup k] S=.ok (.bl (decide (l.length=k.length))) S:=by
 simp [zbz,zas,zcR,zeu];rw [<-Bool.decide_and,decide_eq_decide];omega
def zqA{α:Type}{xs:List α}{p:α->Bool}:zgL (xs.map fun x=>D.bl (p x))=some (xs.map p):=by
 induction xs with
 | nil=>rfl
 | cons x xs ih=>simp [zgL,ih]
theorem all_map{α:Type}{xs:List α}{p:α->Bool}:zqQ [.lst (xs.map fun x=>D.bl (p x))]=some (.bl (xs.all p)):=by
 show Option.map _ (zgL _)=_;rw [zqA];simp [List.all_map]
end S2
namespace S2
open PySem
open L2 hiding D
@[simp] def zzc{a b:Option Int}:eqD (oD a) (oD b)=some (.bl (decide (a=b))):=by
 cases a<;>cases b<;>simp [oD]
 ·rfl
 ·rfl
 ·rfl
@[simp] def zwz{a:Option Int}:zc6 (oD a)=decide (a=none):=by cases a<;>simp [oD]
def zeZ{l:List D}{n:Nat}{S:Sto}:zaY [.tup l,.int n,.int n] S=.ok (.bl (decide (l.length=n))) S:=by
 rw [zeu];congr 3;apply propext;omega
def zgj{r c r' c':Nat}{g h:Z1}{S:Sto}(h1:1<=r)(hr:r<=1000):zc5 [flr r c g,flr r' c' h] S=.ok (.bl (decide (r'=r/\c'=c))) S:=by
 by_cases e:r'=r
 ·subst e
  have hz:zfJ (zbD r' c g) (zbD r' c' h)=(List.range r').map fun i=>.tup [zc1 c (g i),zc1 c' (h i)]:=by
   apply ybr;intro i
   by_cases hi:i<r'
   ·have:i<(zfJ (zbD r' c g) (zbD r' c' h)).length:=by rw [zeJ];simp;omega
    obtain ⟨x,y,e1,e2,e3⟩:=zf6 (yaa this);rw [zeO hi] at e1 e2;cases e1;cases e2;rw [yaa this,e3];simp [hi]
   ·rw [yaN (by rw [zeJ];simp;omega),yaN (by simp;omega)]
  have ec:zbn (.tup [0,1]) zdq (eFn zbz [(zae 0),(zae 1)]) [none,none] (zfJ (zbD r' c g) (zbD r' c' h)) S=.ok ((List.range r').map fun _=>.bl (decide (c=c'))) S:=by
   rw [hz,zbe (g:=fun _=>.bl (decide (c=c')))]
   ·simp
   ·intro d hd;simp only [yan,yaE] at hd;obtain ⟨i,hi,rfl⟩:=hd;exact ⟨_,rfl,by simp [zc1,zg4]⟩
  have ea:zqQ [.lst ((List.range r').map fun _=>.bl (decide (c=c')))]=some (.bl (decide (c'=c))):=by
   rw [all_map (p:=fun _=>decide (c=c'))]
   by_cases hc:c=c'
   ·subst hc;simp
   ·have:((List.range r').all fun _=>false)=false:=by
     cases r' with
     | zero=>omega
     | succ n=>simp [ybm]
    simp only [hc,show ¬ c'=c from fun z=>hc z.symm,decide_false,this]
  simp only [List.map_const',ybc] at ec ea;simp [zc5,zas,zdZ,flr,zeZ,ec,ea,show r'<=100000 by omega]
 ·simp [zc5,zas,zdZ,flr,zeZ,e]
end S2
namespace S2
open PySem
open L2 hiding D
theorem zdn{tg:Tg}{body:Fs}{S:Sto}{α:Type}(mk:List D->α->Env)(g:D->List D)(N:Nat):∀{ds:List D},(∀d∈ds,∀(L:List D) (x:α),L.length+(g d).length<=N->∃ρ1 x',tg.put (mk L x) d=some ρ1/\body ρ1 S=.nx (mk (L++g d) x') S) →
  ∀(L0:List D) (x0:α),L0.length+(ds.flatMap g).length<=N->∃x',zfq tg body ds (mk L0 x0) S=.nx (mk (L0++ds.flatMap g) x') S
 | [],_,L0,x0,_=>⟨x0,by simp [zfq]⟩
 | d::ds,step,L0,x0,hN=>by
  rw [yaL,yao] at hN;obtain ⟨ρ1,x',e1,e2⟩:=step d yat L0 x0 (by omega);obtain ⟨x2,e3⟩:=zdn mk g N (ds:=ds) (fun d hd=>step d (yap _ hd)) (L0++g d) x' (by rw [yao];omega);refine ⟨x2,?_⟩;unfold zfq;rw [e1];dsimp only;rw [e2];dsimp only;rw [e3,yaL,yb4]
def zeg{d:D}(h:d.pl=true)(f:d.fit 9=true):neD d d=some (.bl false):=by
 unfold neD zex;rw [f,(zjh d d h h).mpr rfl];rfl
def zqo{d:D}(h:d.pl=true)(f:d.fit 9=true):eqD d d=some (.bl true):=by
 unfold eqD zex;rw [f,(zjh d d h h).mpr rfl];rfl
def zpP{d:D}{l:List D}(h:d.pl=true)(hl:D.pls l=true)(f:d.fit 8=true)(fl:D.fits 8 l=true)(m:d∈l):zlh d (.lst l)=some (.bl false):=by
 unfold zlh;simp only [zgf,f,fl,Bool.and_self,yb7];rw [(zlq h hl).mpr m];rfl
end S2
namespace S2
open PySem
open L2 hiding D
structure TOk(ts:Z2):Prop where
 four:∀t∈ts,t.length=4
 le:ts.length<=100
noncomputable def zaB(ts:Z2)(n:Int)(s:Nat):Int:=(ts.getD n.toNat []).getD s 0
def zgV{ts:Z2}(ht:TOk ts){n:Int}(h0:0<=n)(h1:n<ts.length):atI (ts.map zad) n=some (.tup ([zaB ts n 0,zaB ts n 1,zaB ts n 2,zaB ts n 3].map D.int)):=by
 rw [zeT h0,yak,yaa (by omega)];have h4:=ht.four _ (ybp (show n.toNat<ts.length by omega))
 have e:ts.getD n.toNat []=ts[n.toNat]:=by rw [yad,yaa (by omega)];rfl
 unfold zaB;rw [e];generalize ts[n.toNat]=t at *
 match t,h4 with
 | [a,b,c,d],_=>rfl
def zh7{i:Int}{S:Sto}:zcf [.int i] S=.ok (.bl true) S:=by simp [zcf,zas,zdp,zeI]
def zh6{S:Sto}:zcf [.non] S=.ok (.bl false) S:=by simp [zcf,zas,zdp,zeI]
def zfE{ts:List D}{o:Option Int}{S:Sto}(h:∀x,o=some x->0<=x/\x<ts.length):zbX [.tup ts,oD o] S=.ok (.bl o.isSome) S:=by
 cases o with
 | none=>simp [zbX,zas,zcx,oD,zh6]
 | some x=>obtain ⟨h0,h1⟩:=h x rfl;simp [zbX,zas,zcx,oD,zh7,h0,h1]
noncomputable def hp1:Fe:=zdA leD ltD (zag (.int 0)) (zaf ixD (zah 1) (zag (.int 0))) (zaf ixD (zah 2) (zag (.int 0)))
noncomputable def hp2:Fe:=zdA leD ltD (zag (.int 0)) (zaf ixD (zah 1) (zag (.int 1))) (zaf ixD (zah 2) (zag (.int 1)))
noncomputable def InT(ts:Z2)(g:Z1):Prop:=∀i j x,g i j=some x->0<=x/\x<ts.length
noncomputable def cl2:Option Int->Option Int->Bool | some a,some b=>!decide (a=b) | _,_=>false
end S2
namespace S2
open PySem
open L2 hiding D
end S2
namespace S2
open PySem
open L2 hiding D
def zmL(q:Int)(h0:0<=q)(h1:q<10):∃r c:Nat,1<=r/\r<=3/\1<=c/\c<=4/\r*c<=6/\atI [D.tup [.int 1,.int 1],.tup [.int 1,.int 2],.tup [.int 2,.int 1],.tup [.int 2,.int 2],.tup [.int 2,.int 2],.tup [.int 1,.int 4],.tup [.int 2,.int 3],.tup [.int 3,.int 2],.tup [.int 3,.int 1],.tup [.int 2,.int 3]] q=some (.tup [.int r,.int c]):=by
 have:q=0\/q=1\/q=2\/q=3\/q=4\/q=5\/q=6\/q=7\/q=8\/q=9:=by omega
 rcases this with rfl | rfl | rfl | rfl | rfl | rfl | rfl | rfl | rfl | rfl
 ·exact ⟨1,1,by omega,by omega,by omega,by omega,by omega,rfl⟩
 ·exact ⟨1,2,by omega,by omega,by omega,by omega,by omega,rfl⟩
 ·exact ⟨2,1,by omega,by omega,by omega,by omega,by omega,rfl⟩
 ·exact ⟨2,2,by omega,by omega,by omega,by omega,by omega,rfl⟩
 ·exact ⟨2,2,by omega,by omega,by omega,by omega,by omega,rfl⟩
 ·exact ⟨1,4,by omega,by omega,by omega,by omega,by omega,rfl⟩
 ·exact ⟨2,3,by omega,by omega,by omega,by omega,by omega,rfl⟩
 ·exact ⟨3,2,by omega,by omega,by omega,by omega,by omega,rfl⟩
 ·exact ⟨3,1,by omega,by omega,by omega,by omega,by omega,rfl⟩
 ·exact ⟨2,3,by omega,by omega,by omega,by omega,by omega,rfl⟩
def zkL{l:List Int}{at':Int}{S:Sto}(ha:0<=at'):∃r c:Nat,1<=r/\r<=3/\1<=c/\c<=4/\r*c<=6/\zcs [.scr l,.int at'] S=.ok (.tup [.int r,.int c]) S:=by
 have p:=zb9 (l:=l) (S:=S) ha (show (0:Int)<10 by omega);have n:=zch l at' (many:=10) (by omega);generalize zbZ l at' 10=q at *;obtain ⟨r,c,h1,h2,h3,h4,h5,e⟩:=zmL q n.1 n.2;refine ⟨r,c,h1,h2,h3,h4,h5,?_⟩;simp [zcs,zas,zdc,p,e]
def zjr{t:List Int}(h:t≠[]):atI (t.map D.int) (-1)=some (.int (t.getLastD 0)):=by
 have hl:0<t.length:=by cases t with | nil=>exact absurd rfl h | cons _ _=>simp
 have e:atI (t.map D.int) (-1)=(t.map D.int)[t.length-1]?:=by
  unfold atI ixN;rw [if_neg (by omega),if_pos (by rw [yae];omega)];show (t.map D.int)[(-1+((t.map D.int).length:Int)).toNat]?=_;congr 1;rw [yae];omega
 rw [e,yak,yaa (by omega)];rw [ybK,ycb,yaa (by omega)];rfl
noncomputable def zhV(ts:Z2)(c:Nat)(t:List Int)(n:Int):Bool:=decide ((0<t.length % c->zaB ts (t.getLastD 0) 1=zaB ts n 3)/\(c<=t.length->zaB ts (t.getD (t.length-c) 0) 2=zaB ts n 0))
noncomputable def InR(ts:Z2)(t:List Int):Prop:=∀x∈t,0<=x/\x<ts.length
def znu{t:List Int}(h:t≠[]):t.getLastD 0∈t:=by
 cases t with
 | nil=>exact absurd rfl h
 | cons a t=>rw [List.getLastD_cons];exact List.getLastD_mem_cons
def ziI{ts:Z2}(ht:TOk ts){x:Int}(h:0<=x/\x<ts.length):atI (ts.map zad) x=some (.tup [.int (zaB ts x 0),.int (zaB ts x 1),.int (zaB ts x 2),.int (zaB ts x 3)]):=zgV ht h.1 h.2
end S2
namespace S2
open PySem
open L2 hiding D
def zja{t:List Int}{n:Int}{m:Nat}:(t++[n]).getD m 0=if m<t.length then t.getD m 0 else if m=t.length then n else 0:=by
 simp only [yad]
 by_cases h:m<t.length
 ·rw [yaz h,if_pos h]
 ·rw [yaq (by omega),if_neg h]
  by_cases e:m=t.length
  ·subst e;simp
  ·rw [if_neg e,yaN (by simp;omega)];rfl
noncomputable def unI:D->Int | .int i=>i | _=>0
def ziH{t:List Int}:(t.map D.int).map unI=t:=by
 induction t with
 | nil=>rfl
 | cons a t ih=>simp only [yaw,ih];rfl
def znK{ts:Z2}(ht:TOk ts){d:D}(h:d∈zcC (ts.map zad)):∃n:Nat,n<ts.length/\d=.tup [.int n,.tup [.int (zaB ts n 0),.int (zaB ts n 1),.int (zaB ts n 2),.int (zaB ts n 3)]]:=by
 obtain ⟨k,hk⟩:=yb8 h;obtain ⟨y,e1,rfl⟩:=zd3 hk
 have hl:k<ts.length:=by
  have:=(yag.mp e1).1;simpa using this
 refine ⟨k,hl,?_⟩;have:=ziI ht (x:=(k:Int)) ⟨by omega,by omega⟩;rw [zbH,e1] at this;rw [Option.some.inj this]
section
variable{ts:Z2}{c:Nat}{S:Sto}{s1 s3 s4:Option (Bool×D)}
end
end S2
namespace S2
open PySem
open L2 hiding D
def zkP{c:Nat}:(List.replicate c [D.non]).flatten=zce c fun _=>none:=by
 simp [zce,oD,ycp,List.map_const']
def zkQ{r c:Nat}:(List.replicate r [D.tup (zce c fun _=>none)]).flatten=zbD r c fun _ _=>none:=by
 simp [zbD,zc1,ycp,List.map_const']
noncomputable def zui:D->List D | .tup l=>l | _=>[]
def zg7{t:List Int}{r c:Nat}{S:Sto}(hl:t.length=r*c)(hc:1<=c)(hc2:c<=100)(hr:r<=100)(hrc:r*c<=1000):zaP [zad t,.int c] S=.ok (flr r c fun i j=>some (t.getD (i*c+j) 0)) S:=by
 have hn:(((r*c:Nat):Int)+(c:Int)-1) / (c:Int)=(r:Int):=by
  rw [ycO]
  have:((r:Int)*(c:Int)+(c:Int)-1)=((c:Int)-1)+(r:Int)*(c:Int):=by omega
  rw [this,Int.add_mul_ediv_right _ _ (by omega),Int.ediv_eq_zero_of_lt (by omega) (by omega)];omega
 have hR:zdQ ((r*c:Nat):Int) (c:Int)=(List.range r).map fun i:Nat=>.int ((i*c:Nat):Int):=by
  unfold zdQ;rw [hn];simp [ycO]
 have ec:zbn (.one 0) zdq (zaz zbl [(eSl (zah 2) (some (zah 0)) (some (zaf zb7 (zah 0) (zah 1))))]) [none,some (false,.int c),some (false,zad t)] ((List.range r).map fun i:Nat=>.int ((i*c:Nat):Int)) S=.ok (zbD r c fun i j=>some (t.getD (i*c+j) 0)) S:=by
  have hmem:∀d∈(List.range r).map fun i:Nat=>D.int ((i*c:Nat):Int),∃ρ1,(Tg.one 0).put [none,some (false,.int c),some (false,zad t)] d=some ρ1/\zaz zbl [(eSl (zah 2) (some (zah 0)) (some (zaf zb7 (zah 0) (zah 1))))] ρ1 S=.ok ((fun d=>match d with | .int i=>.tup (((t.map D.int).drop i.toNat).take c) | _=>.non) d) S:=by
   intro d hd;obtain ⟨i,hi,rfl⟩:=yan.mp hd;rw [yaE] at hi;refine ⟨_,rfl,?_⟩
   have e:zgG (t.map D.int) (some ((i*c:Nat):Int)) (some (((i*c:Nat):Int)+(c:Int)))=((t.map D.int).drop (i*c)).take c:=by
    unfold zgG;rw [show ((i*c:Nat):Int)+(c:Int)=((i*c+c:Nat):Int) by omega,HT.zeY,HT.zeY,yae,hl]
    have h1:i*c+c<=r*c:=by
     have:=yaW c (show i+1<=r by omega);rwa [ybX] at this
    rw [ybB h1,ybB (show i*c<=r*c by omega),show i*c+c-i*c=c by omega]
   have e2:(t.map D.int).drop (((i*c:Nat):Int)).toNat=(t.map D.int).drop (i*c):=by rw [yaC]
   rw [<-e2] at e;generalize ((i*c:Nat):Int)=ic at *;simp [zad,e]
  rw [zbe hmem,yaH];congr 1;unfold zbD;refine yaI fun i hi=>?_
  rw [yaE] at hi;show D.tup (((t.map D.int).drop (((i*c:Nat):Int)).toNat).take c)=zc1 c _;rw [yaC];unfold zc1;congr 1
  have h1:i*c+c<=r*c:=by
   have:=yaW c (show i+1<=r by omega);rwa [ybX] at this
  apply ybr;intro j;rw [ycW]
  by_cases hj:j<c
  ·rw [if_pos hj,ybl,zgn hj,yak,yaa (by omega)];simp [oD,yad,yaa (show i*c+j<t.length by omega)]
  ·rw [if_neg hj,yaN (by simp;omega)]
 have hb:(0:Int)<=((r*c:Nat):Int)/\((r*c:Nat):Int)<=1000/\1<=(c:Int)/\(c:Int)<=1000:=by omega
 have hrl:r<=100000:=by omega
 rw [<-hR] at ec;generalize hrcI:((r*c:Nat):Int)=rcI at *
 have hlen:((t.map D.int).length:Int)=rcI:=by rw [yae,hl];exact hrcI
 unfold zad at *;simp only [zaP,zas,zcl,zqV,zt8,zqZ,zq0,zuc,yaw,List.map_nil,yai,yb0,ycx,ybA,yaY,List.replicate,List.getElem?_cons_succ,List.getElem?_cons_zero,zsT,zqW,zoP,zoO,zoN,zq4,zqX,zq2,zq3,zq1,zvc,zu6,zp1,zp0,zp3,zqY,hlen,Out.of_some,zsR,show (0:Int)=0 from rfl,true_and,if_pos hb,zsU,zkm,zq5,zva,ec,zp2,zhZ,zdo,yaB hrl,yb7,zqU,zsS,zsP,zsQ,ybq];rfl
end S2
namespace S2
open PySem
open L2 hiding D
def zkO{n:Nat}{f:D->D}:(zax 0 (n:Int)).map f=(List.range n).map fun k:Nat=>f (.int k):=by
 simp [zax,yaH,Function.comp_def]
end S2
namespace S2
open PySem
open L2 hiding D
noncomputable def zvd(und:Str->Str->Bool)(C:Str)(i j:Nat):Fo->Fo
 | .ex c ρ' S'=>if und c C&&decide (i<ρ'.length) then .nx ((ρ'.set j (some (false,.exc c))).set i none) S' else .bad
 | o=>o
section
variable{ρ:Env}{S:Sto}{f g:Fe}{a:Fs}
@[simp] def zvO{und:Str->Str->Bool}{C:Str}{i j:Nat}:zrT und C i j a ρ S=zvd und C i j (a ρ S):=(rfl)
@[simp] def zwH{und:Str->Str->Bool}{C:Str}{i j:Nat}:zvd und C i j (.nx ρ S)=.nx ρ S:=(rfl)
@[simp] def zwG{und:Str->Str->Bool}{C c:Str}{i j:Nat}:zvd und C i j (.ex c ρ S)=if und c C&&decide (i<ρ.length) then .nx ((ρ.set j (some (false,.exc c))).set i none) S else .bad:=(rfl)
@[simp] def zxX{w:Str->Str->Option Bool}{C c:Str}:zlG w C (.exc c)=(w c C).map .bl:=(rfl)
@[simp] def zv3{c:Str}:zc6 (.exc c)=false:=(rfl)
@[simp] def zv2{l:List D}:zc6 (.lst l)=false:=(rfl)
@[simp] def zv7{l:List D}{j:Int}:zhr (.lst l) (.int j)=if decide (0<=j/\j<=1000/\l.length<=1000) then some (.lst (List.replicate j.toNat l).flatten) else none:=(rfl)
end
noncomputable abbrev Gf:=Nat->Nat->Option Int
noncomputable def ov(g h:Gf):Gf:=fun i j=>(h i j).or (g i j)
noncomputable def un(g h:Gf):Gf:=fun i j=>if (h i j).isSome then none else g i j
end S2
namespace S2
open PySem
open L2 hiding D
def zlT{r c:Nat}{g h:Z1}(e:∀i j,i<r->j<c->g i j=h i j):flr r c g=flr r c h:=by
 unfold flr zbD zc1 zce;congr 1;apply yaI;intro i hi;congr 1;apply yaI;intro j hj;rw [e i j (yaE.mp hi) (yaE.mp hj)]
end S2
namespace S2
open PySem
open L2 hiding D
end S2
namespace S2
open PySem
open L2 hiding D
noncomputable def zxn(c f:Str):Out D->Out D | .ok d S=>(match zeP c f d S with | some r=>.ok r S | none=>.bad) | .exc c S=>.exc c S | .bad=>.bad
noncomputable def zi7(G:List D->Sto->Out D)(d:D):Out (List D)->Out D | .ok ds S=>G (d::ds) S | .exc c S=>.exc c S | .bad=>.bad
noncomputable def zs1(c m:Str)(G:List D->Sto->Out D)(fs:List Fe)(ρ:Env):Out D->Out D | .ok d S=>if zcI c m d S then zi7 G d (zan fs ρ S) else .bad | .exc c S=>.exc c S | .bad=>.bad
noncomputable def ztR(n:Nat):Out D->Out D | .ok r S=>(match r with | .non=>.ok (.ref n) S | _=>.bad) | .exc c S=>.exc c S | .bad=>.bad
noncomputable def kMk(c:Str)(dds:List D)(G:List D->Sto->Out D):Out (List D)->Out D | .ok ds S=>ztR S.length (G (.ref S.length::(ds++dds)) (S++[⟨c,[]⟩])) | .exc c S=>.exc c S | .bad=>.bad
noncomputable def znx(c f:Str)(dk:D):Out D->Out D | .ok d S=>(match zi2 dk,zgO c f d S with | some k,some (_,_,ds)=>.ok (.bl (zbj k ds).isNone) S | _,_=>.bad) | .exc c S=>.exc c S | .bad=>.bad
noncomputable def zxi(c f:Str)(fo:Fe)(ρ:Env):Out D->Out D | .ok d S=>znx c f d (fo ρ S) | .exc c S=>.exc c S | .bad=>.bad
noncomputable def zxl(c f:Str)(o:Option NK):Out D->Out D | .ok d S=>(match o,zgO c f d S with | some k,some (_,_,ds)=>(match zbj k ds with | some r=>.ok r S | none=>.bad) | _,_=>.bad) | .exc c S=>.exc c S | .bad=>.bad
section
variable{ρ:Env}{S:Sto}{f g h k:Fe}
@[simp] def zwi{c x:Str}:zd4 c x f ρ S=zxn c x (f ρ S):=by unfold zd4;cases f ρ S<;>rfl
@[simp] def zyQ{c x:Str}{d:D}:zxn c x (.ok d S)=(match zeP c x d S with | some r=>.ok r S | none=>.bad):=(rfl)
@[simp] def zud{c m:Str}{G:List D->Sto->Out D}{fs:List Fe}:zbF c m G f fs ρ S=zs1 c m G fs ρ (f ρ S):=by
 unfold zbF
 cases f ρ S with
 | ok d S1 =>
  show (if zcI c m d S1 then (zan fs ρ S1).bind fun ds S2=>G (d::ds) S2 else .bad)=(if zcI c m d S1 then zi7 G d (zan fs ρ S1) else .bad)
  cases zan fs ρ S1<;>rfl
 | exc c S=>rfl
 | bad=>rfl
@[simp] def zwV{c m:Str}{G:List D->Sto->Out D}{fs:List Fe}{d:D}:zs1 c m G fs ρ (.ok d S)=if zcI c m d S then zi7 G d (zan fs ρ S) else .bad:=(rfl)
@[simp] def zu7{G:List D->Sto->Out D}{d:D}{ds:List D}:zi7 G d (.ok ds S)=G (d::ds) S:=(rfl)
@[simp] def zx6{c:Str}{dds:List D}{G:List D->Sto->Out D}{fs:List Fe}:eMk c dds G fs ρ S=kMk c dds G (zan fs ρ S):=by
 unfold eMk
 cases zan fs ρ S with
 | ok ds S1 =>
  show ((G (.ref S1.length::(ds++dds)) (S1++[⟨c,[]⟩])).bind fun r S2=>match r with | .non=>.ok (.ref S1.length) S2 | _=>.bad)=ztR S1.length (G (.ref S1.length::(ds++dds)) (S1++[⟨c,[]⟩]))
  cases G (.ref S1.length::(ds++dds)) (S1++[⟨c,[]⟩])<;>rfl
 | exc c S=>rfl
 | bad=>rfl
@[simp] def zzq{c:Str}{dds:List D}{G:List D->Sto->Out D}{ds:List D}:kMk c dds G (.ok ds S)=ztR S.length (G (.ref S.length::(ds++dds)) (S++[⟨c,[]⟩])):=(rfl)
@[simp] def zyF{n:Nat}:ztR n (.ok .non S)=.ok (.ref n) S:=(rfl)
@[simp] def zwf{c x:Str}:zoA c x f g ρ S=zxi c x g ρ (f ρ S):=by
 unfold zoA
 cases f ρ S with
 | ok d S1 =>
  show ((g ρ S1).bind fun d' S2=>match zi2 d,zgO c x d' S2 with | some k,some (_,_,ds)=>.ok (.bl (zbj k ds).isNone) S2 | _,_=>.bad)=znx c x d (g ρ S1)
  cases g ρ S1<;>rfl
 | exc c S=>rfl
 | bad=>rfl
@[simp] def zyD{c x:Str}{d:D}:zxi c x g ρ (.ok d S)=znx c x d (g ρ S):=(rfl)
@[simp] def zwU{c x:Str}{dk d:D}:znx c x dk (.ok d S)=(match zi2 dk,zgO c x d S with | some k,some (_,_,ds)=>.ok (.bl (zbj k ds).isNone) S | _,_=>.bad):=(rfl)
@[simp] def zwh{c x:Str}{i:Nat}:zj1 c x f i ρ S=zxl c x (zkj ρ i) (f ρ S):=by unfold zj1;cases f ρ S<;>rfl
@[simp] def zyM{c x:Str}{d:D}{o:Option NK}:zxl c x o (.ok d S)=(match o,zgO c x d S with | some k,some (_,_,ds)=>(match zbj k ds with | some r=>.ok r S | none=>.bad) | _,_=>.bad):=(rfl)
end
noncomputable def wOb(T Gd Sz:D)(b:Bool)(ds:List (D×D)):Ob:=⟨"Ways",[("tiles",false,T),("ground",false,Gd),("size",false,Sz),("is_round",false,.bl b),("known",true,.dic ds)]⟩
def zsB(o:Option Int):oDn o=oD o:=by cases o<;>rfl
structure WAt(S:Sto)(n:Nat)(ts:Z2)(gr:Z4)(r c:Nat)(b:Bool)(ds:List (D×D)):Prop where
 at_:S[n]?=some (wOb (.tup (ts.map zad)) (.lst (gr.map oD)) (.tup [.int r,.int c]) b ds)
section
variable{S:Sto}{n:Nat}{ts:Z2}{gr:Z4}{r c:Nat}{b:Bool}{ds:List (D×D)}
theorem WAt.tiles(h:WAt S n ts gr r c b ds):zeP "Ways" "tiles" (.ref n) S=some (.tup (ts.map zad)):=by
 unfold zeP;dsimp only;rw [h.at_];rfl
theorem WAt.ground(h:WAt S n ts gr r c b ds):zeP "Ways" "ground" (.ref n) S=some (.lst (gr.map oD)):=by
 unfold zeP;dsimp only;rw [h.at_];rfl
theorem WAt.size(h:WAt S n ts gr r c b ds):zeP "Ways" "size" (.ref n) S=some (.tup [.int r,.int c]):=by
 unfold zeP;dsimp only;rw [h.at_];rfl
def WAt.round(h:WAt S n ts gr r c b ds):zeP "Ways" "is_round" (.ref n) S=some (.bl b):=by
 unfold zeP;dsimp only;rw [h.at_];rfl
def WAt.meth(h:WAt S n ts gr r c b ds)(m:Str)(hm:(m == "tiles")=false/\(m == "ground")=false/\(m == "size")=false/\(m == "is_round")=false/\(m == "known")=false):zcI "Ways" m (.ref n) S=true:=by
 unfold zcI;dsimp only;rw [h.at_];obtain ⟨h1,h2,h3,h4,h5⟩:=hm;simp [wOb,yay,h1,h2,h3,h4,h5]
noncomputable def zaw(s:Z4):D:=.tup (s.map oD)
def zmN{k:Int}{s:Z4}:zi2 (.tup [.int k,zaw s])=some (k,s):=by
 have:zaw s=.tup (s.map oDn):=by unfold zaw;rw [show oDn=oD from funext zsB]
 rw [this];exact zdU (k,s)
theorem zjd{α:Type}{a:α}:∀m:Nat,(List.replicate m [a]).flatten=List.replicate m a
 | 0=>rfl
 | m+1=>by rw [ya8,ybv,zjd m,ya8];rfl
def zdv(h:WAt S n ts gr r c b ds)(hc:c<=100):zaR [.ref n] S=.ok (zaw (List.replicate (c+2) none)) S:=by
 have e:zea (.tup [.non]) (.int ((c:Int)+2))=some (zaw (List.replicate (c+2) none)):=by
  show (if _ then _ else _)=_;rw [if_pos (by simp;omega),show ((c:Int)+2).toNat=c+2 by omega,zjd];simp [zaw,oD]
 simp [zaR,zas,zbO,h.size,e]
def zev{k:Nat}(h:WAt S n ts gr r c b ds)(hc:1<=c):zaS [.ref n,.int k] S=.ok (.bl (decide ((k+1) % c=0))) S:=by
 have e:(((k:Int)+1) % (c:Int))=(((k+1) % c:Nat):Int):=by rw [Int.natCast_emod];rfl
 have e3:(((k:Int)+1) % (c:Int)=0)=((k+1) % c=0):=propext (by rw [e];omega);simp [zaS,zas,zcm,h.size,show 0<c from hc,e3]
noncomputable def crO(ts:Z2)(c k:Nat)(s:Z4)(x:Int):Option Int:=if k % c=0 then some (zaB ts x 3) else (s.getLastD none)
noncomputable def zhW(ts:Z2)(L c:Nat)(b:Bool)(k:Nat)(s:Z4)(x:Int):List (Option Int) :=
 (if (k+1) % c=0 then none else some (zaB ts x 1))::((s.drop 2).dropLast++[if L<=k+c then none else some (zaB ts x 2),if b&&!decide ((k+1) % c=0) then crO ts c k s x else none])
noncomputable def tl(ts:Z2)(x:Int):D:=.tup [.int (zaB ts x 0),.int (zaB ts x 1),.int (zaB ts x 2),.int (zaB ts x 3)]
noncomputable def okO:Option Int->Int->Bool | none,_=>true | some a,y=>decide (a=y)
noncomputable def zkk(ts:Z2)(c:Nat)(b:Bool)(k:Nat)(s:Z4)(x:Int):Bool :=
 okO (s.getD 0 none) (zaB ts x 3)&&okO (s.getD 1 none) (zaB ts x 0)&&(!b||!decide ((k+1) % c=0)||decide (some (zaB ts x 1)=crO ts c k s x))
def zg3{o:Option Int}{y:Int}:ze4 [oD o,.int y] S=.ok (.bl (okO o y)) S:=by
 cases o<;>simp [ze4,zas,ziq,oD,okO]
def zly{s:Z4}(h:s≠[]):atI (s.map oD) (-1)=some (oD (s.getLastD none)):=by
 have hl:0<s.length:=ycN.mpr h;unfold atI ixN;rw [yae,if_neg (by omega),if_pos (by omega)];show (s.map oD)[(-1+(s.length:Int)).toNat]?=_;rw [show (-1+(s.length:Int)).toNat=s.length-1 by omega,yak,ybK,ycb,yaa (by omega)];rfl
def zc0{k:Nat}{s:Z4}{x:Int}(h:WAt S n ts gr r c b ds)(hc:1<=c)(hs:s.length=c+2):zav [.ref n,.int k,zaw s,tl ts x] S=.ok (oD (crO ts c k s x)) S:=by
 have e:((k:Int) % (c:Int))=((k % c:Nat):Int):=by rw [Int.natCast_emod]
 have e3:((k:Int) % (c:Int)=0)=(k % c=0):=propext (by rw [e];omega);have el:=zly (s:=s) (by rintro rfl;simp at hs)
 by_cases z:k % c=0
 ·simp [zav,zas,za2,h.size,show 0<c from hc,e3,z,crO,tl,oD]
 ·simp [zav,zas,za2,h.size,show 0<c from hc,e3,z,crO,zaw,el]
def zqr{α:Type}{l:List α}(h:3<=l.length):zgG l (some 2) (some (-1))=(l.drop 2).dropLast:=by
 unfold zgG
 have e1:HT.sIx l.length 0 (some 2)=2:=by
  unfold HT.sIx;simp;omega
 have e2:HT.sIx l.length l.length (some (-1))=l.length-1:=by
  unfold HT.sIx;simp;omega
 rw [e1,e2,List.dropLast_eq_take,ybE];congr 1
noncomputable def sb6:Fe:=eIf (zae 4) (zag .non) (zaf ixD (zah 3) (zag (.int 1)))
noncomputable def sb7:Fe:=eIf (zae 5) (zag .non) (zaf ixD (zah 3) (zag (.int 2)))
noncomputable def sb8:Fe:=eIf (zfI (zd4 "Ways" "is_round" (zae 0)) (eUn zho (zae 4))) (zbF "Ways" "colour_round" zav (zae 0) [(zae 1),(zae 2),(zae 3)]) (zag .non)
noncomputable def sbF:Fs:=(zaj (sFz [1] (za6 4 false (zbF "Ways" "ends_row" zaS (zae 0) [(zae 1)])))
  (zaj (sFz [] (za6 5 false (zaf geD (zaf zb7 (zah 1) (zaf ixD (zd4 "Ways" "size" (zae 0)) (zag (.int 1)))) (zaz zei [(zd4 "Ways" "ground" (zae 0))]))))
  (zaj (sFz [4] (za6 6 false sb6)) (zaj (sFz [5] (za6 7 false sb7)) (zaj (sFz [4,1,2,3] (za6 8 false sb8))
  (zaj (sFz [6,7,8] (zbx (zaf zb7 (zaf zb7 (zcT [(zae 6)]) (eSl (zah 2) (some (zag (.int 2))) (some (eUn zmu (zag (.int 1)))))) (zcT [(zae 7),(zae 8)])))) sNx))))))
def zrS:zbE=sbF:=rfl
def zxu{i j:Nat}{bb:Bool}{ρ:Env}{l:List D}{q:Int}{d:D}{S:Sto}(h1:ρ[i]?=some (some (false,.bl bb)))(h2:ρ[j]?=some (some (false,.tup l)))(h3:atI l q=some d):eIf (zae i) (zag .non) (zaf ixD (zah j) (zag (.int q))) ρ S=.ok (if bb then .non else d) S:=by
 cases bb<;>simp [h1,h2,h3]
def zy1{k:Nat}{s:Z4}{x:Int}{bb:Bool}{ρ:Env}(h:WAt S n ts gr r c b ds)(hc:1<=c)(hs:s.length=c+2)(h0:ρ[0]?=some (some (false,.ref n)))(h1:ρ[1]?=some (some (false,.int k)))(h2:ρ[2]?=some (some (false,zaw s)))(h3:ρ[3]?=some (some (false,tl ts x)))(h4:ρ[4]?=some (some (false,.bl bb))) :
  sb8 ρ S=.ok (if b&&!bb then oD (crO ts c k s x) else .non) S:=by
 have e2:=zc0 (k:=k) (s:=s) (x:=x) h hc hs;have m2:=h.meth "colour_round" (by decide +kernel);generalize tl ts x=tt at *;generalize zaw s=sd at *;cases b
 ·simp [sb8,h0,h.round]
 ·cases bb<;>simp [sb8,h0,h1,h2,h3,h4,h.round,m2,e2]
def ze0{k:Nat}{s:Z4}{x:Int}(h:WAt S n ts gr r c b ds)(hc:1<=c)(hc2:c<=100)(hs:s.length=c+2):za7 [.ref n,.int k,zaw s,tl ts x] S=.ok (zaw (zhW ts gr.length c b k s x)) S:=by
 have e1:=zev (k:=k) h hc;have m1:=h.meth "ends_row" (by decide +kernel);have eg:((gr.length:Int)<=(k:Int)+(c:Int))=(gr.length<=k+c):=propext (by omega)
 have ec:zgG (s.map oD) (some 2) (some (-1))=((s.drop 2).dropLast).map oD:=by
  rw [zqr (by rw [yae];omega),List.map_dropLast,List.map_drop]
 have hl:((s.drop 2).dropLast).length<=100:=by rw [ycD,ybE,hs];omega
 have E6:=fun (ρ:Env) (h4:ρ[4]?=some (some (false,.bl (decide ((k+1) % c=0))))) (h3:ρ[3]?=some (some (false,tl ts x)))=>(show sb6 ρ S=_ from zxu (S:=S) (i:=4) (j:=3) (q:=1) (d:=.int (zaB ts x 1)) h4 h3 rfl)
 have E7:=fun (ρ:Env) (h4:ρ[5]?=some (some (false,.bl (decide (gr.length<=k+c))))) (h3:ρ[3]?=some (some (false,tl ts x)))=>(show sb7 ρ S=_ from zxu (S:=S) (i:=5) (j:=3) (q:=2) (d:=.int (zaB ts x 2)) h4 h3 rfl)
 have E8:=fun (ρ:Env)=>zy1 (k:=k) (s:=s) (x:=x) (bb:=decide ((k+1) % c=0)) (ρ:=ρ) h hc hs
 have ef:zaw (zhW ts gr.length c b k s x)=.tup ([if decide ((k+1) % c=0) then .non else .int (zaB ts x 1)]++((s.drop 2).dropLast).map oD++[if decide (gr.length<=k+c) then .non else .int (zaB ts x 2),if b&&!decide ((k+1) % c=0) then oD (crO ts c k s x) else .non]):=by
  unfold zhW zaw
  by_cases z1:(k+1) % c=0<;>by_cases z2:gr.length<=k+c<;>cases b<;>simp [z1,z2,oD]
 rw [ef];clear ef;have hsd:zaw s=.tup (s.map oD):=rfl;rw [hsd] at E8 ⊢;generalize oD (crO ts c k s x)=cr at *;generalize ((s.drop 2).dropLast)=M at ec hl ⊢;generalize s.map oD=sd at *;generalize tl ts x=tt at *;generalize (if decide ((k+1) % c=0) then D.non else .int (zaB ts x 1))=d6 at *;generalize (if decide (gr.length<=k+c) then D.non else .int (zaB ts x 2))=d7 at *;generalize (if b&&!decide ((k+1) % c=0) then cr else .non)=d8 at *
 have l1:1+M.length<=100000:=by omega
 have l2:M.length+1+2<=100000:=by omega
 have l3:M.length+1+1+1<=100000:=by omega
 simp only [za7,zas,zrS];simp [sbF,h.size,h.ground,m1,e1,eg,E6,E7,E8,ec,l1,l2,l3]
end
end S2
namespace S2
open PySem
open L2 hiding D
noncomputable def zkg(ts:Z2):Option Int->List Int | none=>(List.range ts.length).map fun (i:Nat)=>(i:Int) | some x=>[x]
def zpO{ts:Z2}{o:Option Int}(ho:∀x,o=some x->0<=x/\x<ts.length):∀x∈zkg ts o,0<=x/\x<ts.length:=by
 intro x hx
 cases o with
 | none =>
  obtain ⟨i,hi,rfl⟩:=yan.mp hx;have:=yaE.mp hi;omega
 | some y=>rw [yaO.mp hx];exact ho y rfl
section
variable{S:Sto}{n:Nat}{ts:Z2}{gr:Z4}{r c:Nat}{b:Bool}{ds:List (D×D)}
def ze1{k:Nat}{o:Option Int}(h:WAt S n ts gr r c b ds)(ht:ts.length<=100)(hk:gr[k]?=some o)(ho:∀x,o=some x->0<=x/\x<ts.length):zaN [.ref n,.int k] S=.ok (.lst ((zkg ts o).map D.int)) S:=by
 have e1:atI (gr.map oD) (k:Int)=some (oD o):=by rw [zbH,yak,hk];rfl
 have e2:=zfE (ts:=ts.map zad) (o:=o) (S:=S) (fun x hx=>by simpa using ho x hx)
 cases o with
 | none =>
  have e3:lrD (.int (ts.length:Int))=some (.lst (((List.range ts.length).map fun (i:Nat)=>(i:Int)).map D.int)):=by
   show (if decide (0<=(ts.length:Int)/\(ts.length:Int)<=1000)=true then _ else none)=_;rw [if_pos (yaB ⟨by omega,by omega⟩),yaC,yaH];rfl
  simp [zaN,zas,za8,h.ground,h.tiles,e1,oD,e3,zkg]
 | some x =>
  simp only [oD] at e2;simp [zaN,zas,za8,h.ground,h.tiles,e1,oD,e2,zkg]
def zmS{k:Nat}{s:Z4}{x:Int}(h:WAt S n ts gr r c b ds)(hc:1<=c)(hs:s.length=c+2):zcM [.ref n,.int k,zaw s,tl ts x] S=.ok (.bl (zkk ts c b k s x)) S:=by
 have e1:=zev (k:=k) h hc;have e2:=zc0 (k:=k) (s:=s) (x:=x) h hc hs;have m1:=h.meth "ends_row" (by decide +kernel);have m2:=h.meth "colour_round" (by decide +kernel);have m3:=h.meth "fits_round" (by decide +kernel);have tlE:tl ts x=.tup [.int (zaB ts x 0),.int (zaB ts x 1),.int (zaB ts x 2),.int (zaB ts x 3)]:=rfl
 have e3:zaQ [.ref n,.int k,zaw s,tl ts x] S=.ok (.bl (!b||!decide ((k+1) % c=0)||decide (some (zaB ts x 1)=crO ts c k s x))) S:=by
  have eq:∀o:Option Int,eqD (.int (zaB ts x 1)) (oD o)=some (.bl (decide (some (zaB ts x 1)=o))):=by
   intro o
   cases o with
   | none=>rfl
   | some y=>simp [oD]
  rw [tlE] at e2 ⊢;generalize zaw s=sd at e2 ⊢;generalize crO ts c k s x=cr at e2 ⊢
  cases b with
  | false=>simp [zaQ,zas,zbg,h.round]
  | true=>by_cases z:(k+1) % c=0<;>simp [zaQ,zas,zbg,h.round,m1,m2,e1,e2,z,eq]
 have g0:(s.map oD)[0]?=some (oD (s.getD 0 none)):=by
  rw [yak,yad,yaa (by omega)];rfl
 have g1:(s.map oD)[1]?=some (oD (s.getD 1 none)):=by
  rw [yak,yad,yaa (by omega)];rfl
 have s0:=zg3 (S:=S) (o:=s.getD 0 none) (y:=zaB ts x 3);have s1:=zg3 (S:=S) (o:=s.getD 1 none) (y:=zaB ts x 0);unfold zkk;generalize (!b||!decide ((k+1) % c=0)||decide (some (zaB ts x 1)=crO ts c k s x))=rr at e3 ⊢;unfold zaw at e3 ⊢;generalize s.map oD=sd at e3 g0 g1 ⊢;generalize s.getD 0 none=q0 at g0 s0 ⊢;generalize s.getD 1 none=q1 at g1 s1 ⊢;rw [tlE] at e3 ⊢
 cases h0:okO q0 (zaB ts x 3)<;>cases h1:okO q1 (zaB ts x 0)<;>rw [h0] at s0<;>rw [h1] at s1 <;>
  simp [zcM,zas,zdJ,g0,g1,s0,s1,m3,e3]
noncomputable def chD(p:Int×List (Option Int)):D:=.tup [.int p.1,zaw p.2]
noncomputable def chs(ts:Z2)(gr:Z4)(c:Nat)(b:Bool)(k:Nat)(s:Z4):List (Int×List (Option Int)) :=
 ((zkg ts (gr.getD k none)).filter (zkk ts c b k s)).map fun x=>(x,zhW ts gr.length c b k s x)
noncomputable def chG(ts:Z2)(L c:Nat)(b:Bool)(k:Nat)(s:Z4):D->List D
 | .int x=>if zkk ts c b k s x then [chD (x,zhW ts L c b k s x)] else []
 | _=>[]
theorem zgI{L:Nat}{k:Nat}{s:Z4}:∀l:List Int,(l.map D.int).flatMap (chG ts L c b k s)=((l.filter (zkk ts c b k s)).map fun x=>(x,zhW ts L c b k s x)).map chD
 | []=>rfl
 | x::l=>by
  rw [yaw,yaL,zgI l,ycc];show (if zkk ts c b k s x then [chD (x,zhW ts L c b k s x)] else [])++_=_
  cases zkk ts c b k s x<;>simp
def zib{k:Nat}{s:Z4}(h:WAt S n ts gr r c b ds)(ht:TOk ts)(hk:k<gr.length)(hg:∀o∈gr,∀x,o=some x->0<=x/\x<ts.length)(hc:1<=c)(hc2:c<=100)(hs:s.length=c+2) :
  zbR [.ref n,.int k,zaw s] S=.ok (.lst ((chs ts gr c b k s).map chD)) S:=by
 have hk':gr[k]?=some (gr.getD k none):=by rw [yad,yaa hk];rfl
 have ho:=hg _ (yb6 hk');have e1:=ze1 h ht.le hk' ho;have m1:=h.meth "numbers_for" (by decide +kernel);have m2:=h.meth "fits" (by decide +kernel);have m3:=h.meth "seam_behind" (by decide +kernel);have hin:=zpO ho
 have hlen:(zkg ts (gr.getD k none)).length<=100:=by
  cases gr.getD k none with
  | none=>simp only [zkg,yae,ybc];exact ht.le
  | some x=>simp [zkg]
 unfold chs;generalize zkg ts (gr.getD k none)=nums at e1 hin hlen ⊢
 have fl:((nums.map D.int).flatMap (chG ts gr.length c b k s)).length<=100:=by
  rw [zgI,yae,yae];exact yah (ya0 _ _) hlen
 obtain ⟨x',e⟩:=zdn (tg:=.one 4) (body:=za5) (S:=S) (fun L (x:Option (Bool×D)×Option (Bool×D))=>[some (false,.ref n),some (false,.int k),some (false,zaw s),some (true,.lst L),x.1,x.2]) (chG ts gr.length c b k s) 50000 (ds:=nums.map D.int) (by
  intro d hd L x hL;obtain ⟨y,hy,rfl⟩:=yan.mp hd;obtain ⟨y0,y1⟩:=hin y hy;have et:=zgV ht y0 y1;have et':atI (ts.map zad) y=some (tl ts y):=et;have ef:=zmS (k:=k) (s:=s) (x:=y) h hc hs;have eb:=ze0 (k:=k) (s:=s) (x:=y) h hc hc2 hs
  have hLs:L.length<=100000:=by omega
  refine ⟨_,(some (false,.int y),some (false,tl ts y)),rfl,?_⟩;show za5 [some (false,.ref n),some (false,.int k),some (false,zaw s),some (true,.lst L),some (false,.int y),x.2] S=.nx [some (false,.ref n),some (false,.int k),some (false,zaw s),some (true,.lst (L++(if zkk ts c b k s y then [chD (y,zhW ts gr.length c b k s y)] else []))),some (false,.int y),some (false,tl ts y)] S
  cases hf:zkk ts c b k s y with
  | true =>
   rw [hf] at ef;simp [za5,h.tiles,et',m2,ef,m3,eb,chD,hLs]
  | false =>
   rw [hf] at ef
   simp [za5,h.tiles,et',m2,ef]) [] (none,none) (by simp only [yb0];omega)
 rw [zgI] at e;simp only [ybA] at e;generalize ((nums.filter (zkk ts c b k s)).map fun x=>(x,zhW ts gr.length c b k s x)).map chD=res at e ⊢;simp [zbR,zas,zcB,m1,e1,e]
end
end S2
namespace S2
open PySem
open L2 hiding D
noncomputable def zi6(c x:Str)(i:Nat)(ρ:Env)(r:D):Out D->Fo
 | .bad=>.bad
 | .exc c S2=>.ex c ρ S2
 | .ok d S2=>(match zkj ρ i,zgO c x d S2 with
   | some k,some (n,ob,ds)=>if (zbj k ds).isNone&&decide (ds.length<=1000000)&&zfU ob then .nx ρ (S2.set n (ob.put x true (.dic (ds++[(nkD k,r)])))) else .bad
   | _,_=>.bad)
noncomputable def zp4(c x:Str)(f:Fe)(i:Nat)(ρ:Env):Out D->Fo
 | .bad=>.bad
 | .exc c S2=>.ex c ρ S2
 | .ok r S1=>zi6 c x i ρ r (f ρ S1)
@[simp] def zt7{c x:Str}{f g:Fe}{i:Nat}{ρ:Env}{S:Sto}:zjF c x f i g ρ S=zp4 c x f i ρ (g ρ S):=by
 unfold zjF zp4
 cases g ρ S with
 | ok r S1=>dsimp only;unfold zi6;cases f ρ S1<;>rfl
 | exc c S=>rfl
 | bad=>rfl
@[simp] def zwT{c x:Str}{f:Fe}{i:Nat}{ρ:Env}{S:Sto}{r:D}:zp4 c x f i ρ (.ok r S)=zi6 c x i ρ r (f ρ S):=(rfl)
def zpZ{c x:Str}{i n:Nat}{ρ:Env}{S:Sto}{r d:D}{k:NK}{ob:Ob}{ds:List (D×D)}(hk:zkj ρ i=some k)(hd:zgO c x d S=some (n,ob,ds))(h1:zbj k ds=none)(h2:ds.length<=1000000)(h3:zfU ob=true):zi6 c x i ρ r (.ok d S)=.nx ρ (S.set n (ob.put x true (.dic (ds++[(nkD k,r)])))):=by
 show (match zkj ρ i,zgO c x d S with | some k,some (n,ob,ds)=>_ | _,_=>_)=_;rw [hk,hd];show (if _ then _ else _)=_;rw [if_pos];rw [h1,h3,yaB h2];rfl
noncomputable def ways(ts:Z2)(gr:Z4)(c:Nat)(b:Bool):Nat->Nat->List (Option Int)->Nat
 | 0,_,_=>1
 | m+1,k,s=>((chs ts gr c b k s).map fun p=>ways ts gr c b m (k+1) p.2).sum
noncomputable def zaK(q:Nat):Nat->Nat
 | 0=>0
 | m+1=>1+q*zaK q m
theorem zd5{k:NK}{q d:D}:∀ds:List (D×D),zbj k (ds++[(q,d)])=(zbj k ds).or (if zi2 q=some k then some d else none)
 | []=>by show (if _ then _ else _)=_;simp [zbj]
 | (q',d')::ds=>by
  show (if zi2 q'=some k then some d' else zbj k (ds++[(q,d)]))=_;rw [zd5 ds];show _=(if zi2 q'=some k then some d' else zbj k ds).or _
  split<;>simp
def zeL{S:Sto}{n:Nat}{ob:Ob}(h:S[n]?=some ob):S.set n ob=S:=by
 obtain ⟨hn,e⟩:=yag.mp h;apply ybr;intro i
 by_cases z:n=i
 ·subst z;rw [yaA hn,h]
 ·rw [yaP z]
def zgH{ts:Z2}{gr:Z4}{c:Nat}{b:Bool}{k:Nat}{s:Z4}(h1:1<=ts.length):(chs ts gr c b k s).length<=ts.length:=by
 unfold chs;rw [yae];refine yah (ya0 _ _) ?_
 cases gr.getD k none with
 | none=>simp [zkg]
 | some x=>simpa [zkg] using h1
def zmi{ts:Z2}{L c:Nat}{b:Bool}{k:Nat}{s:Z4}{x:Int}(hc:1<=c)(hs:s.length=c+2):(zhW ts L c b k s x).length=c+2:=by
 unfold zhW;rw [yai,yao,ycD,ybE,hs];simp only [yai,yb0];omega
def zjn{ts:Z2}{gr:Z4}{c:Nat}{b:Bool}{k:Nat}{s:Z4}(hc:1<=c)(hs:s.length=c+2):∀p∈chs ts gr c b k s,p.2.length=c+2:=by
 intro p hp;obtain ⟨x,_,rfl⟩:=yan.mp hp;exact zmi hc hs
section
variable{n:Nat}{ts:Z2}{gr:Z4}{r c:Nat}{b:Bool}
end
end S2
namespace S2
open PySem
open L2 hiding D
noncomputable def zhu(c x:Str)(ρ:Env)(r:D):Out D->Fo
 | .bad=>.bad
 | .exc c S2=>.ex c ρ S2
 | .ok (.ref n) S2=>(match S2[n]? with
   | some ob=>if decide (ob.cls=c)&&decide (ob.fs.length<1000) then .nx ρ (S2.set n (ob.put x false r)) else .bad
   | none=>.bad)
 | .ok _ _=>.bad
noncomputable def zp5(c x:Str)(f:Fe)(ρ:Env):Out D->Fo
 | .bad=>.bad
 | .exc c S2=>.ex c ρ S2
 | .ok r S1=>zhu c x ρ r (f ρ S1)
@[simp] def zt9{c x:Str}{f g:Fe}{ρ:Env}{S:Sto}:zeb c x f g ρ S=zp5 c x f ρ (g ρ S):=by
 unfold zeb zp5
 cases g ρ S with
 | ok r S1 =>
  dsimp only;unfold zhu
  cases f ρ S1 with
  | ok d S2=>cases d<;>rfl
  | exc c S=>rfl
  | bad=>rfl
 | exc c S=>rfl
 | bad=>rfl
@[simp] def zw1{c x:Str}{f:Fe}{ρ:Env}{S:Sto}{r:D}:zp5 c x f ρ (.ok r S)=zhu c x ρ r (f ρ S):=(rfl)
def zlA{c x:Str}{n:Nat}{ρ:Env}{S:Sto}{r:D}{fs:List (Str×Bool×D)}(h:fs.length<1000)(hn:S.length=n):zhu c x ρ r (.ok (.ref n) (S++[⟨c,fs⟩]))=.nx ρ (S++[⟨c,zap x false r fs⟩]):=by
 subst hn;show (match (S++[(⟨c,fs⟩:Ob)])[S.length]? with | some ob=>_ | none=>_)=_;rw [yaq (yam _),ybq];show (if _ then Fo.nx ρ ((S++[(⟨c,fs⟩:Ob)]).set S.length _) else _)=_;rw [if_pos,ycw _ _ (yam _),ybq]
 ·rfl
 ·rw [yab];exact ⟨yaB rfl,yaB h⟩
def zoM{c x:Str}{n i:Nat}{ρ:Env}{S:Sto}{fs:List (Str×Bool×D)}(hi:ρ[i]?=some (some (false,.ref n)))(h:fs.length<1000)(hn:S.length=n):zgh c x i ρ (S++[⟨c,fs⟩])=.nx ρ (S++[⟨c,zap x true (.dic []) fs⟩]):=by
 subst hn;unfold zgh;rw [hi];show (match (S++[(⟨c,fs⟩:Ob)])[S.length]? with | some ob=>_ | none=>_)=_;rw [yaq (yam _),ybq];show (if _ then Fo.nx ρ ((S++[(⟨c,fs⟩:Ob)]).set S.length _) else _)=_;rw [if_pos,ycw _ _ (yam _),ybq]
 ·rfl
 ·rw [yab];exact ⟨yaB rfl,yaB h⟩
theorem zbB{x:Str}{o:Bool}{d:D}:∀{gs:List (Str×Bool×D)},(zap x o d gs).length<=gs.length+1
 | []=>by simp [zap]
 | (y,z)::gs=>by
  unfold zap;split
  ·simp
  ·have:=zbB (x:=x) (o:=o) (d:=d) (gs:=gs);simp only [yai];omega
noncomputable def zac(r c:Nat)(g:Z1):List (Option Int):=(List.range r).flatMap fun i=>(List.range c).map fun j=>g i j
noncomputable def zyt(g:Z1):D->D | .tup [.int i,.int j]=>oD (g i.toNat j.toNat) | _=>.non
def zek{r c:Nat}{g:Z1}:(zd9 r c).map (zyt g)=(zac r c g).map oD:=by
 unfold zd9 zac;rw [ybG,ybG];congr 1;funext i;rw [yaH,yaH];rfl
def zaG{r c:Nat}{g:Z1}:(zac r c g).length=r*c:=by
 have:=congrArg List.length (zek (r:=r) (c:=c) (g:=g));rw [yae,yae,zig] at this;exact this.symm
def zmR{r c:Nat}{g:Z1}{T:D}{b:Bool}{S:Sto}(h1:1<=r)(hr:r<=100)(hc:c<=100) :
  zba [.ref S.length,T,flr r c g,.bl b] (S++[⟨"Ways",[]⟩])=.ok .non (S++[wOb T (.lst ((zac r c g).map oD)) (.tup [.int r,.int c]) b []]):=by
 have e1:∀S',zaX [flr r c g] S'=.ok (.lst (zd9 r c)) S':=fun S'=>zed h1 hr hc
 have e2:∀S',zbW [flr r c g] S'=.ok (.tup [.int r,.int c]) S':=fun S'=>zgi h1
 have e3:∀S',zbn (.one 0) zdq (eFn zaI [(zae 1),(zae 0)]) [none,some (false,flr r c g)] (zd9 r c) S'=.ok ((zac r c g).map oD) S':=fun S'=>by
  rw [<-zek];refine zbe fun d hd=>?_
  obtain ⟨i,j,hi,hj,rfl⟩:=zif hd;refine ⟨_,rfl,?_⟩;have:=zcF (g:=g) (S:=S') hi hj;simp [this];rfl
 have hl:((zac r c g).map oD).length<=100000:=by
  rw [yae,zaG];exact yah (ybJ hr hc) (by decide)
 generalize (zac r c g).map oD=gl at e3 hl;generalize flr r c g=fl at *;have l1:=zbB (x:="tiles") (o:=false) (d:=T) (gs:=[]);have l2:=zbB (x:="ground") (o:=false) (d:=.lst gl) (gs:=zap "tiles" false T []);have l3:=zbB (x:="size") (o:=false) (d:=.tup [.int r,.int c]) (gs:=zap "ground" false (.lst gl) (zap "tiles" false T []));have l4:=zbB (x:="is_round") (o:=false) (d:=.bl b) (gs:=zap "size" false (.tup [.int r,.int c]) (zap "ground" false (.lst gl) (zap "tiles" false T [])));have p1:=fun (x:Str) (ρ:Env) (d:D) (fs:List (Str×Bool×D)) (h:fs.length<1000)=>zlA (c:="Ways") (x:=x) (ρ:=ρ) (S:=S) (r:=d) (fs:=fs) h rfl
 have l0:([]:List (Str×Bool×D)).length=0:=rfl;have p2:=zoM (c:="Ways") (x:="known") (i:=0) (ρ:=[some (false,.ref S.length),some (false,T),some (false,fl),some (false,.bl b)]) (S:=S) (n:=S.length) (fs:=zap "is_round" false (.bl b) (zap "size" false (.tup [.int r,.int c]) (zap "ground" false (.lst gl) (zap "tiles" false T [])))) rfl (by omega) rfl;have q1:=p1 "tiles" [some (false,.ref S.length),some (false,T),some (false,fl),some (false,.bl b)] T [] (by omega);have q2:=p1 "ground" [some (false,.ref S.length),some (false,T),some (false,fl),some (false,.bl b)] (.lst gl) (zap "tiles" false T []) (by omega);have q3:=p1 "size" [some (false,.ref S.length),some (false,T),some (false,fl),some (false,.bl b)] (.tup [.int r,.int c]) (zap "ground" false (.lst gl) (zap "tiles" false T [])) (by omega);have q4:=p1 "is_round" [some (false,.ref S.length),some (false,T),some (false,fl),some (false,.bl b)] (.bl b) (zap "size" false (.tup [.int r,.int c]) (zap "ground" false (.lst gl) (zap "tiles" false T []))) (by omega);clear l1 l2 l3 l4 l0
 have fin:(⟨"Ways",zap "known" true (.dic []) (zap "is_round" false (.bl b) (zap "size" false (.tup [.int r,.int c]) (zap "ground" false (.lst gl) (zap "tiles" false T []))))⟩:Ob)=wOb T (.lst gl) (.tup [.int r,.int c]) b []:=by rfl
 rw [fin] at p2;generalize zap "is_round" false (.bl b) (zap "size" false (.tup [.int r,.int c]) (zap "ground" false (.lst gl) (zap "tiles" false T [])))=f4 at *;generalize zap "size" false (.tup [.int r,.int c]) (zap "ground" false (.lst gl) (zap "tiles" false T []))=f3 at *;generalize zap "ground" false (.lst gl) (zap "tiles" false T [])=f2 at *;generalize zap "tiles" false T []=f1 at *;generalize wOb T (.lst gl) (.tup [.int r,.int c]) b []=ob at *;simp [zba,zas,zcn,e1,e2,e3,hl,q1,q2,q3,q4,p2]
end S2
namespace S2
open PySem
open L2 hiding D
noncomputable def tw1:Fe:=zfI (zaf gtD (zaf zkh (zah 6) (zah 2)) (zag (.int 0))) (zaf neD (zaf ixD (zaf ixD (zah 0) (zaf ixD (zah 9) (eUn zmu (zag (.int 1))))) (zag (.int 1))) (zaf ixD (zah 11) (zag (.int 3))))
noncomputable def tw2:Fe:=zfI (zaf geD (zah 6) (zah 2)) (zaf neD (zaf ixD (zaf ixD (zah 0) (zaf ixD (zah 9) (zaf zqM (zah 6) (zah 2)))) (zag (.int 2))) (zaf ixD (zah 11) (zag (.int 0))))
noncomputable def tw0:Fs:=(zaj (sFz [] (za6 12 false (zag (.bl false)))) sNx)
noncomputable def twB:Fs:=(zaj (sFz [10] (za6 12 false (zaf inD (zah 7) (zcT [(zag .non),(zae 10)])))) (zaj (sFz [] (sIf tw1 tw0 sNx)) (zaj (sFz [] (sIf tw2 tw0 sNx)) (zaj (sFz [12] (sIf (zae 12) (zaj (sFz [10] (zh5 8 (zaf zb7 (zah 9) (zcT [(zae 10)])))) sNx) sNx)) sNx))))
def zrb:zbV=twB:=rfl
section
variable{w:D}{ts:Z2}{c:Nat}{t:List Int}{n:Int}{S:Sto}{s1 s3 s4 s5 s8 x:Option (Bool×D)}
def zuh(ht:TOk ts)(hc:1<=c)(hT:InR ts t):tw1 [some (false,.tup (ts.map zad)),s1,some (false,.int c),s3,s4,s5,some (false,.int t.length),some (false,w),s8,some (false,zad t),some (false,.int n),some (false,.tup [.int (zaB ts n 0),.int (zaB ts n 1),.int (zaB ts n 2),.int (zaB ts n 3)]),x] S
   = .ok (.bl (decide (0<t.length % c/\zaB ts (t.getLastD 0) 1≠zaB ts n 3))) S:=by
 have hcN:0<c:=hc
 have hm:((0:Int)<(t.length:Int) % (c:Int))↔0<t.length % c:=by omega
 generalize hlen:(t.length:Int)=tl at *
 by_cases a:0<t.length % c
 ·have hne:t≠[]:=by rintro rfl;simp at a
  have A1:ixD (zad t) (.int (-1))=some (.int (t.getLastD 0)):=zjr hne;have tA:=ziI ht (hT _ (znu hne));generalize t.getLastD 0=u at *;generalize ts.map zad=tsd at *;simp [tw1,hcN,hm,a,A1,tA]
 ·generalize ts.map zad=tsd at *;simp [tw1,hcN,hm,a]
def zug(ht:TOk ts)(hc:1<=c)(hT:InR ts t):tw2 [some (false,.tup (ts.map zad)),s1,some (false,.int c),s3,s4,s5,some (false,.int t.length),some (false,w),s8,some (false,zad t),some (false,.int n),some (false,.tup [.int (zaB ts n 0),.int (zaB ts n 1),.int (zaB ts n 2),.int (zaB ts n 3)]),x] S
   = .ok (.bl (decide (c<=t.length/\zaB ts (t.getD (t.length-c) 0) 2≠zaB ts n 0))) S:=by
 have hle:((c:Int)<=(t.length:Int))↔c<=t.length:=by omega
 by_cases b:c<=t.length
 ·have hlt:t.length-c<t.length:=by omega
  have e:t.getD (t.length-c) 0=t[t.length-c]:=by rw [yad,yaa hlt];rfl
  have B1:ixD (zad t) (.int ((t.length:Int)-c))=some (.int (t.getD (t.length-c) 0)):=by
   show atI (t.map D.int) _=_;rw [zeT (by omega),yak,show ((t.length:Int)-c).toNat=t.length-c by omega,yaa hlt,e];rfl
  have tB:=ziI ht (x:=t.getD (t.length-c) 0) (by rw [e];exact hT _ (ybp hlt));generalize t.getD (t.length-c) 0=v at *;generalize hlen:(t.length:Int)=tl at *;generalize ts.map zad=tsd at *;simp [tw2,hle,b,B1,tB]
 ·generalize hlen:(t.length:Int)=tl at *;generalize ts.map zad=tsd at *;simp [tw2,hle,b]
end
def zjX{w:D}{fb:Bool}{ts:Z2}{c:Nat}{t:List Int}{n:Int}{L:List D}{S:Sto}{s1 s3 s4 s5 x:Option (Bool×D)}(ht:TOk ts)(hc:1<=c)(hc4:c<=100)(hT:InR ts t)(hn:0<=n/\n<ts.length)(hL:L.length<=90000)(hk:t.length<=100)(hin:inD w (.tup [.non,.int n])=some (.bl fb)) :
  ∃x',zbV [some (false,.tup (ts.map zad)),s1,some (false,.int c),s3,s4,s5,some (false,.int t.length),some (false,w),some (true,.lst L),some (false,zad t),some (false,.int n),some (false,.tup [.int (zaB ts n 0),.int (zaB ts n 1),.int (zaB ts n 2),.int (zaB ts n 3)]),x] S
   = .nx [some (false,.tup (ts.map zad)),s1,some (false,.int c),s3,s4,s5,some (false,.int t.length),some (false,w),some (true,.lst (L++if fb&&zhV ts c t n then [zad (t++[n])] else [])),some (false,zad t),some (false,.int n),some (false,.tup [.int (zaB ts n 0),.int (zaB ts n 1),.int (zaB ts n 2),.int (zaB ts n 3)]),x'] S:=by
 refine ⟨some (false,.bl (fb&&zhV ts c t n)),?_⟩;rw [zrb]
 have hl:L.length<=100000:=by omega
 have hadd:zb7 (zad t) (.tup [.int n])=some (zad (t++[n])):=by
  unfold zad;rw [zn8,if_pos (by rw [zhZ];apply yaB;simp;omega)];simp
 have T1:=fun s8 x=>zuh (w:=w) (n:=n) (S:=S) (s1:=s1) (s3:=s3) (s4:=s4) (s5:=s5) (s8:=s8) (x:=x) ht hc hT
 have T2:=fun s8 x=>zug (w:=w) (n:=n) (S:=S) (s1:=s1) (s3:=s3) (s4:=s4) (s5:=s5) (s8:=s8) (x:=x) ht hc hT
 have key:zhV ts c t n=(!decide (0<t.length % c/\zaB ts (t.getLastD 0) 1≠zaB ts n 3)&&!decide (c<=t.length/\zaB ts (t.getD (t.length-c) 0) 2≠zaB ts n 0)):=by
  unfold zhV;rw [ybN,ycY,yab,ybO,ybO,ybQ,ybQ];constructor
  ·rintro ⟨x,y⟩;exact ⟨fun z=>z.2 (x z.1),fun z=>z.2 (y z.1)⟩
  ·rintro ⟨x,y⟩;exact ⟨fun z=>Classical.byContradiction fun q=>x ⟨z,q⟩,fun z=>Classical.byContradiction fun q=>y ⟨z,q⟩⟩
 rw [key];clear key;generalize decide (0<t.length % c/\zaB ts (t.getLastD 0) 1≠zaB ts n 3)=b1 at *;generalize decide (c<=t.length/\zaB ts (t.getD (t.length-c) 0) 2≠zaB ts n 0)=b2 at *;generalize D.tup [.int (zaB ts n 0),.int (zaB ts n 1),.int (zaB ts n 2),.int (zaB ts n 3)]=tt at *;generalize zad (t++[n])=t2 at *;generalize zad t=t1 at *;generalize (t.length:Int)=tl at *;generalize ts.map zad=tsd at *
 cases b1<;>cases b2<;>cases fb<;>simp [twB,hin,T1,T2,tw0,hadd,hl]
def zqh{o:Option Int}{n:Int}:inD (oD o) (.tup [.non,.int n])=some (.bl (okO o n)):=by
 cases o with
 | none=>simp [inD,zgf,zij,zex,D.py,PyData.eqv,oD,okO]
 | some x =>
  by_cases h:x=n
  ·simp [inD,zgf,zij,zex,D.py,PyData.eqv,oD,okO,h]
  ·have h':¬ n=x:=fun z=>h z.symm
   simp [inD,zgf,zij,zex,D.py,PyData.eqv,oD,okO,h,h']
noncomputable def zbK(ts:Z2):List Int:=(List.range ts.length).map fun (i:Nat)=>(i:Int)
noncomputable def zca(ts:Z2)(c:Nat)(o:Option Int)(t:List Int):List (List Int):=((zbK ts).filter fun x=>okO o x&&zhV ts c t x).map fun x=>t++[x]
noncomputable def zaE(ts:Z2)(gr:Z4)(c:Nat):Nat->List (List Int)
 | 0=>[[]]
 | k+1=>(zaE ts gr c k).flatMap (zca ts c (gr.getD k none))
noncomputable def gIw(ts:Z2)(c:Nat)(o:Option Int)(t:List Int):D->List D | .tup [.int n,_]=>if okO o n&&zhV ts c t n then [zad (t++[n])] else [] | _=>[]
def zjY{ts:Z2}(ht:TOk ts):zcC (ts.map zad)=(zbK ts).map fun n=>.tup [.int n,.tup [.int (zaB ts n 0),.int (zaB ts n 1),.int (zaB ts n 2),.int (zaB ts n 3)]]:=by
 apply ybr;intro k
 by_cases hk:k<ts.length
 ·have h1:k<(zcC (ts.map zad)).length:=by rw [zd2,yae];exact hk
  have h2:(zcC (ts.map zad))[k]?=some (zcC (ts.map zad))[k]:=yaa h1;obtain ⟨y,e1,e2⟩:=zd3 h2;rw [h2,e2];have:=ziI ht (x:=(k:Int)) ⟨by omega,by omega⟩;rw [zbH,e1] at this;rw [Option.some.inj this];unfold zbK;rw [yaH,yak,ycd hk];rfl
 ·rw [yaN (by rw [zd2,yae];omega),yaN (by unfold zbK;rw [yaH,yae,ybc];omega)]
def zjb{ts:Z2}{c:Nat}{o:Option Int}{t:List Int}(ht:TOk ts):(zcC (ts.map zad)).flatMap (gIw ts c o t)=(zca ts c o t).map zad:=by
 rw [zjY ht];unfold zca;generalize zbK ts=l
 induction l with
 | nil=>rfl
 | cons x l ih =>
  rw [yaw,yaL,ih,ycc];show (if okO o x&&zhV ts c t x then [zad (t++[x])] else [])++_=_
  cases okO o x&&zhV ts c t x<;>simp
def zfc{ts:Z2}{c:Nat}{o:Option Int}{t:List Int}:(zca ts c o t).length<=ts.length:=by
 unfold zca;rw [yae];refine yah (ya0 _ _) ?_;simp [zbK]
theorem zfs{α β:Type}{g:α->List β}{m:Nat}:∀{l:List α},(∀x∈l,(g x).length<=m)->(l.flatMap g).length<=l.length*m
 | [],_=>by simp
 | x::l,h=>by
  have h1:=h x yat;have h2:=zfs (l:=l) fun y hy=>h y (yap _ hy)
  rw [yaL,yao,yai,yc3];omega
structure FillG(ts:Z2)(k:Nat)(F:Z2):Prop where
 mem:∀t∈F,t.length=k/\InR ts t
theorem zc9{ts:Z2}{gr:Z4}{c:Nat}:∀k,FillG ts k (zaE ts gr c k)
 | 0=>⟨fun t ht=>by rw [yaO.mp ht];exact ⟨rfl,fun x hx=>(yaF hx).elim⟩⟩
 | k+1=>⟨fun t ht=>by
  obtain ⟨u,hu,ht⟩:=ybg.mp ht;obtain ⟨x,hx,rfl⟩:=yan.mp ht;obtain ⟨h1,h2⟩:=(zc9 (ts:=ts) (gr:=gr) (c:=c) k).mem u hu;refine ⟨by rw [yao,h1];rfl,fun y hy=>?_⟩
  rcases ybL.mp hy with hy | hy
  ·exact h2 y hy
  ·rw [yaO.mp hy];obtain ⟨i,hi,rfl⟩:=yan.mp (ya2.mp hx).1;have:=yaE.mp hi
   omega⟩
theorem zeq{ts:Z2}{gr:Z4}{c:Nat}:∀k,(zaE ts gr c k).length<=ts.length ^ k
 | 0=>by simp [zaE]
 | k+1=>by
  show ((zaE ts gr c k).flatMap _).length<=_;refine yah (zfs (m:=ts.length) fun t _=>zfc) ?_;rw [Nat.pow_succ];exact yaW _ (zeq k)
section
variable{ts:Z2}{c:Nat}{S:Sto}{s1 s3 s4:Option (Bool×D)}{o:Option Int}
def znJ{t:List Int}{k:Nat}{L:List D}{s5 x y z:Option (Bool×D)}(ht:TOk ts)(hc:1<=c)(hc4:c<=100)(hg:InR ts t)(hk:t.length=k)(hk2:k<=100)(hL:L.length<=80000) :
  ∃x' y' z',zbU [some (false,.tup (ts.map zad)),s1,some (false,.int c),s3,s4,s5,some (false,.int k),some (false,oD o),some (true,.lst L),some (false,zad t),x,y,z] S
   = .nx [some (false,.tup (ts.map zad)),s1,some (false,.int c),s3,s4,s5,some (false,.int k),some (false,oD o),some (true,.lst (L++(zca ts c o t).map zad)),some (false,zad t),x',y',z'] S:=by
 subst hk
 obtain ⟨x',e⟩:=zdn (tg:=.tup [10,11]) (body:=zbV) (S:=S) (fun L (x:Option (Bool×D)×Option (Bool×D)×Option (Bool×D))=>[some (false,.tup (ts.map zad)),s1,some (false,.int c),s3,s4,s5,some (false,.int t.length),some (false,oD o),some (true,.lst L),some (false,zad t),x.1,x.2.1,x.2.2]) (gIw ts c o t) 90000 (ds:=zcC (ts.map zad)) (by
  intro d hd L x hL;obtain ⟨n,hn,rfl⟩:=znK ht hd;obtain ⟨x',e⟩:=zjX (w:=oD o) (fb:=okO o n) (ts:=ts) (c:=c) (t:=t) (n:=n) (L:=L) (S:=S) (s1:=s1) (s3:=s3) (s4:=s4) (s5:=s5) (x:=x.2.2) ht hc hc4 hg ⟨by omega,by omega⟩ (by omega) (by omega) zqh
  exact ⟨_,(some (false,.int n),some (false,.tup [.int (zaB ts n 0),.int (zaB ts n 1),.int (zaB ts n 2),.int (zaB ts n 3)]),x'),rfl,e⟩) L (x,y,z) (by
   rw [zjb ht,yae];have:=zfc (ts:=ts) (c:=c) (o:=o) (t:=t);have:=ht.le
   omega)
 rw [zjb ht] at e;refine ⟨x'.1,x'.2.1,x'.2.2,?_⟩;simp at e;simp [zbU,e]
def zlY{k:Nat}{F:Z2}{fl:Bool}{x8 x9 x10 x11 x12:Option (Bool×D)}(ht:TOk ts)(hc:1<=c)(hc4:c<=100)(hF:FillG ts k F)(hk2:k<=100)(hz:F.length*ts.length<=80000) :
  ∃y8 y9 y10 y11 y12,zbT [some (false,.tup (ts.map zad)),s1,some (false,.int c),s3,s4,some (fl,.lst (F.map zad)),some (false,.int k),some (false,oD o),x8,x9,x10,x11,x12] S
   = .nx [some (false,.tup (ts.map zad)),s1,some (false,.int c),s3,s4,some (false,.lst ((F.flatMap (zca ts c o)).map zad)),some (false,.int k),some (false,oD o),y8,y9,y10,y11,y12] S:=by
 have hfl:∀G:List (List Int),(G.map zad).flatMap (fun d=>match d with | .tup l=>(zca ts c o (l.map unI)).map zad | _=>[])=(G.flatMap (zca ts c o)).map zad:=by
  intro G
  induction G with
  | nil=>rfl
  | cons t G ih =>
   rw [yaw,yaL,yaL,ybZ,ih];show (zca ts c o ((t.map D.int).map unI)).map zad++_=_;rw [ziH]
 obtain ⟨x',e⟩:=zdn (tg:=.one 9) (body:=zbU) (S:=S) (fun L' (x:Option (Bool×D)×Option (Bool×D)×Option (Bool×D)×Option (Bool×D))=>[some (false,.tup (ts.map zad)),s1,some (false,.int c),s3,s4,some (false,.lst (F.map zad)),some (false,.int k),some (false,oD o),some (true,.lst L'),x.1,x.2.1,x.2.2.1,x.2.2.2]) (fun d=>match d with | .tup l=>(zca ts c o (l.map unI)).map zad | _=>[]) 80000 (ds:=F.map zad) (by
  intro d hd L' x hL;obtain ⟨t,ht',rfl⟩:=yan.mp hd;obtain ⟨hl,hg⟩:=hF.mem t ht';obtain ⟨a,b,z,e⟩:=znJ (o:=o) (ts:=ts) (c:=c) (S:=S) (s1:=s1) (s3:=s3) (s4:=s4) (t:=t) (k:=k) (L:=L') (s5:=some (false,.lst (F.map zad))) (x:=x.2.1) (y:=x.2.2.1) (z:=x.2.2.2) ht hc hc4 hg hl hk2 (by omega);refine ⟨_,(some (false,zad t),a,b,z),rfl,?_⟩;show _=Fo.nx [_,_,_,_,_,_,_,_,some (true,.lst (L'++(zca ts c o ((t.map D.int).map unI)).map zad)),_,_,_,_] S;rw [ziH]
  exact e) [] (x9,x10,x11,x12) (by
   rw [hfl,yae];have:=zfs (g:=zca ts c o) (m:=ts.length) (l:=F) fun t _=>zfc
   simp only [yb0];omega)
 rw [hfl] at e;refine ⟨some (false,.lst ((F.flatMap (zca ts c o)).map zad)),x'.1,x'.2.1,x'.2.2.1,x'.2.2.2,?_⟩;simp at e;generalize F.map zad=Fd at *
 cases fl<;>simp [zbT,e]
end
def zn7{r c:Nat}{g:Z1}:(zbD r c g).flatMap zui=(zac r c g).map oD:=by
 unfold zbD zac;rw [List.flatMap_map,ybG];congr 1;funext i;show zce c (g i)=_;rw [yaH];rfl
def zjH{ts:Z2}{r c:Nat}{g:Z1}{S:Sto}(ht:TOk ts)(hr:1<=r)(hc:1<=c)(hrc:r*c<=100)(hc4:c<=100)(hr4:r<=100)(hp:ts.length ^ (r*c)<=80000)(h1:1<=ts.length):zbv [.tup (ts.map zad),flr r c g] S=.ok (.lst ((zaE ts (zac r c g) c (r*c)).map zad)) S:=by
 have g0:(zbD r c g)[0]?=some (.tup (zce c (g 0))):=zeO (by omega);have gl:=zaG (r:=r) (c:=c) (g:=g)
 obtain ⟨x1,e1⟩:=zdn (tg:=.one 4) (body:=zcE) (S:=S) (fun L (x:Option (Bool×D))=>[some (false,.tup (ts.map zad)),some (false,flr r c g),some (false,.int c),some (true,.lst L),x,none,none,none,none,none,none,none,none]) zui 1000 (ds:=zbD r c g) (by
  intro d hd L x hL;obtain ⟨i,_,rfl⟩:=yan.mp hd;refine ⟨_,some (false,zc1 c (g i)),rfl,?_⟩
  have:L.length+c<=100000:=by have hL':L.length+(zce c (g i)).length<=1000:=hL;rw [zgm] at hL';omega
  simp [zcE,zc1,zui,this]) [] none (by rw [zn7,yae,gl];simp only [yb0];omega)
 simp only [ybA] at e1;rw [zn7] at e1
 obtain ⟨ρ',e2,fl,x4,x6,x7,x8,x9,x10,x11,x12,rfl⟩:=zcQ (tg:=.tup [6,7]) (body:=zbT) (ds:=zcC ((zac r c g).map oD)) (S:=S) (fun k ρ=>∃fl x4 x6 x7 x8 x9 x10 x11 x12,ρ=[some (false,.tup (ts.map zad)),some (false,flr r c g),some (false,.int c),some (false,.lst ((zac r c g).map oD)),x4,some (fl,.lst ((zaE ts (zac r c g) c k).map zad)),x6,x7,x8,x9,x10,x11,x12]) (by
  rintro k d ρ hd ⟨fl,x4,x6,x7,x8,x9,x10,x11,x12,rfl⟩;obtain ⟨y,hy,rfl⟩:=zd3 hd
  have hk:k<r*c:=by
   have:=(yag.mp hy).1;rwa [yae,gl] at this
  have ey:y=oD ((zac r c g).getD k none):=by
   rw [yak,yaa (by omega)] at hy;rw [yad,yaa (by omega)];exact (Option.some.inj hy).symm
  subst ey
  have hz:(zaE ts (zac r c g) c k).length*ts.length<=80000:=by
   refine yah (yaW _ (zeq k)) ?_;rw [<-Nat.pow_succ];exact yah (ycE h1 hk) hp
  obtain ⟨y8,y9,y10,y11,y12,e⟩:=zlY (o:=(zac r c g).getD k none) (ts:=ts) (c:=c) (S:=S) (s1:=some (false,flr r c g)) (s3:=some (false,.lst ((zac r c g).map oD))) (s4:=x4) (k:=k) (fl:=fl) (x8:=x8) (x9:=x9) (x10:=x10) (x11:=x11) (x12:=x12) ht hc hc4 (zc9 (gr:=zac r c g) (c:=c) k) (by omega) hz
  exact ⟨_,_,rfl,e,_,_,_,_,_,_,_,_,_,rfl⟩)
  (ρ:=[some (false,.tup (ts.map zad)),some (false,flr r c g),some (false,.int c),some (false,.lst ((zac r c g).map oD)),x1,some (true,.lst [.tup []]),none,none,none,none,none,none,none]) ⟨true,x1,none,none,none,none,none,none,none,rfl⟩
 rw [zd2,yae,gl] at e2;unfold flr at *;generalize (zaE ts (zac r c g) c (r*c)).map zad=res at *;generalize (zac r c g).map oD=W at *
 cases fl<;>simp [zbv,zas,zde,g0,zc1,e1,e2]
end S2
namespace S2
open PySem
open L2 hiding D
structure SeamOk(ts:Z2)(L c:Nat)(t:List Int)(s:Z4):Prop where
 len:s.length=c+2
 west:s.getD 0 none=if t.length % c=0 then none else some (zaB ts (t.getLastD 0) 1)
 north:∀j,j<c->s.getD (1+j) none=if t.length+j<c\/L<=t.length+j then none else some (zaB ts (t.getD (t.length+j-c) 0) 2)
def SeamOk.first{ts:Z2}{L c:Nat}:SeamOk ts L c [] (List.replicate (c+2) none) where
 len:=yaD ..
 west:=by simp [yad,yba]
 north:=fun j hj=>by
  rw [if_pos (.inl (by simpa using hj))];rw [yad,yba]
  split<;>rfl
def SeamOk.next{ts:Z2}{L c:Nat}{t:List Int}{s:Z4}{x:Int}(h:SeamOk ts L c t s)(hc:1<=c):SeamOk ts L c (t++[x]) (zhW ts L c false t.length s x) where
 len:=zmi hc h.len
 west:=by
  rw [yao,yaQ];show (if (t.length+1) % c=0 then none else some (zaB ts x 1))=_;simp [ybK]
 north:=fun j hj=>by
  have hm:((s.drop 2).dropLast).length=c-1:=by rw [ycD,ybE,h.len];omega
  rw [yao,yaQ];show ((if (t.length+1) % c=0 then none else some (zaB ts x 1))::((s.drop 2).dropLast++[if L<=t.length+c then none else some (zaB ts x 2),if false&&!decide ((t.length+1) % c=0) then crO ts c t.length s x else none])).getD (1+j) none=_;rw [show 1+j=j+1 by omega,List.getD_cons_succ]
  by_cases hl:j<c-1
  ·rw [yad,yaz (by rw [hm];exact hl),List.getElem?_dropLast,if_pos (by rw [ybE,h.len];omega),ybl,<-yad];have hn:=h.north (j+1) (by omega);rw [show 2+j=1+(j+1) by omega,hn];rw [show t.length+1+j=t.length+(j+1) by omega]
   by_cases z:t.length+(j+1)<c\/L<=t.length+(j+1)
   ·rw [if_pos z,if_pos z]
   ·rw [if_neg z,if_neg z,zja,if_pos (by omega)]
  ·have hj':j=c-1:=by omega
   subst hj';rw [yad,yaq (by rw [hm];exact yam _),hm,ybq];show (if L<=t.length+c then none else some (zaB ts x 2))=_
   have e:(t++[x]).getD (t.length+1+(c-1)-c) 0=x:=by
    rw [zja,show t.length+1+(c-1)-c=t.length by omega,if_neg (yaT _),if_pos rfl]
   rw [e,show t.length+1+(c-1)=t.length+c by omega]
   have:¬ t.length+c<c:=by omega
   simp [this]
def znI{ts:Z2}{L c:Nat}{t:List Int}{s:Z4}{x:Int}(h:SeamOk ts L c t s)(hc:1<=c)(hL:t.length<L):zkk ts c false t.length s x=zhV ts c t x:=by
 unfold zkk zhV;have h1:=h.north 0 (by omega);rw [Nat.add_zero,Nat.add_zero] at h1;rw [h.west,h1]
 have hL':¬ L<=t.length:=by omega
 simp only [Bool.not_false,Bool.true_or,Bool.and_true];rw [ybN,yab,ycY]
 have a:okO (if t.length % c=0 then none else some (zaB ts (t.getLastD 0) 1)) (zaB ts x 3)=true↔(0<t.length % c->zaB ts (t.getLastD 0) 1=zaB ts x 3):=by
  by_cases z:t.length % c=0
  ·rw [if_pos z];simp [okO,z]
  ·rw [if_neg z]
   have z':0<t.length % c:=by omega
   simp [okO,z']
 have b:okO (if t.length<c\/L<=t.length then none else some (zaB ts (t.getD (t.length-c) 0) 2)) (zaB ts x 0)=true↔(c<=t.length->zaB ts (t.getD (t.length-c) 0) 2=zaB ts x 0):=by
  by_cases z:t.length<c
  ·rw [if_pos (.inl z)]
   have z':¬ c<=t.length:=by omega
   simp [okO,z']
  ·have z':c<=t.length:=by omega
   rw [if_neg (by simp only [not_or];exact ⟨z,hL'⟩)];simp [okO,z']
 rw [a,b]
def zjM{ts:Z2}{o:Option Int}{p:Int->Bool}(ho:∀x,o=some x->0<=x/\x<ts.length):(zbK ts).filter (fun x=>okO o x&&p x)=(zkg ts o).filter p:=by
 cases o with
 | none =>
  show (zbK ts).filter (fun x=>true&&p x)=(zbK ts).filter p;simp
 | some y =>
  obtain ⟨y0,y1⟩:=ho y rfl
  have e:(zbK ts).filter (fun x=>decide (y=x))=[y]:=by
   obtain ⟨n,rfl⟩:=ybR y0
   have hn:n<ts.length:=by omega
   unfold zbK;rw [yco]
   have hf:(List.range ts.length).filter ((fun x=>decide ((n:Int)=x))∘fun (i:Nat)=>(i:Int))=[n]:=by
    have:((fun x=>decide ((n:Int)=x))∘fun (i:Nat)=>(i:Int))=fun i=>decide (i=n):=by
     funext i;simp only [Function.comp];congr 1;exact propext ⟨fun z=>by omega,fun z=>by omega⟩
    rw [this];generalize ts.length=N at hn;clear y1
    induction N with
    | zero=>omega
    | succ N ih =>
     rw [ybm,List.filter_append]
     by_cases z:n<N
     ·rw [ih z]
      have:¬ N=n:=by omega
      simp [this]
     ·have:N=n:=by omega
      subst this
      have h0:(List.range N).filter (fun i=>decide (i=N))=[]:=by
       rw [List.filter_eq_nil_iff];intro i hi;have:=yaE.mp hi;simp;omega
      rw [h0];simp
   rw [hf];rfl
  show (zbK ts).filter (fun x=>decide (y=x)&&p x)=[y].filter p;rw [<-e,List.filter_filter];congr 1;funext x;exact Bool.and_comm _ _
def zc8{ts:Z2}{r c:Nat}{g:Z1}(hg:InT ts g):∀o∈zac r c g,∀x,o=some x->0<=x/\x<ts.length:=by
 intro o ho x hx;obtain ⟨i,_,ho⟩:=ybg.mp ho;obtain ⟨j,_,rfl⟩:=yan.mp ho;exact hg i j x hx
end S2
namespace S2
open PySem
open L2 hiding D
def zj7{tg:Tg}{elt:Fe}{d y:D}{ds ys:List D}{ρ0 ρ1:Env}{S:Sto}(h1:tg.put ρ0 d=some ρ1)(h2:elt ρ1 S=.ok y S)(h3:zbn tg zdq elt ρ0 ds S=.ok ys S):zbn tg zdq elt ρ0 (d::ds) S=.ok (y::ys) S:=by
 rw [zbn,h1];simp [h2,h3]
def zec{r c r' c':Nat}{g h:Gf}{S:Sto}(h1:1<=r)(hr:r<=1000):zau [flr r c g,flr r' c' h] S=if r'=r/\c'=c then .ok .non S else .exc "Unlike" S:=by
 by_cases e:r'=r/\c'=c
 ·simp [zau,zas,zbd,zgj h1 hr,e]
 ·rw [if_neg e];simp [zau,zas,zbd,zgj h1 hr,e]
end S2
namespace S2
open PySem
open L2 hiding D
end S2
namespace S2
open PySem
open L2 hiding D
@[simp] def zxZ{x y:Bool}:ztV (.bl x) (.bl y)=some (.bl (decide (x=y))):=(rfl)
def zlS{tg:Tg}{body:Fs}{ds:List D}(Iv:Nat->Env->Sto->Prop)(step:∀k d ρ S,ds[k]?=some d->Iv k ρ S->∃ρ1 ρ2 S2,tg.put ρ d=some ρ1/\body ρ1 S=.nx ρ2 S2/\Iv (k+1) ρ2 S2){ρ:Env}{S:Sto}(h0:Iv 0 ρ S):∃ρ' S',zfq tg body ds ρ S=.nx ρ' S'/\Iv ds.length ρ' S':=by
 have go:∀(n:Nat) (es:List D) (k:Nat) (ρ:Env) (S:Sto),es.length=n->ds.drop k=es->k+n=ds.length->Iv k ρ S->∃ρ' S',zfq tg body es ρ S=.nx ρ' S'/\Iv ds.length ρ' S':=by
  intro n
  induction n with
  | zero =>
   intro es k ρ S hl he hk hi;obtain rfl:es=[]:=ya3 hl;exact ⟨ρ,S,rfl,by rw [show ds.length=k by omega];exact hi⟩
  | succ n ih =>
   intro es k ρ S hl he hk hi
   cases es with
   | nil=>cases hl
   | cons d es =>
    have hd:ds[k]?=some d:=by
     have:=congrArg (fun l=>l[0]?) he;rw [ybl] at this;simpa using this
    obtain ⟨ρ1,ρ2,S2,e1,e2,hi2⟩:=step k d ρ S hd hi;obtain ⟨ρ',S',e3,e4⟩:=ih es (k+1) ρ2 S2 (by simpa using hl) (by rw [<-List.drop_drop,he];rfl) (by omega) hi2;refine ⟨ρ',S',?_,e4⟩;unfold zfq;rw [e1];dsimp only;rw [e2];exact e3
 exact go ds.length ds 0 ρ S rfl (by simp) (by omega) h0
noncomputable def zfz(q m:Nat):Prop:=zaK q m+m*(zaK q m+q*zaK q m)<=1000000/\q ^ m<=80000
noncomputable instance{q m:Nat}:Decidable (zfz q m):=by unfold zfz;exact inferInstance
def zuP:∀{q:Nat},q<=5->∀{m:Nat},m<=6->zfz q m:=by
 have h:∀q,q<6->∀m,m<7->zfz q m:=by decide
 intro q hq m hm;exact h q (by omega) m (by omega)
structure FP(ts:Z2)(r c:Nat):Prop where
 ht:TOk ts
 h1:1<=ts.length
 h4:zfz ts.length (r*c)
 r1:1<=r
 c1:1<=c
 rc:r*c<=6
def FP.r6{ts:Z2}{r c:Nat}(h:FP ts r c):r<=6:=by
 have:=h.rc;have:=h.c1;exact yah (Nat.le_mul_of_pos_right r h.c1) h.rc
def FP.c6{ts:Z2}{r c:Nat}(h:FP ts r c):c<=6:=yah (Nat.le_mul_of_pos_left c h.r1) h.rc
def zgp(q:Nat)(m:Nat)(h:zfz q m):zaK q m<=1000000/\q ^ m<=80000:=⟨by have:=h.1;omega,h.2⟩
noncomputable def zeD(ts:Z2)(r c:Nat)(g:Z1):List (List Int):=zaE ts (zac r c g) c (r*c)
section
variable{ts:Z2}{r c:Nat}{g:Z1}
def zjI(P:FP ts r c)(S:Sto):zbv [.tup (ts.map zad),flr r c g] S=.ok (.lst ((zeD ts r c g).map zad)) S:=by
 obtain ⟨b1,b2⟩:=zgp ts.length (r*c) P.h4;exact zjH P.ht P.r1 P.c1 (by have:=P.rc;omega) (by have:=P.c6;omega) (by have:=P.r6;omega) b2 P.h1
end
end S2
namespace S2
open PySem
open L2 hiding D
noncomputable def zbC(r c:Nat):List (Nat×Nat):=(List.range r).flatMap fun i=>(List.range c).map fun j=>(i,j)
def zcv{r c:Nat}{g:Z1}:zac r c g=(zbC r c).map fun p=>g p.1 p.2:=by
 unfold zac zbC;rw [ybG];congr 1;funext i;rw [yaH];rfl
def zhi{r c:Nat}{p:Nat×Nat}(h:p∈zbC r c):p.1<r/\p.2<c:=by
 obtain ⟨i,hi,h⟩:=ybg.mp h;obtain ⟨j,hj,rfl⟩:=yan.mp h;exact ⟨yaE.mp hi,yaE.mp hj⟩
section
variable{ts:Z2}{r c:Nat}{g:Z1}
end
end S2
namespace S2
open PySem
open L2 hiding D
section
variable{ts:Z2}{r c:Nat}{g:Z1}
end
end S2
namespace S2
open PySem
open L2 hiding D
section
variable{n:Nat}{ts:Z2}{gr:Z4}{r c:Nat}{b:Bool}
end
end S2
namespace S2
open PySem
open L2 hiding D
def zha{q:Nat}(h:1<=q):∀{m L:Nat},m<=L->zaK q m<=zaK q L:=by
 intro m L hml
 have step:∀n,zaK q n<=zaK q (n+1):=by
  intro n;show _<=1+q*zaK q n;have:1*zaK q n<=q*zaK q n:=yaW _ h;omega
 induction L with
 | zero=>rw [show m=0 by omega];exact yam _
 | succ L ih =>
  by_cases e:m=L+1
  ·rw [e];exact yam _
  ·exact yah (ih (by omega)) (step L)
def zeM{L k:Nat}{d:D}(h:(zax 0 (L:Int))[k]?=some d):k<L/\d=.int (k:Int):=by
 unfold zax at h;simp only [Int.sub_zero,yaC] at h;rw [yak] at h
 by_cases hk:k<L
 ·rw [ycd hk] at h;refine ⟨hk,?_⟩;have:=(Option.some.inj h).symm;simpa using this
 ·rw [yaN (by simp;omega)] at h;cases h
section
variable{n:Nat}{ts:Z2}{gr:Z4}{r c:Nat}{b:Bool}
end
end S2
namespace S2
open PySem
open L2 hiding D
noncomputable def xsT(ts:Z2)(c:Nat)(o:Option Int)(t:List Int):List Int:=(zbK ts).filter fun x=>okO o x&&zhV ts c t x
noncomputable def zjB(ts:Z2)(gr:Z4)(c:Nat):Nat->List Int->List (List Int)
 | 0,_=>[[]]
 | m+1,t=>(xsT ts c (gr.getD t.length none) t).flatMap fun x=>(zjB ts gr c m (t++[x])).map (x::·)
theorem zep{α β:Type}{f g:α->List β}:∀{l:List α},(∀x∈l,f x=g x)->l.flatMap f=l.flatMap g
 | [],_=>rfl
 | x::l,h=>by rw [yaL,yaL,h x yat,zep fun y hy=>h y (yap _ hy)]
section
variable{ts:Z2}{gr:Z4}{c:Nat}
theorem zf0:∀m k,zaE ts gr c (k+m)=(zaE ts gr c k).flatMap fun t=>(zjB ts gr c m t).map (t++·)
 | 0,k=>by
  show zaE ts gr c k=_;generalize zaE ts gr c k=F
  induction F with
  | nil=>rfl
  | cons t F ih=>rw [yaL,<-ih];simp [zjB]
 | m+1,k=>by
  rw [show k+(m+1)=(k+1)+m by omega,zf0 m (k+1)];show ((zaE ts gr c k).flatMap (zca ts c (gr.getD k none))).flatMap _=_;rw [List.flatMap_assoc];apply zep;intro t ht;have hl:=((zc9 k).mem t ht).1;show ((((zbK ts).filter fun x=>okO (gr.getD k none) x&&zhV ts c t x).map fun x=>t++[x]).flatMap _)=((xsT ts c (gr.getD t.length none) t).flatMap fun x=>(zjB ts gr c m (t++[x])).map (x::·)).map (t++·);rw [hl,List.flatMap_map,ybG];apply zep;intro x _;rw [yaH];apply yaI;intro u _;simp
def zhB{L:Nat}:zaE ts gr c L=zjB ts gr c L []:=by
 have:=zf0 (ts:=ts) (gr:=gr) (c:=c) L 0;rw [Nat.zero_add] at this;rw [this];simp [zaE]
end
noncomputable def zat(c:Nat)(t:List Int):Nat->Nat->Option Int:=fun i j=>some (t.getD (i*c+j) 0)
def zqq{t:List Int}{r c i:Nat}(hl:t.length=r*c)(hi:i<r):zgG (t.map D.int) (some ((i:Int)*(c:Int))) (some (((i:Int)+1)*(c:Int)))=zce c (zat c t i):=by
 have h1:i*c+c<=r*c:=by
  have:=yaW c (show i+1<=r by omega);rwa [ybX] at this
 unfold zgG;rw [show (i:Int)*(c:Int)=((i*c:Nat):Int) by rw [ycO],show ((i:Int)+1)*(c:Int)=((i*c+c:Nat):Int) by rw [Int.add_mul,Int.one_mul,Int.natCast_add,ycO],HT.zeY,HT.zeY,yae,hl];rw [ybB h1,ybB (show i*c<=r*c by omega),show i*c+c-i*c=c by omega];apply ybr;intro j;rw [ycW]
 by_cases hj:j<c
 ·rw [if_pos hj,ybl,zgn hj,yak,yaa (by omega)];simp [oD,zat,yad,yaa (show i*c+j<t.length by omega)]
 ·rw [if_neg hj,yaN (by simp [zce];omega)]
def zh9{t:List Int}{r c:Nat}{S:Sto}(hl:t.length=r*c)(hc:c<=100)(hr:r<=100):zdR [.lst (t.map D.int),.tup [.int r,.int c]] S=.ok (flr r c (zat c t)) S:=by
 have fc:zb2 (c:Int)=true:=zoz (by omega) (by omega)
 have ec:=zbe (tg:=.one 0) (elt:=zaz zbl [(eSl (zah 1) (some (zaf zea (zah 0) (zaf ixD (zah 2) (zag (.int 1))))) (some (zaf zea (zaf zb7 (zah 0) (zag (.int 1))) (zaf ixD (zah 2) (zag (.int 1))))))]) (ρ0:=[none,some (false,.lst (t.map D.int)),some (false,.tup [.int r,.int c])]) (S:=S) (g:=fun d=>match d with | .int i=>zc1 c (zat c t i.toNat) | _=>.non) (ds:=zax 0 (r:Int)) (by
  intro d hd;obtain ⟨k,hk⟩:=yb8 hd;obtain ⟨hi,rfl⟩:=zeM hk;refine ⟨_,rfl,?_⟩;have e:=zqq hl hi;show _=Out.ok (D.tup (zce c (zat c t ((k:Int).toNat)))) S;rw [yaC];generalize zce c (zat c t k)=res at *;generalize t.map D.int=td at *
  simp [fc,e])
 have er:(zax 0 (r:Int)).map (fun d=>match d with | .int i=>zc1 c (zat c t i.toNat) | _=>.non)=zbD r c (zat c t):=by
  unfold zax zbD;simp only [Int.sub_zero,yaC,yaH];apply yaI;intro i _;simp
 rw [er] at ec
 have hl2:(zbD r c (zat c t)).length<=100000:=by rw [zdo];omega
 have hr2:-1000000<=(r:Int)/\(r:Int)<=1000000:=by omega
 unfold flr;generalize zbD r c (zat c t)=res at *;generalize t.map D.int=td at *;simp [zdR,zas,zfu,hr2,ec,hl2]
end S2
namespace S2
open PySem
open L2 hiding D
section
variable{n:Nat}{ts:Z2}{gr:Z4}{r c:Nat}{b:Bool}{S:Sto}
end
end S2
namespace S2
open PySem
open L2 hiding D
noncomputable def mOb(Sz:D)(nw:Nat)(La We:D)(ds:List (D×D)):Ob:=⟨"Mends",[("size",false,Sz),("ways",false,.ref nw),("laid",false,La),("weights",false,We),("known",true,.dic ds)]⟩
structure MAt(S:Sto)(n nw:Nat)(ts:Z2)(gr la:Z4)(we:List Int)(r c:Nat)(ds:List (D×D)):Prop where
 at_:S[n]?=some (mOb (.tup [.int r,.int c]) nw (.lst (la.map oD)) (.lst (we.map D.int)) ds)
 wat:∃dw,WAt S nw ts gr r c false dw
 ne:n≠nw
noncomputable def zaU(o:Option Int)(w x:Int):Int:=match o with | none=>0 | some y=>if y=x then 0 else w
def ze3{o:Option Int}{w x:Int}{S:Sto}:zcG [oD o,.int w,.int x] S=.ok (.int (zaU o w x)) S:=by
 cases o with
 | none=>simp [zcG,zas,zd0,oD,zaU]
 | some y=>by_cases h:y=x<;>simp [zcG,zas,zd0,oD,zaU,h]
section
variable{S:Sto}{n nw:Nat}{ts:Z2}{gr la:Z4}{we:List Int}{r c:Nat}{ds:List (D×D)}
theorem MAt.size(h:MAt S n nw ts gr la we r c ds):zeP "Mends" "size" (.ref n) S=some (.tup [.int r,.int c]):=by
 unfold zeP;dsimp only;rw [h.at_];rfl
theorem MAt.ways(h:MAt S n nw ts gr la we r c ds):zeP "Mends" "ways" (.ref n) S=some (.ref nw):=by
 unfold zeP;dsimp only;rw [h.at_];rfl
theorem MAt.laid(h:MAt S n nw ts gr la we r c ds):zeP "Mends" "laid" (.ref n) S=some (.lst (la.map oD)):=by
 unfold zeP;dsimp only;rw [h.at_];rfl
theorem MAt.weights(h:MAt S n nw ts gr la we r c ds):zeP "Mends" "weights" (.ref n) S=some (.lst (we.map D.int)):=by
 unfold zeP;dsimp only;rw [h.at_];rfl
theorem MAt.known(h:MAt S n nw ts gr la we r c ds):zgO "Mends" "known" (.ref n) S=some (n,mOb (.tup [.int r,.int c]) nw (.lst (la.map oD)) (.lst (we.map D.int)) ds,ds):=by
 unfold zgO;dsimp only;rw [h.at_];rfl
def MAt.meth(h:MAt S n nw ts gr la we r c ds)(m:Str)(hm:(m == "size")=false/\(m == "ways")=false/\(m == "laid")=false/\(m == "weights")=false/\(m == "known")=false):zcI "Mends" m (.ref n) S=true:=by
 unfold zcI;dsimp only;rw [h.at_];obtain ⟨h1,h2,h3,h4,h5⟩:=hm;simp [mOb,yay,h1,h2,h3,h4,h5]
def MAt.len(h:MAt S n nw ts gr la we r c ds):n<S.length:=(yag.mp h.at_).1
def MAt.put(h:MAt S n nw ts gr la we r c ds)(ds':List (D×D)):MAt (S.set n (mOb (.tup [.int r,.int c]) nw (.lst (la.map oD)) (.lst (we.map D.int)) ds')) n nw ts gr la we r c ds':=by
 obtain ⟨dw,w⟩:=h.wat;exact ⟨by rw [yaA h.len],⟨dw,⟨by rw [yaP h.ne];exact w.at_⟩⟩,h.ne⟩
end
noncomputable abbrev Off:=Int×Int×Int×List (Option Int)
noncomputable def lbo(os:List Off):Option (Int×Int):=if os.isEmpty then none else some (zeh (os.map (·.1)),((os.filter fun o=>decide (o.1=zeh (os.map (·.1)))).map (·.2.1)).sum)
noncomputable def lfS(ts:Z2)(gr la:Z4)(we:List Int)(c:Nat):Nat->Nat->List (Option Int)->Option (Int×Int)
 | 0,_,_=>some (0,1)
 | m+1,k,s=>lbo ((chs ts gr c false k s).filterMap fun p=>(lfS ts gr la we c m (k+1) p.2).map fun q=>(zaU (la.getD k none) (we.getD k 0) p.1+q.1,q.2,p.1,p.2))
noncomputable def lfD:Option (Int×Int)->D | none=>.non | some (a,b)=>.tup [.int a,.int b]
noncomputable def zez(o:Off):D:=.tup [.int o.1,.int o.2.1,.int o.2.2.1,zaw o.2.2.2]
noncomputable def zdj(ts:Z2)(gr la:Z4)(we:List Int)(c m k:Nat)(cs:List (Int×List (Option Int))):List Off:=cs.filterMap fun p=>(lfS ts gr la we c m (k+1) p.2).map fun q=>(zaU (la.getD k none) (we.getD k 0) p.1+q.1,q.2,p.1,p.2)
noncomputable def zfA(ts:Z2)(gr la:Z4)(we:List Int)(c:Nat)(ds:List (D×D)):Prop:=∀(k:Nat) s d,zbj ((k:Int),s) ds=some d->d=lfD (lfS ts gr la we c (gr.length-k) k s)
structure LfOk(n nw:Nat)(ts:Z2)(gr la:Z4)(we:List Int)(r c m:Nat)(rc:List D->Sto->Out D):Prop where
 run:∀(S:Sto) (ds:List (D×D)) (k:Nat) (s:Z4),MAt S n nw ts gr la we r c ds->zfA ts gr la we c ds->k+m=gr.length->s.length=c+2->ds.length+zaK ts.length m<=1000000 →
  ∃ds',rc [.ref n,.int k,zaw s] S=.ok (lfD (lfS ts gr la we c m k s)) (S.set n (mOb (.tup [.int r,.int c]) nw (.lst (la.map oD)) (.lst (we.map D.int)) ds'))/\zfA ts gr la we c ds'/\ds'.length<=ds.length+zaK ts.length m/\∀k' s',k'<k->zbj (((k':Nat):Int),s') ds'=zbj (((k':Nat):Int),s') ds
section
variable{n nw:Nat}{ts:Z2}{gr la:Z4}{we:List Int}{r c:Nat}
theorem zgs{m k:Nat}{rc:List D->Sto->Out D}(C:LfOk n nw ts gr la we r c m rc)(hk:k+1+m=gr.length)(hla:la.length=gr.length)(hwe:we.length=gr.length){s2:Option (Bool×D)}:∀(cs:List (Int×List (Option Int))) (L:List D) (S:Sto) (ds:List (D×D)) (x4 x5 x6 x7:Option (Bool×D)),(∀p∈cs,p.2.length=c+2)->MAt S n nw ts gr la we r c ds->zfA ts gr la we c ds->L.length+cs.length<=1000->ds.length+cs.length*zaK ts.length m<=1000000 →
  ∃ds' y4 y5 y6 y7,zfq (.tup [4,5]) (zbr rc) (cs.map chD) [some (false,.ref n),some (false,.int k),s2,some (true,.lst L),x4,x5,x6,x7] S
   = .nx [some (false,.ref n),some (false,.int k),s2,some (true,.lst (L++(zdj ts gr la we c m k cs).map zez)),y4,y5,y6,y7] (S.set n (mOb (.tup [.int r,.int c]) nw (.lst (la.map oD)) (.lst (we.map D.int)) ds'))/\zfA ts gr la we c ds'/\ds'.length<=ds.length+cs.length*zaK ts.length m/\∀k' s',k'<k+1->zbj (((k':Nat):Int),s') ds'=zbj (((k':Nat):Int),s') ds
 | [],L,S,ds,x4,x5,x6,x7,_,A,M,_,_=>⟨ds,x4,x5,x6,x7,by rw [zeL A.at_];simp [zfq,zdj],M,by simp,fun _ _ _=>rfl⟩
 | p::cs,L,S,ds,x4,x5,x6,x7,hl,A,M,hL,hz=>by
  rw [yai,yc3] at hz;rw [yai] at hL;obtain ⟨ds1,e1,M1,z1,u1⟩:=C.run S ds (k+1) p.2 A M hk (hl p yat) (by omega);have e1':rc [.ref n,.int ((k:Int)+1),zaw p.2] S=_:=e1;have mo:=A.meth "least_from" (by decide +kernel);have A1:=A.put ds1
  have hkg:k<gr.length:=by omega
  have g1:atI (la.map oD) (k:Int)=some (oD (la.getD k none)):=by
   rw [zbH,yak,yad,yaa (by omega)];rfl
  have g2:atI (we.map D.int) (k:Int)=some (.int (we.getD k 0)):=by
   rw [zbH,yak,yad,yaa (by omega)];rfl
  have hLs:L.length<=100000:=by omega
  cases hf:lfS ts gr la we c m (k+1) p.2 with
  | none =>
   rw [hf] at e1';obtain ⟨ds2,y4,y5,y6,y7,e2,M2,z2,u2⟩:=zgs C hk hla hwe cs L _ ds1 (some (false,.int p.1)) (some (false,zaw p.2)) (some (false,.non)) x7 (fun q hq=>hl q (yap _ hq)) A1 M1 (by omega) (by omega) (s2:=s2);refine ⟨ds2,y4,y5,y6,y7,?_,M2,by rw [yai,yc3];omega,fun k' s' hk'=>(u2 k' s' hk').trans (u1 k' s' hk')⟩;rw [ycg] at e2
   have eo:zdj ts gr la we c m k (p::cs)=zdj ts gr la we c m k cs:=by unfold zdj;rw [ybi,hf];rfl
   rw [eo];have hnn:lfD none=.non:=rfl;rw [hnn] at e1';have hch:chD p=.tup [.int p.1,zaw p.2]:=rfl;rw [yaw,hch];unfold zfq;generalize mOb (.tup [.int r,.int c]) nw (.lst (la.map oD)) (.lst (we.map D.int)) ds1=ob at *;generalize zaw p.2=sd at *;simp [zbr,mo,e1'];exact e2
  | some q =>
   obtain ⟨qa,qb⟩:=q;rw [hf] at e1';have ec:=ze3 (o:=la.getD k none) (w:=we.getD k 0) (x:=p.1) (S:=S.set n (mOb (.tup [.int r,.int c]) nw (.lst (la.map oD)) (.lst (we.map D.int)) ds1));have fl:=A1.laid;have fw:=A1.weights;obtain ⟨ds2,y4,y5,y6,y7,e2,M2,z2,u2⟩:=zgs C hk hla hwe cs (L++[zez (zaU (la.getD k none) (we.getD k 0) p.1+qa,qb,p.1,p.2)]) _ ds1 (some (false,.int p.1)) (some (false,zaw p.2)) (some (false,.tup [.int qa,.int qb])) (some (false,.int (zaU (la.getD k none) (we.getD k 0) p.1+qa))) (fun q hq=>hl q (yap _ hq)) A1 M1 (by rw [yao,yaQ];omega) (by omega) (s2:=s2);refine ⟨ds2,y4,y5,y6,y7,?_,M2,by rw [yai,yc3];omega,fun k' s' hk'=>(u2 k' s' hk').trans (u1 k' s' hk')⟩;rw [ycg] at e2
   have eo:zdj ts gr la we c m k (p::cs)=(zaU (la.getD k none) (we.getD k 0) p.1+qa,qb,p.1,p.2)::zdj ts gr la we c m k cs:=by unfold zdj;rw [ybi,hf];rfl
   rw [eo,yaw,yaw];rw [yb4] at e2;have hoff:zez (zaU (la.getD k none) (we.getD k 0) p.1+qa,qb,p.1,p.2)=.tup [.int (zaU (la.getD k none) (we.getD k 0) p.1+qa),.int qb,.int p.1,zaw p.2]:=rfl;rw [hoff] at e2 ⊢;have hnn:lfD (some (qa,qb))=.tup [.int qa,.int qb]:=rfl;rw [hnn] at e1';have hch:chD p=.tup [.int p.1,zaw p.2]:=rfl;rw [hch];unfold zfq;generalize mOb (.tup [.int r,.int c]) nw (.lst (la.map oD)) (.lst (we.map D.int)) ds1=ob at *;generalize zaw p.2=sd at *;generalize oD (la.getD k none)=od at *;generalize we.getD k 0=wk at *;generalize zaU (la.getD k none) wk p.1=ck at *;simp [zbr,mo,e1',fl,fw,g1,g2,ec,hLs];exact e2
end
end S2
namespace S2
open PySem
open L2 hiding D
noncomputable def R3(f:Nat):=zfB 8 5 4 zaF zak zam f
section
variable{n nw:Nat}{ts:Z2}{gr la:Z4}{we:List Int}{r c:Nat}
structure Kept(n nw:Nat)(ts:Z2)(gr la:Z4)(we:List Int)(r c k a:Nat)(S:Sto)(ds:List (D×D))(o:Out D)(d:D)(ds':List (D×D)):Prop where
 eq:o=.ok d (S.set n (mOb (.tup [.int r,.int c]) nw (.lst (la.map oD)) (.lst (we.map D.int)) ds'))
 memo:zfA ts gr la we c ds'
 len:ds'.length<=ds.length+a
 old:∀k' s',k'<k->zbj (((k':Nat):Int),s') ds'=zbj (((k':Nat):Int),s') ds
def zfO{m k f:Nat}{s:Z4}{S:Sto}{ds:List (D×D)}(C:LfOk n nw ts gr la we r c m (R3 f).2.2)(hk:k+1+m=gr.length)(hla:la.length=gr.length)(hwe:we.length=gr.length)(ht:TOk ts)(h1:1<=ts.length)(hg:∀o∈gr,∀x,o=some x->0<=x/\x<ts.length)(hc:1<=c)(hc2:c<=100)(hs:s.length=c+2)(A:MAt S n nw ts gr la we r c ds)(M:zfA ts gr la we c ds)(hz:ds.length+ts.length*zaK ts.length m<=1000000) :
  ∃ds',Kept n nw ts gr la we r c (k+1) (ts.length*zaK ts.length m) S ds ((R3 (f+1)).1 [.ref n,.int k,zaw s] S) (.lst ((zdj ts gr la we c m k (chs ts gr c false k s)).map zez)) ds':=by
 have hcl:=zgH (gr:=gr) (c:=c) (b:=false) (k:=k) (s:=s) h1;have hmul:(chs ts gr c false k s).length*zaK ts.length m<=ts.length*zaK ts.length m:=yaW _ hcl;obtain ⟨dw,W⟩:=A.wat;have ech:=zib (k:=k) (s:=s) W ht (by omega) hg hc hc2 hs;have hle:=ht.le;obtain ⟨ds',y4,y5,y6,y7,e,M',z',u'⟩:=zgs (s2:=some (false,zaw s)) C hk hla hwe (chs ts gr c false k s) [] S ds none none none none (zjn hc hs) A M (by simp only [yb0];omega) (by omega);refine ⟨ds',?_,M',by omega,u'⟩;have mo:=W.meth "choices" (by decide +kernel);have fw:=A.ways;show zbL 8 false (zaF (R3 f).1 (R3 f).2.1 (R3 f).2.2) _ _=_;rw [ybA] at e;generalize (zdj ts gr la we c m k (chs ts gr c false k s)).map zez=res at *;generalize (chs ts gr c false k s).map chD=cs at *;generalize mOb (.tup [.int r,.int c]) nw (.lst (la.map oD)) (.lst (we.map D.int)) ds'=ob at *;generalize zaw s=sd at *;generalize (R3 f).2.2=rc at *;simp [zas,zaF,fw,mo,ech,e]
theorem zi4(h1:1<=ts.length):∀m k s a b,lfS ts gr la we c m k s=some (a,b)->0<=b/\b<=((ts.length ^ m:Nat):Int)
 | 0,_,_,a,b,h=>by cases h;simp
 | m+1,k,s,a,b,h=>by
  have h':lbo (zdj ts gr la we c m k (chs ts gr c false k s))=some (a,b):=h
  have hb:∀o∈zdj ts gr la we c m k (chs ts gr c false k s),0<=o.2.1/\o.2.1<=((ts.length ^ m:Nat):Int):=by
   intro o ho;obtain ⟨p,_,hp⟩:=ya4.mp ho
   cases hf:lfS ts gr la we c m (k+1) p.2 with
   | none=>rw [hf] at hp;cases hp
   | some q =>
    rw [hf] at hp;cases hp;exact zi4 h1 m (k+1) p.2 q.1 q.2 hf
  have hlen:(zdj ts gr la we c m k (chs ts gr c false k s)).length<=ts.length:=yah (ych _ _) (zgH h1);unfold lbo at h';split at h'
  ·cases h'
  ·cases h';generalize zdj ts gr la we c m k (chs ts gr c false k s)=os at *;generalize zeh (os.map (·.1))=mn
   have key:∀l:List Off,(∀o∈l,0<=o.2.1/\o.2.1<=((ts.length ^ m:Nat):Int))->0<=(l.map (·.2.1)).sum/\(l.map (·.2.1)).sum<=(l.length:Int)*((ts.length ^ m:Nat):Int):=by
    intro l
    induction l with
    | nil=>intro _;simp
    | cons o l ih =>
     intro hl;obtain ⟨i1,i2⟩:=ih fun x hx=>hl x (yap _ hx)
     obtain ⟨j1,j2⟩:=hl o yat;rw [yaw,ybI,yai];refine ⟨by omega,?_⟩;rw [Int.natCast_add,Int.add_mul];omega
   obtain ⟨k1,k2⟩:=key (os.filter fun o=>decide (o.1=mn)) fun o ho=>hb o (ya2.mp ho).1
   refine ⟨k1,Int.le_trans k2 ?_⟩;have hfl:(os.filter fun o=>decide (o.1=mn)).length<=ts.length:=yah (ya0 _ _) hlen;have:=yaW (ts.length ^ m) hfl;rw [Nat.pow_succ,ybo (ts.length ^ m)]
   exact_mod_cast this
end
end S2
namespace S2
open PySem
open L2 hiding D
theorem zgA{f:Off->Int}:∀l:List Off,zb1 (l.map fun o=>D.int (f o))=some (l.map f)
 | []=>rfl
 | o::l=>by rw [yaw,yaw];simp [zb1,zgA l]
section
variable{n nw:Nat}{ts:Z2}{gr la:Z4}{we:List Int}{r c:Nat}
noncomputable def zxw:D->D | .tup (d::_)=>d | _=>.non
noncomputable def zwu:D->D | .tup (_::d::_)=>d | _=>.non
noncomputable def isO(mn:Int):D->Bool | .tup (.int a::_)=>decide (a=mn) | _=>false
def zpl{k a f:Nat}{os:List Off}{s:Z4}{S:Sto}{ds ds':List (D×D)}(A:MAt S n nw ts gr la we r c ds)(h:Kept n nw ts gr la we r c k a S ds ((R3 f).1 [.ref n,.int ((k-1:Nat):Int),zaw s] S) (.lst (os.map zez)) ds')(hl:os.length<=1000)(hb:∀o∈os,0<=o.2.1/\o.2.1<=1000000) :
  Kept n nw ts gr la we r c k a S ds ((R3 (f+1)).2.1 [.ref n,.int ((k-1:Nat):Int),zaw s] S) (lfD (lbo os)) ds':=by
 refine ⟨?_,h.memo,h.len,h.old⟩;have e:=h.eq;have mo:=A.meth "offers" (by decide +kernel);show zbL 5 false (zak (R3 f).1 (R3 f).2.1 (R3 f).2.2) _ _=_
 cases os with
 | nil =>
  show _=Out.ok D.non _;rw [List.map_nil] at e;generalize mOb (.tup [.int r,.int c]) nw (.lst (la.map oD)) (.lst (we.map D.int)) ds'=ob at *;generalize zaw s=sd at *;generalize (R3 f).1=rc at *;generalize ((k-1:Nat):Int)=kk at *;simp [zas,zak,mo,e]
 | cons o os =>
  have hne:((o::os).map zez).length≠0:=by simp
  have c1:zbn (.one 0) zdq (zaf ixD (zah 0) (zag (.int 0))) [none] ((o::os).map zez) (S.set n (mOb (.tup [.int r,.int c]) nw (.lst (la.map oD)) (.lst (we.map D.int)) ds'))=.ok ((o::os).map fun o=>D.int o.1) (S.set n (mOb (.tup [.int r,.int c]) nw (.lst (la.map oD)) (.lst (we.map D.int)) ds')):=by
   rw [zbe (g:=zxw) (fun d hd=>by
    obtain ⟨o,_,rfl⟩:=yan.mp hd
    exact ⟨_,rfl,by simp [zez,zxw]⟩),yaH]
   rfl
  have e2:zgw [.lst ((o::os).map fun o=>D.int o.1)]=some (.int (zeh ((o::os).map (·.1)))):=by
   show (zb1 _).bind _=_;rw [zgA (f:=fun o=>o.1)];rfl
  generalize hmn:zeh ((o::os).map (·.1))=mn at *
  have c2:zbn (.one 0) (zaf eqD (zaf ixD (zah 0) (zag (.int 0))) (zah 1)) (zaf ixD (zah 0) (zag (.int 1))) [none,some (false,.int mn)] ((o::os).map zez) (S.set n (mOb (.tup [.int r,.int c]) nw (.lst (la.map oD)) (.lst (we.map D.int)) ds'))=.ok (((o::os).filter fun o=>decide (o.1=mn)).map fun o=>D.int o.2.1) (S.set n (mOb (.tup [.int r,.int c]) nw (.lst (la.map oD)) (.lst (we.map D.int)) ds')):=by
   rw [zdg (g:=zwu) (p:=isO mn) (fun d hd=>by
    obtain ⟨o,_,rfl⟩:=yan.mp hd
    exact ⟨_,rfl,by simp [zez,isO],fun _=>by simp [zez,zwu]⟩),yco,yaH]
   rfl
  have e3:zmG [.lst (((o::os).filter fun o=>decide (o.1=mn)).map fun o=>D.int o.2.1)]=some (.int (((o::os).filter fun o=>decide (o.1=mn)).map (·.2.1)).sum):=by
   show (zb1 _).bind _=_;rw [zgA (f:=fun o=>o.2.1)];show (if _ then some (D.int _) else none)=_;rw [if_pos];rw [yab];refine ⟨yaB (by rw [yae];exact yah (ya0 _ _) hl),?_⟩;rw [ybe];intro x hx;obtain ⟨q,hq,rfl⟩:=yan.mp hx;exact yaB (hb q (ya2.mp hq).1)
  have elf:lfD (lbo (o::os))=.tup [.int mn,.int (((o::os).filter fun o=>decide (o.1=mn)).map (·.2.1)).sum]:=by
   subst hmn;rfl
  rw [elf]
  have l1:((o::os).map fun o=>D.int o.1).length<=100000:=by rw [yae];omega
  have l2:(((o::os).filter fun o=>decide (o.1=mn)).map fun o=>D.int o.2.1).length<=100000:=by rw [yae];exact yah (ya0 _ _) (by omega)
  have hol:(o::os).map zez≠[]:=by simp
  clear elf hb hl h A hmn hne;generalize (((o::os).filter fun o=>decide (o.1=mn)).map (·.2.1)).sum=sm at *;generalize ((o::os).filter fun o=>decide (o.1=mn)).map (fun o=>D.int o.2.1)=fl at *;generalize (o::os).map (fun o=>D.int o.1)=il at *;generalize (o::os).map zez=ol at *;generalize mOb (.tup [.int r,.int c]) nw (.lst (la.map oD)) (.lst (we.map D.int)) ds'=ob at *;generalize zaw s=sd at *;generalize (R3 f).1=rc at *;generalize ((k-1:Nat):Int)=kk at *;simp [zas,zak,mo,e,hol,c1,l1,e2,c2,l2,e3]
end
end S2
namespace S2
open PySem
open L2 hiding D
section
variable{n nw:Nat}{ts:Z2}{gr la:Z4}{we:List Int}{r c:Nat}
def zpU{f:Nat}(hla:la.length=gr.length):LfOk n nw ts gr la we r c 0 (R3 (f+1)).2.2 where
 run:=fun S ds k s A M hk hs hz=>by
  refine ⟨ds,?_,M,ycA _ _,fun _ _ _=>rfl⟩;rw [zeL A.at_]
  have hk':k=la.length:=by omega
  subst hk';show zbL 4 false (zam (R3 f).1 (R3 f).2.1 (R3 f).2.2) _ _=_;simp [zas,zam,A.laid,lfS,lfD]
def zpV{m f:Nat}(C:LfOk n nw ts gr la we r c m (R3 f).2.2)(hla:la.length=gr.length)(hwe:we.length=gr.length)(ht:TOk ts)(h1:1<=ts.length)(hg:∀o∈gr,∀x,o=some x->0<=x/\x<ts.length)(hc:1<=c)(hc2:c<=100)(hp:ts.length ^ m<=1000000):LfOk n nw ts gr la we r c (m+1) (R3 (f+3)).2.2 where
 run:=fun S ds k s A M hk hs hz=>by
  have hne:decide ((k:Int)=(la.length:Int))=false:=yaX (by omega);have ek:=zmN (k:=(k:Int)) (s:=s);have hz':ds.length+(1+ts.length*zaK ts.length m)<=1000000:=hz;show ∃ds',zbL 4 false (zam (R3 (f+2)).1 (R3 (f+2)).2.1 (R3 (f+2)).2.2) _ _=_/\_
  cases hd:zbj ((k:Int),s) ds with
  | some d =>
   have hd':=M k s d hd;rw [show gr.length-k=m+1 by omega] at hd';subst hd';refine ⟨ds,?_,M,ycA _ _,fun _ _ _=>rfl⟩;rw [zeL A.at_];have hl:=A.laid;have hkn:=A.known;generalize zaw s=sd at ek;generalize lfD (lfS ts gr la we c (m+1) k s)=cc at hd ⊢;simp [zas,zam,hl,hkn,hne,ek,hd,zkj]
  | none =>
   obtain ⟨ds1,K1⟩:=zfO (k:=k) (s:=s) C (by omega) hla hwe ht h1 hg hc hc2 hs A M (by omega);have hlen:(zdj ts gr la we c m k (chs ts gr c false k s)).length<=1000:=yah (ych _ _) (yah (zgH h1) (yah ht.le (by decide)))
   have hbo:∀o∈zdj ts gr la we c m k (chs ts gr c false k s),0<=o.2.1/\o.2.1<=1000000:=by
    intro o ho;obtain ⟨p,_,hp'⟩:=ya4.mp ho
    cases hf:lfS ts gr la we c m (k+1) p.2 with
    | none=>rw [hf] at hp';cases hp'
    | some q =>
     rw [hf] at hp';cases hp';have:=zi4 h1 m (k+1) p.2 q.1 q.2 hf;exact ⟨this.1,Int.le_trans this.2 (Int.ofNat_le.mpr hp)⟩
   have K2:=zpl (k:=k+1) (s:=s) A K1 hlen hbo;have e1:(R3 (f+2)).2.1 [.ref n,.int (k:Int),zaw s] S=.ok (lfD (lfS ts gr la we c (m+1) k s)) (S.set n (mOb (.tup [.int r,.int c]) nw (.lst (la.map oD)) (.lst (we.map D.int)) ds1)):=K2.eq;have M1:=K2.memo;have z1:=K2.len;have u1:=K2.old;have hd1:zbj ((k:Int),s) ds1=none:=(u1 k s (ybS k)).trans hd;have A1:=A.put ds1;have mo:=A.meth "least_by_offers" (by decide +kernel);generalize hv:lfD (lfS ts gr la we c (m+1) k s)=vv at e1 ⊢
   have hnd:zfU (mOb (.tup [.int r,.int c]) nw (.lst (la.map oD)) (.lst (we.map D.int)) ds1)=true:=by
    unfold zfU;show decide ((["size","ways","laid","weights","known"]:List Str).Nodup)=true;decide +kernel
   have hput:(mOb (.tup [.int r,.int c]) nw (.lst (la.map oD)) (.lst (we.map D.int)) ds1).put "known" true (.dic (ds1++[(nkD ((k:Int),s),vv)]))=mOb (.tup [.int r,.int c]) nw (.lst (la.map oD)) (.lst (we.map D.int)) (ds1++[(nkD ((k:Int),s),vv)]):=by rfl
   refine ⟨ds1++[(nkD ((k:Int),s),vv)],?_,?_,?_,?_⟩
   ·have A2:=A.put (ds1++[(nkD ((k:Int),s),vv)])
    have hl2:zbj ((k:Int),s) (ds1++[(nkD ((k:Int),s),vv)])=some vv:=by
     rw [zd5,hd1,zdU,if_pos rfl];rfl
    have hkey:zkj [some (false,D.ref n),some (false,.int k),some (false,zaw s),some (false,.tup [.int k,zaw s])] 3=some ((k:Int),s):=ek;have hpk:=zpZ (r:=vv) hkey A1.known hd1 (by omega) hnd;rw [hput,ycg] at hpk;have hkn:=A2.known;have hkn0:=A.known;have hgl:=A.laid;generalize mOb (.tup [.int r,.int c]) nw (.lst (la.map oD)) (.lst (we.map D.int)) (ds1++[(nkD ((k:Int),s),vv)])=ob2 at hpk hkn ⊢;generalize mOb (.tup [.int r,.int c]) nw (.lst (la.map oD)) (.lst (we.map D.int)) ds1=ob1 at hpk e1;generalize ds1++[(nkD ((k:Int),s),vv)]=ds2 at hkn hl2;generalize zaw s=sd at ek e1 hkey hpk ⊢;generalize (R3 (f+2)).2.1=rc at e1 ⊢;simp [zas,zam,hgl,hkn0,hne,ek,hd,mo,e1,hpk,hkey,hkn,hl2]
   ·intro k' s' d h';rw [zd5] at h'
    cases h2:zbj ((k':Int),s') ds1 with
    | some d'=>rw [h2] at h';cases h';exact M1 k' s' _ h2
    | none =>
     rw [h2,zdU] at h';have h'':(if some ((k:Int),s)=some ((k':Int),s') then some vv else none)=some d:=h';split at h''
     ·rename_i ee;cases h'';have ee':=Option.some.inj ee
      have ek':k=k':=by have z:(k:Int)=(k':Int):=congrArg Prod.fst ee';omega
      have es':s=s':=congrArg Prod.snd ee';subst ek';subst es';rw [show gr.length-k=m+1 by omega,hv]
     ·cases h''
   ·rw [yao,yaQ];show _<=ds.length+(1+ts.length*zaK ts.length m);omega
   ·intro k' s' hk';rw [zd5,u1 k' s' (by omega),zdU,if_neg]
    ·cases zbj ((k':Int),s') ds<;>rfl
    ·intro z;have z':(k:Int)=(k':Int):=congrArg Prod.fst (Option.some.inj z);omega
theorem zi5(hla:la.length=gr.length)(hwe:we.length=gr.length)(ht:TOk ts)(h1:1<=ts.length)(hg:∀o∈gr,∀x,o=some x->0<=x/\x<ts.length)(hc:1<=c)(hc2:c<=100):∀m f,ts.length ^ m<=1000000->LfOk n nw ts gr la we r c m (R3 (3*m+1+f)).2.2
 | 0,f,_=>by rw [show 3*0+1+f=f+1 by omega];exact zpU hla
 | m+1,f,hp=>by
  have hp':ts.length ^ m<=1000000:=yah (ycE h1 (yct m)) hp;rw [show 3*(m+1)+1+f=(3*m+1+f)+3 by omega];exact zpV (zi5 hla hwe ht h1 hg hc hc2 m f hp') hla hwe ht h1 hg hc hc2 hp'
end
end S2
namespace S2
open PySem
open L2 hiding D
def znw{c x:Str}{n:Nat}{ρ:Env}{S:Sto}{r:D}{ob:Ob}(h:S[n]?=some ob)(hc:ob.cls=c)(hl:ob.fs.length<1000):zhu c x ρ r (.ok (.ref n) S)=.nx ρ (S.set n (ob.put x false r)):=by
 show (match S[n]? with | some ob=>_ | none=>_)=_;rw [h];show (if _ then _ else _)=_;rw [if_pos];rw [yab];exact ⟨yaB hc,yaB hl⟩
def zmA{c x:Str}{n i:Nat}{ρ:Env}{S:Sto}{ob:Ob}(hi:ρ[i]?=some (some (false,.ref n)))(h:S[n]?=some ob)(hc:ob.cls=c)(hl:ob.fs.length<1000):zgh c x i ρ S=.nx ρ (S.set n (ob.put x true (.dic []))):=by
 unfold zgh;rw [hi];show (match S[n]? with | some ob=>_ | none=>_)=_;rw [h];show (if _ then _ else _)=_;rw [if_pos];rw [yab];exact ⟨yaB hc,yaB hl⟩
def zkF{S:Sto}{a b x:Ob}:(S++[a,b]).set S.length x=S++[x,b]:=by
 rw [ycw _ _ (yam _),ybq];rfl
def zi9{S:Sto}{a b:Ob}:(S++[a,b])[S.length]?=some a:=by
 rw [yaq (yam _),ybq];rfl
def zjJ{r c:Nat}{S:Sto}(hr1:1<=r)(hr:r<=100)(hc1:1<=c)(hc:c<=100):ze5 [.int r,.int c] S=.ok (flr r c fun _ _=>none) S:=by
 have e1:zea (.tup [.non]) (.int (c:Int))=some (.tup (zce c fun _=>none)):=by
  show (if _ then _ else _)=_;rw [if_pos (by simp;omega),yaC,zkP]
 have e2:zea (.tup [.tup (zce c fun _=>none)]) (.int (r:Int))=some (flr r c fun _ _=>none):=by
  show (if _ then _ else _)=_;rw [if_pos (by simp;omega),yaC,zkQ];rfl
 simp [ze5,zas,zir,e1,e2]
noncomputable def weL(r c:Nat)(w:Nat->Nat->Int):List Int:=(zbC r c).map fun p=>w p.1 p.2
def zgP{r c:Nat}{w:Nat->Nat->Int}:(zac r c fun i j=>some (w i j)).map oD=(weL r c w).map D.int:=by
 rw [zcv];unfold weL;rw [yaH,yaH];rfl
def zfy{r c:Nat}{g:Z1}{S:Sto}:zbn (.one 0) zdq (eFn zaI [(zae 1),(zae 0)]) [none,some (false,flr r c g)] (zd9 r c) S=.ok ((zac r c g).map oD) S:=by
 rw [<-zek];refine zbe fun d hd=>?_
 obtain ⟨i,j,hi,hj,rfl⟩:=zif hd;refine ⟨_,rfl,?_⟩;have:=zcF (g:=g) (S:=S) hi hj;simp [this];rfl
def zg5{r c:Nat}{g:Z1}{w:Nat->Nat->Int}{T:D}{S:Sto}(h1:1<=r)(hr:r<=100)(hc1:1<=c)(hc:c<=100) :
  za4 [.ref S.length,T,flr r c g,flr r c fun i j=>some (w i j)] (S++[⟨"Mends",[]⟩])=.ok .non (S++[mOb (.tup [.int r,.int c]) (S.length+1) (.lst ((zac r c g).map oD)) (.lst ((weL r c w).map D.int)) [],wOb T (.lst ((zac r c fun _ _=>none).map oD)) (.tup [.int r,.int c]) false []]):=by
 have e1:∀S',zaX [flr r c g] S'=.ok (.lst (zd9 r c)) S':=fun S'=>zed h1 hr hc
 have e2:∀S',zbW [flr r c g] S'=.ok (.tup [.int r,.int c]) S':=fun S'=>zgi h1
 have e3:∀S',ze5 [.int r,.int c] S'=.ok (flr r c fun _ _=>none) S':=fun S'=>zjJ h1 hr hc1 hc
 have e4:=fun S'=>zfy (r:=r) (c:=c) (g:=g) (S:=S')
 have e5:=fun S'=>zfy (r:=r) (c:=c) (g:=fun i j=>some (w i j)) (S:=S')
 have wg:=zgP (r:=r) (c:=c) (w:=w);rw [wg] at e5
 have l1:((zac r c g).map oD).length<=100000:=by
  rw [yae,zaG];exact yah (ybJ hr hc) (by decide)
 have l2:((weL r c w).map D.int).length<=100000:=by
  rw [<-wg,yae,zaG];exact yah (ybJ hr hc) (by decide)
 have ew:=zmR (T:=T) (b:=false) (S:=S++[(⟨"Mends",zap "size" false (.tup [.int r,.int c]) []⟩:Ob)]) (g:=fun _ _=>none) (c:=c) h1 hr hc;rw [yao,yaQ] at ew
 have fs:zeP "Mends" "size" (.ref S.length) (S++[(⟨"Mends",zap "size" false (.tup [.int r,.int c]) []⟩:Ob)])=some (.tup [.int r,.int c]):=by
  unfold zeP;dsimp only;rw [yaq (yam _),ybq];rfl
 have q1:=zlA (c:="Mends") (x:="size") (ρ:=[some (false,.ref S.length),some (false,T),some (false,flr r c g),some (false,flr r c fun i j=>some (w i j))]) (S:=S) (r:=.tup [.int r,.int c]) (fs:=[]) (n:=S.length) (by decide) rfl;have pl:=fun (o1 o2:Ob) (x:Str) (d:D) (h:o1.cls = "Mends") (hl:o1.fs.length<1000)=>znw (c:="Mends") (x:=x) (ρ:=[some (false,.ref S.length),some (false,T),some (false,flr r c g),some (false,flr r c fun i j=>some (w i j))]) (r:=d) (S:=S++[o1,o2]) (n:=S.length) zi9 h hl
 simp only [zkF] at pl;simp only [yb4,ycx,ybA] at ew;have n1:=zbB (x:="size") (o:=false) (d:=.tup [.int r,.int c]) (gs:=[]);have n2:=zbB (x:="ways") (o:=false) (d:=.ref (S.length+1)) (gs:=zap "size" false (.tup [.int r,.int c]) []);have n3:=zbB (x:="laid") (o:=false) (d:=.lst ((zac r c g).map oD)) (gs:=zap "ways" false (.ref (S.length+1)) (zap "size" false (.tup [.int r,.int c]) []));have n4:=zbB (x:="weights") (o:=false) (d:=.lst ((weL r c w).map D.int)) (gs:=zap "laid" false (.lst ((zac r c g).map oD)) (zap "ways" false (.ref (S.length+1)) (zap "size" false (.tup [.int r,.int c]) [])));have n0:([]:List (Str×Bool×D)).length=0:=rfl;generalize hw0:wOb T (.lst ((zac r c fun _ _=>none).map oD)) (.tup [.int r,.int c]) false []=w0 at *;have q2:=pl ⟨"Mends",zap "size" false (.tup [.int r,.int c]) []⟩ w0 "ways" (.ref (S.length+1)) rfl (by show (zap _ _ _ _).length<1000;omega);have q3:=pl ⟨"Mends",zap "ways" false (.ref (S.length+1)) (zap "size" false (.tup [.int r,.int c]) [])⟩ w0 "laid" (.lst ((zac r c g).map oD)) rfl (by show (zap _ _ _ _).length<1000;omega);have q4:=pl ⟨"Mends",zap "laid" false (.lst ((zac r c g).map oD)) (zap "ways" false (.ref (S.length+1)) (zap "size" false (.tup [.int r,.int c]) []))⟩ w0 "weights" (.lst ((weL r c w).map D.int)) rfl (by show (zap _ _ _ _).length<1000;omega);have q5:=zmA (c:="Mends") (x:="known") (i:=0) (ρ:=[some (false,.ref S.length),some (false,T),some (false,flr r c g),some (false,flr r c fun i j=>some (w i j))]) (S:=S++[⟨"Mends",zap "weights" false (.lst ((weL r c w).map D.int)) (zap "laid" false (.lst ((zac r c g).map oD)) (zap "ways" false (.ref (S.length+1)) (zap "size" false (.tup [.int r,.int c]) [])))⟩,w0]) (n:=S.length) rfl zi9 rfl (by show (zap _ _ _ _).length<1000;omega);rw [zkF] at q5
 have fin:(⟨"Mends",zap "weights" false (.lst ((weL r c w).map D.int)) (zap "laid" false (.lst ((zac r c g).map oD)) (zap "ways" false (.ref (S.length+1)) (zap "size" false (.tup [.int r,.int c]) [])))⟩:Ob).put "known" true (.dic [])=mOb (.tup [.int r,.int c]) (S.length+1) (.lst ((zac r c g).map oD)) (.lst ((weL r c w).map D.int)) []:=by rfl
 rw [fin] at q5;clear n0 n1 n2 n3 n4 pl fin;unfold Ob.put at q2 q3 q4;dsimp only at q2 q3 q4;generalize mOb (.tup [.int r,.int c]) (S.length+1) (.lst ((zac r c g).map oD)) (.lst ((weL r c w).map D.int)) []=mo at *;generalize zap "weights" false (.lst ((weL r c w).map D.int)) (zap "laid" false (.lst ((zac r c g).map oD)) (zap "ways" false (.ref (S.length+1)) (zap "size" false (.tup [.int r,.int c]) [])))=f4 at *;generalize zap "laid" false (.lst ((zac r c g).map oD)) (zap "ways" false (.ref (S.length+1)) (zap "size" false (.tup [.int r,.int c]) []))=f3 at *;generalize zap "ways" false (.ref (S.length+1)) (zap "size" false (.tup [.int r,.int c]) [])=f2 at *;generalize zap "size" false (.tup [.int r,.int c]) []=f1 at *;generalize (zac r c g).map oD=gl at *;generalize (weL r c w).map D.int=wl at *;generalize (flr r c fun _ _=>none)=fe at *;generalize (flr r c fun i j=>some (w i j))=fw at *;generalize flr r c g=fg at *;simp [za4,zas,zb4,e1,e2,e3,e4,e5,l1,l2,ew,fs,q1,q2,q3,q4,q5]
end S2
namespace S2
open PySem
open L2 hiding D
noncomputable def zb0(ts:Z2)(r c:Nat)(g:Z1)(w:Nat->Nat->Int):Option (Int×Int):=lfS ts (zac r c fun _ _=>none) (zac r c g) (weL r c w) c (r*c) 0 (List.replicate (c+2) none)
def zdP{S:Sto}{n nw:Nat}{ts:Z2}{gr la:Z4}{we:List Int}{r c:Nat}(A:MAt S n nw ts gr la we r c [])(hla:la.length=gr.length)(hwe:we.length=gr.length)(ht:TOk ts)(h1:1<=ts.length)(hg:∀o∈gr,∀x,o=some x->0<=x/\x<ts.length)(hc:1<=c)(hc2:c<=100)(hm:gr.length<=19)(hp:ts.length ^ gr.length<=1000000)(hq:zaK ts.length gr.length<=1000000) :
  ∃ds',zaT [.ref n] S=.ok (lfD (lfS ts gr la we c gr.length 0 (List.replicate (c+2) none))) (S.set n (mOb (.tup [.int r,.int c]) nw (.lst (la.map oD)) (.lst (we.map D.int)) ds'))/\zfA ts gr la we c ds'/\ds'.length<=zaK ts.length gr.length:=by
 have C:=zi5 (n:=n) (nw:=nw) (r:=r) hla hwe ht h1 hg hc hc2 gr.length (60-(3*gr.length+1)) hp;rw [show 3*gr.length+1+(60-(3*gr.length+1))=60 by omega] at C;obtain ⟨ds',e,M,z,_⟩:=C.run S [] 0 (List.replicate (c+2) none) A (fun k s d h=>by cases h) (by omega) (yaD ..) (by simpa using hq);refine ⟨ds',?_,M,by simpa using z⟩;have e':zay [.ref n,.int 0,zaw (List.replicate (c+2) none)] S=_:=e;obtain ⟨dw,W⟩:=A.wat;have e2:=zdv W hc2;have m1:=A.meth "least_from" (by decide +kernel);have m2:=W.meth "first_seam" (by decide +kernel);have fw:=A.ways;generalize mOb (.tup [.int r,.int c]) nw (.lst (la.map oD)) (.lst (we.map D.int)) ds'=ob at *;generalize lfD (lfS ts gr la we c gr.length 0 (List.replicate (c+2) none))=vv at *;generalize zaw (List.replicate (c+2) none)=sd at *;simp [zaT,zas,zbP,m1,m2,fw,e2,e']
def zkl{r c:Nat}{w:Nat->Nat->Int}:(weL r c w).length=r*c:=by
 have:=congrArg List.length (zgP (r:=r) (c:=c) (w:=w));rw [yae,zaG,yae] at this;exact this.symm
def zfa{ts:Z2}:InT ts fun _ _=>none:=fun i j x h=>by cases h
def zcK{r c:Nat}{g h:Z1}{S:Sto}(h1:1<=r)(hr:r<=100):zau [flr r c g,flr r c h] S=.ok .non S:=by
 have e:=zgj (r:=r) (c:=c) (r':=r) (c':=c) (g:=g) (h:=h) (S:=S) h1 (by omega);rw [yaB ⟨rfl,rfl⟩] at e;generalize flr r c g=fg at *;generalize flr r c h=fh at *;simp [zau,zas,zbd,e]
def zfD{ts:Z2}{r c:Nat}{g:Z1}{w:Nat->Nat->Int}(P:FP ts r c)(S:Sto) :
  ∃S',zbu [.tup (ts.map zad),flr r c g,flr r c fun i j=>some (w i j)] S=.ok (lfD (zb0 ts r c g w)) S':=by
 obtain ⟨b1,b2⟩:=zgp ts.length (r*c) P.h4;have r6:=P.r6;have c6:=P.c6;have rc:=P.rc;have e0:=zcK (g:=g) (h:=fun i j=>some (w i j)) (S:=S) (c:=c) P.r1 (show r<=100 by omega);have e1:=zg5 (T:=.tup (ts.map zad)) (S:=S) (g:=g) (w:=w) P.r1 (show r<=100 by omega) P.c1 (show c<=100 by omega);have A:MAt (S++[mOb (.tup [.int r,.int c]) (S.length+1) (.lst ((zac r c g).map oD)) (.lst ((weL r c w).map D.int)) [],wOb (.tup (ts.map zad)) (.lst ((zac r c fun _ _=>none).map oD)) (.tup [.int r,.int c]) false []]) S.length (S.length+1) ts (zac r c fun _ _=>none) (zac r c g) (weL r c w) r c []:=⟨zi9,⟨[],⟨by rw [yaq (by omega),show S.length+1-S.length=1 by omega];rfl⟩⟩,by omega⟩;have gl:∀h:Nat->Nat->Option Int,(zac r c h).length=r*c:=fun h=>zaG
 obtain ⟨ds',e2,_⟩:=zdP A (by rw [gl,gl]) (by rw [gl,zkl]) P.ht P.h1 (zc8 zfa) P.c1 (by omega) (by rw [gl];omega) (by rw [gl];omega) (by rw [gl];exact b1);rw [gl] at e2;have m:=A.meth "least_all" (by decide +kernel);obtain ⟨S',hS⟩:∃S',(S++[mOb (.tup [.int r,.int c]) (S.length+1) (.lst ((zac r c g).map oD)) (.lst ((weL r c w).map D.int)) [],wOb (.tup (ts.map zad)) (.lst ((zac r c fun _ _=>none).map oD)) (.tup [.int r,.int c]) false []]).set S.length (mOb (.tup [.int r,.int c]) (S.length+1) (.lst ((zac r c g).map oD)) (.lst ((weL r c w).map D.int)) ds')=S':=⟨_,rfl⟩;rw [hS] at e2;clear hS A;refine ⟨S',?_⟩;unfold zb0;generalize lfD (lfS ts (zac r c fun _ _=>none) (zac r c g) (weL r c w) c (r*c) 0 (List.replicate (c+2) none))=vv at *;generalize mOb (.tup [.int r,.int c]) (S.length+1) (.lst ((zac r c g).map oD)) (.lst ((weL r c w).map D.int)) []=ob at *;generalize wOb (.tup (ts.map zad)) (.lst ((zac r c fun _ _=>none).map oD)) (.tup [.int r,.int c]) false []=wo at *;generalize (flr r c fun i j=>some (w i j))=fw at *;generalize flr r c g=fg at *;simp [zbu,zas,zcw,e0,e1,m,e2]
end S2
namespace S2
open PySem
open L2 hiding D
noncomputable def zcH(ts:Z2)(gr la:Z4)(we:List Int)(c:Nat):Nat->Nat->List (Option Int)->Option (List Int)
 | 0,_,_=>some []
 | m+1,k,s=>(lfS ts gr la we c (m+1) k s).bind fun q=>(((zdj ts gr la we c m k (chs ts gr c false k s)).filter fun o=>decide (o.1=q.1))[0]?).bind fun o=>(zcH ts gr la we c m (k+1) o.2.2.2).map (o.2.2.1::·)
def zeS(ns:List Int)(h:ns≠[]):zeh ns∈ns:=by
 have hl:0<ns.length:=ycN.mpr h;have hb:zn3 ns<ns.length:=ycU (zmg _ _) (by omega);unfold zeh;rw [yad,yaa hb];exact ybp hb
def zhm{os:List Off}{q:Int×Int}(h:lbo os=some q):∃o,(os.filter fun o=>decide (o.1=q.1))[0]?=some o/\o∈os/\o.1=q.1:=by
 unfold lbo at h;split at h
 ·cases h
 ·rename_i hne;cases h;have hm:=zeS (os.map (·.1)) (by intro z;apply hne;rw [List.map_eq_nil_iff] at z;rw [z];rfl);obtain ⟨o,ho,e⟩:=yan.mp hm;have hf:o∈os.filter fun o=>decide (o.1=zeh (os.map (·.1))):=ya2.mpr ⟨ho,yaB e⟩
  cases hl:os.filter fun o=>decide (o.1=zeh (os.map (·.1))) with
  | nil=>rw [hl] at hf;exact (yaF hf).elim
  | cons a l =>
   have ha:a∈os.filter fun o=>decide (o.1=zeh (os.map (·.1))):=by rw [hl];exact yat
   obtain ⟨h1,h2⟩:=ya2.mp ha;exact ⟨a,rfl,h1,yau h2⟩
def ziY{ts:Z2}{gr la:Z4}{we:List Int}{c m k:Nat}{s:Z4}(hc:1<=c)(hs:s.length=c+2){o:Off}(h:o∈zdj ts gr la we c m k (chs ts gr c false k s)):o.2.2.2.length=c+2/\∃q,lfS ts gr la we c m (k+1) o.2.2.2=some q:=by
 obtain ⟨p,hp,e⟩:=ya4.mp h
 cases hf:lfS ts gr la we c m (k+1) p.2 with
 | none=>rw [hf] at e;cases e
 | some q =>
  rw [hf] at e;cases e;exact ⟨zjn hc hs p hp,q,hf⟩
end S2
namespace S2
open PySem
open L2 hiding D
section
variable{S:Sto}{n nw:Nat}{ts:Z2}{gr la:Z4}{we:List Int}{r c:Nat}
def zlp{m k:Nat}{s:Z4}{q:Int×Int}{o:Off}{ds:List (D×D)}{N:List D}{x4 x5:Option (Bool×D)}(hla:la.length=gr.length)(hwe:we.length=gr.length)(ht:TOk ts)(h1:1<=ts.length)(hg:∀o∈gr,∀x,o=some x->0<=x/\x<ts.length)(hc:1<=c)(hc2:c<=100)(hm:gr.length<=19)(hp:ts.length ^ gr.length<=1000000)(hk:k+1+m=gr.length)(hs:s.length=c+2)(A:MAt S n nw ts gr la we r c ds)(M:zfA ts gr la we c ds)
  (hq:lfS ts gr la we c (m+1) k s=some q) (ho:((zdj ts gr la we c m k (chs ts gr c false k s)).filter fun o=>decide (o.1=q.1))[0]?=some o) (hz:ds.length+(zaK ts.length (m+1)+ts.length*zaK ts.length m)<=1000000) (hN:N.length<=1000) :
  ∃ds' y4 y5,zaO [some (false,.ref n),some (true,.lst N),some (false,zaw s),some (false,.int k),x4,x5] S
   = .nx [some (false,.ref n),some (true,.lst (N++[.int o.2.2.1])),some (false,zaw o.2.2.2),some (false,.int k),y4,y5] (S.set n (mOb (.tup [.int r,.int c]) nw (.lst (la.map oD)) (.lst (we.map D.int)) ds'))/\zfA ts gr la we c ds'/\ds'.length<=ds.length+(zaK ts.length (m+1)+ts.length*zaK ts.length m):=by
 have pw:∀j,j<=gr.length->ts.length ^ j<=1000000:=fun j hj=>yah (ycE h1 hj) hp
 have C1:=zi5 (n:=n) (nw:=nw) (r:=r) hla hwe ht h1 hg hc hc2 (m+1) (60-(3*(m+1)+1)) (pw _ (by omega));rw [show 3*(m+1)+1+(60-(3*(m+1)+1))=60 by omega] at C1;obtain ⟨ds1,e1,M1,z1,_⟩:=C1.run S ds k s A M (by omega) hs (by omega);have C2:=zi5 (n:=n) (nw:=nw) (r:=r) hla hwe ht h1 hg hc hc2 m (59-(3*m+1)) (pw _ (by omega));rw [show 3*m+1+(59-(3*m+1))=59 by omega] at C2;have A1:=A.put ds1;obtain ⟨ds2,K⟩:=zfO (k:=k) (s:=s) C2 (by omega) hla hwe ht h1 hg hc hc2 hs A1 M1 (by omega);have e2:=K.eq;rw [ycg] at e2;have z2:=K.len
 have e1':zay [.ref n,.int k,zaw s] S=.ok (.tup [.int q.1,.int q.2]) (S.set n (mOb (.tup [.int r,.int c]) nw (.lst (la.map oD)) (.lst (we.map D.int)) ds1)):=by
  have:zay [.ref n,.int k,zaw s] S=_:=e1;rw [this,hq];rfl
 have e2':zbS [.ref n,.int k,zaw s] (S.set n (mOb (.tup [.int r,.int c]) nw (.lst (la.map oD)) (.lst (we.map D.int)) ds1))=_:=e2;have m1:=A.meth "least_from" (by decide +kernel);have m2:=A1.meth "offers" (by decide +kernel);refine ⟨ds2,some (false,.int q.1),some (false,zez o),?_,K.memo,by omega⟩
 have c1:zbn (.one 0) (zaf eqD (zaf ixD (zah 0) (zag (.int 0))) (zah 1)) (zae 0) [none,some (false,.int q.1)] ((zdj ts gr la we c m k (chs ts gr c false k s)).map zez) (S.set n (mOb (.tup [.int r,.int c]) nw (.lst (la.map oD)) (.lst (we.map D.int)) ds2))=.ok (((zdj ts gr la we c m k (chs ts gr c false k s)).filter fun o=>decide (o.1=q.1)).map zez) (S.set n (mOb (.tup [.int r,.int c]) nw (.lst (la.map oD)) (.lst (we.map D.int)) ds2)):=by
  rw [zdg (g:=id) (p:=isO q.1) (fun d hd=>by
   obtain ⟨o,_,rfl⟩:=yan.mp hd
   exact ⟨_,rfl,by simp [zez,isO],fun _=>rfl⟩),List.map_id,yco]
  rfl
 have l1:(((zdj ts gr la we c m k (chs ts gr c false k s)).filter fun o=>decide (o.1=q.1)).map zez).length<=100000:=by
  rw [yae];refine yah (ya0 _ _) (yah (ych _ _) (yah (zgH h1) (yah ht.le (by decide))))
 have i0:(((zdj ts gr la we c m k (chs ts gr c false k s)).filter fun o=>decide (o.1=q.1)).map zez)[0]?=some (zez o):=by rw [yak,ho];rfl
 have i2:ixD (zez o) (.int 2)=some (.int o.2.2.1):=rfl;have i3:ixD (zez o) (.int 3)=some (zaw o.2.2.2):=rfl
 have hNs:N.length<=100000:=by omega
 clear K e1 e2 C1 C2 A1;generalize ((zdj ts gr la we c m k (chs ts gr c false k s)).filter fun o=>decide (o.1=q.1)).map zez=fl at *;generalize (zdj ts gr la we c m k (chs ts gr c false k s)).map zez=ol at *;generalize mOb (.tup [.int r,.int c]) nw (.lst (la.map oD)) (.lst (we.map D.int)) ds1=ob1 at *;generalize mOb (.tup [.int r,.int c]) nw (.lst (la.map oD)) (.lst (we.map D.int)) ds2=ob2 at *;generalize zez o=oo at *;generalize zaw o.2.2.2=so at *;generalize zaw s=sd at *;simp [zaO,m1,e1',m2,e2',c1,l1,i0,i2,i3,hNs]
end
end S2
namespace S2
open PySem
open L2 hiding D
theorem zfR{ts:Z2}{gr la:Z4}{we:List Int}{c:Nat}(hc:1<=c):∀m k s q,s.length=c+2->lfS ts gr la we c m k s=some q->∃t,zcH ts gr la we c m k s=some t/\t.length=m
 | 0,_,_,_,_,_=>⟨[],rfl,rfl⟩
 | m+1,k,s,q,hs,h=>by
  obtain ⟨o,e,ho,_⟩:=zhm (show lbo (zdj ts gr la we c m k (chs ts gr c false k s))=some q from h);obtain ⟨h1,q',h2⟩:=ziY hc hs ho;obtain ⟨t,e2,hl⟩:=zfR hc m (k+1) o.2.2.2 q' h1 h2;refine ⟨o.2.2.1::t,?_,by rw [yai,hl]⟩;unfold zcH;rw [h];show (((zdj ts gr la we c m k (chs ts gr c false k s)).filter fun o=>decide (o.1=q.1))[0]?).bind (fun o=>(zcH ts gr la we c m (k+1) o.2.2.2).map (o.2.2.1::·))=_;rw [e];show (zcH ts gr la we c m (k+1) o.2.2.2).map (o.2.2.1::·)=_;rw [e2];rfl
section
variable{S:Sto}{n nw:Nat}{ts:Z2}{gr la:Z4}{we:List Int}{r c:Nat}
def ze2{q:Int×Int}{ds:List (D×D)}(hla:la.length=gr.length)(hwe:we.length=gr.length)(ht:TOk ts)(h1:1<=ts.length)(hg:∀o∈gr,∀x,o=some x->0<=x/\x<ts.length)(hc:1<=c)(hc2:c<=100)(hr:r<=100)(hrc:gr.length=r*c)(hm:gr.length<=19)(hp:ts.length ^ gr.length<=1000000)(A:MAt S n nw ts gr la we r c ds)(M:zfA ts gr la we c ds)(hq:lfS ts gr la we c gr.length 0 (List.replicate (c+2) none)=some q)
  (hz:ds.length+gr.length*(zaK ts.length gr.length+ts.length*zaK ts.length gr.length)<=1000000) :
  ∃t S',zcH ts gr la we c gr.length 0 (List.replicate (c+2) none)=some t/\zaZ [.ref n] S=.ok (flr r c (zat c t)) S':=by
 obtain ⟨dw,W⟩:=A.wat;have e1:=zdv W hc2;have mf:=W.meth "first_seam" (by decide +kernel);have fw:=A.ways;have fl:=A.laid
 obtain ⟨ρ',S',e2,t,s,ds',x3,x4,x5,rfl,rfl,M',z',hs,ht',hq',hpath⟩:=zlS (tg:=.one 3) (body:=zaO) (ds:=zax 0 (gr.length:Int)) (fun k ρ S'=>∃(t:List Int) (s:Z4) (ds':List (D×D)) (x3 x4 x5:Option (Bool×D)),ρ=[some (false,.ref n),some (true,.lst (t.map D.int)),some (false,zaw s),x3,x4,x5]/\S'=S.set n (mOb (.tup [.int r,.int c]) nw (.lst (la.map oD)) (.lst (we.map D.int)) ds')/\zfA ts gr la we c ds'/\ds'.length<=ds.length+k*(zaK ts.length gr.length+ts.length*zaK ts.length gr.length)/\s.length=c+2/\t.length=k/\(∃q',lfS ts gr la we c (gr.length-k) k s=some q')/\(zcH ts gr la we c (gr.length-k) k s).map (t++·)=zcH ts gr la we c gr.length 0 (List.replicate (c+2) none)) (by
  rintro k d ρ S' hd ⟨t,s,ds',x3,x4,x5,rfl,rfl,M',z',hs,ht',⟨q',hq'⟩,hpath⟩;obtain ⟨hk,rfl⟩:=zeM hd;obtain ⟨m,hmk⟩:∃m,gr.length-k=m+1:=⟨gr.length-k-1,by omega⟩;rw [hmk] at hq' hpath;obtain ⟨o,eo,hoo,_⟩:=zhm (show lbo (zdj ts gr la we c m k (chs ts gr c false k s))=some q' from hq');obtain ⟨hs2,hq2⟩:=ziY hc hs hoo;have b1:=zha h1 (show m+1<=gr.length by omega);have b2:ts.length*zaK ts.length m<=ts.length*zaK ts.length gr.length:=Nat.mul_le_mul_left _ (zha h1 (by omega));have hkz:(k+1)*(zaK ts.length gr.length+ts.length*zaK ts.length gr.length)<=gr.length*(zaK ts.length gr.length+ts.length*zaK ts.length gr.length):=yaW _ hk
  have hk1:(k+1)*(zaK ts.length gr.length+ts.length*zaK ts.length gr.length)=k*(zaK ts.length gr.length+ts.length*zaK ts.length gr.length)+(zaK ts.length gr.length+ts.length*zaK ts.length gr.length):=by rw [yc3,Nat.one_mul]
  obtain ⟨ds2,y4,y5,e3,M2,z2⟩:=zlp (N:=t.map D.int) (x4:=x4) (x5:=x5) hla hwe ht h1 hg hc hc2 hm hp (show k+1+m=gr.length by omega) hs (A.put ds') M' hq' eo (by omega) (by rw [yae];omega);rw [ycg] at e3;refine ⟨_,_,_,rfl,e3,t++[o.2.2.1],o.2.2.2,ds2,some (false,.int k),y4,y5,?_,rfl,M2,by omega,hs2,by rw [yao,ht'];rfl,by rw [show gr.length-(k+1)=m by omega];exact hq2,?_⟩
  ·rw [ybZ];rfl
  ·rw [<-hpath,show gr.length-(k+1)=m by omega];show _=Option.map (t++·) ((lfS ts gr la we c (m+1) k s).bind fun q=>(((zdj ts gr la we c m k (chs ts gr c false k s)).filter fun o=>decide (o.1=q.1))[0]?).bind fun o=>(zcH ts gr la we c m (k+1) o.2.2.2).map (o.2.2.1::·));rw [hq'];show _=Option.map (t++·) ((((zdj ts gr la we c m k (chs ts gr c false k s)).filter fun o=>decide (o.1=q'.1))[0]?).bind fun o=>(zcH ts gr la we c m (k+1) o.2.2.2).map (o.2.2.1::·));rw [eo];show _=Option.map (t++·) ((zcH ts gr la we c m (k+1) o.2.2.2).map (o.2.2.1::·))
   cases zcH ts gr la we c m (k+1) o.2.2.2 with
   | none=>rfl
   | some u=>simp)
  (ρ:=[some (false,.ref n),some (true,.lst []),some (false,zaw (List.replicate (c+2) none)),none,none,none]) (S:=S) ⟨[],List.replicate (c+2) none,ds,none,none,none,rfl,(zeL A.at_).symm,M,by omega,yaD ..,rfl,⟨q,hq⟩,by
   show Option.map (fun x=>[]++x) (zcH ts gr la we c gr.length 0 _)=_
   cases zcH ts gr la we c gr.length 0 (List.replicate (c+2) none)<;>rfl⟩
 have hL:(zax 0 (gr.length:Int)).length=gr.length:=by unfold zax;simp
 rw [hL] at ht' hpath;rw [ybq] at hpath
 have hpath':zcH ts gr la we c gr.length 0 (List.replicate (c+2) none)=some t:=by
  rw [<-hpath];show some (t++[])=some t;rw [yaY]
 refine ⟨t,S.set n (mOb (.tup [.int r,.int c]) nw (.lst (la.map oD)) (.lst (we.map D.int)) ds'),hpath',?_⟩
 have hgl:-1000000<=(la.length:Int)/\(la.length:Int)<=1000000:=by omega
 rw [<-hla] at e2;have fz:=(A.put ds').size;have er:=zh9 (t:=t) (r:=r) (c:=c) (S:=S.set n (mOb (.tup [.int r,.int c]) nw (.lst (la.map oD)) (.lst (we.map D.int)) ds')) (by omega) hc2 hr;generalize mOb (.tup [.int r,.int c]) nw (.lst (la.map oD)) (.lst (we.map D.int)) ds'=ob at *;generalize zaw (List.replicate (c+2) none)=sd at *;generalize flr r c (zat c t)=res at *;generalize t.map D.int=td at *;simp [zaZ,zas,zbs,fw,mf,e1,fl,hgl,e2,fz,er]
end
end S2
namespace S2
open PySem
open L2 hiding D
noncomputable def zfd(ts:Z2)(r c:Nat)(g:Z1)(w:Nat->Nat->Int):List Int:=(zcH ts (zac r c fun _ _=>none) (zac r c g) (weL r c w) c (r*c) 0 (List.replicate (c+2) none)).getD []
def zmW(q m:Nat)(h:zfz q m):zaK q m+m*(zaK q m+q*zaK q m)<=1000000:=h.1
def zjG{ts:Z2}{r c:Nat}{g:Z1}{w:Nat->Nat->Int}(P:FP ts r c)(S:Sto) :
  ∃S',zcL [.tup (ts.map zad),flr r c g,flr r c fun i j=>some (w i j)] S=(if (zb0 ts r c g w).isSome then .ok (flr r c (zat c (zfd ts r c g w))) S' else .exc "NoFill" S'):=by
 obtain ⟨b1,b2⟩:=zgp ts.length (r*c) P.h4;have b3:=zmW ts.length (r*c) P.h4;have r6:=P.r6;have c6:=P.c6;have rc:=P.rc;have e0:=zcK (g:=g) (h:=fun i j=>some (w i j)) (S:=S) (c:=c) P.r1 (show r<=100 by omega);have e1:=zg5 (T:=.tup (ts.map zad)) (S:=S) (g:=g) (w:=w) P.r1 (show r<=100 by omega) P.c1 (show c<=100 by omega);have A:MAt (S++[mOb (.tup [.int r,.int c]) (S.length+1) (.lst ((zac r c g).map oD)) (.lst ((weL r c w).map D.int)) [],wOb (.tup (ts.map zad)) (.lst ((zac r c fun _ _=>none).map oD)) (.tup [.int r,.int c]) false []]) S.length (S.length+1) ts (zac r c fun _ _=>none) (zac r c g) (weL r c w) r c []:=⟨zi9,⟨[],⟨by rw [yaq (by omega),show S.length+1-S.length=1 by omega];rfl⟩⟩,by omega⟩;have gl:∀h:Nat->Nat->Option Int,(zac r c h).length=r*c:=fun h=>zaG
 obtain ⟨ds',e2,M,z⟩:=zdP A (by rw [gl,gl]) (by rw [gl,zkl]) P.ht P.h1 (zc8 zfa) P.c1 (by omega) (by rw [gl];omega) (by rw [gl];omega) (by rw [gl];exact b1);rw [gl] at e2 z;have m1:=A.meth "least_all" (by decide +kernel);have A1:=A.put ds';have m2:=A1.meth "least_whole" (by decide +kernel)
 cases hq:zb0 ts r c g w with
 | none =>
  have hq':lfS ts (zac r c fun _ _=>none) (zac r c g) (weL r c w) c (r*c) 0 (List.replicate (c+2) none)=none:=hq;rw [hq'] at e2;refine ⟨(S++[mOb (.tup [.int r,.int c]) (S.length+1) (.lst ((zac r c g).map oD)) (.lst ((weL r c w).map D.int)) [],wOb (.tup (ts.map zad)) (.lst ((zac r c fun _ _=>none).map oD)) (.tup [.int r,.int c]) false []]).set S.length (mOb (.tup [.int r,.int c]) (S.length+1) (.lst ((zac r c g).map oD)) (.lst ((weL r c w).map D.int)) ds'),?_⟩;rw [if_neg (by decide)];have hl:lfD none=.non:=rfl;rw [hl] at e2;clear A A1 m2;generalize mOb (.tup [.int r,.int c]) (S.length+1) (.lst ((zac r c g).map oD)) (.lst ((weL r c w).map D.int)) ds'=ob1 at *;generalize mOb (.tup [.int r,.int c]) (S.length+1) (.lst ((zac r c g).map oD)) (.lst ((weL r c w).map D.int)) []=ob at *;generalize wOb (.tup (ts.map zad)) (.lst ((zac r c fun _ _=>none).map oD)) (.tup [.int r,.int c]) false []=wo at *;generalize (flr r c fun i j=>some (w i j))=fw at *;generalize flr r c g=fg at *;simp [zcL,zas,zdY,e0,e1,m1,e2]
 | some q =>
  have hq':lfS ts (zac r c fun _ _=>none) (zac r c g) (weL r c w) c (r*c) 0 (List.replicate (c+2) none)=some q:=hq;obtain ⟨t,S3,et,e3⟩:=ze2 (q:=q) (by rw [gl,gl]) (by rw [gl,zkl]) P.ht P.h1 (zc8 zfa) P.c1 (by omega) (by omega) (gl _) (by rw [gl];omega) (by rw [gl];omega) A1 M (by rw [gl];exact hq') (by rw [gl];omega);rw [gl] at et
  have hm:zfd ts r c g w=t:=by unfold zfd;rw [et];rfl
  rw [hm];rw [hq'] at e2;refine ⟨S3,?_⟩;rw [if_pos (show (some q).isSome=true from rfl)];have hl:lfD (some q)=.tup [.int q.1,.int q.2]:=rfl;rw [hl] at e2;clear A A1;rw [zkF] at e2 m2 e3;generalize mOb (.tup [.int r,.int c]) (S.length+1) (.lst ((zac r c g).map oD)) (.lst ((weL r c w).map D.int)) ds'=ob1 at *;generalize mOb (.tup [.int r,.int c]) (S.length+1) (.lst ((zac r c g).map oD)) (.lst ((weL r c w).map D.int)) []=ob at *;generalize wOb (.tup (ts.map zad)) (.lst ((zac r c fun _ _=>none).map oD)) (.tup [.int r,.int c]) false []=wo at *;generalize flr r c (zat c t)=res at *;generalize (flr r c fun i j=>some (w i j))=fw at *;generalize flr r c g=fg at *;simp [zcL,zas,zdY,e0,e1,m1,e2,m2,e3]
end S2
namespace S2
open PySem
open L2 hiding D
noncomputable def agN(gr:Z4)(k:Nat)(t:List Int):Bool:=(List.range k).all fun i=>okO (gr.getD i none) (t.getD i 0)
def zn4{gr:Z4}{k:Nat}{t:List Int}:agN gr (k+1) t=(agN gr k t&&okO (gr.getD k none) (t.getD k 0)):=by
 unfold agN;rw [ybm,List.all_append];simp
def zqI{gr:Z4}{k:Nat}{t u:List Int}(h:k<=t.length):agN gr k (t++u)=agN gr k t:=by
 unfold agN;rw [ybN,ybe,ybe]
 have e:∀i∈List.range k,(t++u).getD i 0=t.getD i 0:=fun i hi=>by
  have:=yaE.mp hi;rw [yad,yad,yaz (by omega)]
 constructor
 ·intro z i hi;have:=z i hi;rwa [e i hi] at this
 ·intro z i hi;rw [e i hi];exact z i hi
theorem zeC{ts:Z2}{gr:Z4}{c:Nat}:∀k,zaE ts gr c k=(zaE ts [] c k).filter (agN gr k)
 | 0=>rfl
 | k+1=>by
  show (zaE ts gr c k).flatMap _=((zaE ts [] c k).flatMap _).filter _;rw [zeC k];have hl:∀t∈zaE ts [] c k,t.length=k:=fun t ht=>((zc9 k).mem t ht).1
  generalize zaE ts [] c k=F at hl;have hn:([]:Z4).getD k none=none:=rfl;rw [hn]
  induction F with
  | nil=>rfl
  | cons t F ih =>
   have ih':=ih fun u hu=>hl u (yap _ hu)
   have ht:=hl t yat;rw [yaL,List.filter_append,<-ih',ycc]
   have key:(zca ts c none t).filter (agN gr (k+1))=if agN gr k t then zca ts c (gr.getD k none) t else []:=by
    unfold zca;rw [yco]
    have ef:(agN gr (k+1)∘fun x=>t++[x])=fun x=>agN gr k t&&okO (gr.getD k none) x:=by
     funext x;show agN gr (k+1) (t++[x])=_;rw [zn4,zqI (by omega)]
     have:(t++[x]).getD k 0=x:=by rw [yad,yaq (by omega),ht];simp
     rw [this]
    rw [ef,List.filter_filter]
    cases ha:agN gr k t with
    | true =>
     simp only [Bool.true_and,yb7];rfl
    | false =>
     have:∀l:List Int,l.filter (fun a=>(false&&okO (gr.getD k none) a)&&(okO none a&&zhV ts c t a))=[]:=by
      intro l;rw [List.filter_eq_nil_iff];intro a _;simp
     rw [this];rfl
   rw [key]
   cases agN gr k t with
   | true=>simp only [yb7,yaL]
   | false=>simp
noncomputable def zxB(ts:Z2)(r c:Nat):List (List Int):=zaE ts [] c (r*c)
noncomputable def agG(r c:Nat)(g:Z1)(t:List Int):Bool:=agN (zac r c g) (r*c) t
def zdX{ts:Z2}{r c:Nat}{g:Z1}:zeD ts r c g=(zxB ts r c).filter (agG r c g):=zeC _
def zdS{r c:Nat}(hc:1<=c):∀{k:Nat},k<r*c->(zbC r c)[k]?=some (k / c,k % c):=by
 induction r with
 | zero=>intro k h;omega
 | succ r ih =>
  intro k h
  have hl:(zbC r c).length=r*c:=by
   have:=zaG (r:=r) (c:=c) (g:=fun _ _=>none);rwa [zcv,yae] at this
  have e:zbC (r+1) c=zbC r c++(List.range c).map fun j=>(r,j):=by
   unfold zbC;rw [ybm,List.flatMap_append];simp
  rw [e]
  by_cases z:k<r*c
  ·rw [yaz (by omega)];exact ih z
  ·rw [yaq (by omega),hl,yak]
   have h2:k<r*c+c:=by rwa [ybX] at h
   rw [ycd (by omega)]
   have hd:k / c=r:=by
    rw [Nat.div_eq_iff (by omega)];have:r*c=c*r:=ybo _ _
    constructor<;>first | omega | (rw [ybo];omega) | skip
    all_goals omega
   have hm:k % c=k-r*c:=by
    have:=yb1 k c;rw [hd] at this;rw [ybo] at this;omega
   rw [hd,hm];rfl
def zel{r c k:Nat}{g:Z1}(hc:1<=c)(h:k<r*c):(zac r c g).getD k none=g (k / c) (k % c):=by
 rw [zcv,yad,yak,zdS hc h];rfl
def ziv{r c k:Nat}(hc:1<=c)(h:k<r*c):k / c<r:=Nat.div_lt_of_lt_mul (by rw [ybo];exact h)
def zlN{r c i j:Nat}(hi:i<r)(hj:j<c):i*c+j<r*c:=by
 have:=yaW c (show i+1<=r by omega);rw [ybX] at this;omega
def zlO{c i j:Nat}(hj:j<c):(i*c+j) / c=i/\(i*c+j) % c=j:=by
 have hc:0<c:=by omega
 constructor
 ·rw [ybo,Nat.mul_add_div hc,Nat.div_eq_of_lt hj,Nat.add_zero]
 ·rw [ybo,Nat.mul_add_mod,Nat.mod_eq_of_lt hj]
def zqJ{r c:Nat}{g:Z1}{t:List Int}(hc:1<=c):agG r c g t=true↔∀i j,i<r->j<c->okO (g i j) (t.getD (i*c+j) 0)=true:=by
 unfold agG agN;rw [ybe];constructor
 ·intro h i j hi hj;have:=h (i*c+j) (yaE.mpr (zlN hi hj));rwa [zel hc (zlN hi hj),(zlO hj).1,(zlO hj).2] at this
 ·intro h k hk;have hk:=yaE.mp hk;rw [zel hc hk];have:=h (k / c) (k % c) (ziv hc hk) (Nat.mod_lt _ hc);rwa [ybo,yb1] at this
def zle{o:Option Int}{x:Int}:okO o x=true↔o=none\/o=some x:=by
 cases o with
 | none=>simp [okO]
 | some y=>simp [okO]
structure RtL(ts:Z2)(c k:Nat)(t:List Int):Prop where
 len:t.length=k
 inr:InR ts t
 fit:∀i,i<k->zhV ts c (t.take i) (t.getD i 0)=true
def zfV{ts:Z2}{x:Int}:x∈zbK ts↔0<=x/\x<ts.length:=by
 unfold zbK;rw [yan];constructor
 ·rintro ⟨i,hi,rfl⟩;have:=yaE.mp hi;omega
 ·intro h;exact ⟨x.toNat,yaE.mpr (by omega),by omega⟩
theorem zfe{ts:Z2}{c:Nat}:∀{k:Nat} {t:List Int},t∈zaE ts [] c k↔RtL ts c k t
 | 0,t=>by
  constructor
  ·intro h;rw [yaO.mp h];exact ⟨rfl,fun x hx=>(yaF hx).elim,fun i hi=>by omega⟩
  ·intro h;rw [ya3 h.len];exact yaO.mpr rfl
 | k+1,t=>by
  show t∈(zaE ts [] c k).flatMap _↔_;rw [ybg];constructor
  ·rintro ⟨u,hu,ht⟩;have R:=zfe.mp hu;unfold zca at ht;obtain ⟨x,hx,rfl⟩:=yan.mp ht;obtain ⟨h1,h2⟩:=ya2.mp hx;rw [yab] at h2;have hx:=zfV.mp h1;refine ⟨by rw [yao,R.len];rfl,fun y hy=>?_,fun i hi=>?_⟩
   ·rcases ybL.mp hy with hy | hy
    ·exact R.inr y hy
    ·rw [yaO.mp hy];exact hx
   ·by_cases z:i<k
    ·have e1:(u++[x]).take i=u.take i:=List.take_append_of_le_length (by rw [R.len];omega)
     have e2:(u++[x]).getD i 0=u.getD i 0:=by
      rw [yad,yad,yaz (by rw [R.len];exact z)]
     rw [e1,e2];exact R.fit i z
    ·have hi':i=u.length:=by rw [R.len];omega
     subst hi'
     have e1:(u++[x]).take u.length=u:=by simp
     have e2:(u++[x]).getD u.length 0=x:=by
      rw [yad,yaq (yam _)];simp
     rw [e1,e2];exact h2.2
  ·intro R
   have hk:k<t.length:=by rw [R.len];omega
   have e:t=t.take k++[t.getD k 0]:=by
    have h1:t.getD k 0=t[k]:=by rw [yad,yaa hk];rfl
    rw [h1,List.take_append_getElem hk,ybC (by rw [R.len];omega)]
   refine ⟨t.take k,zfe.mpr ⟨by rw [ybu,R.len];omega,fun x hx=>R.inr x (List.mem_of_mem_take hx),fun i hi=>?_⟩,?_⟩
   ·have h1:(t.take k).take i=t.take i:=by rw [List.take_take,ybB (by omega)]
    have h2:(t.take k).getD i 0=t.getD i 0:=by
     rw [yad,yad,ybM hi]
    rw [h1,h2];exact R.fit i (by omega)
   ·have:t.take k++[t.getD k 0]∈zca ts c none (t.take k):=by
     unfold zca;refine yan.mpr ⟨t.getD k 0,ya2.mpr ⟨zfV.mpr ?_,?_⟩,rfl⟩
     ·have h1:t.getD k 0=t[k]:=by rw [yad,yaa hk];rfl
      rw [h1];exact R.inr _ (ybp hk)
     ·rw [R.fit k (by omega)];rfl
    rwa [<-e] at this
theorem zfb{ts:Z2}{c:Nat}:∀{k:Nat},(zaE ts [] c k).Nodup
 | 0=>by simp [zaE]
 | k+1=>by
  show ((zaE ts [] c k).flatMap _).Nodup;have hl:∀t∈zaE ts [] c k,t.length=k:=fun t ht=>((zc9 k).mem t ht).1
  have hn:=zfb (ts:=ts) (c:=c) (k:=k);generalize zaE ts [] c k=F at hl hn
  have hN:(zbK ts).Nodup:=by
   unfold zbK;rw [ya1,List.pairwise_map];refine List.Pairwise.imp ?_ List.nodup_range;intro a b h;omega
  induction F with
  | nil=>simp
  | cons t F ih =>
   rw [ybs] at hn;rw [yaL,List.nodup_append];refine ⟨?_,ih (fun u hu=>hl u (yap _ hu)) hn.2,?_⟩
   ·unfold zca;rw [ya1,List.pairwise_map];refine List.Pairwise.imp ?_ (List.Pairwise.filter _ (ya1.mp hN));intro a b h z;have:=List.append_cancel_left z;simp at this;exact h this
   ·intro a ha b hb e;subst e;unfold zca at ha;obtain ⟨x,_,rfl⟩:=yan.mp ha;obtain ⟨u,hu,hb⟩:=ybg.mp hb;unfold zca at hb;obtain ⟨y,_,e⟩:=yan.mp hb;have:=List.append_inj_left' e rfl;subst this;exact hn.1 hu
def zmn{ts:Z2}{r c:Nat}:(zxB ts r c).Nodup:=zfb
def zhC{ts:Z2}{r c:Nat}{g:Z1}:(zeD ts r c g).Nodup:=by
 rw [zdX,ya1];exact List.Pairwise.filter _ (ya1.mp zmn)
def zjO{ts:Z2}{r c:Nat}{g:Z1}{t:List Int}:t∈zeD ts r c g↔RtL ts c (r*c) t/\agG r c g t=true:=by
 rw [zdX,ya2];show t∈zaE ts [] c (r*c)/\_↔_;rw [zfe]
structure RtG(ts:Z2)(r c:Nat)(G:Nat->Nat->Int):Prop where
 inr:∀i j,i<r->j<c->0<=G i j/\G i j<ts.length
 east:∀i j,i<r->j+1<c->zaB ts (G i j) 1=zaB ts (G i (j+1)) 3
 south:∀i j,i+1<r->j<c->zaB ts (G i j) 2=zaB ts (G (i+1) j) 0
noncomputable def tnG(c:Nat)(t:List Int)(i j:Nat):Int:=t.getD (i*c+j) 0
noncomputable def lsG(r c:Nat)(G:Nat->Nat->Int):List Int:=(zbC r c).map fun p=>G p.1 p.2
def zhj{r c:Nat}:(zbC r c).length=r*c:=by
 have:=zaG (r:=r) (c:=c) (g:=fun _ _=>none);rwa [zcv,yae] at this
def zlt{r c:Nat}{G:Nat->Nat->Int}:(lsG r c G).length=r*c:=by unfold lsG;rw [yae,zhj]
def zpT{r c k:Nat}{G:Nat->Nat->Int}(hc:1<=c)(h:k<r*c):(lsG r c G).getD k 0=G (k / c) (k % c):=by
 unfold lsG;rw [yad,yak,zdS hc h];rfl
def zls{r c:Nat}{t:List Int}(hc:1<=c)(hl:t.length=r*c):lsG r c (tnG c t)=t:=by
 apply ybr;intro k
 by_cases h:k<r*c
 ·have e1:(lsG r c (tnG c t))[k]?=some ((lsG r c (tnG c t)).getD k 0):=by
   rw [yad,yaa (by rw [zlt];exact h)];rfl
  have e2:t[k]?=some (t.getD k 0):=by
   rw [yad,yaa (by omega)];rfl
  rw [e1,e2,zpT hc h];unfold tnG;rw [ybo,yb1]
 ·rw [yaN (by rw [zlt];omega),yaN (by omega)]
def zlu{r c:Nat}{G G':Nat->Nat->Int}(h:∀i j,i<r->j<c->G i j=G' i j):lsG r c G=lsG r c G':=by
 unfold lsG;apply yaI;intro p hp;obtain ⟨h1,h2⟩:=zhi hp;exact h _ _ h1 h2
def zks{t:List Int}{i j:Nat}(h:j<i):(t.take i).getD j 0=t.getD j 0:=by
 rw [yad,yad,ybM h]
def zkr{t:List Int}{i:Nat}(h:i<t.length)(h0:0<i):(t.take i).getLastD 0=t.getD (i-1) 0:=by
 rw [ybK,ycb,ybu,ybB (by omega),ybM (by omega),yad]
def zjg{ts:Z2}{r c i j:Nat}{t:List Int}(hc:1<=c)(hl:t.length=r*c)(hi:i<r)(hj:j<c):zhV ts c (t.take (i*c+j)) (t.getD (i*c+j) 0)=true↔((0<j->zaB ts (tnG c t i (j-1)) 1=zaB ts (tnG c t i j) 3)/\(0<i->zaB ts (tnG c t (i-1) j) 2=zaB ts (tnG c t i j) 0)):=by
 have hk:=zlN hi hj
 have e1:(t.take (i*c+j)).length=i*c+j:=by rw [ybu];omega
 unfold zhV;rw [ycY,e1,(zlO hj).2]
 have a:0<j->(t.take (i*c+j)).getLastD 0=tnG c t i (j-1):=fun h=>by
  rw [zkr (by omega) (by omega)];unfold tnG;congr 1;omega
 have hmul:0<i->(i-1)*c+c=i*c:=fun h=>by
  have:i=(i-1)+1:=by omega
  conv=>rhs;rw [this,ybX]
 have b:0<i->(t.take (i*c+j)).getD (i*c+j-c) 0=tnG c t (i-1) j:=fun h=>by
  have:=hmul h;rw [zks (by omega)];unfold tnG;congr 1;omega
 have cc:c<=i*c+j↔0<i:=by
  constructor
  ·intro h
   rcases Nat.eq_zero_or_pos i with z | z
   ·subst z;omega
   ·exact z
  ·intro h;have:=hmul h;omega
 rw [cc];constructor
 ·rintro ⟨x,y⟩;exact ⟨fun h=>by rw [<-a h];exact x h,fun h=>by rw [<-b h];exact y h⟩
 ·rintro ⟨x,y⟩;exact ⟨fun h=>by rw [a h];exact x h,fun h=>by rw [b h];exact y h⟩
def zpm{ts:Z2}{r c:Nat}{t:List Int}(hc:1<=c):RtL ts c (r*c) t↔t.length=r*c/\RtG ts r c (tnG c t):=by
 constructor
 ·intro R;have key:∀i j,i<r->j<c->_:=fun i j hi hj=>(zjg hc R.len hi hj).mp (R.fit _ (zlN hi hj))
  refine ⟨R.len,⟨fun i j hi hj=>?_,fun i j hi hj=>?_,fun i j hi hj=>?_⟩⟩
  ·have hk:=zlN hi hj
   have e:tnG c t i j=t[i*c+j]'(by rw [R.len];exact hk):=by
    unfold tnG;rw [yad,yaa (by rw [R.len];exact hk)];rfl
   rw [e];exact R.inr _ (ybp _)
  ·exact (key i (j+1) hi hj).1 (by omega)
  ·exact (key (i+1) j hi hj).2 (by omega)
 ·rintro ⟨hl,G⟩;refine ⟨hl,fun x hx=>?_,fun k hk=>?_⟩
  ·obtain ⟨k,hk,rfl⟩:=ycC.mp hx
   have hk':k<r*c:=by omega
   have:=G.inr (k / c) (k % c) (ziv hc hk') (Nat.mod_lt _ hc);unfold tnG at this;rwa [ybo,yb1,yad,yaa hk] at this
  ·have hi:=ziv hc hk;have hj:=Nat.mod_lt k hc;have:=(zjg (ts:=ts) hc hl hi hj).mpr ⟨fun h=>by have:=G.east (k / c) (k % c-1) hi (by omega);rw [show k % c-1+1=k % c by omega] at this;exact this,fun h=>by have:=G.south (k / c-1) (k % c) (by omega) hj;rwa [show k / c-1+1=k / c by omega] at this⟩;rwa [ybo,yb1] at this
def zfW{ts:Z2}{r c:Nat}{g:Z1}{t:List Int}(hc:1<=c):t∈zeD ts r c g↔t.length=r*c/\RtG ts r c (tnG c t)/\∀i j,i<r->j<c->g i j=none\/g i j=some (tnG c t i j):=by
 rw [zjO,zpm hc,zqJ hc,and_assoc];constructor
 ·rintro ⟨a,b,h⟩;exact ⟨a,b,fun i j hi hj=>zle.mp (h i j hi hj)⟩
 ·rintro ⟨a,b,h⟩;exact ⟨a,b,fun i j hi hj=>zle.mpr (h i j hi hj)⟩
end S2
namespace S2
open PySem
open L2 hiding D
section
variable{ts:Z2}{r c:Nat}{g h:Z1}
def ztg{a b:Int}:eqD (.int a) (.int b)=some (.bl (decide (a=b))):=by
 simp [eqD,zex,D.py,PyData.eqv];rfl
def zsE{a b:Int}:neD (.int a) (.int b)=some (.bl (!decide (a=b))):=by
 simp [neD,zex,D.py,PyData.eqv];rfl
end
end S2
namespace S2
open PySem
open L2 hiding D
def zpn{c:Nat}{f:Nat->Option Int}:(zc1 c f).pl=true:=by
 show D.pls (zce c f)=true;rw [D.pls_iff];intro d hd;obtain ⟨j,_,rfl⟩:=yan.mp hd
 cases f j<;>rfl
def zlW{r c:Nat}{g:Z1}:(flr r c g).pl=true:=by
 show D.pls (zbD r c g)=true;rw [D.pls_iff];intro d hd;obtain ⟨i,_,rfl⟩:=yan.mp hd;exact zpn
def zmU{c n:Nat}{f:Nat->Option Int}:(zc1 c f).fit (n+1)=true:=by
 show D.fits n (zce c f)=true;rw [D.fits_iff];intro d hd;obtain ⟨j,_,rfl⟩:=yan.mp hd
 cases f j<;>simp [oD]
def zjc{r c n:Nat}{g:Z1}:(flr r c g).fit (n+2)=true:=by
 show D.fits (n+1) (zbD r c g)=true;rw [D.fits_iff];intro d hd;obtain ⟨i,_,rfl⟩:=yan.mp hd;exact zmU
def znR{α:Type}{l:List α}{n:Nat}:zgG l none (some (n:Int))=l.take n:=by
 unfold zgG;have h2:HT.sIx l.length 0 none=0:=rfl;rw [h2];simp only [HT.zeY,Nat.sub_zero,ycZ]
 by_cases h:n<=l.length
 ·rw [ybB h]
 ·rw [Nat.min_eq_right (by omega),ybC (yam _),ybC (by omega)]
section
variable{ts:Z2}{r c:Nat}{g h:Z1}
theorem zlg{α:Type}{t:α}:∀{l:List α},l.Nodup->t∈l->(∀u∈l,u=t)->l=[t]
 | [],_,h,_=>(yaF h).elim
 | [u],_,_,h=>by rw [h u yat]
 | u::v::l,n,_,h=>by
  have h1:=h u yat;have h2:=h v (yap _ yat);rw [ybs] at n;exact absurd (by rw [h1,<-h2];exact yat) n.1
def zeQ{t:List Int}(hc:1<=c)(ht:t∈zeD ts r c g):t.length=r*c:=((zfW hc).mp ht).1
def zrd{t u:List Int}(hc:1<=c)(ht:t.length=r*c)(hu:u.length=r*c)(h:∀i j,i<r->j<c->tnG c t i j=tnG c u i j):t=u:=by
 rw [<-zls hc ht,<-zls hc hu];exact zlu h
end
end S2
namespace S2
open PySem
open L2 hiding D
def zlm{ns:List Int}{x:Int}(h:x∈ns):zeh ns<=x:=by
 obtain ⟨j,hj,e⟩:=ycC.mp h;have:=(argBest_lt (fun i=>ns.getD i 0) (ns.length-1)).2 j (by omega);rw [yad (l:=ns) (i:=j),yaa hj] at this;rw [<-e];exact this
noncomputable def zcq(l:List Int):Option (Int×Int):=if l.isEmpty then none else some (zeh l,((l.countP fun x=>decide (x=zeh l):Nat):Int))
def zeR{l:List Int}:zcq l=none↔l=[]:=by
 unfold zcq
 cases l with
 | nil=>simp
 | cons a l=>simp
def zcy{l:List Int}{m n:Int}:zcq l=some (m,n)↔m∈l/\(∀x∈l,m<=x)/\n=((l.countP fun x=>decide (x=m):Nat):Int):=by
 unfold zcq;constructor
 ·intro h;split at h
  ·cases h
  ·rename_i hne;have hne':l≠[]:=fun z=>hne (by rw [z];rfl)
   have h':=Option.some.inj h;have e1:zeh l=m:=congrArg Prod.fst h';have e2:=congrArg Prod.snd h';subst e1;exact ⟨zeS l hne',fun x hx=>zlm hx,e2.symm⟩
 ·rintro ⟨h1,h2,h3⟩;have hne:l≠[]:=List.ne_nil_of_mem h1;have:zeh l=m:=Int.le_antisymm (zlm h1) (h2 _ (zeS l hne))
  have he:l.isEmpty=false:=by cases l with | nil=>exact absurd rfl hne | cons _ _=>rfl
  rw [he,this,h3];rfl
noncomputable def lbP(ps:List (Int×Int)):Option (Int×Int):=if ps.isEmpty then none else some (zeh (ps.map (·.1)),((ps.filter fun o=>decide (o.1=zeh (ps.map (·.1)))).map (·.2)).sum)
def zu4(os:List Off):lbo os=lbP (os.map fun o=>(o.1,o.2.1)):=by
 unfold lbo lbP;rw [yaH,yco,yaH]
 cases os<;>rfl
theorem zf1{α:Type}{f:α->List Int}{m:Int}:∀{xs:List α},(∀x∈xs,∀y∈f x,m<=y)->((((xs.filterMap fun x=>zcq (f x)).filter fun o=>decide (o.1=m)).map (·.2)).sum)=(((xs.flatMap f).countP fun y=>decide (y=m):Nat):Int)
 | [],_=>rfl
 | x::xs,h=>by
  have ih:=zf1 (f:=f) (m:=m) (xs:=xs) fun y hy=>h y (yap _ hy)
  rw [yaL,List.countP_append,Int.natCast_add,<-ih,ybi]
  cases hb:zcq (f x) with
  | none =>
   rw [zeR.mp hb];simp
  | some q =>
   obtain ⟨q1,q2⟩:=q;obtain ⟨b1,b2,b3⟩:=zcy.mp hb;dsimp only;rw [ycc]
   by_cases e:q1=m
   ·subst e;simp only [decide_true,yb7,yaw,ybI];rw [b3]
   ·rw [yaX e]
    have hc:(f x).countP (fun y=>decide (y=m))=0:=by
     rw [List.countP_eq_zero];intro y hy hd;have:=yau hd;subst this;have h1:=b2 y hy;have h2:=h x yat q1 b1;omega
    rw [hc];simp
def zmh{α:Type}{f:α->List Int}{xs:List α}:lbP (xs.filterMap fun x=>zcq (f x))=zcq (xs.flatMap f):=by
 by_cases hne:xs.filterMap (fun x=>zcq (f x))=[]
 ·rw [hne]
  have:xs.flatMap f=[]:=by
   rw [List.flatMap_eq_nil_iff];intro x hx;rw [List.filterMap_eq_nil_iff] at hne;exact zeR.mp (hne x hx)
  rw [this];rfl
 ·have hm:=zeS ((xs.filterMap fun x=>zcq (f x)).map (·.1)) (fun z=>hne (List.map_eq_nil_iff.mp z))
  have hle:∀x∈xs,∀y∈f x,zeh ((xs.filterMap fun x=>zcq (f x)).map (·.1))<=y:=by
   intro x hx y hy
   cases hb:zcq (f x) with
   | none=>rw [zeR.mp hb] at hy;exact (yaF hy).elim
   | some q =>
    obtain ⟨q1,q2⟩:=q;have:q1∈(xs.filterMap fun x=>zcq (f x)).map (·.1):=yan.mpr ⟨(q1,q2),ya4.mpr ⟨x,hx,hb⟩,rfl⟩;exact Int.le_trans (zlm this) ((zcy.mp hb).2.1 y hy)
  have hc:=zf1 hle;unfold lbP
  have he:(xs.filterMap fun x=>zcq (f x)).isEmpty=false:=by cases h:xs.filterMap fun x=>zcq (f x) with | nil=>exact absurd h hne | cons _ _=>rfl
  rw [he,hc];symm;refine zcy.mpr ⟨?_,fun y hy=>?_,rfl⟩
  ·obtain ⟨q,hq,e⟩:=yan.mp hm;obtain ⟨x,hx,hb⟩:=ya4.mp hq;obtain ⟨q1,q2⟩:=q;rw [<-e];exact ybg.mpr ⟨x,hx,(zcy.mp hb).1⟩
  ·obtain ⟨x,hx,hy⟩:=ybg.mp hy;exact hle x hx y hy
def zke{l:List Int}{a:Int}:zcq (l.map (a+·))=(zcq l).map fun q=>(a+q.1,q.2):=by
 cases hb:zcq l with
 | none=>rw [zeR.mp hb];rfl
 | some q =>
  obtain ⟨q1,q2⟩:=q;obtain ⟨b1,b2,b3⟩:=zcy.mp hb;refine zcy.mpr ⟨yan.mpr ⟨q1,b1,rfl⟩,fun y hy=>?_,?_⟩
  ·obtain ⟨x,hx,rfl⟩:=yan.mp hy;have:=b2 x hx;show a+q1<=a+x;omega
  ·rw [List.countP_map];show q2=_;rw [b3];congr 2;funext x;show _=decide (a+x=a+q1);congr 1;exact propext ⟨fun z=>by omega,fun z=>by omega⟩
theorem zfZ{α β:Type}{f g:α->Option β}:∀{l:List α},(∀x∈l,f x=g x)->l.filterMap f=l.filterMap g
 | [],_=>rfl
 | x::l,h=>by rw [ybi,ybi,h x yat,zfZ fun y hy=>h y (yap _ hy)]
noncomputable def zer(la:Z4)(we:List Int):Nat->List Int->Int
 | _,[]=>0
 | k,x::u=>zaU (la.getD k none) (we.getD k 0) x+zer la we (k+1) u
section
variable{ts:Z2}{gr la:Z4}{we:List Int}{c:Nat}
def zoF(hc:1<=c)(hg:∀o∈gr,∀x,o=some x->0<=x/\x<ts.length){t:List Int}{s:Z4}(h:SeamOk ts gr.length c t s)(hk:t.length<gr.length):chs ts gr c false t.length s=(xsT ts c (gr.getD t.length none) t).map fun x=>(x,zhW ts gr.length c false t.length s x):=by
 have ho:∀x,gr.getD t.length none=some x->0<=x/\x<ts.length:=by
  rw [yad,yaa hk];exact hg _ (ybp hk)
 unfold chs xsT;rw [zjM ho];congr 2;funext x;exact znI h hc hk
theorem zlw(hc:1<=c)(hg:∀o∈gr,∀x,o=some x->0<=x/\x<ts.length):∀m t s,SeamOk ts gr.length c t s->t.length+m=gr.length->lfS ts gr la we c m t.length s=zcq ((zjB ts gr c m t).map (zer la we t.length))
 | 0,t,s,_,_=>by
  symm;exact zcy.mpr ⟨by simp [zjB,zer],fun x hx=>by simp [zjB,zer] at hx;omega,by simp [zjB,zer]⟩
 | m+1,t,s,h,hl=>by
  have hk:t.length<gr.length:=by omega
  show lbo ((chs ts gr c false t.length s).filterMap fun p=>(lfS ts gr la we c m (t.length+1) p.2).map fun q=>(zaU (la.getD t.length none) (we.getD t.length 0) p.1+q.1,q.2,p.1,p.2))=zcq (((xsT ts c (gr.getD t.length none) t).flatMap fun x=>(zjB ts gr c m (t++[x])).map (x::·)).map (zer la we t.length));rw [zu4,List.map_filterMap,zoF hc hg h hk,List.filterMap_map,ybG,<-zmh];congr 1;apply zfZ;intro x _;have ih:=zlw hc hg m (t++[x]) _ (h.next (x:=x) hc) (by rw [yao,yaQ];omega);rw [yao,yaQ] at ih;show ((lfS ts gr la we c m (t.length+1) (zhW ts gr.length c false t.length s x)).map _).map _=_;rw [ih]
  have e:((zjB ts gr c m (t++[x])).map (x::·)).map (zer la we t.length)=((zjB ts gr c m (t++[x])).map (zer la we (t.length+1))).map (zaU (la.getD t.length none) (we.getD t.length 0) x+·):=by
   rw [yaH,yaH];rfl
  rw [e,zke,Option.map_map];rfl
theorem zhh(hc:1<=c)(hg:∀o∈gr,∀x,o=some x->0<=x/\x<ts.length):∀m t s u,SeamOk ts gr.length c t s->t.length+m=gr.length->zcH ts gr la we c m t.length s=some u->u∈zjB ts gr c m t/\∃q,lfS ts gr la we c m t.length s=some q/\zer la we t.length u=q.1
 | 0,t,s,u,_,_,h=>by
  cases h;exact ⟨yaO.mpr rfl,(0,1),rfl,rfl⟩
 | m+1,t,s,u,h,hl,hp=>by
  have hk:t.length<gr.length:=by omega
  have hp':(lfS ts gr la we c (m+1) t.length s).bind (fun q=>(((zdj ts gr la we c m t.length (chs ts gr c false t.length s)).filter fun o=>decide (o.1=q.1))[0]?).bind fun o=>(zcH ts gr la we c m (t.length+1) o.2.2.2).map (o.2.2.1::·))=some u:=hp
  cases hq:lfS ts gr la we c (m+1) t.length s with
  | none=>rw [hq] at hp';cases hp'
  | some q =>
   rw [hq] at hp'
   cases ho:((zdj ts gr la we c m t.length (chs ts gr c false t.length s)).filter fun o=>decide (o.1=q.1))[0]? with
   | none =>
    have hp2:(((zdj ts gr la we c m t.length (chs ts gr c false t.length s)).filter fun o=>decide (o.1=q.1))[0]?).bind _=some u:=hp';rw [ho] at hp2;cases hp2
   | some o =>
    have hp2:(((zdj ts gr la we c m t.length (chs ts gr c false t.length s)).filter fun o=>decide (o.1=q.1))[0]?).bind _=some u:=hp';rw [ho] at hp2;have hp3:(zcH ts gr la we c m (t.length+1) o.2.2.2).map (o.2.2.1::·)=some u:=hp2;obtain ⟨hm,hd⟩:=ya2.mp (yb6 ho);have hd:=yau hd;obtain ⟨p,hpm,e⟩:=ya4.mp hm;rw [zoF hc hg h hk] at hpm;obtain ⟨x,hx,rfl⟩:=yan.mp hpm
    cases hl2:lfS ts gr la we c m (t.length+1) (zhW ts gr.length c false t.length s x) with
    | none=>dsimp only at e;rw [hl2] at e;cases e
    | some q' =>
     dsimp only at e;rw [hl2] at e;cases e
     cases hv:zcH ts gr la we c m (t.length+1) (zhW ts gr.length c false t.length s x) with
     | none=>dsimp only at hp3;rw [hv] at hp3;cases hp3
     | some v =>
      dsimp only at hp3;rw [hv] at hp3;cases hp3;have ih:=zhh hc hg m (t++[x]) _ v (h.next (x:=x) hc) (by rw [yao,yaQ];omega);rw [yao,yaQ] at ih;obtain ⟨i1,q2,i2,i3⟩:=ih hv;rw [hl2] at i2;cases i2;refine ⟨ybg.mpr ⟨x,hx,yan.mpr ⟨v,i1,rfl⟩⟩,q,rfl,?_⟩;show zaU (la.getD t.length none) (we.getD t.length 0) x+zer la we (t.length+1) v=q.1;rw [i3,<-hd]
end
noncomputable def zaV(r c:Nat)(g:Z1)(w:Nat->Nat->Int)(G:Nat->Nat->Int):Int:=((zbC r c).map fun p=>zaU (g p.1 p.2) (w p.1 p.2) (G p.1 p.2)).sum
theorem zhH{la:Z4}{we:List Int}:∀(u:List Int) (k:Nat),zer la we k u=((List.range u.length).map fun i=>zaU (la.getD (k+i) none) (we.getD (k+i) 0) (u.getD i 0)).sum
 | [],k=>rfl
 | x::u,k=>by
  show zaU _ _ x+zer la we (k+1) u=_;rw [zhH u (k+1),yai,List.range_succ_eq_map,yaw,ybI,yaH];congr 2;apply yaI;intro i _;show _=zaU (la.getD (k+(i+1)) none) (we.getD (k+(i+1)) 0) (u.getD i 0);rw [show k+1+i=k+(i+1) by omega]
def zih{r c:Nat}(hc:1<=c):zbC r c=(List.range (r*c)).map fun k=>(k / c,k % c):=by
 apply ybr;intro k
 by_cases h:k<r*c
 ·rw [zdS hc h,yak,ycd h];rfl
 ·rw [yaN (by rw [zhj];omega),yaN (by rw [yae,ybc];omega)]
def zqT{r c k:Nat}{w:Nat->Nat->Int}(hc:1<=c)(h:k<r*c):(weL r c w).getD k 0=w (k / c) (k % c):=by
 unfold weL;rw [yad,yak,zdS hc h];rfl
def zl4{r c:Nat}{g:Z1}{w:Nat->Nat->Int}{t:List Int}(hc:1<=c)(hl:t.length=r*c):zer (zac r c g) (weL r c w) 0 t=zaV r c g w (tnG c t):=by
 rw [zhH,hl];unfold zaV;rw [zih hc,yaH];congr 1;apply yaI;intro k hk;have hk:=yaE.mp hk;rw [Nat.zero_add,zel hc hk,zqT hc hk];show _=zaU (g (k / c) (k % c)) (w (k / c) (k % c)) (t.getD (k / c*c+k % c) 0);rw [ybo,yb1]
section
variable{ts:Z2}{r c:Nat}{g:Z1}{w:Nat->Nat->Int}
noncomputable abbrev rights(ts:Z2)(r c:Nat):List (List Int):=zeD ts r c fun _ _=>none
def zfX(hc:1<=c):zb0 ts r c g w=zcq ((rights ts r c).map fun t=>zaV r c g w (tnG c t)):=by
 have h:=zlw (ts:=ts) (gr:=zac r c fun _ _=>none) (la:=zac r c g) (we:=weL r c w) (c:=c) hc (zc8 zfa) (r*c) [] (List.replicate (c+2) none) (by rw [zaG];exact SeamOk.first) (by rw [zaG];simp);unfold zb0;have h':lfS ts (zac r c fun _ _=>none) (zac r c g) (weL r c w) c (r*c) 0 (List.replicate (c+2) none)=_:=h;rw [h',<-zhB];congr 1;apply yaI;intro t ht;exact zl4 hc (zeQ hc (g:=fun _ _=>none) ht)
def zlx(hc:1<=c){m n:Int}:zb0 ts r c g w=some (m,n)↔(∃t∈rights ts r c,zaV r c g w (tnG c t)=m)/\(∀t∈rights ts r c,m<=zaV r c g w (tnG c t))/\n=(((rights ts r c).countP fun t=>decide (zaV r c g w (tnG c t)=m):Nat):Int):=by
 rw [zfX hc,zcy,yan,List.countP_map];constructor
 ·rintro ⟨a,b,d⟩;exact ⟨a,fun t ht=>b _ (yan.mpr ⟨t,ht,rfl⟩),d⟩
 ·rintro ⟨a,b,d⟩;refine ⟨a,fun x hx=>?_,d⟩;obtain ⟨t,ht,rfl⟩:=yan.mp hx;exact b t ht
def zhs(hc:1<=c){q:Int×Int}(h:zb0 ts r c g w=some q):zfd ts r c g w∈rights ts r c/\zaV r c g w (tnG c (zfd ts r c g w))=q.1:=by
 have h0:lfS ts (zac r c fun _ _=>none) (zac r c g) (weL r c w) c (r*c) 0 (List.replicate (c+2) none)=some q:=h;obtain ⟨u,hu,_⟩:=zfR (ts:=ts) (gr:=zac r c fun _ _=>none) (la:=zac r c g) (we:=weL r c w) hc (r*c) 0 (List.replicate (c+2) none) q (yaD ..) h0
 have e:zfd ts r c g w=u:=by unfold zfd;rw [hu];rfl
 rw [e];have h1:=zhh (ts:=ts) (gr:=zac r c fun _ _=>none) (la:=zac r c g) (we:=weL r c w) (c:=c) hc (zc8 zfa) (r*c) [] (List.replicate (c+2) none) u (by rw [zaG];exact SeamOk.first) (by rw [zaG];simp) hu;obtain ⟨h2,q',h3,h4⟩:=h1;have h3':lfS ts (zac r c fun _ _=>none) (zac r c g) (weL r c w) c (r*c) 0 (List.replicate (c+2) none)=some q':=h3;rw [h0] at h3';cases h3';rw [<-zhB] at h2;have h2':u∈rights ts r c:=h2;refine ⟨h2',?_⟩;rw [<-h4,<-zl4 (g:=g) (w:=w) hc (zeQ hc h2')];rfl
end
end S2
namespace S2
open PySem
open L2 hiding D
def zh8{r c:Nat}{w:Nat->Nat->Int}{s:D}{S:Sto}{elt:Fe}(hr:r<=100)(hc:c<=100)(he:∀i j:Nat,i<r->j<c->elt [some (false,.int j),some (false,.int i),some (false,s)] S=.ok (.int (w i j)) S) :
  zbn (.one 0) zdq (zaz zbl [(zb5 1 (.one 0) (zcU (zae 1)) zdq elt [0,2])]) [none,some (false,.int c),some (false,s)] (zax 0 r) S=.ok (zbD r c fun i j=>some (w i j)) S:=by
 have hb:-1000000<=(c:Int)/\(c:Int)<=1000000:=by omega
 have e:=zbe (tg:=.one 0) (elt:=zaz zbl [(zb5 1 (.one 0) (zcU (zae 1)) zdq elt [0,2])]) (ρ0:=[none,some (false,.int c),some (false,s)]) (S:=S) (g:=fun d=>match d with | .int i=>zc1 c fun j=>some (w i.toNat j) | _=>.non) (ds:=zax 0 (r:Int)) (by
  intro d hd;obtain ⟨k,hk⟩:=yb8 hd;obtain ⟨hi,rfl⟩:=zeM hk;refine ⟨_,rfl,?_⟩
  have ei:=zbe (tg:=.one 0) (elt:=elt) (ρ0:=[none,some (false,.int k),some (false,s)]) (S:=S) (g:=fun d=>match d with | .int j=>.int (w k j.toNat) | _=>.non) (ds:=zax 0 (c:Int)) (by
   intro d hd;obtain ⟨m,hm⟩:=yb8 hd;obtain ⟨hj,rfl⟩:=zeM hm;refine ⟨_,rfl,?_⟩;show elt [some (false,.int m),some (false,.int k),some (false,s)] S=Out.ok (.int (w k ((m:Int).toNat))) S;rw [yaC]
   exact he k m hi hj)
  rw [zkO] at ei
  have e2:((List.range c).map fun m:Nat=>(match D.int (m:Int) with | .int j=>D.int (w k j.toNat) | _=>.non))=zce c fun j=>some (w k j):=by
   unfold zce;apply yaI;intro m _;simp [oD]
  rw [e2] at ei
  have hl:(zce c fun j=>some (w k j)).length<=100000:=by rw [zgm];omega
  show _=Out.ok (zc1 c fun j=>some (w ((k:Int).toNat) j)) S;rw [yaC];unfold zc1;generalize zce c (fun j=>some (w k j))=res at *
  simp [hb,ei,hl])
 rw [zkO] at e
 have e2:((List.range r).map fun k:Nat=>(match D.int (k:Int) with | .int i=>zc1 c fun j=>some (w i.toNat j) | _=>.non))=zbD r c fun i j=>some (w i j):=by
  unfold zbD;apply yaI;intro m _;simp
 rwa [e2] at e
def zix{o:Option Int}{w x:Int}(hw:0<=w):0<=zaU o w x:=by
 unfold zaU;split
 ·omega
 ·split<;>omega
def zqs{o:Option Int}{w x:Int}(hw:0<=w):zaU o w x<=w:=by
 unfold zaU;split
 ·omega
 ·split<;>omega
def ziQ{l:List Int}(h:∀x∈l,0<=x):0<=l.sum/\(l.sum=0↔∀x∈l,x=0):=by
 induction l with
 | nil=>simp
 | cons a l ih =>
  obtain ⟨h1,h2⟩:=ih fun x hx=>h x (yap _ hx)
  have ha:=h a yat;rw [ybI];refine ⟨by omega,?_⟩;constructor
  ·intro z x hx
   rcases yav.mp hx with rfl | hx
   ·omega
   ·exact (h2.mp (by omega)) x hx
  ·intro z;rw [z a yat,h2.mpr fun x hx=>z x (yap _ hx)];rfl
section
variable{ts:Z2}{r c:Nat}{g:Z1}{w:Nat->Nat->Int}{G:Nat->Nat->Int}
def znc{i j:Nat}(hi:i<r)(hj:j<c):(i,j)∈zbC r c:=by
 unfold zbC;exact ybg.mpr ⟨i,yaE.mpr hi,yan.mpr ⟨j,yaE.mpr hj,rfl⟩⟩
def znS(hw:∀i j,0<=w i j):0<=zaV r c g w G:=by
 unfold zaV;refine (ziQ fun x hx=>?_).1;obtain ⟨p,_,rfl⟩:=yan.mp hx;exact zix (hw _ _)
def zj4(hw:∀i j,1<=w i j):zaV r c g w G=0↔∀i j,i<r->j<c->g i j=none\/g i j=some (G i j):=by
 unfold zaV
 rw [(ziQ fun x hx=>by
  obtain ⟨p,_,rfl⟩:=yan.mp hx
  exact zix (by have:=hw p.1 p.2;omega)).2]
 have key:∀i j,zaU (g i j) (w i j) (G i j)=0↔g i j=none\/g i j=some (G i j):=by
  intro i j;have:=hw i j;unfold zaU
  cases hg:g i j with
  | none=>simp
  | some y =>
   dsimp only
   by_cases e:y=G i j
   ·rw [if_pos e,e];simp
   ·rw [if_neg e];constructor
    ·intro z;omega
    ·rintro (z | z)
     ·cases z
     ·exact absurd (Option.some.inj z) e
 constructor
 ·intro h i j hi hj;exact (key i j).mp (h _ (yan.mpr ⟨(i,j),znc hi hj,rfl⟩))
 ·intro h x hx;obtain ⟨p,hp,rfl⟩:=yan.mp hx;obtain ⟨h1,h2⟩:=zhi hp;exact (key _ _).mpr (h _ _ h1 h2)
end
section
variable{ts:Z2}{r c:Nat}{g h:Z1}{w v:Nat->Nat->Int}
def zpW(hc:1<=c)(hw:∀i j,1<=w i j){t:List Int}(ht:t∈rights ts r c):zb0 ts r c (zat c t) w=some (0,1)/\zfd ts r c (zat c t) w=t:=by
 have hz:∀u∈rights ts r c,zaV r c (zat c t) w (tnG c u)=0↔u=t:=by
  intro u hu;rw [zj4 hw];constructor
  ·intro z;refine zrd hc (zeQ hc hu) (zeQ hc ht) fun i j hi hj=>?_
   rcases z i j hi hj with y | y
   ·cases y
   ·exact (Option.some.inj y).symm
  ·rintro rfl i j _ _;exact .inr rfl
 have hl:zb0 ts r c (zat c t) w=some (0,1):=by
  refine (zlx hc).mpr ⟨⟨t,ht,(hz t ht).mpr rfl⟩,fun u _=>znS fun i j=>by have:=hw i j;omega,?_⟩
  have:(rights ts r c).countP (fun u=>decide (zaV r c (zat c t) w (tnG c u)=0))=1:=by
   rw [List.countP_eq_length_filter]
   have:(rights ts r c).filter (fun u=>decide (zaV r c (zat c t) w (tnG c u)=0))=[t]:=by
    refine zlg ?_ (ya2.mpr ⟨ht,yaB ((hz t ht).mpr rfl)⟩) fun u hu=>?_
    ·rw [ya1];exact List.Pairwise.filter _ (ya1.mp zhC)
    ·obtain ⟨u1,u2⟩:=ya2.mp hu;exact (hz u u1).mp (yau u2)
   rw [this];rfl
  rw [this];rfl
 refine ⟨hl,?_⟩;obtain ⟨m1,m2⟩:=zhs hc hl;exact (hz _ m1).mp m2
end
end S2
namespace S2
open PySem
open L2 hiding D
section
variable{ts:Z2}{r c:Nat}{g h s:Z1}{w:Nat->Nat->Int}{G:Nat->Nat->Int}
open Classical in
end
end S2
namespace S2
open PySem
open L2 hiding D
def zfm{l:List Int}:zb1 (l.map D.int)=some l:=by
 induction l with
 | nil=>rfl
 | cons x l ih=>simp [zb1,ih]
noncomputable def zl5(g:Z1)(w G:Nat->Nat->Int):D->D | .tup [.int i,.int j]=>.int (zaU (g i.toNat j.toNat) (w i.toNat j.toNat) (G i.toNat j.toNat)) | _=>.non
def zjm{g:Z1}{w G:Nat->Nat->Int}{i j:Nat}:zl5 g w G (plD i j)=.int (zaU (g i j) (w i j) (G i j)):=by
 show D.int (zaU (g ((i:Int)).toNat ((j:Int)).toNat) (w ((i:Int)).toNat ((j:Int)).toNat) (G ((i:Int)).toNat ((j:Int)).toNat))=_;rw [yaC,yaC]
def zhc{r c:Nat}:zd9 r c=(zbC r c).map fun p=>plD p.1 p.2:=by
 unfold zd9 zbC;rw [ybG];congr 1;funext i;rw [yaH];rfl
theorem fm1{α β:Type}{f:α->β}:∀{l:List α},l.flatMap (fun d=>[f d])=l.map f
 | []=>rfl
 | x::l=>by rw [yaL,fm1];rfl
def zia{r c:Nat}{g:Z1}{w G:Nat->Nat->Int}{S:Sto}(h1:1<=r)(hc1:1<=c)(hr:r<=10)(hc:c<=10)(hw:∀i j,0<=w i j/\w i j<=1000) :
  zbY [flr r c g,flr r c fun i j=>some (w i j),flr r c fun i j=>some (G i j)] S=.ok (.int (zaV r c g w G)) S:=by
 have u1:=zcK (r:=r) (c:=c) (g:=g) (h:=fun i j=>some (w i j)) (S:=S) h1 (by omega);have u2:=zcK (r:=r) (c:=c) (g:=g) (h:=fun i j=>some (G i j)) (S:=S) h1 (by omega);have pl:=zed (r:=r) (c:=c) (g:=g) (S:=S) h1 (by omega) (by omega)
 have hlen:(zd9 r c).length<=1000:=by rw [zig];exact yah (ybJ hr hc) (by decide)
 have hmem:∀d∈zd9 r c,∃i j,i<r/\j<c/\d=plD i j:=fun d hd=>zif hd
 obtain ⟨x',e⟩:=zdn (tg:=.one 4) (body:=zdL) (S:=S) (fun L (x:Option (Bool×D))=>[some (false,flr r c g),some (false,flr r c fun i j=>some (w i j)),some (false,flr r c fun i j=>some (G i j)),some (true,.lst L),x]) (fun d=>[zl5 g w G d]) 50000 (ds:=zd9 r c) (by
  intro d hd L x hL;obtain ⟨i,j,hi,hj,rfl⟩:=hmem d hd;refine ⟨_,some (false,plD i j),rfl,?_⟩;have n1:=zcF (g:=g) (S:=S) hi hj;have n2:=zcF (g:=fun i j=>some (w i j)) (S:=S) hi hj;have n3:=zcF (g:=fun i j=>some (G i j)) (S:=S) hi hj;have ca:=ze3 (o:=g i j) (w:=w i j) (x:=G i j) (S:=S);rw [zjm];have hL':L.length+1<=50000:=hL;simp only [oD] at n2 n3;generalize oD (g i j)=o at *;generalize flr r c g=f1 at *;generalize flr r c (fun i j=>some (w i j))=f2 at *;generalize flr r c (fun i j=>some (G i j))=f3 at *
  have hL2:L.length<=100000:=by omega
  simp [zdL,n1,n2,n3,ca,hL2]) [] none (by rw [fm1];simp;omega)
 rw [fm1,ybA] at e
 have hs:zmG [.lst ((zd9 r c).map fun d=>zl5 g w G d)]=some (.int (zaV r c g w G)):=by
  have em:((zd9 r c).map fun d=>zl5 g w G d)=((zbC r c).map fun p=>zaU (g p.1 p.2) (w p.1 p.2) (G p.1 p.2)).map D.int:=by
   rw [zhc,yaH,yaH];apply yaI;intro p _;exact zjm
  rw [em];show (zb1 _).bind _=_;rw [zfm];show (if _ then some (D.int _) else none)=_;rw [if_pos]
  ·rfl
  ·rw [yab];refine ⟨yaB (by rw [yae];rwa [zhc,yae] at hlen),?_⟩;rw [ybe];intro x hx;obtain ⟨p,_,rfl⟩:=yan.mp hx;have h2:=hw p.1 p.2;have a1:=zix (o:=g p.1 p.2) (x:=G p.1 p.2) h2.1;have a2:=zqs (o:=g p.1 p.2) (x:=G p.1 p.2) h2.1;exact yaB ⟨a1,by omega⟩
 generalize (zd9 r c).map (fun d=>zl5 g w G d)=cs at *;generalize flr r c g=f1 at *;generalize flr r c (fun i j=>some (w i j))=f2 at *;generalize flr r c (fun i j=>some (G i j))=f3 at *;generalize zd9 r c=ps at *;simp [zbY,zas,zda,u1,u2,pl,e,hs]
end S2
namespace S2
open PySem
open L2 hiding D
noncomputable def sm(n:Nat)(f:Nat->Nat):Nat:=((List.range n).map f).sum
end S2
namespace S2
open PySem
open L2 hiding D
section
variable{ts us:Z2}{r c r' c':Nat}{f k:List Int->List Int}{g g':Z1}{w w':Nat->Nat->Int}
end
section
variable{ts:Z2}{r c:Nat}{G:Nat->Nat->Int}{g:Z1}{w:Nat->Nat->Int}
def zjN{t:List Int}(hc:1<=c):t∈rights ts r c↔t.length=r*c/\RtG ts r c (tnG c t):=by
 show t∈zeD ts r c (fun _ _=>none)↔_;rw [zfW hc];constructor
 ·rintro ⟨a,b,_⟩;exact ⟨a,b⟩
 ·rintro ⟨a,b⟩;exact ⟨a,b,fun _ _ _ _=>.inl rfl⟩
end
end S2
namespace S2
noncomputable def scL(l:List Int):D:=.lst (l.map D.int)
end S2
namespace S2.Sc
open PySem
open L2 hiding D
def zte{n:Nat}{l:List Int}:D.fits n (l.map D.int)=true:=by
 induction l with
 | nil=>simp
 | cons a l ih=>simp [ih]
def zdr{l:List Int}:eqD (scL l) (.lst [])=some (.bl (decide (l=[]))):=by
 unfold scL
 cases l with
 | nil=>rfl
 | cons a l=>simp [eqD,D.fit,D.fits,zex,D.py,D.pys,PyData.eqv,PyData.eqvAll,zte]
end S2.Sc
namespace S2
open PySem
open L2 hiding D
section
variable{ts:Z2}{r c l:Nat}{G:Nat->Nat->Int}{g:Z1}{w:Nat->Nat->Int}
theorem zgY{f:Nat×Nat->Int}:∀{xs:List Nat} {F:Nat->List (Nat×Nat)},((xs.flatMap F).map f).sum=(xs.map fun i=>((F i).map f).sum).sum
 | [],_=>rfl
 | x::xs,F=>by
  rw [yaL,ybZ,List.sum_append_int,zgY,yaw,ybI]
def zl3:zaV r c g w G=((List.range r).map fun i=>((List.range c).map fun j=>zaU (g i j) (w i j) (G i j)).sum).sum:=by
 unfold zaV zbC;rw [zgY];congr 1;apply yaI;intro i _;rw [yaH];rfl
end
end S2
namespace S2.L30
open PySem
open L2 hiding D
noncomputable def zue:List (Str×Str):=[("Unlike","FloorError"),("NoFill","FloorError")]
noncomputable def isL:Str->Str->Option Bool:=ztU ["Unlike","NoFill"] ["FloorError","NoPlace","NoTile","NoFill","Unlike","Nothing","NoText"]
noncomputable def zcS:Fs :=
  (zaj (sFz [] (za6 1 true (zeF [(eUn (zlG isL "NoFill") (zah 0)),(eUn (zlG isL "NoPlace") (zah 0)),(eUn (zlG isL "NoText") (zah 0)),(eUn (zlG isL "NoTile") (zah 0))])))
  (zaj (sFz [] (zqN 1 (zeF [(eUn (zlG isL "Nothing") (zah 0)),(eUn (zlG isL "Unlike") (zah 0))])))
  (zaj (sFz [] (sIf (eOr (zaf neD (eMt zdf 1 (zag (.bl true))) (zag (.int 1))) (eUn zho (eUn (zlG isL "ValueError") (zah 0)))) (zaj (sFz [] (zbx (zag (.str "wrong")))) sNx) sNx))
  (zaj (sFz [] (zbx (zaf ixD (zeF [(zag (.str "no fill")),(zag (.str "no place")),(zag (.str "no text")),(zag (.str "no tile")),(zag (.str "nothing")),(zag (.str "unlike"))]) (eMt zeB 1 (zag (.bl true))))))
  sNx))))
noncomputable def zbM:List S2.D->Sto->Out S2.D:=zbL 2 false zcS
noncomputable def zbm:Fs :=
  (zaj (sFz [] (za6 5 false (zag .non)))
  (zaj (sFz [] (za6 6 false (zag .non)))
  (zaj (sFz [] (zrT (zq6 zue) "FloorError" 7 5 (zaj (sFz [] (sIf (zaf eqD (zah 0) (zag (.int 0))) (zaj (sFz [1,2,3] (za6 6 false (eFn zbu [(zae 1),(zae 2),(zae 3)]))) sNx) (zaj (sFz [] (sIf (zaf eqD (zah 0) (zag (.int 1))) (zaj (sFz [1,2,3] (za6 6 false (eFn zcL [(zae 1),(zae 2),(zae 3)]))) sNx) (zaj (sFz [2,3,4] (za6 6 false (eFn zbY [(zae 2),(zae 3),(zae 4)]))) sNx))) sNx))) sNx)))
  (zaj (sFz [] (sIf (zaf zmv (zah 5) (zag .non)) (zaj (sFz [6] (zbx (zae 6))) sNx) sNx))
  (zaj (sFz [5] (zbx (eFn zbM [(zae 5)])))
  sNx)))))
noncomputable def zar:List S2.D->Sto->Out S2.D:=zbL 8 false zbm
noncomputable def ziJ:Fs:=zaj (sFz [1,4,5] (zbx (zaf eqD (eFn zar [(zag (.int 2)),(zae 1),(zae 4),(zae 5),(zaf zb7 (zah 10) (eSl (zah 10) none (some (zag (.int 1)))))]) (zag (.str "unlike"))))) sNx
noncomputable def ziK:Fs:=zaj (sFz [11,4,10,1] (sIf (zaf neD (zb5 1 (.one 0) (zcU (zag (.int 3))) zdq (eFn zar [(zae 0),(zae 4),(zae 2),(zae 1),(zae 3)]) [11,4,10,1]) (zaf zhr (zeF [(zag (.str "unlike"))]) (zag (.int 3)))) (zaj (sFz [] (zbx (zag (.bl false)))) sNx) sNx)) ziJ
noncomputable def ziL:Fs:=zaj (sFz [] (za6 11 false (zaf zb7 (zah 5) (eSl (zah 5) none (some (zag (.int 1))))))) ziK
noncomputable def ziM:Fs:=zaj (sFz [1,4,5,10,4,5,10] (sIf (zaf neD (eFn zar [(zag (.int 2)),(zae 1),(zae 4),(zae 5),(zae 10)]) (eFn zaJ [(zae 4),(zae 5),(zae 10)])) (zaj (sFz [] (zbx (zag (.bl false)))) sNx) sNx)) ziL
noncomputable def zf9:Fs:=zaj (sFz [0,1,2,3] (za6 10 false (eFn zaM [(zae 0),(zag (.int 300)),(zae 1),(zae 2),(zae 3),(zag (.int 1))]))) ziM
noncomputable def zga:Fs:=zaj (sFz [4,5,9] (sIf (zfI (zaf zhn (zah 8) (zag .non)) (eOr (zaf zlh (zah 9) (zah 6)) (zaf neD (eFn zaJ [(zae 4),(zae 5),(zae 9)]) (zaf ixD (zah 8) (zag (.int 0)))))) (zaj (sFz [] (zbx (zag (.bl false)))) sNx) sNx)) zf9
noncomputable def zgb:Fs:=zaj (sFz [] (sIf (zfI (zaf zmv (zah 8) (zag .non)) (zaf neD (zah 9) (zag (.str "no fill")))) (zaj (sFz [] (zbx (zag (.bl false)))) sNx) sNx)) zga
noncomputable def zh1:Fs:=zaj (sFz [1,4,5] (za6 9 false (eFn zar [(zag (.int 1)),(zae 1),(zae 4),(zae 5),(zag .non)]))) zgb
noncomputable def zc3:Fs:=zaj (sFz [1,4,5] (sIf (zaf neD (eFn zar [(zag (.int 0)),(zae 1),(zae 4),(zae 5),(zag .non)]) (zah 8)) (zaj (sFz [] (zbx (zag (.bl false)))) sNx) sNx)) zh1
noncomputable def zh2:Fs:=zaj (sFz [] (za6 8 false (eIf (zaf eqD (zah 7) (zeF [])) (zag .non) (zcT [(zaz zgw [(zah 7)]),(eMt zdf 7 (zaz zgw [(zah 7)]))])))) zc3
noncomputable def zh3:Fs:=zaj (sFz [6,4,5] (za6 7 true (zb5 1 (.one 0) (za3 (zae 6)) zdq (eFn zaJ [(zae 1),(zae 2),(zae 0)]) [4,5]))) zh2
noncomputable def zf8:Fs:=zaj (sFz [1,3] (za6 6 true (zb5 1 (.one 0) (za3 (eFn zbv [(zae 1),(zaf zea (zcT [(zaf zea (zcT [(zag .non)]) (zah 3))]) (zah 2))])) zdq (eFn zaP [(zae 0),(zae 1)]) [3]))) zh3
noncomputable def zkt:Fs:=zaj (sFz [2,3,0] (za6 5 false (zaz zbl [(zb5 1 (.one 0) (zcU (zae 2)) zdq (zaz zbl [(zb5 1 (.one 0) (zcU (zae 1)) zdq (eFn zaA [(zae 2),(zaf zb7 (zaf zb7 (zag (.int 200)) (zaf zea (zag (.int 7)) (zah 1))) (zah 0)),(zag (.int 5))]) [0,2])]) [3,0])]))) zf8
noncomputable def zku:Fs:=zaj (sFz [0,1,2,3,0] (za6 4 false (eFn zaM [(zae 0),(zag (.int 100)),(zae 1),(zae 2),(zae 3),(zaf zb7 (zag (.int 1)) (eFn zaA [(zae 0),(zag (.int 91)),(zag (.int 2))]))]))) zkt
noncomputable def zkv:Fs:=zaj (sFz [0] (zh4 (.tup [2,3]) (eFn zcs [(zae 0),(zag (.int 90))]))) zku
noncomputable def zkw:Fs:=zaj (sFz [0] (za6 1 false (eFn zcr [(zae 0),(zag (.int 0)),(zag (.int 4))]))) zkv
noncomputable def zql:Fs :=
  zkw
noncomputable def zrZ:List S2.D->Sto->Out S2.D:=zbL 12 false zql
end S2.L30
namespace S2.L30
open PySem
open L2 hiding D
noncomputable abbrev Sl:=Option (Bool×D)
def zmz{S:Sto}:zbM [.exc "NoFill"] S=.ok (.str "no fill") S:=by
 have e1:isL "NoFill" "NoFill" = some true:=by decide
 have e2:isL "NoFill" "NoPlace" = some false:=by decide
 have e3:isL "NoFill" "NoText" = some false:=by decide
 have e4:isL "NoFill" "NoTile" = some false:=by decide
 have e5:isL "NoFill" "Nothing" = some false:=by decide
 have e6:isL "NoFill" "Unlike" = some false:=by decide
 have e7:isL "NoFill" "ValueError" = some true:=by decide
 have c1:zdf [.bl true,.bl false,.bl false,.bl false,.bl false,.bl false] (.bl true)=some (.int 1):=by rfl
 have c2:zeB [.bl true,.bl false,.bl false,.bl false,.bl false,.bl false] (.bl true)=some (.int 0):=by rfl
 have c3:atI [D.str "no fill",.str "no place",.str "no text",.str "no tile",.str "nothing",.str "unlike"] 0=some (.str "no fill"):=by rfl
 simp [zbM,zas,zcS,e1,e2,e3,e4,e5,e6,e7,c1,c2,c3]
def zeK{S:Sto}:zbM [.exc "Unlike"] S=.ok (.str "unlike") S:=by
 have e1:isL "Unlike" "NoFill" = some false:=by decide
 have e2:isL "Unlike" "NoPlace" = some false:=by decide
 have e3:isL "Unlike" "NoText" = some false:=by decide
 have e4:isL "Unlike" "NoTile" = some false:=by decide
 have e5:isL "Unlike" "Nothing" = some false:=by decide
 have e6:isL "Unlike" "Unlike" = some true:=by decide
 have e7:isL "Unlike" "ValueError" = some true:=by decide
 have c1:zdf [.bl false,.bl false,.bl false,.bl false,.bl false,.bl true] (.bl true)=some (.int 1):=by rfl
 have c2:zeB [.bl false,.bl false,.bl false,.bl false,.bl false,.bl true] (.bl true)=some (.int 5):=by rfl
 have c3:atI [D.str "no fill",.str "no place",.str "no text",.str "no tile",.str "nothing",.str "unlike"] 5=some (.str "unlike"):=by rfl
 simp [zbM,zas,zcS,e1,e2,e3,e4,e5,e6,e7,c1,c2,c3]
def zy7:(D.str "unlike").fit 8=true:=by show PyData.strOk _=true;decide +kernel
def zvy:(D.str "unlike").fit 9=true:=by show PyData.strOk _=true;decide +kernel
def zy8:(D.str "no fill").fit 9=true:=by show PyData.strOk _=true;decide +kernel
def zya:zq6 zue "NoFill" "FloorError" = true:=by decide
def ztI:zq6 zue "Unlike" "FloorError" = true:=by decide
theorem zf7{α:Type}{f h k:α->D}:∀{l:List α},zeU (l.map f) (l.map h) (l.map k)=l.map fun x=>.tup [f x,h x,k x]
 | []=>rfl
 | x::l=>by simp only [yaw];show D.tup [f x,h x,k x]::zeU _ _ _=_;rw [zf7]
noncomputable def zki:D->Bool | .tup [.non,_,_]=>false | .tup [.int a,_,.int b]=>!decide (a=b) | _=>true
noncomputable def zuE:D->D | .tup [_,d,_]=>d | _=>.non
theorem zic{g:Nat->Option Int}{w G:Nat->Int}:∀(l:List Nat),((l.map fun j=>D.tup [oD (g j),.int (w j),.int (G j)]).filter zki).map zuE=((l.filter fun j=>zki (.tup [oD (g j),.int (w j),.int (G j)])).map w).map D.int/\((l.filter fun j=>zki (.tup [oD (g j),.int (w j),.int (G j)])).map w).sum=(l.map fun j=>zaU (g j) (w j) (G j)).sum
 | []=>⟨rfl,rfl⟩
 | j::l=>by
  obtain ⟨h1,h2⟩:=zic (g:=g) (w:=w) (G:=G) l;simp only [yaw,ycc]
  cases hg:g j with
  | none =>
   have hb:zki (.tup [oD (none:Option Int),.int (w j),.int (G j)])=false:=rfl;rw [hb,if_neg (by decide),if_neg (by decide)];refine ⟨h1,?_⟩;rw [h2,ybI];show _=0+_;omega
  | some x =>
   have hb:zki (.tup [oD (some x),.int (w j),.int (G j)])=!decide (x=G j):=rfl;rw [hb]
   by_cases hx:x=G j
   ·rw [yaB hx];rw [if_neg (by decide),if_neg (by decide)];refine ⟨h1,?_⟩;rw [h2,ybI];show _=(if x=G j then 0 else w j)+_;rw [if_pos hx];omega
   ·rw [yaX hx];rw [if_pos (by decide),if_pos (by decide)];refine ⟨by rw [yaw,yaw,yaw,h1];rfl,?_⟩;rw [yaw,ybI,h2,ybI];show _=(if x=G j then 0 else w j)+_;rw [if_neg hx]
def zpk{c:Nat}{g:Nat->Option Int}{w G:Nat->Int}{S:Sto}:zbn (.tup [0,1,2]) (zfI (zaf zhn (zah 0) (zag .non)) (zaf neD (zah 0) (zah 2))) (zae 1) [none,none,none] (zeU (zce c g) (zce c fun j=>some (w j)) (zce c fun j=>some (G j))) S=.ok ((((List.range c).filter fun j=>zki (.tup [oD (g j),.int (w j),.int (G j)])).map w).map D.int) S:=by
 unfold zce;rw [zf7];show zbn _ _ _ _ ((List.range c).map fun j=>D.tup [oD (g j),.int (w j),.int (G j)]) S=_
 rw [zdg (g:=zuE) (p:=zki) (fun d hd=>by
  obtain ⟨j,_,rfl⟩:=yan.mp hd;refine ⟨_,rfl,?_,fun _=>by simp [zuE]⟩
  cases g j with
  | none=>simp [zki,oD]
  | some x =>
   have q:=zsE (a:=x) (b:=G j)
   simp [zki,oD]),(zic _).1]
def zgl{r c:Nat}{g:Z1}{w G:Nat->Nat->Int}{S:Sto}(hr:r<=100)(hc:c<=100)(hw:∀i j,0<=w i j/\w i j<=1000) :
  zaJ [flr r c g,flr r c fun i j=>some (w i j),flr r c fun i j=>some (G i j)] S=.ok (.int (zaV r c g w G)) S:=by
 have hz:zeU (zbD r c g) (zbD r c fun i j=>some (w i j)) (zbD r c fun i j=>some (G i j))=(List.range r).map fun i=>D.tup [zc1 c (g i),zc1 c fun j=>some (w i j),zc1 c fun j=>some (G i j)]:=by
  unfold zbD;rw [zf7]
 obtain ⟨ρ',e,x4,x5,x6,rfl⟩:=zcQ (tg:=.tup [4,5,6]) (body:=zcX) (ds:=(List.range r).map fun i=>D.tup [zc1 c (g i),zc1 c fun j=>some (w i j),zc1 c fun j=>some (G i j)]) (S:=S) (fun k ρ=>∃x4 x5 x6:Sl,ρ=[some (false,flr r c g),some (false,flr r c fun i j=>some (w i j)),some (false,flr r c fun i j=>some (G i j)),some (false,.int (((List.range k).map fun i=>((List.range c).map fun j=>zaU (g i j) (w i j) (G i j)).sum).sum)),x4,x5,x6]) (by
  rintro k d ρ hd ⟨x4,x5,x6,rfl⟩;rw [yak] at hd
  cases hk:(List.range r)[k]? with
  | none=>rw [hk] at hd;cases hd
  | some i =>
   rw [hk] at hd
   have hi:i=k:=by
    obtain ⟨hlt,e⟩:=yag.mp hk;rw [ycV] at e;exact e.symm
   subst hi;cases hd;refine ⟨_,[some (false,flr r c g),some (false,flr r c fun i j=>some (w i j)),some (false,flr r c fun i j=>some (G i j)),some (false,.int (((List.range (i+1)).map fun i=>((List.range c).map fun j=>zaU (g i j) (w i j) (G i j)).sum).sum)),some (false,zc1 c (g i)),some (false,zc1 c fun j=>some (w i j)),some (false,zc1 c fun j=>some (G i j))],rfl,?_,_,_,_,rfl⟩;have er:=zpk (c:=c) (g:=g i) (w:=w i) (G:=G i) (S:=S);have es:=(zic (g:=g i) (w:=w i) (G:=G i) (List.range c)).2
   have esm:zmG [.lst ((((List.range c).filter fun j=>zki (.tup [oD (g i j),.int (w i j),.int (G i j)])).map (w i)).map D.int)]=some (.int ((List.range c).map fun j=>zaU (g i j) (w i j) (G i j)).sum):=by
    show (zb1 _).bind _=_;rw [zfm];show (if _ then some (D.int _) else none)=_;rw [es,if_pos];rw [yab];refine ⟨yaB ?_,?_⟩
    ·rw [yae];refine yah (ya0 _ _) ?_;rw [ybc];omega
    ·rw [ybe];intro x hx;obtain ⟨j,_,rfl⟩:=yan.mp hx;have:=hw i j;exact yaB ⟨this.1,by omega⟩
   have hlen:((((List.range c).filter fun j=>zki (.tup [oD (g i j),.int (w i j),.int (G i j)])).map (w i)).map D.int).length<=100000:=by
    rw [yae,yae];refine yah (ya0 _ _) ?_;rw [ybc];omega
   have l1:(zce c fun j=>some (w i j)).length=(zce c (g i)).length/\(zce c fun j=>some (G i j)).length=(zce c (g i)).length:=by simp only [zgm,and_self]
   have ek:((List.range (i+1)).map fun i=>((List.range c).map fun j=>zaU (g i j) (w i j) (G i j)).sum).sum=((List.range i).map fun i=>((List.range c).map fun j=>zaU (g i j) (w i j) (G i j)).sum).sum+((List.range c).map fun j=>zaU (g i j) (w i j) (G i j)).sum:=by
    rw [ybm,ybZ,List.sum_append_int,List.map_singleton,List.sum_singleton]
   rw [ek];generalize ((List.range i).map fun i=>((List.range c).map fun j=>zaU (g i j) (w i j) (G i j)).sum).sum=s0 at *;generalize ((List.range c).map fun j=>zaU (g i j) (w i j) (G i j)).sum=s1 at *;generalize (((List.range c).filter fun j=>zki (.tup [oD (g i j),.int (w i j),.int (G i j)])).map (w i)).map D.int=ll at *;unfold zc1;generalize zce c (g i)=ra at *;generalize (zce c fun j=>some (w i j))=rb at *;generalize (zce c fun j=>some (G i j))=rcc at *;generalize flr r c g=f1 at *;generalize flr r c (fun i j=>some (w i j))=f2 at *;generalize flr r c (fun i j=>some (G i j))=f3 at *
   simp [zcX,l1,er,hlen,esm])
  (ρ:=[some (false,flr r c g),some (false,flr r c fun i j=>some (w i j)),some (false,flr r c fun i j=>some (G i j)),some (false,.int 0),none,none,none]) ⟨none,none,none,rfl⟩
 rw [yae,ybc,<-zl3,<-hz] at e
 have l1:(zbD r c fun i j=>some (w i j)).length=(zbD r c g).length/\(zbD r c fun i j=>some (G i j)).length=(zbD r c g).length:=by simp only [zdo,and_self]
 unfold flr at *;generalize zbD r c g=f1 at *;generalize zbD r c (fun i j=>some (w i j))=f2 at *;generalize zbD r c (fun i j=>some (G i j))=f3 at *;simp [zaJ,zas,zdI,l1,e]
section
variable{ts:Z2}{r c:Nat}{g:Z1}{w:Nat->Nat->Int}
def zlU{r':Nat}{h:Z1}(hr:r+r'<=1000):zb7 (flr r c g) (flr r' c h)=some (flr (r+r') c fun i j=>if i<r then g i j else h (i-r) j):=by
 unfold flr;rw [zn8,if_pos (by rw [zhZ,zdo,zdo];exact yaB (by omega))];congr 2;unfold zbD;rw [List.range_add,ybZ,yaH];congr 1
 ·apply yaI;intro i hi;have:=yaE.mp hi;congr 1;funext j;dsimp only;rw [if_pos this]
 ·apply yaI;intro i hi;show zc1 c (h i)=zc1 c _;congr 1;funext j;dsimp only;rw [if_neg (by omega),Nat.add_sub_cancel_left]
def zmF{n:Nat}(h:n<=r):(zbD r c g).take n=zbD n c g:=by
 unfold zbD;rw [<-List.map_take,List.take_range,ybB h]
def zhA(h:1<=r):slD (flr r c g) none (some 1)=some (flr 1 c g):=by
 show some (D.tup (zgG (zbD r c g) none (some 1)))=_;have e:zgG (zbD r c g) none (some 1)=(zbD r c g).take 1:=znR (n:=1);rw [e,zmF h];rfl
def do0(P:FP ts r c)(S:Sto):∃S',zar [.int 0,.tup (ts.map zad),flr r c g,flr r c fun i j=>some (w i j),.non] S=.ok (lfD (zb0 ts r c g w)) S':=by
 obtain ⟨S',e⟩:=zfD (g:=g) (w:=w) P S;refine ⟨S',?_⟩;have q0:eqD (.int 0) (.int 0)=some (.bl true):=rfl;generalize lfD (zb0 ts r c g w)=lf at *;generalize flr r c (fun i j=>some (w i j))=fw at *;generalize flr r c g=fl at *;generalize ts.map zad=tsd at *;simp [zar,zas,zbm,q0,e]
def do1(P:FP ts r c)(S:Sto):∃S',zar [.int 1,.tup (ts.map zad),flr r c g,flr r c fun i j=>some (w i j),.non] S=.ok (if (zb0 ts r c g w).isSome then flr r c (zat c (zfd ts r c g w)) else .str "no fill") S':=by
 obtain ⟨S',e⟩:=zjG (g:=g) (w:=w) P S;refine ⟨S',?_⟩;have q0:eqD (.int 1) (.int 0)=some (.bl false):=rfl;have q1:eqD (.int 1) (.int 1)=some (.bl true):=rfl
 cases hb:(zb0 ts r c g w).isSome with
 | true =>
  rw [hb,if_pos rfl] at e;rw [if_pos rfl];generalize flr r c (zat c (zfd ts r c g w))=fm at *;generalize flr r c (fun i j=>some (w i j))=fw at *;generalize flr r c g=fl at *;generalize ts.map zad=tsd at *;simp [zar,zas,zbm,q0,q1,e]
 | false =>
  rw [hb,if_neg (by decide)] at e;rw [if_neg (by decide)];generalize flr r c (fun i j=>some (w i j))=fw at *;generalize flr r c g=fl at *;generalize ts.map zad=tsd at *;simp [zar,zas,zbm,q0,q1,e,zya,zmz]
def do2{G:Nat->Nat->Int}(h1:1<=r)(c1:1<=c)(hr:r<=10)(hc:c<=10)(hw:∀i j,0<=w i j/\w i j<=1000)(S:Sto):zar [.int 2,.tup (ts.map zad),flr r c g,flr r c fun i j=>some (w i j),flr r c fun i j=>some (G i j)] S=.ok (.int (zaV r c g w G)) S:=by
 have e:=zia (g:=g) (w:=w) (G:=G) (S:=S) h1 c1 hr hc hw;have q0:eqD (.int 2) (.int 0)=some (.bl false):=rfl;have q1:eqD (.int 2) (.int 1)=some (.bl false):=rfl;generalize flr r c (fun i j=>some (G i j))=fG at *;generalize flr r c (fun i j=>some (w i j))=fw at *;generalize flr r c g=fl at *;generalize ts.map zad=tsd at *;simp [zar,zas,zbm,q0,q1,e]
def doU{r':Nat}{h:Z1}{d:D}(h1:1<=r)(hr:r<=100)(hne:r'≠r)(S:Sto){k:Int}(hk:k=0\/k=1\/k=2):zar [.int k,.tup (ts.map zad),flr r c g,flr r' c h,d] S=.ok (.str "unlike") S:=by
 have u:=zec (r:=r) (c:=c) (r':=r') (c':=c) (g:=g) (h:=h) (S:=S) h1 (by omega);rw [if_neg (fun z=>hne z.1)] at u;generalize flr r' c h=fw at *;generalize flr r c g=fl at *;generalize ts.map zad=tsd at *
 have a1:zbu [.tup tsd,fl,fw] S=.exc "Unlike" S:=by simp [zbu,zas,zcw,u]
 have a2:zcL [.tup tsd,fl,fw] S=.exc "Unlike" S:=by simp [zcL,zas,zdY,u]
 have a3:zbY [fl,fw,d] S=.exc "Unlike" S:=by simp [zbY,zas,zda,u]
 rcases hk with rfl | rfl | rfl
 ·have q0:eqD (.int 0) (.int 0)=some (.bl true):=rfl;simp [zar,zas,zbm,q0,a1,ztI,zeK]
 ·have q0:eqD (.int 1) (.int 0)=some (.bl false):=rfl;have q1:eqD (.int 1) (.int 1)=some (.bl true):=rfl;simp [zar,zas,zbm,q0,q1,a2,ztI,zeK]
 ·have q0:eqD (.int 2) (.int 0)=some (.bl false):=rfl;have q1:eqD (.int 2) (.int 1)=some (.bl false):=rfl;simp [zar,zas,zbm,q0,q1,a3,ztI,zeK]
def zzd{r':Nat}{h:Z1}(h1:1<=r)(hr:r<=100)(hne:r'≠r)(S:Sto):zar [.int 2,.tup (ts.map zad),flr r c g,flr r c fun i j=>some (w i j),flr r' c h] S=.ok (.str "unlike") S:=by
 have u0:=zec (r:=r) (c:=c) (r':=r) (c':=c) (g:=g) (h:=fun i j=>some (w i j)) (S:=S) h1 (by omega);rw [if_pos ⟨rfl,rfl⟩] at u0;have u:=zec (r:=r) (c:=c) (r':=r') (c':=c) (g:=g) (h:=h) (S:=S) h1 (by omega);rw [if_neg (fun z=>hne z.1)] at u;generalize flr r' c h=fh at *;generalize flr r c (fun i j=>some (w i j))=fw at *;generalize flr r c g=fl at *;generalize ts.map zad=tsd at *
 have a3:zbY [fl,fw,fh] S=.exc "Unlike" S:=by simp [zbY,zas,zda,u0,u]
 have q0:eqD (.int 2) (.int 0)=some (.bl false):=rfl;have q1:eqD (.int 2) (.int 1)=some (.bl false):=rfl;simp [zar,zas,zbm,q0,q1,a3,ztI,zeK]
def zoa{l:List Int}{G:Nat->Nat->Int}{s6 s7 s8 s9 s10 s11:Sl}(P:FP ts r c)(hw:∀i j,0<=w i j/\w i j<=1000)(S:Sto)(eo:zaM [.scr l,.int 300,.tup (ts.map zad),.int r,.int c,.int 1] S=.ok (flr r c fun i j=>some (G i j)) S) :
  zf9 [some (false,.scr l),some (false,.tup (ts.map zad)),some (false,.int r),some (false,.int c),some (false,flr r c g),some (false,flr r c fun i j=>some (w i j)),s6,s7,s8,s9,s10,s11] S=.rt (.bl true) S:=by
 have r6:=P.r6;have c6:=P.c6;have r1:=P.r1;have c1:=P.c1;have d2:=do2 (ts:=ts) (g:=g) (w:=w) (G:=G) r1 c1 (by omega) (by omega) hw S;have k2:=zgl (g:=g) (w:=w) (G:=G) (S:=S) (show r<=100 by omega) (show c<=100 by omega) hw;have f1:=zhA (r:=r) (c:=c) (g:=fun i j=>some (w i j)) r1;have f2:=zhA (r:=r) (c:=c) (g:=fun i j=>some (G i j)) r1;have b1:=zlU (r:=r) (r':=1) (c:=c) (g:=fun i j=>some (w i j)) (h:=fun i j=>some (w i j)) (by omega);have b2:=zlU (r:=r) (r':=1) (c:=c) (g:=fun i j=>some (G i j)) (h:=fun i j=>some (G i j)) (by omega);have u1:∀k:Int,(k=0\/k=1\/k=2)->zar [.int k,.tup (ts.map zad),flr r c g,flr (r+1) c fun i j=>if i<r then some (w i j) else some (w (i-r) j),flr r c fun i j=>some (G i j)] S=.ok (.str "unlike") S:=fun k hk=>doU r1 (by omega) (by omega) S hk
 have u2:=zzd (ts:=ts) (r:=r) (c:=c) (r':=r+1) (g:=g) (w:=w) (h:=fun i j=>if i<r then some (G i j) else some (G (i-r) j)) r1 (by omega) (by omega) S
 have cc:zbn (.one 0) zdq (eFn zar [(zae 0),(zae 4),(zae 2),(zae 1),(zae 3)]) [none,some (false,flr (r+1) c fun i j=>if i<r then some (w i j) else some (w (i-r) j)),some (false,flr r c g),some (false,flr r c fun i j=>some (G i j)),some (false,.tup (ts.map zad))] (zax 0 3) S=.ok [.str "unlike",.str "unlike",.str "unlike"] S:=by
  have r3:zax 0 3=[.int 0,.int 1,.int 2]:=by rfl
  rw [r3,zbe (g:=fun _=>.str "unlike") (fun d hd=>by
   refine ⟨_,rfl,?_⟩
   have hk:∃k:Int,d=.int k/\(k=0\/k=1\/k=2):=by
    simp only [yav,yaF,ybP] at hd
    rcases hd with rfl | rfl | rfl
    ·exact ⟨0,rfl,.inl rfl⟩
    ·exact ⟨1,rfl,.inr (.inl rfl)⟩
    ·exact ⟨2,rfl,.inr (.inr rfl)⟩
   obtain ⟨k,rfl,hk⟩:=hk;have u:=u1 k hk;generalize (flr (r+1) c fun i j=>if i<r then some (w i j) else some (w (i-r) j))=fb at *;generalize flr r c (fun i j=>some (G i j))=fG at *;generalize flr r c g=fl at *;generalize ts.map zad=tsd at *
   simp [u])]
  rfl
 have qU:=zqo (d:=.str "unlike") rfl zvy
 have qL:neD (.lst [.str "unlike",.str "unlike",.str "unlike"]) (.lst [.str "unlike",.str "unlike",.str "unlike"])=some (.bl false):=zeg rfl (by
  show D.fits 8 _=true
  rw [zdW,zdW,zdW,zje,zy7];rfl)
 have mL:zhr (.lst [.str "unlike"]) (.int 3)=some (.lst [.str "unlike",.str "unlike",.str "unlike"]):=rfl;have qc:neD (.int (zaV r c g w G)) (.int (zaV r c g w G))=some (.bl false):=zeg rfl rfl;generalize (flr (r+1) c fun i j=>if i<r then some (w i j) else some (w (i-r) j))=fb at *;generalize (flr (r+1) c fun i j=>if i<r then some (G i j) else some (G (i-r) j))=fb2 at *;generalize flr 1 c (fun i j=>some (w i j))=fw1 at *;generalize flr 1 c (fun i j=>some (G i j))=fG1 at *;generalize flr r c (fun i j=>some (G i j))=fG at *;generalize flr r c (fun i j=>some (w i j))=fw at *;generalize flr r c g=fl at *;generalize ts.map zad=tsd at *;generalize zaV r c g w G=co at *;simp only [zf9,ziM,ziL,ziK,ziJ];simp [eo,d2,k2,qc,f1,b1,cc,mL,qL,f2,b2,u2,qU]
def zmV{a b:Int}:zex (.int a) (.int b)=decide (a=b):=by
 have h:=ztg (a:=a) (b:=b);have h':(some (D.bl (zex (.int a) (.int b))):Option D)=some (.bl (decide (a=b))):=h
 injection h' with h'
 injection h'
def zj3{l:List Int}{m:Int}:zdf (l.map D.int) (.int m)=some (.int ((l.countP fun x=>decide (x=m):Nat):Int)):=by
 unfold zdf;rw [show (D.int m).fit 8=true from rfl,Sc.zte];show some (D.int _)=_;rw [List.countP_map];have e:(fun d=>zex d (.int m))∘D.int=fun x=>decide (x=m):=funext fun x=>zmV
 rw [e]
def znk{l:List Int}(h:l≠[]):zgw [.lst (l.map D.int)]=some (.int (zeh l)):=by
 show (zb1 _).bind _=_;rw [zfm];show (if _ then none else some _)=_;rw [if_neg];rw [ybf];exact h
def zu2{o:Option (Int×Int)}:neD (lfD o) (lfD o)=some (.bl false):=by
 cases o with
 | none=>rfl
 | some q=>exact zeg rfl rfl
def zul{l:List Int}{G:Nat->Nat->Int}{s6 s7 s9 s10 s11:Sl}(P:FP ts r c)(hw:∀i j,0<=w i j/\w i j<=1000)(S:Sto)(eo:∀S,zaM [.scr l,.int 300,.tup (ts.map zad),.int r,.int c,.int 1] S=.ok (flr r c fun i j=>some (G i j)) S)
  (h6:s6=some (false,.lst ((rights ts r c).map fun t=>flr r c (zat c t)))) :
  ∃S',zc3 [some (false,.scr l),some (false,.tup (ts.map zad)),some (false,.int r),some (false,.int c),some (false,flr r c g),some (false,flr r c fun i j=>some (w i j)),s6,s7,some (false,lfD (zb0 ts r c g w)),s9,s10,s11] S=.rt (.bl true) S':=by
 have r6:=P.r6;have c6:=P.c6;have c1:=P.c1;obtain ⟨S1,e1⟩:=do0 (g:=g) (w:=w) P S;obtain ⟨S2,e2⟩:=do1 (g:=g) (w:=w) P S1;have nl:=zu2 (o:=zb0 ts r c g w);refine ⟨S2,?_⟩
 cases hl:zb0 ts r c g w with
 | none =>
  rw [hl] at e1 e2 nl;have e2':zar [.int 1,.tup (ts.map zad),flr r c g,flr r c fun i j=>some (w i j),.non] S1=.ok (.str "no fill") S2:=e2;have e1':zar [.int 0,.tup (ts.map zad),flr r c g,flr r c fun i j=>some (w i j),.non] S=.ok .non S1:=e1;have nn:neD (.str "no fill") (.str "no fill")=some (.bl false):=zeg rfl zy8;have n0:neD .non .non=some (.bl false):=rfl;have t12:=zoa (l:=l) (g:=g) (s6:=s6) (s7:=s7) (s8:=some (false,.non)) (s9:=some (false,.str "no fill")) (s10:=s10) (s11:=s11) P hw S2 (eo S2);show zc3 [_,_,_,_,_,_,s6,s7,some (false,.non),s9,s10,s11] S=_;generalize flr r c (fun i j=>some (w i j))=fw at *;generalize flr r c g=fl at *;generalize ts.map zad=tsd at *;simp only [zc3,zh1,zgb,zga];simp [e1',e2',n0,nn,t12]
 | some q =>
  obtain ⟨a,b⟩:=q;obtain ⟨hm,hcost⟩:=zhs c1 hl;rw [hl] at e1 e2 nl;rw [if_pos (show (some (a,b)).isSome=true from rfl)] at e2;generalize zfd ts r c g w=t at *;have e1':zar [.int 0,.tup (ts.map zad),flr r c g,flr r c fun i j=>some (w i j),.non] S=.ok (.tup [.int a,.int b]) S1:=e1;have k2:=zgl (g:=g) (w:=w) (G:=tnG c t) (S:=S2) (show r<=100 by omega) (show c<=100 by omega) hw;rw [hcost] at k2;have k2':zaJ [flr r c g,flr r c fun i j=>some (w i j),flr r c (zat c t)] S2=.ok (.int a) S2:=k2
  have hin:zlh (flr r c (zat c t)) (.lst ((rights ts r c).map fun t=>flr r c (zat c t)))=some (.bl false):=zpP zlW (by
   rw [D.pls_iff];intro d hd;obtain ⟨u,_,rfl⟩:=yan.mp hd
   exact zlW) zjc (by
   generalize rights ts r c=us
   induction us with
   | nil=>exact zje
   | cons u us ih=>rw [yaw,zdW,ih];rw [zjc];rfl) (yan.mpr ⟨t,hm,rfl⟩)
  have qa:neD (.int a) (.int a)=some (.bl false):=zeg rfl rfl;have np:=zeg (d:=.tup [.int a,.int b]) rfl rfl;have t12:=zoa (l:=l) (g:=g) (s6:=s6) (s7:=s7) (s8:=some (false,.tup [.int a,.int b])) (s9:=some (false,flr r c (zat c t))) (s10:=s10) (s11:=s11) P hw S2 (eo S2);rw [h6] at t12 ⊢;show zc3 [_,_,_,_,_,_,_,s7,some (false,.tup [.int a,.int b]),s9,s10,s11] S=_;generalize ((rights ts r c).map fun t=>flr r c (zat c t))=lst at *;generalize flr r c (zat c t)=fm at *;generalize flr r c (fun i j=>some (w i j))=fw at *;generalize flr r c g=fl at *;generalize ts.map zad=tsd at *;simp only [zc3,zh1,zgb,zga];simp [e1',e2,np,hin,k2',qa,t12]
def zum{l:List Int}{G:Nat->Nat->Int}{s6 s7 s8 s9 s10 s11:Sl}(P:FP ts r c)(hw:∀i j,0<=w i j/\w i j<=1000)(S:Sto)(eo:∀S,zaM [.scr l,.int 300,.tup (ts.map zad),.int r,.int c,.int 1] S=.ok (flr r c fun i j=>some (G i j)) S) :
  ∃S',zf8 [some (false,.scr l),some (false,.tup (ts.map zad)),some (false,.int r),some (false,.int c),some (false,flr r c g),some (false,flr r c fun i j=>some (w i j)),s6,s7,s8,s9,s10,s11] S=.rt (.bl true) S':=by
 have r6:=P.r6;have c6:=P.c6;have c1:=P.c1;have r1:=P.r1;obtain ⟨b1,b2⟩:=zgp ts.length (r*c) P.h4;have hlen:(rights ts r c).length<=100000:=yah (zeq (r*c)) (by omega)
 have m1:zea (.tup [.non]) (.int (c:Int))=some (.tup (zce c fun _=>none)):=by
  show (if _ then _ else _)=_;rw [if_pos (by simp;omega),yaC,zkP]
 have m2:zea (.tup [.tup (zce c fun _=>none)]) (.int (r:Int))=some (flr r c fun _ _=>none):=by
  show (if _ then _ else _)=_;rw [if_pos (by simp;omega),yaC,zkQ];rfl
 have e1:=zjI (g:=fun _ _=>none) P S;have e1':zbv [.tup (ts.map zad),flr r c fun _ _=>none] S=.ok (.lst ((rights ts r c).map zad)) S:=e1
 have c5:zbn (.one 0) zdq (eFn zaP [(zae 0),(zae 1)]) [none,some (false,.int c)] ((rights ts r c).map zad) S=.ok ((rights ts r c).map fun t=>flr r c (zat c t)) S:=by
  rw [zbe (g:=fun d=>match d with | .tup l=>flr r c (zat c (l.map unI)) | _=>.non) (fun d hd=>by
   obtain ⟨t,ht,rfl⟩:=yan.mp hd;refine ⟨_,rfl,?_⟩;have hl:=((zjN c1).mp ht).1;have e:=zg7 (t:=t) (r:=r) (c:=c) (S:=S) hl c1 (by omega) (by omega) (by have:=P.rc;omega);have e':zaP [zad t,.int c] S=.ok (flr r c (zat c t)) S:=e
   have hu:(t.map D.int).map unI=t:=by rw [yaH];exact List.map_id t
   show _=Out.ok (flr r c (zat c ((t.map D.int).map unI))) S;rw [hu];generalize flr r c (zat c t)=fm at *;generalize zad t=td at *
   simp [e']),yaH]
  congr 1;apply yaI;intro t _;show flr r c (zat c ((t.map D.int).map unI))=_;rw [show (t.map D.int).map unI=t by rw [yaH];exact List.map_id t]
 have c6':zbn (.one 0) zdq (eFn zaJ [(zae 1),(zae 2),(zae 0)]) [none,some (false,flr r c g),some (false,flr r c fun i j=>some (w i j))] ((rights ts r c).map fun t=>flr r c (zat c t)) S=.ok (((rights ts r c).map fun t=>zaV r c g w (tnG c t)).map D.int) S:=by
  have key:∀us:List (List Int),zbn (.one 0) zdq (eFn zaJ [(zae 1),(zae 2),(zae 0)]) [none,some (false,flr r c g),some (false,flr r c fun i j=>some (w i j))] (us.map fun t=>flr r c (zat c t)) S=.ok ((us.map fun t=>zaV r c g w (tnG c t)).map D.int) S:=by
   intro us
   induction us with
   | nil=>rfl
   | cons t us ih =>
    have k:=zgl (g:=g) (w:=w) (G:=tnG c t) (S:=S) (show r<=100 by omega) (show c<=100 by omega) hw;have k':zaJ [flr r c g,flr r c fun i j=>some (w i j),flr r c (zat c t)] S=.ok (.int (zaV r c g w (tnG c t))) S:=k
    exact zj7 rfl (by
     show (eFn zaJ [(zae 1),(zae 2),(zae 0)]) [some (false,flr r c (zat c t)),some (false,flr r c g),some (false,flr r c fun i j=>some (w i j))] S=_;generalize flr r c (zat c t)=fm at *;generalize flr r c (fun i j=>some (w i j))=fw at *;generalize flr r c g=fl at *
     simp [k']) ih
  exact key _
 have hl6:((rights ts r c).map fun t=>flr r c (zat c t)).length<=100000:=by rw [yae];exact hlen
 have hl7:(((rights ts r c).map fun t=>zaV r c g w (tnG c t)).map D.int).length<=100000:=by rw [yae,yae];exact hlen
 have q7:=Sc.zdr (l:=(rights ts r c).map fun t=>zaV r c g w (tnG c t));unfold scL at q7;obtain ⟨S',fin⟩:=zul (l:=l) (g:=g) (s6:=some (false,.lst ((rights ts r c).map fun t=>flr r c (zat c t)))) (s7:=some (true,.lst (((rights ts r c).map fun t=>zaV r c g w (tnG c t)).map D.int))) (s9:=s9) (s10:=s10) (s11:=s11) P hw S eo rfl;refine ⟨S',?_⟩;rw [zfX c1] at fin;unfold zcq at fin
 by_cases hn:((rights ts r c).map fun t=>zaV r c g w (tnG c t))=[]
 ·rw [yaB hn] at q7;rw [if_pos (by rw [hn];rfl)] at fin;have fin':zc3 [some (false,.scr l),some (false,.tup (ts.map zad)),some (false,.int r),some (false,.int c),some (false,flr r c g),some (false,flr r c fun i j=>some (w i j)),some (false,.lst ((rights ts r c).map fun t=>flr r c (zat c t))),some (true,.lst (((rights ts r c).map fun t=>zaV r c g w (tnG c t)).map D.int)),some (false,.non),s9,s10,s11] S=.rt (.bl true) S':=fin;generalize ((rights ts r c).map fun t=>zaV r c g w (tnG c t)).map D.int=l7 at *;generalize ((rights ts r c).map fun t=>flr r c (zat c t))=l6 at *;generalize (rights ts r c).map zad=l5 at *;generalize (flr r c fun _ _=>none)=fe at *;generalize (zce c fun _=>none)=re at *;generalize flr r c (fun i j=>some (w i j))=fw at *;generalize flr r c g=fl at *;generalize ts.map zad=tsd at *;simp only [zf8,zh3,zh2];simp [m1,m2,e1',c5,hl6,c6',hl7,q7,fin']
 ·rw [yaX hn] at q7;rw [if_neg (by rw [ybf];exact hn)] at fin;have km:=znk hn;have kc:=zj3 (l:=(rights ts r c).map fun t=>zaV r c g w (tnG c t)) (m:=zeh ((rights ts r c).map fun t=>zaV r c g w (tnG c t)));generalize ((((rights ts r c).map fun t=>zaV r c g w (tnG c t)).countP fun x=>decide (x=zeh ((rights ts r c).map fun t=>zaV r c g w (tnG c t))):Nat):Int)=kn at *;have fin':zc3 [some (false,.scr l),some (false,.tup (ts.map zad)),some (false,.int r),some (false,.int c),some (false,flr r c g),some (false,flr r c fun i j=>some (w i j)),some (false,.lst ((rights ts r c).map fun t=>flr r c (zat c t))),some (true,.lst (((rights ts r c).map fun t=>zaV r c g w (tnG c t)).map D.int)),some (false,.tup [.int (zeh ((rights ts r c).map fun t=>zaV r c g w (tnG c t))),.int kn]),s9,s10,s11] S=.rt (.bl true) S':=fin;generalize zeh ((rights ts r c).map fun t=>zaV r c g w (tnG c t))=mn at *;generalize ((rights ts r c).map fun t=>zaV r c g w (tnG c t)).map D.int=l7 at *;generalize ((rights ts r c).map fun t=>flr r c (zat c t))=l6 at *;generalize (rights ts r c).map zad=l5 at *;generalize (flr r c fun _ _=>none)=fe at *;generalize (zce c fun _=>none)=re at *;generalize flr r c (fun i j=>some (w i j))=fw at *;generalize flr r c g=fl at *;generalize ts.map zad=tsd at *;simp only [zf8,zh3,zh2];simp [m1,m2,e1',c5,hl6,c6',hl7,q7,km,kc,fin']
end
def zns:∀l:List Int,l.length<=63->∃S,zrZ [.scr l] []=.ok (.bl true) S:=by
 intro l _;obtain ⟨ts,hT,et⟩:=zkK (l:=l) (at':=0) (most:=4) (S:=[]) (by omega) (by omega) (by omega);obtain ⟨r,c,h1,hr,c1,hc,hrc,es⟩:=zkL (l:=l) (at':=90) (S:=[]) (by omega);have n1:=hT.ne;have n4:=hT.le;have ht:TOk ts:=⟨hT.four,by omega⟩;have p91:=zb9 (l:=l) (k:=91) (many:=2) (S:=[]) (by omega) (by omega);have b91:=zch l 91 (many:=2) (by omega);generalize zbZ l 91 2=m91 at *;have hp2:0<((ts.map zad).length:Int)*(1+m91):=Int.mul_pos (by simp;omega) (by omega)
 have hf:zb2 (1+m91)=true:=by
  have:m91=0\/m91=1:=by omega
  rcases this with rfl | rfl<;>decide
 have f2:=zg6 (l:=l) (at':=100) (m:=1+m91) (ts:=ts.map zad) (r:=r) (c:=c) (S:=[]) (by omega) hp2 hf (by omega) (by omega) (by omega) (by omega);rw [yaC,yaC] at f2;generalize zmt l 100 (ts.map zad).length (1+m91)=gb at *;have P:FP ts r c:=⟨ht,by omega,zuP (by omega) hrc,h1,c1,hrc⟩
 have f7:zb2 7=true:=by decide
 have hp1:0<((ts.map zad).length:Int)*1:=by simp;omega
 obtain ⟨G,eo⟩:∃G:Nat->Nat->Int,∀S,zaM [.scr l,.int 300,.tup (ts.map zad),.int r,.int c,.int 1] S=.ok (flr r c fun i j=>some (G i j)) S:=by
  refine ⟨fun i j=>zbZ l (300+7*i+j) ((ts.map zad).length*1),fun S=>?_⟩;have f:=zg6 (l:=l) (at':=300) (m:=1) (ts:=ts.map zad) (r:=r) (c:=c) (S:=S) (by omega) hp1 (by decide) (by omega) (by omega) (by omega) (by omega);rw [yaC,yaC] at f;rw [f];congr 1;apply zlT;intro i j _ _;unfold zmt;have:=(zch l (300+7*(i:Int)+j) hp1).2;rw [if_pos (by omega)]
 obtain ⟨w,hw,ew⟩:∃w:Nat->Nat->Int,(∀i j,0<=w i j/\w i j<=1000)/\zbn (.one 0) zdq (zaz zbl [(zb5 1 (.one 0) (zcU (zae 1)) zdq (eFn zaA [(zae 2),(zaf zb7 (zaf zb7 (zag (.int 200)) (zaf zea (zag (.int 7)) (zah 1))) (zah 0)),(zag (.int 5))]) [0,2])]) [none,some (false,.int c),some (false,.scr l)] (zax 0 r) []=.ok (zbD r c fun i j=>some (w i j)) []:=by
  refine ⟨fun i j=>zbZ l (200+7*i+j) 5,fun i j=>?_,zh8 (by omega) (by omega) ?_⟩
  ·have:=zch l (200+7*(i:Int)+j) (many:=5) (by omega);show 0<=zbZ l (200+7*(i:Int)+j) 5/\zbZ l (200+7*(i:Int)+j) 5<=1000;omega
  ·intro i j _ _;have k:=zb9 (l:=l) (k:=200+7*(i:Int)+j) (many:=5) (S:=[]) (by omega) (by omega);simp [f7,k]
 obtain ⟨S',e⟩:=zum (l:=l) (w:=w) (g:=gb) (s6:=none) (s7:=none) (s8:=none) (s9:=none) (s10:=none) (s11:=none) P hw [] eo;refine ⟨S',?_⟩
 have hlw:(zbD r c fun i j=>some (w i j)).length<=100000:=by rw [zdo];omega
 have hb:-1000000<=(r:Int)/\(r:Int)<=1000000:=by omega
 generalize ts.map zad=tsd at *;unfold flr at *;generalize zbD r c (fun i j=>some (w i j))=fw at *;generalize zbD r c gb=fl at *;simp only [zrZ,zas,zql,zkw,zkv,zku,zkt];simp [et,es,p91,f2,hb,ew,hlw,e]
end S2.L30
namespace M30
open PySem L2 S2 S2.L30
noncomputable def top(i:Nat):Stmt:=PySem.Challenge.pw_floorfits_k30_whole_mended.main.body.getD i (.Pass ⟨0,0,0,0⟩)
noncomputable def T:Tab:=⟨[("NORTH",.int 0),("EAST",.int 1),("SOUTH",.int 2),("WEST",.int 3)],["isinstance","int","bool","tuple","list","len","range","all","sum","enumerate","min","zip","ValueError"],["FloorError","NoPlace","NoTile","NoFill","Unlike","Nothing","NoText"],[("Unlike","FloorError"),("NoFill","FloorError")],["Unlike","NoFill"],[("Ways","tiles"),("Ways","ground"),("Ways","size"),("Ways","is_round"),("Ways","known"),("Mends","size"),("Mends","ways"),("Mends","laid"),("Mends","weights"),("Mends","known")],["known"]⟩
noncomputable def F0:Fn3:=⟨"",[],[],[]⟩
noncomputable def F1:Fn3:=F0.fn "is_whole" ⟨1,false,zcf⟩
def d1:zao (Gn T F0) false ["thing"] (top 14)=some zdp:=by rfl
def s1:FnScope ["thing"] ["thing"] (zab (top 14)):=⟨rfl,rfl,rfl,by decide +kernel,rfl,by decide +kernel,by decide +kernel⟩
noncomputable def F2:Fn3:=F1.fn "is_tuple_of" ⟨3,false,zaY⟩
def d2:zao (Gn T F1) false ["thing","least","most"] (top 15)=some zcb:=by rfl
def s2:FnScope ["thing","least","most"] ["thing","least","most"] (zab (top 15)):=⟨rfl,rfl,rfl,by decide +kernel,rfl,by decide +kernel,by decide +kernel⟩
noncomputable def F3:Fn3:=F2.fn "has_number" ⟨2,false,zbX⟩
def d3:zao (Gn T F2) false ["tiles","thing"] (top 16)=some zcx:=by rfl
def s3:FnScope ["tiles","thing"] ["tiles","thing"] (zab (top 16)):=⟨rfl,rfl,rfl,by decide +kernel,rfl,by decide +kernel,by decide +kernel⟩
noncomputable def F4:Fn3:=F3.fn "empty" ⟨2,false,ze5⟩
def d4:zao (Gn T F3) false ["rows","columns"] (top 17)=some zir:=by rfl
def s4:FnScope ["rows","columns"] ["rows","columns"] (zab (top 17)):=⟨rfl,rfl,rfl,by decide +kernel,rfl,by decide +kernel,by decide +kernel⟩
noncomputable def F5:Fn3:=F4.fn "size_of" ⟨1,false,zbW⟩
def d5:zao (Gn T F4) false ["floor","columns"] (top 18)=some zft:=by rfl
def s5:FnScope ["floor","columns"] ["floor"] (zab (top 18)):=⟨rfl,rfl,rfl,by decide +kernel,rfl,by decide +kernel,by decide +kernel⟩
noncomputable def F6:Fn3:=F5.fn "places_of" ⟨1,true,zaX⟩
def d6:zao (Gn T F5) true ["floor","size","places","row","column"] (top 19)=some zdF:=by rfl
def s6:FnScope ["floor","size","places","row","column"] ["floor"] (zab (top 19)):=⟨rfl,rfl,rfl,by decide +kernel,rfl,by decide +kernel,by decide +kernel⟩
noncomputable def F7:Fn3:=F6.fn "is_row_like" ⟨2,false,zbz⟩
def d7:zao (Gn T F6) false ["row","thing"] (top 20)=some zcR:=by rfl
def s7:FnScope ["row","thing"] ["row","thing"] (zab (top 20)):=⟨rfl,rfl,rfl,by decide +kernel,rfl,by decide +kernel,by decide +kernel⟩
noncomputable def F8:Fn3:=F7.fn "is_like" ⟨2,false,zc5⟩
def d8:zao (Gn T F7) false ["floor","thing"] (top 21)=some zdZ:=by rfl
def s8:FnScope ["floor","thing"] ["floor","thing"] (zab (top 21)):=⟨rfl,rfl,rfl,by decide +kernel,rfl,by decide +kernel,by decide +kernel⟩
noncomputable def F9:Fn3:=F8.fn "refuse_unlike" ⟨2,false,zau⟩
def d9:zao (Gn T F8) false ["floor","other"] (top 22)=some zbd:=by rfl
def s9:FnScope ["floor","other"] ["floor","other"] (zab (top 22)):=⟨rfl,rfl,rfl,by decide +kernel,rfl,by decide +kernel,by decide +kernel⟩
noncomputable def F10:Fn3:=F9.fn "in_rows" ⟨2,false,zdR⟩
def d10:zao (Gn T F9) false ["numbers","size"] (top 23)=some zfu:=by rfl
def s10:FnScope ["numbers","size"] ["numbers","size"] (zab (top 23)):=⟨rfl,rfl,rfl,by decide +kernel,rfl,by decide +kernel,by decide +kernel⟩
noncomputable def F11:Fn3:=F10.fn "number_at" ⟨2,false,zaI⟩
def d11:zao (Gn T F10) false ["floor","place"] (top 24)=some zdG:=by rfl
def s11:FnScope ["floor","place"] ["floor","place"] (zab (top 24)):=⟨rfl,rfl,rfl,by decide +kernel,rfl,by decide +kernel,by decide +kernel⟩
noncomputable def F12:Fn3:=F11.fn "suits" ⟨2,false,ze4⟩
def d12:zao (Gn T F11) false ["wanted","colour"] (top 26)=some ziq:=by rfl
def s12:FnScope ["wanted","colour"] ["wanted","colour"] (zab (top 26)):=⟨rfl,rfl,rfl,by decide +kernel,rfl,by decide +kernel,by decide +kernel⟩
noncomputable def F13:Fn3:=F12.cls "Ways" [.bl false] ⟨4,false,zba⟩
def d13:zao (Gn T (F12.at "Ways")) false ["self","tiles","floor","is_round"] (inC 0 (top 27))=some zcn:=by rfl
def s13:FnScope ["self","tiles","floor","is_round"] ["self","tiles","floor","is_round"] (zab (inC 0 (top 27))):=⟨rfl,rfl,rfl,by decide +kernel,rfl,by decide +kernel,by decide +kernel⟩
noncomputable def F14:Fn3:=F13.mt "first_seam" "Ways" ⟨1,false,zaR⟩
def d14:zao (Gn T (F13.at "Ways")) false ["self"] (inC 1 (top 27))=some zbO:=by rfl
def s14:FnScope ["self"] ["self"] (zab (inC 1 (top 27))):=⟨rfl,rfl,rfl,by decide +kernel,rfl,by decide +kernel,by decide +kernel⟩
noncomputable def F15:Fn3:=F14.mt "ends_row" "Ways" ⟨2,false,zaS⟩
def d15:zao (Gn T (F14.at "Ways")) false ["self","step"] (inC 2 (top 27))=some zcm:=by rfl
def s15:FnScope ["self","step"] ["self","step"] (zab (inC 2 (top 27))):=⟨rfl,rfl,rfl,by decide +kernel,rfl,by decide +kernel,by decide +kernel⟩
noncomputable def F16:Fn3:=F15.mt "colour_round" "Ways" ⟨4,false,zav⟩
def d16:zao (Gn T (F15.at "Ways")) false ["self","step","seam","tile"] (inC 3 (top 27))=some za2:=by rfl
def s16:FnScope ["self","step","seam","tile"] ["self","step","seam","tile"] (zab (inC 3 (top 27))):=⟨rfl,rfl,rfl,by decide +kernel,rfl,by decide +kernel,by decide +kernel⟩
noncomputable def F17:Fn3:=F16.mt "seam_behind" "Ways" ⟨4,false,za7⟩
def d17:zao (Gn T (F16.at "Ways")) false ["self","step","seam","tile","is_last","in_last_row","east","south","around"] (inC 4 (top 27))=some zbE:=by rfl
def s17:FnScope ["self","step","seam","tile","is_last","in_last_row","east","south","around"] ["self","step","seam","tile"] (zab (inC 4 (top 27))):=⟨rfl,rfl,rfl,by decide +kernel,rfl,by decide +kernel,by decide +kernel⟩
noncomputable def F18:Fn3:=F17.mt "numbers_for" "Ways" ⟨2,false,zaN⟩
def d18:zao (Gn T (F17.at "Ways")) false ["self","step","laid"] (inC 5 (top 27))=some za8:=by rfl
def s18:FnScope ["self","step","laid"] ["self","step"] (zab (inC 5 (top 27))):=⟨rfl,rfl,rfl,by decide +kernel,rfl,by decide +kernel,by decide +kernel⟩
noncomputable def F19:Fn3:=F18.mt "fits_round" "Ways" ⟨4,false,zaQ⟩
def d19:zao (Gn T (F18.at "Ways")) false ["self","step","seam","tile"] (inC 6 (top 27))=some zbg:=by rfl
def s19:FnScope ["self","step","seam","tile"] ["self","step","seam","tile"] (zab (inC 6 (top 27))):=⟨rfl,rfl,rfl,by decide +kernel,rfl,by decide +kernel,by decide +kernel⟩
noncomputable def F20:Fn3:=F19.mt "fits" "Ways" ⟨4,false,zcM⟩
def d20:zao (Gn T (F19.at "Ways")) false ["self","step","seam","tile"] (inC 7 (top 27))=some zdJ:=by rfl
def s20:FnScope ["self","step","seam","tile"] ["self","step","seam","tile"] (zab (inC 7 (top 27))):=⟨rfl,rfl,rfl,by decide +kernel,rfl,by decide +kernel,by decide +kernel⟩
noncomputable def F21:Fn3:=F20.mt "choices" "Ways" ⟨3,true,zbR⟩
def d21:zao (Gn T (F20.at "Ways")) true ["self","step","seam","found","number","tile"] (inC 8 (top 27))=some zcB:=by rfl
def s21:FnScope ["self","step","seam","found","number","tile"] ["self","step","seam"] (zab (inC 8 (top 27))):=⟨rfl,rfl,rfl,by decide +kernel,rfl,by decide +kernel,by decide +kernel⟩
noncomputable def F22:Fn3:=F21.fn "cost_at" ⟨3,false,zcG⟩
def d22:zao (Gn T F21) false ["laid","weight","number"] (top 29)=some zd0:=by rfl
def s22:FnScope ["laid","weight","number"] ["laid","weight","number"] (zab (top 29)):=⟨rfl,rfl,rfl,by decide +kernel,rfl,by decide +kernel,by decide +kernel⟩
noncomputable def F23:Fn3:=F22.fn "cost_of" ⟨3,false,zbY⟩
def d23:zao (Gn T F22) false ["floor","weights","whole","costs","place"] (top 30)=some zda:=by rfl
def s23:FnScope ["floor","weights","whole","costs","place"] ["floor","weights","whole"] (zab (top 30)):=⟨rfl,rfl,rfl,by decide +kernel,rfl,by decide +kernel,by decide +kernel⟩
noncomputable def F24:Fn3:=F23.cls "Mends" [] ⟨4,false,za4⟩
def d24:zao (Gn T (F23.at "Mends")) false ["self","tiles","floor","weights"] (inC 0 (top 31))=some zb4:=by rfl
def s24:FnScope ["self","tiles","floor","weights"] ["self","tiles","floor","weights"] (zab (inC 0 (top 31))):=⟨rfl,rfl,rfl,by decide +kernel,rfl,by decide +kernel,by decide +kernel⟩
noncomputable def F25:Fn3:=F24.mt "offers" "Mends" ⟨3,false,zbS⟩
def d25:∀r1 r2 r3,zao (Gn T ((((F24.mt "offers" "Mends" ⟨["self","step","seam"].length,false,r1⟩).mt "least_by_offers" "Mends" ⟨["self","step","seam"].length,false,r2⟩).mt "least_from" "Mends" ⟨["self","step","seam"].length,false,r3⟩).at "Mends")) false ["self","step","seam","found","number","behind","rest","cost"] (inC 1 (top 31))=some (zaF r1 r2 r3):=by intro r1 r2 r3;rfl
def s25:FnScope ["self","step","seam","found","number","behind","rest","cost"] ["self","step","seam"] (zab (inC 1 (top 31))):=⟨rfl,rfl,rfl,by decide +kernel,rfl,by decide +kernel,by decide +kernel⟩
noncomputable def F26:Fn3:=F25.mt "least_by_offers" "Mends" ⟨3,false,zbA⟩
def d26:∀r1 r2 r3,zao (Gn T ((((F24.mt "offers" "Mends" ⟨["self","step","seam"].length,false,r1⟩).mt "least_by_offers" "Mends" ⟨["self","step","seam"].length,false,r2⟩).mt "least_from" "Mends" ⟨["self","step","seam"].length,false,r3⟩).at "Mends")) false ["self","step","seam","offers","least"] (inC 2 (top 31))=some (zak r1 r2 r3):=by intro r1 r2 r3;rfl
def s26:FnScope ["self","step","seam","offers","least"] ["self","step","seam"] (zab (inC 2 (top 31))):=⟨rfl,rfl,rfl,by decide +kernel,rfl,by decide +kernel,by decide +kernel⟩
noncomputable def F27:Fn3:=F26.mt "least_from" "Mends" ⟨3,false,zay⟩
def d27:∀r1 r2 r3,zao (Gn T ((((F24.mt "offers" "Mends" ⟨["self","step","seam"].length,false,r1⟩).mt "least_by_offers" "Mends" ⟨["self","step","seam"].length,false,r2⟩).mt "least_from" "Mends" ⟨["self","step","seam"].length,false,r3⟩).at "Mends")) false ["self","step","seam","key"] (inC 3 (top 31))=some (zam r1 r2 r3):=by intro r1 r2 r3;rfl
def s27:FnScope ["self","step","seam","key"] ["self","step","seam"] (zab (inC 3 (top 31))):=⟨rfl,rfl,rfl,by decide +kernel,rfl,by decide +kernel,by decide +kernel⟩
noncomputable def F28:Fn3:=F27.mt "least_all" "Mends" ⟨1,false,zaT⟩
def d28:zao (Gn T (F27.at "Mends")) false ["self"] (inC 4 (top 31))=some zbP:=by rfl
def s28:FnScope ["self"] ["self"] (zab (inC 4 (top 31))):=⟨rfl,rfl,rfl,by decide +kernel,rfl,by decide +kernel,by decide +kernel⟩
noncomputable def F29:Fn3:=F28.mt "least_whole" "Mends" ⟨1,false,zaZ⟩
def d29:zao (Gn T (F28.at "Mends")) false ["self","numbers","seam","step","least","chosen"] (inC 5 (top 31))=some zbs:=by rfl
def s29:FnScope ["self","numbers","seam","step","least","chosen"] ["self"] (zab (inC 5 (top 31))):=⟨rfl,rfl,rfl,by decide +kernel,rfl,by decide +kernel,by decide +kernel⟩
noncomputable def F30:Fn3:=F29.fn "least_cost" ⟨3,false,zbu⟩
def d30:zao (Gn T F29) false ["tiles","floor","weights"] (top 32)=some zcw:=by rfl
def s30:FnScope ["tiles","floor","weights"] ["tiles","floor","weights"] (zab (top 32)):=⟨rfl,rfl,rfl,by decide +kernel,rfl,by decide +kernel,by decide +kernel⟩
noncomputable def F31:Fn3:=F30.fn "mended" ⟨3,false,zcL⟩
def d31:zao (Gn T F30) false ["tiles","floor","weights","mends"] (top 33)=some zdY:=by rfl
def s31:FnScope ["tiles","floor","weights","mends"] ["tiles","floor","weights"] (zab (top 33)):=⟨rfl,rfl,rfl,by decide +kernel,rfl,by decide +kernel,by decide +kernel⟩
noncomputable def F32:Fn3:=F31.fn "_law_cell" ⟨2,false,zbN⟩
def d32:zao (Gn T F31) false ["_law_script","_law_k"] (top 35)=some zck:=by rfl
def s32:FnScope ["_law_script","_law_k"] ["_law_script","_law_k"] (zab (top 35)):=⟨rfl,rfl,rfl,by decide +kernel,rfl,by decide +kernel,by decide +kernel⟩
noncomputable def F33:Fn3:=F32.fn "_law_pick" ⟨3,false,zaA⟩
def d33:zao (Gn T F32) false ["_law_script","_law_k","_law_many","_law_drawn"] (top 36)=some zdH:=by rfl
def s33:FnScope ["_law_script","_law_k","_law_many","_law_drawn"] ["_law_script","_law_k","_law_many"] (zab (top 36)):=⟨rfl,rfl,rfl,by decide +kernel,rfl,by decide +kernel,by decide +kernel⟩
noncomputable def F34:Fn3:=F33.fn "_law_tiles" ⟨3,false,zcr⟩
def d34:zao (Gn T F33) false ["_law_script","_law_at","_law_most","_law_colours","_law_made","_law_k","_law_tile"] (top 37)=some zdb:=by rfl
def s34:FnScope ["_law_script","_law_at","_law_most","_law_colours","_law_made","_law_k","_law_tile"] ["_law_script","_law_at","_law_most"] (zab (top 37)):=⟨rfl,rfl,rfl,by decide +kernel,rfl,by decide +kernel,by decide +kernel⟩
noncomputable def F35:Fn3:=F34.fn "_law_floor" ⟨6,false,zaM⟩
def d35:zao (Gn T F34) false ["_law_script","_law_at","_law_tiles_here","_law_rows","_law_columns","_law_many","_law_made","_law_row","_law_line","_law_column","_law_here"] (top 38)=some zdd:=by rfl
def s35:FnScope ["_law_script","_law_at","_law_tiles_here","_law_rows","_law_columns","_law_many","_law_made","_law_row","_law_line","_law_column","_law_here"] ["_law_script","_law_at","_law_tiles_here","_law_rows","_law_columns","_law_many"] (zab (top 38)):=⟨rfl,rfl,rfl,by decide +kernel,rfl,by decide +kernel,by decide +kernel⟩
noncomputable def F36:Fn3:=F35.fn "_law_sides" ⟨2,false,zcs⟩
def d36:zao (Gn T F35) false ["_law_script","_law_at"] (top 39)=some zdc:=by rfl
def s36:FnScope ["_law_script","_law_at"] ["_law_script","_law_at"] (zab (top 39)):=⟨rfl,rfl,rfl,by decide +kernel,rfl,by decide +kernel,by decide +kernel⟩
noncomputable def F37:Fn3:=F36.fn "_law_fills" ⟨2,false,zbv⟩
def d37:zao (Gn T F36) false ["_law_tiles_here","_law_floor_here","_law_columns","_law_wanted","_law_row","_law_made","_law_at","_law_want","_law_longer","_law_some","_law_number","_law_tile","_law_is_fit"] (top 40)=some zde:=by rfl
def s37:FnScope ["_law_tiles_here","_law_floor_here","_law_columns","_law_wanted","_law_row","_law_made","_law_at","_law_want","_law_longer","_law_some","_law_number","_law_tile","_law_is_fit"] ["_law_tiles_here","_law_floor_here"] (zab (top 40)):=⟨rfl,rfl,rfl,by decide +kernel,rfl,by decide +kernel,by decide +kernel⟩
noncomputable def F38:Fn3:=F37.fn "_law_as_floor" ⟨2,false,zaP⟩
def d38:zao (Gn T F37) false ["_law_numbers","_law_columns"] (top 41)=some zcl:=by rfl
def s38:FnScope ["_law_numbers","_law_columns"] ["_law_numbers","_law_columns"] (zab (top 41)):=⟨rfl,rfl,rfl,by decide +kernel,rfl,by decide +kernel,by decide +kernel⟩
noncomputable def F39:Fn3:=F38.fn "_law_word" ⟨1,false,zbM⟩
def d39:zao (Gn T F38) false ["_law_kept","_law_kinds"] (top 42)=some zcS:=by rfl
def s39:FnScope ["_law_kept","_law_kinds"] ["_law_kept"] (zab (top 42)):=⟨rfl,rfl,rfl,by decide +kernel,rfl,by decide +kernel,by decide +kernel⟩
noncomputable def F40:Fn3:=F39.fn "_law_do" ⟨5,false,zar⟩
def d40:zao (Gn T F39) false ["_law_what","_law_tiles_here","_law_floor_here","_law_weights","_law_whole","_law_kept","_law_answer","e"] (top 43)=some zbm:=by rfl
def s40:FnScope ["_law_what","_law_tiles_here","_law_floor_here","_law_weights","_law_whole","_law_kept","_law_answer","e"] ["_law_what","_law_tiles_here","_law_floor_here","_law_weights","_law_whole"] (zab (top 43)):=⟨rfl,rfl,rfl,by decide +kernel,rfl,by decide +kernel,by decide +kernel⟩
noncomputable def F41:Fn3:=F40.fn "_law_cost" ⟨3,false,zaJ⟩
def d41:zao (Gn T F40) false ["_law_floor_here","_law_weights","_law_whole","_law_cost_here","_law_mine","_law_heavy","_law_yours"] (top 44)=some zdI:=by rfl
def s41:FnScope ["_law_floor_here","_law_weights","_law_whole","_law_cost_here","_law_mine","_law_heavy","_law_yours"] ["_law_floor_here","_law_weights","_law_whole"] (zab (top 44)):=⟨rfl,rfl,rfl,by decide +kernel,rfl,by decide +kernel,by decide +kernel⟩
def d42:zao (Gn T F41) false ["_law_script","_law_tiles_here","_law_rows","_law_columns","_law_floor_here","_law_weights","_law_some","_law_costs","_law_due","_law_told","_law_other","_law_bad"] (top 45)=some zql:=by rfl
def s42:FnScope ["_law_script","_law_tiles_here","_law_rows","_law_columns","_law_floor_here","_law_weights","_law_some","_law_costs","_law_due","_law_told","_law_other","_law_bad"] ["_law_script"] (zab (top 45)):=⟨rfl,rfl,rfl,by decide +kernel,rfl,by decide +kernel,by decide +kernel⟩
def zoJ{L M:List (Str×Addr)}:∀{C:Str},C∈L.map (·.1)->(L++M).lookup C=L.lookup C:=by
 induction L with
 | nil=>intro C h;simp at h
 | cons p L ih =>
  intro C h;rw [ycx,yay,yay]
  cases e:C == p.1 with
  | true=>rfl
  | false =>
   have:C∈L.map (·.1):=by
    rw [yaw,yav] at h
    rcases h with h | h
    ·rw [h] at e;simp at e
    ·exact h
   exact ih this
def zgM{L M:List (Str×Addr)}(nd:(L.map (·.2)).Nodup){C c:Str}(hC:C∈L.map (·.1))(hc:c∈L.map (·.1)):((L++M).lookup C).getD 0=((L++M).lookup c).getD 0↔C=c:=by
 rw [zoJ hC,zoJ hc];exact ztz nd hC hc
def gm{K:PySem.W.Frag}{x:Str}{st:Stmt}{f:Addr}{oc kV dc pm cd ct:Value}{od an:Option Addr}{sl:Array (Option Value)}(a:PySem.W.nsIn K mainGlobals x=some (some (.ref f)))(l:K.lookup f=some ⟨oc,od,.func (PySem.W.fnOf x x (zbG st) (zbt st) (zab st) .none kV dc pm an cd ct),sl⟩)(c:PySem.W.codeIn K cd x=true)(k:PySem.W.keepIn K (.ref f)=true)(i:PySem.W.isFn K (.ref f)=true):GFn K x st:=⟨f,a,oc,od,kV,dc,pm,an,cd,ct,sl,l,c,k,i⟩
def mm{K:PySem.W.Frag}{x q:Str}{st:Stmt}{f:Addr}{oc kV dc pm cd ct:Value}{od an:Option Addr}{sl:Array (Option Value)}{C:Addr}(a:PySem.W.findIn K (.ref C) x=some (some (.ref f)))(l:K.lookup f=some ⟨oc,od,.func (PySem.W.fnOf x q (zbG st) (zbt st) (zab st) .none kV dc pm an cd ct),sl⟩)(c:PySem.W.codeIn K cd q=true)(k:PySem.W.keepIn K (.ref f)=true)(i:PySem.W.isFn K (.ref f)=true):MFn K C x q st:=⟨f,a,oc,od,kV,dc,pm,an,cd,ct,sl,l,c,k,i⟩
def all_mk{l:PySem.W.OpenLaw}{w:PySem.World}{K:PySem.W.Frag}{h:Heap}{mg:Z6}{fa f42:Addr}(X:K.In h)(G:h.Ns mainGlobals mg)(hfa:mg "law" = some (.ref fa))
  {od42 an42:Option Addr} {sl42:Array (Option Value)} {oc42 kV42 dc42 pm42 cd42 ct42:Value}
  {yWays yMends:Addr}
  (nyWays:PySem.W.nsIn K mainGlobals "Ways" = some (some (.ref yWays))) (pgWays:PySem.W.plainGet K yWays Str.empty=true) (hdWays:PySem.W.hasDictIn K yWays=true) (poWays:PySem.W.plainOver K yWays=true) (saWays:PySem.W.findIn K (.ref yWays) "__setattr__" = some (some (.builtin "object.__setattr__"))) (mkWays:PySem.W.makesIn K yWays=true) (kpWays:PySem.W.keepIn K (.ref yWays)=true)
  (naWaystiles:PySem.W.findIn K (.ref yWays) "tiles" = some none)
  (naWaysground:PySem.W.findIn K (.ref yWays) "ground" = some none)
  (naWayssize:PySem.W.findIn K (.ref yWays) "size" = some none)
  (naWaysis_round:PySem.W.findIn K (.ref yWays) "is_round" = some none)
  (naWaysknown:PySem.W.findIn K (.ref yWays) "known" = some none)
  (nyMends:PySem.W.nsIn K mainGlobals "Mends" = some (some (.ref yMends))) (pgMends:PySem.W.plainGet K yMends Str.empty=true) (hdMends:PySem.W.hasDictIn K yMends=true) (poMends:PySem.W.plainOver K yMends=true) (saMends:PySem.W.findIn K (.ref yMends) "__setattr__" = some (some (.builtin "object.__setattr__"))) (mkMends:PySem.W.makesIn K yMends=true) (kpMends:PySem.W.keepIn K (.ref yMends)=true)
  (naMendssize:PySem.W.findIn K (.ref yMends) "size" = some none)
  (naMendsways:PySem.W.findIn K (.ref yMends) "ways" = some none)
  (naMendslaid:PySem.W.findIn K (.ref yMends) "laid" = some none)
  (naMendsweights:PySem.W.findIn K (.ref yMends) "weights" = some none)
  (naMendsknown:PySem.W.findIn K (.ref yMends) "known" = some none)
  {f13:Addr} {od13 an13:Option Addr} {sl13:Array (Option Value)} {oc13 kV13 dc13 pm13 cd13 ct13:Value}
  {dt13:Addr} {dl13:Value} {dm13:Option Addr} {dn13:Nat} {dq13:Array (Option Value)}
  (a13:PySem.W.findIn K (.ref yWays) "__init__" = some (some (.ref f13))) (i13:PySem.W.isFn K (.ref f13)=true)
  (l13:K.lookup f13=some ⟨oc13,od13,.func (PySem.W.fnOf "__init__" "Ways.__init__" (zbG (inC 0 (top 27))) (zbt (inC 0 (top 27))) (zab (inC 0 (top 27))) (.ref dt13) kV13 dc13 pm13 an13 cd13 ct13),sl13⟩) (c13:PySem.W.codeIn K cd13 "Ways.__init__" = true) (k13:PySem.W.keepIn K (.ref f13)=true)
  (dk13:K.lookup dt13=some ⟨dl13,dm13,.seq #[Value.bool false] dn13,dq13⟩)
  (a42:PySem.W.nsIn K mainGlobals "law" = some (some (.ref f42)))
  (l42:K.lookup f42=some ⟨oc42,od42,.func (PySem.W.fnOf "law" "law" (zbG (top 45)) (zbt (top 45)) (zab (top 45)) .none kV42 dc42 pm42 an42 cd42 ct42),sl42⟩) (c42:PySem.W.codeIn K cd42 "law" = true) (k42:PySem.W.keepIn K (.ref f42)=true)
  (z1:PySem.W.nsIn K mainGlobals "isinstance" = some none)
  (z2:PySem.W.nsIn K mainGlobals "int" = some none)
  (z3:PySem.W.nsIn K mainGlobals "bool" = some none)
  (z4:PySem.W.nsIn K mainGlobals "tuple" = some none)
  (z5:PySem.W.nsIn K mainGlobals "list" = some none)
  (z6:PySem.W.nsIn K mainGlobals "len" = some none)
  (z7:PySem.W.nsIn K mainGlobals "range" = some none)
  (z8:PySem.W.nsIn K mainGlobals "all" = some none)
  (z9:PySem.W.nsIn K mainGlobals "sum" = some none)
  (z10:PySem.W.nsIn K mainGlobals "enumerate" = some none)
  (z11:PySem.W.nsIn K mainGlobals "min" = some none)
  (z12:PySem.W.nsIn K mainGlobals "zip" = some none)
  (z13:PySem.W.nsIn K mainGlobals "ValueError" = some none)
  {gt1:Tok} (gl1:PySem.W.nsIn K mainGlobals "NORTH" = some (some (.int 0 gt1)))
  {gt2:Tok} (gl2:PySem.W.nsIn K mainGlobals "EAST" = some (some (.int 1 gt2)))
  {gt3:Tok} (gl3:PySem.W.nsIn K mainGlobals "SOUTH" = some (some (.int 2 gt3)))
  {gt4:Tok} (gl4:PySem.W.nsIn K mainGlobals "WEST" = some (some (.int 3 gt4)))
  {e0 e1 e2 e3 e4 e5 e6:Addr}
  (n0:PySem.W.nsIn K mainGlobals "FloorError" = some (some (.ref e0))) (x0:PySem.W.excIn K e0 bmV "ValueError.__new__" = true)
  (n1:PySem.W.nsIn K mainGlobals "NoPlace" = some (some (.ref e1))) (x1:PySem.W.excIn K e1 bmV "ValueError.__new__" = true)
  (n2:PySem.W.nsIn K mainGlobals "NoTile" = some (some (.ref e2))) (x2:PySem.W.excIn K e2 bmV "ValueError.__new__" = true)
  (n3:PySem.W.nsIn K mainGlobals "NoFill" = some (some (.ref e3))) (x3:PySem.W.excIn K e3 bmV "ValueError.__new__" = true)
  (n4:PySem.W.nsIn K mainGlobals "Unlike" = some (some (.ref e4))) (x4:PySem.W.excIn K e4 bmV "ValueError.__new__" = true)
  (n5:PySem.W.nsIn K mainGlobals "Nothing" = some (some (.ref e5))) (x5:PySem.W.excIn K e5 bmV "ValueError.__new__" = true)
  (n6:PySem.W.nsIn K mainGlobals "NoText" = some (some (.ref e6))) (x6:PySem.W.excIn K e6 bmV "ValueError.__new__" = true)
  {el3:Value} {ed3:Option Addr} {ec3:ClassData} {es3:Array (Option Value)} (lk3:K.lookup e3=some ⟨el3,ed3,.cls ec3,es3⟩) (mr3:ec3.mro=.ref e3::.ref e0::bmV)
  (ga3:PySem.W.findIn K (.ref e3) "__getattribute__" = some (some (.builtin "BaseException.__getattribute__"))) (gt3:PySem.W.findIn K (.ref e3) "__getattr__" = some none) (cc3:PySem.W.findIn K (.ref e3) "__class__" = some (some (.builtin "object.__class__")))
  {el4:Value} {ed4:Option Addr} {ec4:ClassData} {es4:Array (Option Value)} (lk4:K.lookup e4=some ⟨el4,ed4,.cls ec4,es4⟩) (mr4:ec4.mro=.ref e4::.ref e0::bmV)
  (ga4:PySem.W.findIn K (.ref e4) "__getattribute__" = some (some (.builtin "BaseException.__getattribute__"))) (gt4:PySem.W.findIn K (.ref e4) "__getattr__" = some none) (cc4:PySem.W.findIn K (.ref e4) "__class__" = some (some (.builtin "object.__class__")))
  (nd:[e0,e1,e2,e3,e4,e5,e6].Nodup)
  (p1:GFn K "is_whole" (top 14)) (p2:GFn K "is_tuple_of" (top 15)) (p3:GFn K "has_number" (top 16)) (p4:GFn K "empty" (top 17)) (p5:GFn K "size_of" (top 18)) (p6:GFn K "places_of" (top 19)) (p7:GFn K "is_row_like" (top 20)) (p8:GFn K "is_like" (top 21)) (p9:GFn K "refuse_unlike" (top 22)) (p10:GFn K "in_rows" (top 23)) (p11:GFn K "number_at" (top 24)) (p12:GFn K "suits" (top 26)) (p14:MFn K yWays "first_seam" "Ways.first_seam" (inC 1 (top 27))) (p15:MFn K yWays "ends_row" "Ways.ends_row" (inC 2 (top 27))) (p16:MFn K yWays "colour_round" "Ways.colour_round" (inC 3 (top 27))) (p17:MFn K yWays "seam_behind" "Ways.seam_behind" (inC 4 (top 27))) (p18:MFn K yWays "numbers_for" "Ways.numbers_for" (inC 5 (top 27))) (p19:MFn K yWays "fits_round" "Ways.fits_round" (inC 6 (top 27))) (p20:MFn K yWays "fits" "Ways.fits" (inC 7 (top 27))) (p21:MFn K yWays "choices" "Ways.choices" (inC 8 (top 27))) (p22:GFn K "cost_at" (top 29)) (p23:GFn K "cost_of" (top 30)) (p24:MFn K yMends "__init__" "Mends.__init__" (inC 0 (top 31))) (p25:MFn K yMends "offers" "Mends.offers" (inC 1 (top 31))) (p26:MFn K yMends "least_by_offers" "Mends.least_by_offers" (inC 2 (top 31))) (p27:MFn K yMends "least_from" "Mends.least_from" (inC 3 (top 31))) (p28:MFn K yMends "least_all" "Mends.least_all" (inC 4 (top 31))) (p29:MFn K yMends "least_whole" "Mends.least_whole" (inC 5 (top 31))) (p30:GFn K "least_cost" (top 32)) (p31:GFn K "mended" (top 33)) (p32:GFn K "_law_cell" (top 35)) (p33:GFn K "_law_pick" (top 36)) (p34:GFn K "_law_tiles" (top 37)) (p35:GFn K "_law_floor" (top 38)) (p36:GFn K "_law_sides" (top 39)) (p37:GFn K "_law_fills" (top 40)) (p38:GFn K "_law_as_floor" (top 41)) (p39:GFn K "_law_word" (top 42)) (p40:GFn K "_law_do" (top 43)) (p41:GFn K "_law_cost" (top 44))
  : ∃fd:FuncData,(∀(s:Shared) (v:Value),BindsTo s fd ⟨[v],[]⟩ [("_law_script",v)])/\∀base:Heap,K.In base->base.Ns mainGlobals mg->FnOk l.prog w K mg base (CXE l.prog w) 101 fa fd ["_law_script"] (S2.zmJ K):=by
 have e:=hfa.symm.trans (ya5 X G a42);cases e;have CLWays:Cls K yWays:=⟨pgWays,hdWays,poWays,saWays⟩;have CLMends:Cls K yMends:=⟨pgMends,hdMends,poMends,saMends⟩;have U13:FunD K "__init__" "Ways.__init__" (inC 0 (top 27)) f13 _ #[Value.bool false]:=⟨⟨_,_,_,_,dn13,_,_,_,_,_,_,_,rfl,l13,c13,dk13,rfl⟩⟩;have b13:zbQ K (PySem.W.fnOf "__init__" "Ways.__init__" (zbG (inC 0 (top 27))) (zbt (inC 0 (top 27))) (zab (inC 0 (top 27))) (.ref dt13) kV13 dc13 pm13 an13 cd13 ct13) ["self","tiles","floor","is_round"] []:=fun s us KX hl=>bb4 (p:=fun us=>BindsTo s _ ⟨us,[]⟩ ((["self","tiles","floor","is_round"]:List Str).zip (us++[]))) (fun _ _ _ _=>PySem.W.binds_K KX rfl dk13 rfl rfl rfl) us (by simpa using hl)
 have bd13:zbQ K (PySem.W.fnOf "__init__" "Ways.__init__" (zbG (inC 0 (top 27))) (zbt (inC 0 (top 27))) (zab (inC 0 (top 27))) (.ref dt13) kV13 dc13 pm13 an13 cd13 ct13) ["self","tiles","floor","is_round"] [Value.bool false]:=fun s us KX hl=>bb3 (p:=fun us=>BindsTo s _ ⟨us,[]⟩ ((["self","tiles","floor","is_round"]:List Str).zip (us++[Value.bool false]))) (fun _ _ _=>PySem.W.binds_K KX rfl dk13 rfl rfl rfl) us (by simpa using hl)
 have U42:=zox (st:=(top 45)) l42 c42 k42;refine ⟨PySem.W.fnOf "law" "law" (zbG (top 45)) (zbt (top 45)) (zab (top 45)) .none kV42 dc42 pm42 an42 cd42 ct42,fun s v=>.of_eq rfl,fun base _ _=>?_⟩
 let cl:Cf:=⟨fun x=>(([("FloorError",e0),("NoPlace",e1),("NoTile",e2),("NoFill",e3),("Unlike",e4),("Nothing",e5),("NoText",e6),("Ways",yWays),("Mends",yMends)]:List (Str×Addr)).lookup x).getD 0,K,l.prog,w⟩
 have g0:GOk cl (Gn T F0) l.prog w K mg base 0:=zy3 (cl:=cl) (zai ⟨.int 0,_,ya5 X G gl1,⟨_,rfl⟩,fun _=>.int _⟩ (zai ⟨.int 1,_,ya5 X G gl2,⟨_,rfl⟩,fun _=>.int _⟩ (zai ⟨.int 2,_,ya5 X G gl3,⟨_,rfl⟩,fun _=>.int _⟩ (zai ⟨.int 3,_,ya5 X G gl4,⟨_,rfl⟩,fun _=>.int _⟩ zeE)))) (zai (yaR X G z1) (zai (yaR X G z2) (zai (yaR X G z3) (zai (yaR X G z4) (zai (yaR X G z5) (zai (yaR X G z6) (zai (yaR X G z7) (zai (yaR X G z8) (zai (yaR X G z9) (zai (yaR X G z10) (zai (yaR X G z11) (zai (yaR X G z12) (zai (yaR X G z13) zeE))))))))))))) (zai ⟨ya5 X G n0,x0⟩ (zai ⟨ya5 X G n1,x1⟩ (zai ⟨ya5 X G n2,x2⟩ (zai ⟨ya5 X G n3,x3⟩ (zai ⟨ya5 X G n4,x4⟩ (zai ⟨ya5 X G n5,x5⟩ (zai ⟨ya5 X G n6,x6⟩ zeE))))))) (zai ⟨⟨_,_,x4⟩,_,_,_,_,lk4,zlk mr4⟩ (zai ⟨⟨_,_,x3⟩,_,_,_,_,lk3,zlk mr3⟩ zeE)) (zai (zou (K:=K) (c:="Unlike") (cl:=cl) lk4 mr4 rfl ga4 gt4 cc4 (zai x0 (zai x1 (zai x2 (zai x3 (zai x4 (zai x5 (zai x6 zeE))))))) (fun C hC=>⟨zgM (L:=[("FloorError",e0),("NoPlace",e1),("NoTile",e2),("NoFill",e3),("Unlike",e4),("Nothing",e5),("NoText",e6)]) (M:=[("Ways",yWays),("Mends",yMends)]) (c:="Unlike") nd hC (by simp),zgM (L:=[("FloorError",e0),("NoPlace",e1),("NoTile",e2),("NoFill",e3),("Unlike",e4),("Nothing",e5),("NoText",e6)]) (M:=[("Ways",yWays),("Mends",yMends)]) (c:="FloorError") nd hC (by simp)⟩)) (zai (zou (K:=K) (c:="NoFill") (cl:=cl) lk3 mr3 rfl ga3 gt3 cc3 (zai x0 (zai x1 (zai x2 (zai x3 (zai x4 (zai x5 (zai x6 zeE))))))) (fun C hC=>⟨zgM (L:=[("FloorError",e0),("NoPlace",e1),("NoTile",e2),("NoFill",e3),("Unlike",e4),("Nothing",e5),("NoText",e6)]) (M:=[("Ways",yWays),("Mends",yMends)]) (c:="NoFill") nd hC (by simp),zgM (L:=[("FloorError",e0),("NoPlace",e1),("NoTile",e2),("NoFill",e3),("Unlike",e4),("Nothing",e5),("NoText",e6)]) (M:=[("Ways",yWays),("Mends",yMends)]) (c:="FloorError") nd hC (by simp)⟩)) zeE)) (zai ⟨CLWays,naWaystiles⟩ (zai ⟨CLWays,naWaysground⟩ (zai ⟨CLWays,naWayssize⟩ (zai ⟨CLWays,naWaysis_round⟩ (zai ⟨CLWays,naWaysknown⟩ (zai ⟨CLMends,naMendssize⟩ (zai ⟨CLMends,naMendsways⟩ (zai ⟨CLMends,naMendslaid⟩ (zai ⟨CLMends,naMendsweights⟩ (zai ⟨CLMends,naMendsknown⟩ zeE))))))))));have g1:GOk cl (Gn T F1) l.prog w K mg base 1:=g0.addG X G p1 s1 rfl rfl rfl (fun _ _ _ _ _ _=>bb1 fun _=>rfl) d1;have g2:GOk cl (Gn T F2) l.prog w K mg base 2:=g1.addG X G p2 s2 rfl rfl rfl (fun _ _ _ _ _ _=>bb3 fun _ _ _=>rfl) d2;have g3:GOk cl (Gn T F3) l.prog w K mg base 3:=g2.addG X G p3 s3 rfl rfl rfl (fun _ _ _ _ _ _=>bb2 fun _ _=>rfl) d3;have g4:GOk cl (Gn T F4) l.prog w K mg base 4:=g3.addG X G p4 s4 rfl rfl rfl (fun _ _ _ _ _ _=>bb2 fun _ _=>rfl) d4;have g5:GOk cl (Gn T F5) l.prog w K mg base 5:=g4.addG X G p5 s5 rfl rfl rfl (fun _ _ _ _ _ _=>bb1 fun _=>rfl) d5;have g6:GOk cl (Gn T F6) l.prog w K mg base 6:=g5.addG X G p6 s6 rfl rfl rfl (fun _ _ _ _ _ _=>bb1 fun _=>rfl) d6;have g7:GOk cl (Gn T F7) l.prog w K mg base 7:=g6.addG X G p7 s7 rfl rfl rfl (fun _ _ _ _ _ _=>bb2 fun _ _=>rfl) d7;have g8:GOk cl (Gn T F8) l.prog w K mg base 8:=g7.addG X G p8 s8 rfl rfl rfl (fun _ _ _ _ _ _=>bb2 fun _ _=>rfl) d8;have g9:GOk cl (Gn T F9) l.prog w K mg base 9:=g8.addG X G p9 s9 rfl rfl rfl (fun _ _ _ _ _ _=>bb2 fun _ _=>rfl) d9;have g10:GOk cl (Gn T F10) l.prog w K mg base 10:=g9.addG X G p10 s10 rfl rfl rfl (fun _ _ _ _ _ _=>bb2 fun _ _=>rfl) d10;have g11:GOk cl (Gn T F11) l.prog w K mg base 11:=g10.addG X G p11 s11 rfl rfl rfl (fun _ _ _ _ _ _=>bb2 fun _ _=>rfl) d11;have g12:GOk cl (Gn T F12) l.prog w K mg base 12:=g11.addG X G p12 s12 rfl rfl rfl (fun _ _ _ _ _ _=>bb2 fun _ _=>rfl) d12;have G13:=ztb (cl:=cl) (wo:=w) (P:=l.prog) U13 s13 (g12.at "Ways") rfl rfl rfl d13;have g13:GOk cl (Gn T F13) l.prog w K mg base 14:=GOk.addK (k':=13) (fi:=⟨4,false,zba⟩) (dvs:=[.bl false]) (g12.up (by decide)) (by decide) (ya5 X G nyWays) ⟨mkWays,a13,i13,kpWays⟩ b13 bd13 (.cons rfl .nil) (fun _=>(.cons (.bl _) .nil)) G13;have g14:GOk cl (Gn T F14) l.prog w K mg base 15:=g13.addMG (c:="Ways") CLWays p14 s14 rfl rfl rfl (fun _ _ _ _ _ _=>bb1 fun _=>rfl) d14;have g15:GOk cl (Gn T F15) l.prog w K mg base 16:=g14.addMG (c:="Ways") CLWays p15 s15 rfl rfl rfl (fun _ _ _ _ _ _=>bb2 fun _ _=>rfl) d15;have g16:GOk cl (Gn T F16) l.prog w K mg base 17:=g15.addMG (c:="Ways") CLWays p16 s16 rfl rfl rfl (fun _ _ _ _ _ _=>bb4 fun _ _ _ _=>rfl) d16;have g17:GOk cl (Gn T F17) l.prog w K mg base 18:=g16.addMG (c:="Ways") CLWays p17 s17 rfl rfl rfl (fun _ _ _ _ _ _=>bb4 fun _ _ _ _=>rfl) d17;have g18:GOk cl (Gn T F18) l.prog w K mg base 19:=g17.addMG (c:="Ways") CLWays p18 s18 rfl rfl rfl (fun _ _ _ _ _ _=>bb2 fun _ _=>rfl) d18;have g19:GOk cl (Gn T F19) l.prog w K mg base 20:=g18.addMG (c:="Ways") CLWays p19 s19 rfl rfl rfl (fun _ _ _ _ _ _=>bb4 fun _ _ _ _=>rfl) d19;have g20:GOk cl (Gn T F20) l.prog w K mg base 21:=g19.addMG (c:="Ways") CLWays p20 s20 rfl rfl rfl (fun _ _ _ _ _ _=>bb4 fun _ _ _ _=>rfl) d20;have g21:GOk cl (Gn T F21) l.prog w K mg base 22:=g20.addMG (c:="Ways") CLWays p21 s21 rfl rfl rfl (fun _ _ _ _ _ _=>bb3 fun _ _ _=>rfl) d21;have g22:GOk cl (Gn T F22) l.prog w K mg base 23:=g21.addG X G p22 s22 rfl rfl rfl (fun _ _ _ _ _ _=>bb3 fun _ _ _=>rfl) d22;have g23:GOk cl (Gn T F23) l.prog w K mg base 24:=g22.addG X G p23 s23 rfl rfl rfl (fun _ _ _ _ _ _=>bb3 fun _ _ _=>rfl) d23;have g24:GOk cl (Gn T F24) l.prog w K mg base 26:=g23.addKG (c:="Mends") X G nyMends mkMends kpMends p24 s24 rfl rfl rfl (fun _ _ _ _ _ _=>bb4 fun _ _ _ _=>rfl) d24;have g27:GOk cl (Gn T F27) l.prog w K mg base 86:=GOk.addR3G (cl:=cl) (c:="Mends") (n:=60) (n1:=8) (l1:=3) (b1:=zaF) (r1:=zbS) (n2:=5) (l2:=3) (b2:=zak) (r2:=zbA) (n3:=4) (l3:=3) (b3:=zam) (r3:=zay) g24 CLMends p25 p26 p27 s25 s26 s27 rfl rfl rfl (fun _ _ _ _ _ _=>bb3 fun _ _ _=>rfl) (fun _ _ _ _ _ _=>bb3 fun _ _ _=>rfl) (fun _ _ _ _ _ _=>bb3 fun _ _ _=>rfl) d25 d26 d27 rfl rfl rfl rfl rfl rfl rfl rfl rfl;have g28:GOk cl (Gn T F28) l.prog w K mg base 87:=g27.addMG (c:="Mends") CLMends p28 s28 rfl rfl rfl (fun _ _ _ _ _ _=>bb1 fun _=>rfl) d28;have g29:GOk cl (Gn T F29) l.prog w K mg base 88:=g28.addMG (c:="Mends") CLMends p29 s29 rfl rfl rfl (fun _ _ _ _ _ _=>bb1 fun _=>rfl) d29;have g30:GOk cl (Gn T F30) l.prog w K mg base 89:=g29.addG X G p30 s30 rfl rfl rfl (fun _ _ _ _ _ _=>bb3 fun _ _ _=>rfl) d30;have g31:GOk cl (Gn T F31) l.prog w K mg base 90:=g30.addG X G p31 s31 rfl rfl rfl (fun _ _ _ _ _ _=>bb3 fun _ _ _=>rfl) d31;have g32:GOk cl (Gn T F32) l.prog w K mg base 91:=g31.addG X G p32 s32 rfl rfl rfl (fun _ _ _ _ _ _=>bb2 fun _ _=>rfl) d32;have g33:GOk cl (Gn T F33) l.prog w K mg base 92:=g32.addG X G p33 s33 rfl rfl rfl (fun _ _ _ _ _ _=>bb3 fun _ _ _=>rfl) d33;have g34:GOk cl (Gn T F34) l.prog w K mg base 93:=g33.addG X G p34 s34 rfl rfl rfl (fun _ _ _ _ _ _=>bb3 fun _ _ _=>rfl) d34;have g35:GOk cl (Gn T F35) l.prog w K mg base 94:=g34.addG X G p35 s35 rfl rfl rfl (fun _ _ _ _ _ _=>bb6 fun _ _ _ _ _ _=>rfl) d35;have g36:GOk cl (Gn T F36) l.prog w K mg base 95:=g35.addG X G p36 s36 rfl rfl rfl (fun _ _ _ _ _ _=>bb2 fun _ _=>rfl) d36;have g37:GOk cl (Gn T F37) l.prog w K mg base 96:=g36.addG X G p37 s37 rfl rfl rfl (fun _ _ _ _ _ _=>bb2 fun _ _=>rfl) d37;have g38:GOk cl (Gn T F38) l.prog w K mg base 97:=g37.addG X G p38 s38 rfl rfl rfl (fun _ _ _ _ _ _=>bb2 fun _ _=>rfl) d38;have g39:GOk cl (Gn T F39) l.prog w K mg base 98:=g38.addG X G p39 s39 rfl rfl rfl (fun _ _ _ _ _ _=>bb1 fun _=>rfl) d39;have g40:GOk cl (Gn T F40) l.prog w K mg base 99:=g39.addG X G p40 s40 rfl rfl rfl (fun _ _ _ _ _ _=>bb5 fun _ _ _ _ _=>rfl) d40;have g41:GOk cl (Gn T F41) l.prog w K mg base 100:=g40.addG X G p41 s41 rfl rfl rfl (fun _ _ _ _ _ _=>bb3 fun _ _ _=>rfl) d41;have G42:=zio (cl:=cl) (wo:=w) (P:=l.prog) U42 s42 g41 rfl rfl rfl d42;exact G42.imp (zsJ (cl:=cl) zns)
def walk{l:PySem.W.OpenLaw}{q:Program}{loose:List Str}{XP:(Str->Option Value)->Heap->Prop}{YP:PySem.World->Heap->Prop}{d:DefRec}{K:Params->PySem.W.Frag}(hn:l.most=some 63)(hdf:d.params.defaults=[])
  (hY:∀(w:PySem.World) (h:Heap),YP w h->(K w.params).In h)
  (F:∀(w:PySem.World) (mg:Z6) (fa:Addr) (h:Heap),(K w.params).In h->h.Ns mainGlobals mg->mg d.name=some (.ref fa) →
   ∃fd:FuncData,(∀(s:Shared) (u:Value),BindsTo s fd ⟨[u],[]⟩ [("_law_script",u)])/\∀base:Heap,(K w.params).In base->base.Ns mainGlobals mg->FnOk l.prog w (K w.params) mg base (CXE l.prog w) 101 fa fd ["_law_script"] (S2.zmJ (K w.params))) :
  PySem.W.WalkO q loose XP YP l.row.toRowW d [] (fun f vs=>PySem.call f vs) :=
 L2.zoL (n:=63) (k:=101) (x:="_law_script") (CX:=fun w=>CXE l.prog w) (sp:=fun w=>S2.zmJ (K w.params)) hn (by decide) hdf ⟨rfl,by decide,by decide⟩ hY F (fun _ _ a ns hl hO hS=>⟨a,ns,rfl,hl,hO,hS,fun _=>rfl⟩) (by rintro _ _ _ _ _ ⟨_,_,_,_,_,_,_,_,_,_,_,_,_,_,z⟩;exact z)
end M30
namespace PySem.W.Fast
def tw16970357212029401672:=0
def tw7003140359004459647:=0
def tw5070848388909303676:=0
def tw1874424604100010872:=0
def tw17359781266103839706:=0
def tw14231745237599821466:=0
def tw9730289367399252937:=0
def tw15629995473066602490:=0
def tw10917990080078605339:=0
def tw14252846723467001675:=0
def tw1342264798861113036:=0
def tw2272143140561109503:=0
def tw13559924704398938533:=0
def tw15584363279864910115:=0
def tw14784674979087120293:=0
def tw4732191800734065916:=0
def tw3851664966711622653:=0
def tw10144201088526359565:=0
def tw10955261452532001607:=0
def tw12659400770628690346:=0
def tw17307950042245250913:=0
def tw2754698657750817659:=0
def tw3288127352810918287:=0
def tw1083809688386404218:=0
def tw15550834654455303263:=0
def tw11887164883161550056:=0
def tw4783309390585026283:=0
def tw7879289553084738422:=0
def tw6242021670809868340:=0
def tw5638082033738426556:=0
def tw5892126314573006689:=0
def tw13232264746814782427:=0
def tw7790717899464463232:=0
def tw3873884255208105203:=0
def tw10508985856819725280:=0
def tw14197299080871674994:=0
def tw4189329084018996971:=0
def tw6921159485703607196:=0
def tw9246516341364870756:=0
def tw10945179687713867972:=0
def tw10313126853877950130:=0
def tw16712757566448083183:=0
def tw13436425927494456677:=0
def tw5016042420171033214:=0
def tw16349901065676861540:=0
def tw11227120908223599794:=0
def tw393950958490373337:=0
def tw16859428901542540743:=0
def tw1890844906952210631:=0
def tw5314722822556501583:=0
def tw9659493718335483584:=0
def tw14449917032859994682:=0
def tw3491674832615611437:=0
def tw18425764468934919905:=0
def tw11336028143289490543:=0
def tw5304394992708571330:=0
def tw4685158907285691614:=0
def tw190343434828595677:=0
def tw65797024111388269:=0
def tw11044991592564860300:=0
def tw3981202002046105052:=0
def tw15665866947714185635:=0
def tw9525709515325002122:=0
def tw7390345721456507002:=0
def tw15669353161735442174:=0
def tw4809560406170511765:=0
def tw12094494423512808498:=0
def tw11471197369390713040:=0
def tw3079757293242765357:=0
def tw1800879785163876606:=0
def tw4194625000249727860:=0
def tw14288844720167040098:=0
def tw10558415203807561612:=0
def tw12205454848467403363:=0
def tw5005132842670026728:=0
def tw4167976141796630007:=0
def tw1453419607724275679:=0
def tw6747000059464164040:=0
def tw6373522768616272829:=0
def tw14889231215375633816:=0
def tw2832894894302674729:=0
def tw12123999194620850243:=0
def tw14194086055158392109:=0
def tw16744730174384664843:=0
def tw8264906890227803677:=0
def tw6210018182455539225:=0
def tw8259910172356116081:=0
def tw17666164811932687914:=0
def tw4794050281943444072:=0
def tw4361571802051610488:=0
def tw17360411093263266577:=0
def tw5809189047425617506:=0
def tw16869229237450028589:=0
def tw15700590906904341034:=0
def tw637774633756435219:=0
def tw16573615133694490878:=0
def tw15070583585540523038:=0
def tw9831508649148637537:=0
def tw11766051186047396330:=0
def tw16839829993757906164:=0
def tw329157478432371108:=0
def tw17484899703512946720:=0
def tw7038232300314965529:=0
def tw4718529024358897827:=0
def tw7609698281126404770:=0
def tw4054044908359800912:=0
def tw10503473297151408459:=0
def tw4574831718707483763:=0
def tw15444703850468765896:=0
def tw14411657044578744596:=0
def tw11588679236954238532:=0
def tw17900486780472958967:=0
def tw10492862467435087352:=0
def tw16076430924491207461:=0
def tw6938636961889800340:=0
def tw3808117870671080273:=0
def tw13694078387455625893:=0
def tw12848588714609346421:=0
def tw8677075279891466769:=0
def tw8215686820750295327:=0
def tw12916358929434054268:=0
def tw9334582034632159991:=0
def tw7810503380291705492:=0
def tw12278338448515606587:=0
def tw6488058722812619918:=0
def tw8273922304954987167:=0
def tw1005982229861290087:=0
def tw16404235747602061299:=0
def tw10248496186393506781:=0
def tw14032209550050383813:=0
def tw18320649581040049530:=0
def tw4826029051729758942:=0
def tw13279674673980793976:=0
def tw1721193343345535083:=0
def tw13999110191697777065:=0
def tw4741459499012992419:=0
def tw11444973697466699117:=0
def tw427049564844913989:=0
def tw8507312935041013093:=0
def tw17557786570316005598:=0
def tw12760827395602844720:=0
def tw5274698527692424203:=0
def tw16526907041573221504:=0
def tw6652680892838146889:=0
def tw16108947347833398015:=0
def tw10231235365042175216:=0
def tw12498637288842463224:=0
def tw1719290454062673231:=0
def tw17089767681260929925:=0
def tw15816880679306731101:=0
def tw4170717454236054043:=0
def tw4590416130357170772:=0
def tw9933552701051054829:=0
def tw285165018997401662:=0
def tw2815157575516246243:=0
def tw7618657393856352826:=0
def tw8044865479254978004:=0
def tw8061713228023499082:=0
def tw9075428549936107482:=0
def tw4979222774774263694:=0
def tw7849998246903992026:=0
def tw17337343885224195071:=0
def tw16968094679365173839:=0
def tw14196658442915283899:=0
def tw13197810143698514314:=0
def tw1042740591127023464:=0
def tw17351721590421277267:=0
def tw12258065201675180033:=0
def tw9389455909390285820:=0
def tw6097252430306253138:=0
def tw1910195967018093095:=0
def tw16574617615160848290:=0
def tw15387214379182989748:=0
def tw17968246207145744614:=0
def tw13791270527573026896:=0
def tw69528794040521931:=0
def tw1720798835432559853:=0
def tw2851575202203545937:=0
def tw18310747137345639655:=0
def tw3136033950224467980:=0
def tw16457781011006963370:=0
def tw9209396703514520048:=0
def tw7240453895633272025:=0
def tw858988265090216893:=0
def tw7532112539637894368:=0
def tw6335277528190758195:=0
def tw4759270045311229817:=0
def tw2413307731333101710:=0
def tw14073737887104334429:=0
def tw3168554759094322325:=0
def tw11775327274529067731:=0
def tw2651015120320200883:=0
def tw8980175955723321322:=0
def tw6528999489342757994:=0
def tw4646687355594983202:=0
def tw17944534283414233688:=0
def tw11002604331348918646:=0
def tw4084161578254318206:=0
def tw17095590623172103132:=0
def tw14909235846401005027:=0
def tw11186809859101425317:=0
def tw6822902677798147877:=0
def tw18066496857938599562:=0
def tw14566366347388523561:=0
def tw13736167485612075212:=0
def tw11279279947154484979:=0
def tw11020972085886968853:=0
def tw8616816018676560658:=0
def tw17542597907127480094:=0
def tw17866370998671627040:=0
def tw16596958960529762915:=0
def tw9478979453536055775:=0
def tw11418058673779670725:=0
def tw5530314124537456954:=0
def tw12566228670175400627:=0
def tw3227195421985641537:=0
def tw16574208405012819109:=0
def tw12363023890988143733:=0
def tw8956198505496851639:=0
def tw1281149519608216171:=0
def tw13833401142642688362:=0
def tw9093416743558979203:=0
def tw1828511256322580902:=0
def tw1485405828001211855:=0
def tw2597402974567572172:=0
def tw2343034242165681786:=0
def tw274724073124917828:=0
def tw16741573595156510089:=0
def tw16035865316122351458:=0
def tw14329235213162413113:=0
def tw6976084638096956606:=0
def tw14304255725002613618:=0
def tw8758510137005549298:=0
def tw15830249787433882157:=0
def tw3978598274594948930:=0
def tw12968362438816998105:=0
def tw9878059573563660790:=0
def tw9163332549374032052:=0
def tw6990070885911246513:=0
def tw6293586568835292641:=0
def tw12023814706801953824:=0
def tw5805803968263851290:=0
def tw17838830839710179961:=0
def tw2259053108645815820:=0
def tw16730097478925709685:=0
def tw1234347454814779878:=0
def tw11431067157900705438:=0
def tw9708149834405866681:=0
def tw1728536552226533968:=0
def tw17043187778482377503:=0
def tw12483852220879155027:=0
def tw6926940007576688212:=0
def tw3593545921306713549:=0
def tw11931548556108873452:=0
def tw11478385031103613246:=0
def tw1899963433718877112:=0
def tw14359829301970861803:=0
def tw9696969849676655870:=0
def tw3539268582454354904:=0
def tw4192922499220552421:=0
def tw14890795003017750488:=0
def tw16814902671686883677:=0
def tw7299142164580539804:=0
def tw428718812673961405:=0
def tw9325849157692268068:=0
def tw9246602908014882357:=0
def tw7885793182790451119:=0
def tw5220031199879375608:=0
def tw2718882403759663168:=0
def tw2523098266378225396:=0
def tw1713147478365967842:=0
def tw16188229061871904622:=0
def tw15930625313693473759:=0
def tw796236690209162258:=0
def tw2475717709571837410:=0
def tw12887058274899669688:=0
def tw4694938766155809996:=0
def tw15485511360915901249:=0
def tw4060425522906517466:=0
def tw1764766266377226148:=0
def tw556263322371476227:=0
def tw7386073549219825383:=0
def tw9685873565763817907:=0
def tw4450178581457195501:=0
def tw3615091395996406591:=0
def tw16250364328562816211:=0
def tw8712902472976832071:=0
def tw7084449817776213788:=0
def tw10225710093286664911:=0
def tw4606968178717437239:=0
def tw8927366024141010230:=0
def tw7737714251904803331:=0
def tw14597547725260939692:=0
def tw17093600617845985597:=0
def tw1067285293043595906:=0
def tw11214504733504654908:=0
def tw9854278194611466879:=0
def tw13111480239256988273:=0
def tw11147114056179064959:=0
def tw16081093230276366954:=0
def tw12694199713706304497:=0
def tw9499772396308975795:=0
def tw13050815802116692715:=0
def tw15340680825029526908:=0
def tw6427962771007717988:=0
def tw4335729077441641359:=0
def tw3757102854230166742:=0
def tw15188363344495559358:=0
def tw6835375276046444553:=0
def tw16182602898366153199:=0
def tw6581972880462882148:=0
def tw5873620972098888393:=0
def tw5581356389606359179:=0
def tw4760859498277512818:=0
def tw2782598946466398395:=0
def tw17540331135494518167:=0
def tw15747388344016593572:=0
def tw13630426414781331497:=0
def tw15175133104448951444:=0
def tw8123647214415443042:=0
def tw7415202630014963504:=0
def tw12754612378499038161:=0
def tw9328877311442294347:=0
def tw10385694788583844120:=0
def tw4485101699063463289:=0
def tw3818749440585665663:=0
def tw17935238498679299637:=0
def tw2995714461979185721:=0
def tw7658868289015055851:=0
def tw1905824830535033311:=0
def tw18100336934036728387:=0
def tw1595952214575997284:=0
def tw13500394999862478441:=0
def tw13073764551191006547:=0
def tw9425866285114208241:=0
def tw8906594780475091018:=0
def tw7397093820778465764:=0
def tw6846093554308865275:=0
def tw4459414336794010043:=0
def tw3025246929810374948:=0
def tw17753591529073464530:=0
def tw13480314620234578698:=0
def tw12169470959026750796:=0
def tw11094263274310460271:=0
def tw10756540018460979547:=0
def tw7127261044883217331:=0
def tw4852443840172855242:=0
def tw2556182090157572750:=0
def tw17949418778534009159:=0
def tw17548505904463781871:=0
def tw13590908949701378706:=0
def tw13548529533822564638:=0
def tw11642080146242849099:=0
def tw10701492652160118767:=0
def tw16288276270117271807:=0
def tw7112657128139206381:=0
def tw653946212631627492:=0
def tw5914555996423318967:=0
def tw5612636157549963586:=0
def tw3020534997293359410:=0
def tw18392809961621278738:=0
def tw7174704457938369639:=0
def tw6810104739157564098:=0
def tw6566161993887391209:=0
def tw6383895391651830632:=0
def tw5197962703576696600:=0
def tw4833441298397087279:=0
def tw18242692365408069507:=0
def tw18163288377021329091:=0
def tw14704117012295980897:=0
def tw13625413788062651297:=0
def tw12197729463492054791:=0
def tw9908439901256372347:=0
def tw9792955329383535183:=0
def tw9779791461474601470:=0
def tw9301420734269304574:=0
def tw9014684994957636182:=0
def tw8889379525922903564:=0
def tw8847032722921350529:=0
def tw8746643126275641014:=0
def tw865332761764718186:=0
def tw8546231419208208024:=0
def tw8225157823762006159:=0
def tw8203163643373432895:=0
def tw8060392021824291769:=0
def tw7876607037486345607:=0
def tw7764124752185826437:=0
def tw7649416664810651436:=0
def tw7536484467596576754:=0
def tw7427722779265263593:=0
def tw6939997867489583842:=0
def tw6915544120659127144:=0
def tw6829987845200885343:=0
def tw6512436786149299728:=0
def tw6410412610533174621:=0
def tw6369406908141057382:=0
def tw6216785384009666203:=0
def tw6033850048790588823:=0
def tw5884550084631099683:=0
def tw5704174069585773069:=0
def tw5700391332862147957:=0
def tw5635403042829157412:=0
def tw5456777122899447239:=0
def tw5415853274995212645:=0
def tw5102389524186861203:=0
def tw4626826324101687606:=0
def tw4534723923581195859:=0
def tw4286936372695952013:=0
def tw4105870431489642948:=0
def tw4040672341300040578:=0
def tw3711181812571114280:=0
def tw3627585052076144172:=0
def tw3563926933194265737:=0
def tw3540042458545497323:=0
def tw3439516525484512849:=0
def tw3398276129790323039:=0
def tw3230299955954412779:=0
def tw3060644673789843481:=0
def tw3031192627488301127:=0
def tw3017372739183360261:=0
def tw2996393037992142017:=0
def tw298598001089651434:=0
def tw2768930092105234076:=0
def tw2600156244849718185:=0
def tw2533279142556628925:=0
def tw2275570230757817078:=0
def tw2158794688605240449:=0
def tw2131664904852963195:=0
def tw2094506991437806003:=0
def tw2021971656028993301:=0
def tw1977879095292133566:=0
def tw1864386419301801835:=0
def tw1861029181760817513:=0
def tw18313798659340095742:=0
def tw18149860453530467914:=0
def tw17816900075182203978:=0
def tw17666059884958200298:=0
def tw17540683654511901085:=0
def tw17538578374040983274:=0
def tw17435545283793132018:=0
def tw17256343021185754812:=0
def tw17076816763281308836:=0
def tw17022503531307994251:=0
def tw16912560829206675352:=0
def tw16555884576728141542:=0
def tw16449768842490786697:=0
def tw16237187285284395041:=0
def tw16213008184162116287:=0
def tw16195386970705559789:=0
def tw16049383192908196586:=0
def tw15819841971228943973:=0
def tw15761003649415113673:=0
def tw15678257938177534267:=0
def tw15512006285276338540:=0
def tw15402185725574136301:=0
def tw15336449916551168134:=0
def tw15029484227151659043:=0
def tw14860969753379608440:=0
def tw14800968463048377388:=0
def tw14790555413564874708:=0
def tw14758856691488764863:=0
def tw14575752047385237878:=0
def tw14277920228951969998:=0
def tw14024157645364285115:=0
def tw13909570135468047256:=0
def tw13905452647269845258:=0
def tw13846659963961973442:=0
def tw13840175001958942626:=0
def tw13793922147590984710:=0
def tw13741875858198927740:=0
def tw13722791455610185689:=0
def tw13510223741995998194:=0
def tw13280821746285508694:=0
def tw13190052095033276087:=0
def tw1312728943370462245:=0
def tw13069836796731111945:=0
def tw12893058287139404294:=0
def tw12766557735396556720:=0
def tw12731125202889449399:=0
def tw1271324844273317831:=0
def tw12489271946820782111:=0
def tw12459204784759405491:=0
def tw12132798644104653475:=0
def tw1208392124702766185:=0
def tw11942767399899364986:=0
def tw11751403106159278916:=0
def tw11476067400244399279:=0
def tw11452657800601462310:=0
def tw11435163563368053122:=0
def tw11296440002869995948:=0
def tw1115471834471317212:=0
def tw11047172287893135467:=0
def tw10977656625100115582:=0
def tw10966929291469190548:=0
def tw10903577900575310530:=0
def tw10557324589492334262:=0
def tw10479238311985028322:=0
def tw10452250851960717467:=0
def tw10199613663528794583:=0
def tw10105656261290492132:=0
end PySem.W.Fast
open PySem PySem.W PyProof.Rows
set_option maxRecDepth 100000 in
set_option maxHeartbeats 0 in
theorem PySem.Challenge.cw_floorfits_k30_whole_mended_holds : PySem.Challenge.rw_floorfits_k30_whole_mended.Holds := by
 w_on;o_law;k_head;(case hw=>w_witness2)
 k_fill
 refine M30.walk (l:=PySem.Challenge.rw_floorfits_k30_whole_mended) rfl rfl (fun w h Y=>PySem.W.kIn_of Y) ?F
 case F =>
  intro w mg fa h KX G hmg;refine' M30.all_mk KX G hmg ?nyWays ?pgWays ?hdWays ?poWays ?saWays ?mkWays ?kpWays ?naWaystiles ?naWaysground ?naWayssize ?naWaysis_round ?naWaysknown ?nyMends ?pgMends ?hdMends ?poMends ?saMends ?mkMends ?kpMends ?naMendssize ?naMendsways ?naMendslaid ?naMendsweights ?naMendsknown ?a13 ?i13 ?l13 ?c13 ?k13 ?dk13 ?a42 ?l42 ?c42 ?k42 ?z1 ?z2 ?z3 ?z4 ?z5 ?z6 ?z7 ?z8 ?z9 ?z10 ?z11 ?z12 ?z13 ?gl1 ?gl2 ?gl3 ?gl4 ?n0 ?x0 ?n1 ?x1 ?n2 ?x2 ?n3 ?x3 ?n4 ?x4 ?n5 ?x5 ?n6 ?x6 ?lk3 ?mr3 ?ga3 ?gt3 ?cc3 ?lk4 ?mr4 ?ga4 ?gt4 ?cc4 ?nd ?_ ?_ ?_ ?_ ?_ ?_ ?_ ?_ ?_ ?_ ?_ ?_ ?_ ?_ ?_ ?_ ?_ ?_ ?_ ?_ ?_ ?_ ?_ ?_ ?_ ?_ ?_ ?_ ?_ ?_ ?_ ?_ ?_ ?_ ?_ ?_ ?_ ?_ ?_ ?_
  (case nyWays=>k_is);(case pgWays=>k_is);(case hdWays=>k_is);(case poWays=>k_is)
  (case saWays=>k_is);(case mkWays=>k_is);(case kpWays=>k_is);(case naWaystiles=>k_is)
  (case naWaysground=>k_is);(case naWayssize=>k_is);(case naWaysis_round=>k_is);(case naWaysknown=>k_is)
  (case nyMends=>k_is);(case pgMends=>k_is);(case hdMends=>k_is);(case poMends=>k_is)
  (case saMends=>k_is);(case mkMends=>k_is);(case kpMends=>k_is);(case naMendssize=>k_is)
  (case naMendsways=>k_is);(case naMendslaid=>k_is);(case naMendsweights=>k_is);(case naMendsknown=>k_is)
  (case a13=>k_is);(case i13=>k_is);(case l13=>k_is);(case c13=>k_is)
  (case k13=>k_is);(case dk13=>k_is);(case a42=>k_is);(case l42=>k_is)
  (case c42=>k_is);(case k42=>k_is);(case z1=>k_is);(case z2=>k_is)
  (case z3=>k_is);(case z4=>k_is);(case z5=>k_is);(case z6=>k_is)
  (case z7=>k_is);(case z8=>k_is);(case z9=>k_is);(case z10=>k_is)
  (case z11=>k_is);(case z12=>k_is);(case z13=>k_is);(case gl1=>k_is)
  (case gl2=>k_is);(case gl3=>k_is);(case gl4=>k_is);(case n0=>k_is)
  (case x0=>k_exc);(case n1=>k_is);(case x1=>k_exc);(case n2=>k_is)
  (case x2=>k_exc);(case n3=>k_is);(case x3=>k_exc);(case n4=>k_is)
  (case x4=>k_exc);(case n5=>k_is);(case x5=>k_exc);(case n6=>k_is)
  (case x6=>k_exc);(case lk3=>k_is);(case mr3=>with_unfolding_all rfl);(case ga3=>k_is)
  (case gt3=>k_is);(case cc3=>k_is);(case lk4=>k_is);(case mr4=>with_unfolding_all rfl)
  (case ga4=>k_is);(case gt4=>k_is);(case cc4=>k_is);(case nd=>decide)
  all_goals ((first | refine' M30.gm ?a ?l ?c ?k ?i | refine' M30.mm ?a ?l ?c ?k ?i);(case a=>k_is);(case l=>k_is);(case c=>k_is);(case k=>k_is);(case i=>k_is))
#print axioms PySem.Challenge.cw_floorfits_k30_whole_mended_holds
