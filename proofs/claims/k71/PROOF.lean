import PyProof.Rows.All
import Wide.All
import OpenK.AllK
import Wide.FinOn
import Lean
import PyProof.EqAt
import PyProof.EqKinds
import PyProof.TupleCall
import PySem.SetTable
import PyProof.TupleKey
import Wide.Seal
import PyProof.DictRoadsH
import PyProof.Rows.TupTab
import PyProof.Rows.TupDisplay
import PyProof.Draws
import PyProof.EnumMake
import OpenK.KRaise
import OpenK.KOwn
import PyProof.Rows.TopTwo
import PyProof.RulesAs
import PyProof.RulesDel
import PyProof.ExcArgsOwn
import PyProof.ExcAttrAll.ValueError
import PyProof.Rows.CountFlat
import PyProof.SumWalk
import PyProof.Rows.SeqCalls
import PyProof.ZipIter
import KE.KRevIter
import PyProof.CollectIter
import PyProof.TupleOfGen
import PyProof.ListRange
import PyProof.WalkInts
import KE.KSortTup
import KE.KDictList
import PySem.Challenge.RW_floorfits_k71_whole_areas
set_option Elab.async false
set_option linter.all false
set_option maxRecDepth 100000
set_option maxHeartbeats 4000000
abbrev Z1:=Nat->Nat->Option Int
abbrev Z2:=List (List Int)
abbrev Z3:=List (PySem.Addr×PySem.Obj)
abbrev Z4:=List (Option Int)
abbrev Z5:=PySem.Value->PySem.Shared->Prop
abbrev Z6:=PySem.Str->Option PySem.Value
def yaa:=@PySem.wpAny_bind
def yab:=@Bool.and_eq_true
def yac:=@PySem.wpAny_pure
def yad:=@List.length_map
def yae:=@PySem.Heap.get?_push_of_some
def yaf:=@List.size_toArray
def yag:=@List.length_cons
def yah:=@Nat.le_refl
def yai:=@Nat.lt_of_lt_of_le
def yaj:=@List.getElem?_eq_getElem
def yak:=@of_decide_eq_true
def yal:=@List.length_append
def yam:=@PySem.Heap.lt_size
def yan:=@decide_eq_true
def yao:=@PySem.Heap.get?_push_size
def yap:=@List.getElem?_eq_some_iff
def yaq:=@List.mem_map
def yar:=@Nat.le_trans
def yas:=@List.mem_cons
def yat:=@List.map_cons
def yau:=@decide_eq_false
def yav:=@List.mem_append_right
def yaw:=@List.getElem?_set_self
def yax:=@List.lookup_cons
def yay:=@Nat.ne_of_lt
def yaz:=@List.length_set
def yaA:=@List.mem_cons_of_mem
def yaB:=@List.mem_cons_self
def yaC:=@Bool.false_eq_true
def yaD:=@PySem.mem_of_lookup
def yaE:=@Option.some_ne_none
def yaF:=@List.getElem?_map
def yaG:=@List.getElem?_set_ne
def yaH:=@Bool.false_ne_true
def yaI:=@Array.getD_eq_getD_getElem?
def yaJ:=@List.getElem?_append_right
def yaK:=@PySem.wpAny_newObj_type
def yaL:=@List.length_replicate
def yaM:=@Nat.zero_le
def yaN:=@List.mem_append_left
def yaO:=@PyProof.Rows.slot_tuple_getitem
def yaP:=@List.mem_singleton
def yaQ:=@List.getD_eq_getElem?_getD
def yaR:=@Nat.lt_irrefl
def yaS:=@PySem.wpAny_callSpecial?_slot
def yaT:=@List.append_nil
def yaU:=@PySem.wpAny_call_entry
def yaV:=@PySem.F.slot_dict_keyiterator_next
def yaW:=@List.getElem?_append_left
def yaX:=@PySem.W.mg_none_of
def yaY:=@beq_eq_false_iff_ne
def yaZ:=@Array.length_toList
def ya0:=@PySem.W.kia_one
def ya1:=@Int.toNat_natCast
def ya2:=@Int.eq_ofNat_of_zero_le
def ya3:=@Nat.ne_of_gt
def ya4:=@Array.getElem?_eq_getElem
def ya5:=@PySem.wpAny_truthy_bool
def ya6:=@List.length_singleton
def ya7:=@Bool.not_eq_true'
def ya8:=@decide_eq_true_eq
def ya9:=@List.Pairwise.imp_of_mem
def yba:=@List.mem_filter
def ybb:=@List.map_append
def ybc:=@decide_eq_false_iff_not
def ybd:=@PySem.wpAny_mono
def ybe:=@beq_self_eq_true
def ybf:=@List.isEmpty_iff
def ybg:=@List.replicate_succ
def ybh:=@PySem.wpAny_holding
def ybi:=@List.mem_append
def ybj:=@List.nodup_cons
def ybk:=@List.map_map
def ybl:=@if_false
def ybm:=@PySem.sizeLine_eq
def ybn:=@PySem.wpAny_typeNameOfWhole_keyiter
def ybo:=@PySem.Heap.size_push
def ybp:=@List.append_assoc
def ybq:=@PySem.wpAny_loadPart_at
def ybr:=@List.pairwise_map
def ybs:=@PyProof.Rows.callWith_type1
def ybt:=@PySem.F.slot_tuple_iterator_next
def ybu:=@List.all_eq_true
def ybv:=@List.getElem_mem
def ybw:=@List.getElem_map
def ybx:=@PySem.Heap.get?_update_self
def yby:=@List.all_cons
def ybz:=@PySem.W.mg_of
def ybA:=@List.mem_range
def ybB:=@PySem.wpAny_field
def ybC:=@PySem.wpAny_passesOwn
def ybD:=@List.flatten_cons
def ybE:=@PySem.wpAny_typeNameOf_keyiter
def ybF:=@List.getElem?_replicate
def ybG:=@PySem.F.plainAttrs_list
def ybH:=@decide_eq_decide
def ybI:=@List.filter_cons
def ybJ:=@PySem.wpAny_seqItems
def ybK:=@Array.getElem?_eq_none
def ybL:=@PySem.wpAny_Call_Name_kw
def ybM:=@List.pairwise_cons
def ybN:=@List.foldl_cons
def ybO:=@PySem.F.slot_int_rmul
def ybP:=@List.getElem?_eq_none
def ybQ:=@List.length_filter_le
def ybR:=@beq_iff_eq
def ybS:=@Array.getElem?_eq_some_iff
def ybT:=@PySem.F.excBase_ValueError
def ybU:=@List.perm_ext_iff_of_nodup
def ybV:=@Array.getElem_toList
def ybW:=@PySem.wpAny_binaryOp_repeat_ref
def ybX:=@PySem.F.args_dict_keyiterator_next_1
def ybY:=@PySem.F.entry_dict_keyiterator_next
def ybZ:=@PySem.F.args_tuple_add_2
def yb0:=@PySem.call_meets
def yb1:=@PySem.wpAny_execs_nil
def yb2:=@List.mem_filterMap
def yb3:=@PySem.F.entry_tuple_add
def yb4:=@List.forIn_cons
def yb5:=@PySem.Obj.data_mapFields
def yb6:=@List.getElem?_drop
def yb7:=@List.contains_cons
def yb8:=@PySem.wpAny_setField_rec
def yb9:=@PySem.F.slot_tuple_add
def yca:=@PyProof.Rows.subscriptTail_builtinR
def ycb:=@List.take_of_length_le
def ycc:=@List.ext_getElem?
def ycd:=@List.foldl_append
def yce:=@Nat.mul_le_mul
def ycf:=@PySem.wpAny_newTuple
def ycg:=@Array.getElem?_toList
def ych:=@PySem.F.typeOf_object_class
def yci:=@Int.lt_trans
def ycj:=@Nat.lt_succ_self
def yck:=@PySem.F.slot_tuple_mul
def ycl:=@PySem.wpAny_isInstance
def ycm:=@Bool.not_true
def ycn:=@PySem.typeIs_int
def yco:=@List.filterMap_cons
def ycp:=@PySem.W.plainGet_of
def ycq:=@Bool.eq_iff_iff
def ycr:=@PySem.F.slot_zip_next
def ycs:=@List.range_succ
def yct:=@List.filter_sublist
def ycu:=@Nat.le_of_lt
def ycv:=@PySem.codeAny_mono
def ycw:=@PySem.wpAny_tupleItemsOf
def ycx:=@Array.forIn_toList
def ycy:=@PySem.W.callWith_K
def ycz:=@Int.emod_lt_of_pos
def ycA:=@List.filter_append
def ycB:=@if_true
def ycC:=@PySem.wpAny_setField
def ycD:=@PySem.wpAny_pyIter_list
def ycE:=@PySem.F.args_int_rmul_2
def ycF:=@Nat.le_of_succ_le
def ycG:=@List.length_range
def ycH:=@PySem.wpAny_dictEntries
def ycI:=@Nat.le_succ
def ycJ:=@PySem.wpAny_attempt
def ycK:=@PyProof.Rows.listUpdate_at
def ycL:=@PySem.wpAny_rule
def S2.bdI{c k:Nat}(h:c<=k)(hk:k<=1000000):-1000000<=(c:Int)/\(c:Int)<=1000000:=⟨Int.le_trans (by decide) (Int.natCast_nonneg c),Int.ofNat_le.mpr (yar h hk)⟩
def S2.bdN{c k:Nat}(h:c<=k)(hk:k<=1000000):0<=(c:Int)/\(c:Int)<=1000000:=⟨Int.natCast_nonneg c,Int.ofNat_le.mpr (yar h hk)⟩
local macro_rules | `(tactic| omega) => `(tactic| first | assumption | exact yar (by assumption) (by decide) | exact yai (by assumption) (by assumption) | exact yai (by assumption) (by decide) | exact ycu (by assumption) | exact S2.bdI (by assumption) (by decide) | exact yar (by assumption) (by assumption) | omega +splitDisjunctions)
namespace L2
open PySem PySem.Spec PyProof.Rows
noncomputable abbrev Key:=Sum Int Str
noncomputable def zh8:Key->Value->Bool
 | .inl k,v=>Value.isInt k v
 | .inr x,v=>Value.isStrOf x v
noncomputable def zw8(w:World):Key->Int
 | .inl k=>hashInt k
 | .inr x=>hashStr w x
theorem zaB:∀{k:Key} {v:Value},zh8 k v=true->(∃i t,k=Sum.inl i/\v=Value.int i t)\/(∃x t,k=Sum.inr x/\v=Value.str x t)
 | .inl i,v,h=>by
  obtain ⟨t,e⟩:=Value.isInt_shape (k:=i) (v:=v) h;exact .inl ⟨i,t,rfl,e⟩
 | .inr x,v,h=>by
  obtain ⟨t,e⟩:=Value.isStrOf_shape (x:=x) (v:=v) h;exact .inr ⟨x,t,rfl,e⟩
def zjD(i:Int)(t:Tok):zh8 (.inl i) (.int i t)=true:=by simp [zh8,Value.isInt]
def zjC(x:Str)(t:Tok):zh8 (.inr x) (.str x t)=true:=by simp [zh8,Value.isStrOf]
def zq5(a b:Int):decide ((Sum.inl a:Key)=Sum.inl b)=(a == b):=by
 by_cases e:a=b
 ·subst e;simp
 ·have h:¬ (Sum.inl a:Key)=Sum.inl b:=fun q=>e (Sum.inl.inj q)
  rw [yau h];exact (yaY.mpr e).symm
def zq1(a b:Str):decide ((Sum.inr a:Key)=Sum.inr b)=decide (a=b):=by
 by_cases e:a=b
 ·subst e;simp
 ·have h:¬ (Sum.inr a:Key)=Sum.inr b:=fun q=>e (Sum.inr.inj q)
  rw [yau h,yau e]
def zq4(a:Int)(b:Str):decide ((Sum.inl a:Key)=Sum.inr b)=false:=yau (fun q=>nomatch q)
def zq2(a:Str)(b:Int):decide ((Sum.inr a:Key)=Sum.inl b)=false:=yau (fun q=>nomatch q)
noncomputable def zbY(prog:Program)(w:World):PySem.KeyKind prog w Key where
 is:=zh8
 hash:=zw8 w
 inj:=fun v a b ha hb=>by
  rcases zaB ha with ⟨i,t,rfl,rfl⟩ | ⟨x,t,rfl,rfl⟩
  ·rcases zaB hb with ⟨j,u,rfl,e⟩ | ⟨y,u,rfl,e⟩
   ·injection e with e1 _;rw [e1]
   ·exact nomatch e
  ·rcases zaB hb with ⟨j,u,rfl,e⟩ | ⟨y,u,rfl,e⟩
   ·exact nomatch e
   ·injection e with e1 _;rw [e1]
 byValue:=fun k v h=>by
  rcases zaB h with ⟨i,t,rfl,rfl⟩ | ⟨x,t,rfl,rfl⟩<;>rfl
 pyHash:=fun hv h=>by
  rcases zaB hv with ⟨i,t,rfl,rfl⟩ | ⟨x,t,rfl,rfl⟩
  ·exact wpAny_pyHash_int h
  ·exact wpAny_pyHash_str h
 eqBool:=fun hu hv h=>by
  rcases zaB hu with ⟨i,t,rfl,rfl⟩ | ⟨x,t,rfl,rfl⟩
  ·rcases zaB hv with ⟨j,u,rfl,rfl⟩ | ⟨y,u,rfl,rfl⟩
   ·rw [zq5] at h;exact wpAny_eqBool_int h
   ·rw [zq4] at h;exact SeqAt.EqAt.int_str i t y u _ _ _ _ h
  ·rcases zaB hv with ⟨j,u,rfl,rfl⟩ | ⟨y,u,rfl,rfl⟩
   ·rw [zq2] at h;exact SeqAt.EqAt.str_int x t j u _ _ _ _ h
   ·rw [zq1] at h;exact wpAny_eqBool_str h
 «strs»:=fun k x t v h=>by
  rcases zaB h with ⟨i,u,rfl,e⟩ | ⟨y,u,rfl,e⟩
  ·exact nomatch e
  ·injection e with e1 _
   subst e1
   cases v<;>rfl
def zgG(prog:Program)(w:World)(i:Int)(t:Tok):(zbY prog w).is (.inl i) (.int i t)=true:=zjD i t
def zgF(prog:Program)(w:World)(x:Str)(t:Tok):(zbY prog w).is (.inr x) (.str x t)=true:=zjC x t
end L2
namespace L2
open PySem PySem.Spec PyProof.Rows
inductive V where
 | non | bl (b:Bool) | int (i:Int) | str (x:Str) | byt (b:Array UInt8) | flt (b:UInt64) | ref (a:Addr) | ty (n:String)
 deriving DecidableEq
noncomputable def zaV:V->Value->Prop
 | .non,u=>u=Value.none
 | .bl b,u=>u=Value.bool b
 | .int i,u=>∃t,u=Value.int i t
 | .str x,u=>∃t,u=Value.str x t
 | .byt b,u=>∃t,u=Value.bytes b t
 | .flt b,u=>∃t,u=Value.float b t
 | .ref a,u=>u=Value.ref a
 | .ty n,u=>u=Value.type n
noncomputable abbrev Vals:List V->List Value->Prop:=Paired zaV
theorem Vals.length{xs:List V}{us:List Value}(r:Vals xs us):xs.length=us.length:=Paired.length r
theorem Vals.get:∀{xs:List V} {us:List Value} {i:Nat} {x:V},Vals xs us->xs[i]?=some x->∃u,us[i]?=some u/\zaV x u
 | _,_,_,_,.nil,e=>by simp at e
 | _,_,0,_,.cons r _,e=>by simp at e;subst e;exact ⟨_,rfl,r⟩
 | _,_,i+1,x,.cons _ t,e=>by
  obtain ⟨u,h1,h2⟩:=Vals.get (i:=i) (x:=x) t (by simpa using e);exact ⟨u,by simpa using h1,h2⟩
theorem Vals.set{x:V}{u:Value}(r:zaV x u):∀{xs:List V} {us:List Value} (i:Nat),Vals xs us->Vals (xs.set i x) (us.set i u)
 | _,_,_,.nil=>.nil
 | _,_,0,.cons _ t=>.cons r t
 | _,_,i+1,.cons q t=>.cons q (Vals.set r i t)
theorem Vals.append:∀{xs ys:List V} {us ws:List Value},Vals xs us->Vals ys ws->Vals (xs++ys) (us++ws)
 | _,_,_,_,.nil,s=>s
 | _,_,_,_,.cons r t,s=>.cons r (Vals.append t s)
theorem Vals.take:∀{xs:List V} {us:List Value} (n:Nat),Vals xs us->Vals (xs.take n) (us.take n)
 | _,_,0,_=>.nil
 | _,_,_+1,.nil=>.nil
 | _,_,n+1,.cons r t=>.cons r (Vals.take n t)
theorem Vals.drop:∀{xs:List V} {us:List Value} (n:Nat),Vals xs us->Vals (xs.drop n) (us.drop n)
 | _,_,0,r=>r
 | _,_,_+1,.nil=>.nil
 | _,_,n+1,.cons _ t=>Vals.drop n t
noncomputable def zkz:Option V->Option Value->Prop
 | some v,some u=>zaV v u
 | none,none=>True
 | _,_=>False
noncomputable def KV{κ:Type}:List (κ×V)->List (κ×Value)->Prop:=Paired fun (p:κ×V) (q:κ×Value)=>p.1=q.1/\zaV p.2 q.2
noncomputable def kV:Key->V
 | .inl i=>.int i
 | .inr x=>.str x
inductive HO where
 | lst (xs:List V)
 | tup (xs:List V)
 | dK (kvs:List (Key×V)) | dT (kvs:List (List Key×V))
 | set (S:Int->Bool) (n:Nat)
 | ins (C dx:Addr) (fs:List (Str×V))
 | own (x:Addr)
 | xd (fs:List (Str×V))
 | met (f x:Addr)
 | rng (lo hi:Int)
 | frz (o:Obj) (u:HO)
 | tbl (ps:Array Value)
 | ext (φ:Heap->Prop)
noncomputable abbrev Hp:=Addr->Option HO
noncomputable def upd(H:Hp)(a:Addr)(o:HO):Hp:=fun b=>if b=a then some o else H b
def zay{H:Hp}{a:Addr}{o:HO}:upd H a o a=some o:=by unfold upd;rw [if_pos rfl]
def zaf{H:Hp}{a b:Addr}{o:HO}(h:b≠a):upd H a o b=H b:=by unfold upd;rw [if_neg h]
def zap{H:Hp}{a b:Addr}{o:HO}(h:H a=some o)(h':H b=none):a≠b:=by
 intro e;subst e;rw [h] at h';cases h'
section
variable(P:Program)(w:World)
noncomputable def zbj(H:Hp)(h:Heap)(a:Addr):HO->Prop
 | .lst xs=>xs.length<=sizeLine/\∃(its:List Value) (n:Nat),Vals xs its/\h.get? a=some { cls:=.type "list",data:=.seq its.toArray n }
 | .tup xs=>xs.length<=sizeLine/\∃its:List Value,Vals xs its/\IsTup h a its.toArray
 | .dK kvs=>kvs.length<=sizeLine/\(a == sysModules)=false/\∃vs,KV kvs vs/\h.DictOf (zbY P w) a vs
 | .dT kvs=>kvs.length<=sizeLine/\(a == sysModules)=false/\∃xs:List (List Key×Addr×Value),
   Paired (fun (p:List Key×V) (q:List Key×Addr×Value)=>p.1=q.1/\H q.2.1=some (.tup (p.1.map kV))/\zaV p.2 q.2.2) kvs xs ∧
   ∃o es ep,h.get? a=some o/\o.ExactDict/\o.data=.dict es ep/\es.toList=xs.map (entryOfKey (tupleKind (zbY P w)))/\(xs.map (·.1)).Nodup
 | .set S n=>h.SetOf (intKind P w) a S n
 | .ins C dx fs=>H dx=some (.own a)/\fs.length<=1000/\dx≠a/\h.get? a=some (PySem.W.instObj C dx) ∧
   ∃mA,h.Ns1 dx mA/\(∀f,zkz (fs.lookup f) (mA f))/\PySem.Within mA (fs.map (·.1))
 | .own _=>∃o,h.get? a=some o
 | .xd fs=>∃mA,h.Ns1 a mA/\∀f,zkz (fs.lookup f) (mA f)
 | .rng lo hi=>∃t u v,h.get? a=some { cls:=.type "range",data:=.fields #[.int lo t,.int hi u,.int 1 v] }
 | .frz o u=>h.get? a=some o/\zbj H h a u
 | .tbl ps=>h.get? a=some { cls:=.none,data:=.fields ps }
 | .met f x=>h.get? a=some (PySem.W.methodObj (.ref f) (.ref x))
 | .ext φ=>φ h/\(∃o,h.get? a=some o)/\∀h1 h2:Heap,φ h1->(∀o,h1.get? a=some o->h2.get? a=some o)->φ h2
noncomputable def HOk(H:Hp)(h:Heap):Prop:=∀a o,H a=some o->zbj P w H h a o
end
section
variable{P:Program}{w:World}{H H':Hp}{h h':Heap}{a:Addr}{o:HO}
theorem zbj.lt(x:zbj P w H h a o):a<h.objs.size:=by
 cases o with
 | lst xs=>obtain ⟨_,_,_,_,e⟩:=x;exact yam e
 | tup xs=>obtain ⟨_,_,_,p⟩:=x;exact p.lt
 | dK kvs=>obtain ⟨_,_,_,_,o,_,_,e,_⟩:=x;exact yam e
 | dT kvs=>obtain ⟨_,_,_,_,o,_,_,e,_⟩:=x;exact yam e
 | set S n=>obtain ⟨o,_,_,_,e,_⟩:=x;exact yam e
 | ins C dx fs=>obtain ⟨_,_,_,e,_⟩:=x;exact yam e
 | own y=>obtain ⟨_,e⟩:=x;exact yam e
 | xd fs=>obtain ⟨_,⟨_,_,_,e,_⟩,_⟩:=x;exact yam e
 | rng lo hi=>obtain ⟨_,_,_,e⟩:=x;exact yam e
 | frz ob u=>obtain ⟨e,_⟩:=x;exact yam e
 | tbl ps=>exact yam (show h.get? a=some _ from x)
 | met f y=>exact yam (show h.get? a=some _ from x)
 | ext φ=>obtain ⟨_,⟨_,e⟩,_⟩:=x;exact yam e
theorem Paired.mapP{α β:Type}{F G:α->β->Prop}:∀{l₁:List α} {l₂:List β},Paired F l₁ l₂->(∀a b,F a b->G a b)->Paired G l₁ l₂
 | _,_,.nil,_=>.nil
 | _,_,.cons r t,f=>.cons (f _ _ r) (Paired.mapP t f)
def zbj.stay(x:zbj P w H h a o)(k:∀b u,(b=a\/H b=some (.own a))->h.get? b=some u->h'.get? b=some u)
  (ho:∀b,H b=some (.own a)->H' b=some (.own a)) (ht:∀b xs,H b=some (.tup xs)->H' b=some (.tup xs)):zbj P w H' h' a o:=by
 induction o with
 | lst xs=>obtain ⟨z,its,n,r,e⟩:=x;exact ⟨z,its,n,r,k _ _ (.inl rfl) e⟩
 | tup xs=>obtain ⟨z,its,r,ob,e,c⟩:=x;exact ⟨z,its,r,ob,k _ _ (.inl rfl) e,c⟩
 | dK kvs=>obtain ⟨z,y,vs,r,ob,es,ep,e,c⟩:=x;exact ⟨z,y,vs,r,ob,es,ep,k _ _ (.inl rfl) e,c⟩
 | dT kvs =>
  obtain ⟨z,y,xs,r,ob,es,ep,e,c⟩:=x;exact ⟨z,y,xs,Paired.mapP r fun p q z=>⟨z.1,ht _ _ z.2.1,z.2.2⟩,ob,es,ep,k _ _ (.inl rfl) e,c⟩
 | set S n=>obtain ⟨ob,es,ep,t,e,c⟩:=x;exact ⟨ob,es,ep,t,k _ _ (.inl rfl) e,c⟩
 | ins C dx fs =>
  obtain ⟨d,z,ne,e,mA,⟨od,es,ep,e2,c⟩,r⟩:=x;exact ⟨ho _ d,z,ne,k _ _ (.inl rfl) e,mA,⟨od,es,ep,k _ _ (.inr d) e2,c⟩,r⟩
 | own y=>obtain ⟨ob,e⟩:=x;exact ⟨ob,k _ _ (.inl rfl) e⟩
 | xd fs=>obtain ⟨mA,⟨od,es,ep,e,c⟩,r⟩:=x;exact ⟨mA,⟨od,es,ep,k _ _ (.inl rfl) e,c⟩,r⟩
 | rng lo hi=>obtain ⟨t,u,v,e⟩:=x;exact ⟨t,u,v,k _ _ (.inl rfl) e⟩
 | frz ob u ih=>obtain ⟨e,q⟩:=x;exact ⟨k _ _ (.inl rfl) e,ih q⟩
 | tbl ps =>
  have e:h.get? a=some { cls:=.none,data:=.fields ps }:=x;show h'.get? a=some { cls:=.none,data:=.fields ps };exact k a _ (.inl rfl) e
 | met f y =>
  have e:h.get? a=some (PySem.W.methodObj (.ref f) (.ref y)):=x;show h'.get? a=some (PySem.W.methodObj (.ref f) (.ref y));exact k a _ (.inl rfl) e
 | ext φ=>obtain ⟨p,⟨o,e⟩,st⟩:=x;exact ⟨st _ _ p fun o q=>k _ _ (.inl rfl) q,⟨o,k _ _ (.inl rfl) e⟩,st⟩
theorem HOk.lt(x:HOk P w H h)(e:H a=some o):a<h.objs.size:=(x a o e).lt
def HOk.fresh(x:HOk P w H h)(e:h.objs.size<=a):H a=none:=by
 cases q:H a with
 | none=>rfl
 | some u=>exact absurd (yai (x.lt q) e) (yaR _)
def HOk.kept(x:HOk P w H h)(k:∀b u,h.get? b=some u->h'.get? b=some u):HOk P w H h':=fun a o e =>
 (x a o e).stay (fun b u _ q=>k b u q) (fun _ q=>q) fun _ _ q=>q
def HOk.laid(x:HOk P w H h)(k:∀b u,h.get? b=some u->h'.get? b=some u)(hp:h.objs.size<=a)(new:zbj P w (upd H a o) h' a o):HOk P w (upd H a o) h':=fun b u e=>by
 have hn:=x.fresh hp
 by_cases hb:b=a
 ·subst hb;rw [zay] at e;cases e;exact new
 ·rw [zaf hb] at e
  exact (x b u e).stay (fun c v _ q=>k c v q) (fun c q=>by rw [zaf (zap q hn)];exact q) fun c xs q=>by rw [zaf (zap q hn)];exact q
end
noncomputable def Rd(H:Hp)(a:Addr)(u:HO):Prop:=H a=some u\/∃o,H a=some (.frz o u)
def Rd.ok{P:Program}{w:World}{H:Hp}{h:Heap}{a:Addr}{u:HO}(r:Rd H a u)(x:HOk P w H h):zbj P w H h a u:=by
 rcases r with r | ⟨o,r⟩
 ·exact x a u r
 ·obtain ⟨_,q⟩:=x a _ r;exact q
noncomputable def Mut:Option HO->Prop
 | some (.lst _)=>True
 | some (.dK _)=>True
 | some (.dT _)=>True
 | some (.set _ _)=>True
 | some (.ins _ _ _)=>True
 | some (.ext _)=>True
 | _=>False
section
variable{P:Program}{w:World}{H:Hp}{h h':Heap}{x e:Addr}{o':HO}
def HOk.write(ok:HOk P w H h)(mu:Mut (H x))(he:e=x\/H e=some (.own x))(k:∀b u,b≠e->h.get? b=some u->h'.get? b=some u)(heo:∃u,h'.get? e=some u)
  (new:zbj P w (upd H x o') h' x o'):HOk P w (upd H x o') h':=fun b u q=>by
 have nown:∀c y,H c=some (.own y)->c≠x:=fun c y r z=>by subst z;rwa [r] at mu
 have ntup:∀c xs,H c=some (.tup xs)->c≠x:=fun c xs r z=>by subst z;rwa [r] at mu
 by_cases hb:b=x
 ·subst hb;rw [zay] at q;cases q;exact new
 ·rw [zaf hb] at q
  by_cases hbe:b=e
  ·have q':H b=some (.own x):=by
    rcases he with z | z
    ·exact absurd (hbe.trans z) hb
    ·rw [hbe];exact z
   rw [q] at q';cases q';obtain ⟨v,hv⟩:=heo;exact ⟨v,by rw [hbe];exact hv⟩
  ·refine (ok b u q).stay (fun c v hc r=>k c v ?_ r) (fun c r=>by rw [zaf (nown c b r)];exact r) fun c xs r=>by rw [zaf (ntup c xs r)];exact r
   rcases hc with rfl | hc
   ·exact hbe
   ·rintro rfl
    rcases he with z | z
    ·exact nown c b hc z
    ·rw [hc] at z;cases z;exact hb rfl
end
structure Un(fs ex:List Addr)(H H':Hp)(h h':Heap):Prop where
 keep:∀b o,h.get? b=some o->H b=none->b ∉ fs->b ∉ ex->h'.get? b=some o
 slot:∀b o,h.get? b=some o->H b=none->b∈fs->b ∉ ex->∃sl,h'.get? b=some { o with slots:=sl }
 free:∀b o,h.get? b=some o->H b=none->b ∉ ex->H' b=none
 there:∀b o,h.get? b=some o->b ∉ ex->∃o',h'.get? b=some o'
 tups:∀b xs,H b=some (.tup xs)->H' b=some (.tup xs)
 frzs:∀b o u,H b=some (.frz o u)->H' b=some (.frz o u)
 tbls:∀b ps,H b=some (.tbl ps)->∃more,H' b=some (.tbl (ps++more))
section
variable{fs fs' ex ex':List Addr}{H H1 H2:Hp}{h h1 h2 h':Heap}{a x e:Addr}{o:HO}
def Un.any(u:Un fs ex H H1 h h1){b:Addr}{ob:Obj}(q:h.get? b=some ob)(n:H b=none)(hx:b ∉ ex):∃sl,h1.get? b=some { ob with slots:=sl }:=by
 by_cases hb:b∈fs
 ·exact u.slot b ob q n hb hx
 ·exact ⟨ob.slots,u.keep b ob q n hb hx⟩
def Un.kept(k:∀b u,h.get? b=some u->h'.get? b=some u):Un fs ex H H h h' :=
 ⟨fun b ob q _ _ _=>k b ob q,fun b ob q _ _ _=>⟨ob.slots,k b ob q⟩,fun _ _ _ n _=>n,fun b ob q _=>⟨ob,k b ob q⟩,fun _ _ q=>q,fun _ _ _ q=>q,fun _ ps q=>⟨#[],by rw [q];simp⟩⟩
def Un.refl:Un fs ex H H h h:=Un.kept fun _ _ q=>q
def Un.laid(k:∀b u,h.get? b=some u->h'.get? b=some u)(hp:h.objs.size<=a)(hn:H a=none):Un fs ex H (upd H a o) h h' where
 keep:=fun b u q _ _ _=>k b u q
 slot:=fun b u q _ _ _=>⟨u.slots,k b u q⟩
 free:=fun b u q n _=>by rw [zaf (yay (yai (yam q) hp))];exact n
 there:=fun b u q _=>⟨u,k b u q⟩
 tups:=fun b xs q=>by rw [zaf (zap q hn)];exact q
 frzs:=fun b u xs q=>by rw [zaf (zap q hn)];exact q
 tbls:=fun b ps q=>⟨#[],by rw [zaf (zap q hn),q];simp⟩
def Un.write(mu:Mut (H x))(he:e=x\/H e=some (.own x))(k:∀b u,b≠e->h.get? b=some u->h'.get? b=some u)(heo:∃u,h'.get? e=some u):Un fs ex H (upd H x o) h h':=by
 have hx:∀b,H b=none->b≠x:=fun b n z=>by subst z;rwa [n] at mu
 have hb:∀b,H b=none->b≠e:=fun b n z=>by
  subst z
  rcases he with r | r
  ·exact hx b n r
  ·rw [n] at r;cases r
 have hm:∀b u,H b=some u->¬ Mut (some u)->b≠x:=fun b u q nm z=>by subst z;rw [q] at mu;exact nm mu
 refine ⟨fun b u q n _ _=>k b u (hb b n) q,fun b u q n _ _=>⟨u.slots,k b u (hb b n) q⟩,fun b u q n _=>by rw [zaf (hx b n)];exact n,fun b u q _=>?_,
  fun b xs q=>by rw [zaf (hm b _ q fun z=>z)];exact q,fun b u xs q=>by rw [zaf (hm b _ q fun z=>z)];exact q,fun b ps q=>⟨#[],by rw [zaf (hm b _ q fun z=>z),q];simp⟩⟩
 by_cases hbe:b=e
 ·subst hbe;exact heo
 ·exact ⟨u,k b u hbe q⟩
end
noncomputable def trk(h:Heap)(H:Hp):List Addr:=(List.range h.objs.size).filter fun a=>(H a).isSome
noncomputable def zlT(h:Heap)(H:Hp):Heap:=PySem.W.hideAll h (trk h H)
def zjU(h:Heap)(H:Hp):(zlT h H).objs.size=h.objs.size:=PySem.W.hideAll_size _ _
def zlS{h:Heap}{H:Hp}{b:Addr}{o:Obj}(e:h.get? b=some o)(n:H b=none):(zlT h H).get? b=some o :=
 PySem.W.hideAll_get _ e fun hm=>by
  have q:(H b).isSome=true:=(yba.mp hm).2;rw [n] at q;simp at q
def zn8{h:Heap}{H:Hp}{b:Addr}{o:Obj}(e:(zlT h H).get? b=some o):h.get? b=some o/\H b=none:=by
 have e':h.get? b=some o:=PySem.W.of_hideAll (trk h H) e;refine ⟨e',?_⟩
 cases q:H b with
 | none=>rfl
 | some x =>
  have hm:b∈trk h H:=yba.mpr ⟨ybA.mpr (yam e'),by simp [q]⟩;have z:(zlT h H).get? b=none:=PySem.W.hideAll_none (trk h H) hm;rw [z] at e;cases e
noncomputable def zo2(g h:Heap)(L:Addr):List (Addr×Obj):=(List.range h.objs.size).filterMap fun a=>if a=L\/(g.get? a).isSome=true then none else (h.get? a).map fun o=>(a,o)
noncomputable def zbk(g h:Heap)(L d:Addr):List (Addr×Obj):=(zo2 g h L).filter fun p=>decide (p.1≠d)
end L2
namespace L2
open PySem PySem.Spec PyProof.Rows
structure Mod(K:PySem.W.Frag)(mg:Z6)(base:Heap):Prop where
 kin:K.In base
 glob:base.Ns mainGlobals mg
 blt:∃mb,base.Ns builtinsNs mb/\∀x:Str,x ≠ "__name__" -> mb x=bootBuiltins x
 nolimit:base.NoLimit
structure Cx where
 prog:Program
 w:World
 K:PySem.W.Frag
 mg:Str->Option Value
 base:Heap
 A:Around
 N:List Str
 s₀:Shared
 H₀:Hp
 env:Env
 outer:List Env
 stack:List Env
 ex:List Addr
 fn:Str->Bool
 calm:Bool
 pn:List (Addr×Obj)
 xe:Value->Shared->Prop
noncomputable def frs(l:List Env):List Addr:=l.filterMap (·.frame)
noncomputable abbrev Cx.fs(X:Cx):List Addr:=frs X.outer
noncomputable def Vis(sc:Scope)(x:Str):Prop:=sc.names.lookup x=some .local\/sc.names.lookup x=some .cell\/sc.names.lookup x=some .free
noncomputable def Loc(sc:Scope)(x:Str):Prop:=sc.names.lookup x=some .local\/sc.names.lookup x=some .cell
noncomputable def zxW(env:Env)(h:Heap)(m:Z6)(x:Str)(u:Value):Prop :=
 (env.kindOf x=some .local/\m x=some u)\/((env.kindOf x=some .cell\/env.kindOf x=some .free)/\∃c,env.cells.lookup x=some c/\h.IsCell c (some u))
structure Cx.Ok(X:Cx):Prop where
 mod:Mod X.K X.mg X.base
 kind:X.env.scope.kind=.function
 glob:X.env.globals=mainGlobals
 blt:X.env.builtins=builtinsNs
 above:X.s₀.heap.objs.size<=X.env.locals
 inj:∀x y c,X.env.cells.lookup x=some c->X.env.cells.lookup y=some c->x=y
 has:∀x,(X.env.kindOf x=some .cell\/X.env.kindOf x=some .free)->∃c,X.env.cells.lookup x=some c
 cab:∀x c,X.fn x=true->X.env.cells.lookup x=some c->X.s₀.heap.objs.size<=c
 hd:X.calm=true->X.A.handled=none
 frames:X.A.frames=some X.stack
 stk:X.stack=X.outer\/(X.stack=X.env::X.outer/\X.env.frame=some X.env.locals)
 exf:∀b∈X.ex,b≠X.env.locals/\∀x c,X.env.cells.lookup x=some c->c≠b
 bs:∀b o,X.base.get? b=some o->X.s₀.heap.get? b=some o/\X.H₀ b=none
 bsz:X.base.objs.size<=X.s₀.heap.objs.size
 noex:∀b o,X.base.get? b=some o->b ∉ X.ex
 exfs:∀b∈X.ex,b ∉ X.fs
 funs:X.s₀.heap.FunFrames X.base X.outer
 frf:∀b∈X.fs,X.H₀ b=none
structure Inv(X:Cx)(pins:Z3)(σ:List (Option V))(H:Hp)(s:Shared):Prop where
 ok:X.Ok
 os:s.os=X.s₀.os
 bare:AllBare s.gens
 base:Un X.fs X.ex X.H₀ H X.s₀.heap s.heap
 loc:∃m,s.heap.Ns X.env.locals m/\∀(i:Nat) (x:Str) (v:V),X.N[i]?=some x->σ[i]?=some (some v)->Vis X.env.scope x->∃u,zaV v u/\zxW X.env s.heap m x u
 cell:∀x c,X.env.cells.lookup x=some c->∃v,s.heap.IsCell c v
 free:H X.env.locals=none
 freeC:∀x c,X.env.cells.lookup x=some c->H c=none
 pin:∀p∈X.pn++pins,s.heap.get? p.1=some p.2/\H p.1=none/\p.1≠X.env.locals/\p.1 ∉ X.fs/\∀v,p.2.data≠.cell v
 hok:HOk X.prog X.w H s.heap
 len:σ.length=X.N.length
section
variable{X:Cx}{pins:Z3}{σ:List (Option V)}{H H':Hp}{s:Shared}{h':Heap}
def Cx.Ok.nofr(ok:X.Ok){b:Addr}{o:Obj}(e:X.base.get? b=some o):b ∉ X.fs:=fun hb=>by
 have:=(ok.funs.mem hb).1;rw [e] at this;cases this
theorem Inv.bs(I:Inv X pins σ H s):∀b o,X.base.get? b=some o->s.heap.get? b=some o/\H b=none:=fun b o e =>
 ⟨I.base.keep b o (I.ok.bs b o e).1 (I.ok.bs b o e).2 (I.ok.nofr e) (I.ok.noex b o e),I.base.free b o (I.ok.bs b o e).1 (I.ok.bs b o e).2 (I.ok.noex b o e)⟩
def Inv.bk(I:Inv X pins σ H s):∀b o,X.base.get? b=some o->s.heap.get? b=some o:=fun b o e=>(I.bs b o e).1
theorem Inv.mod(I:Inv X pins σ H s):Mod X.K X.mg X.base:=I.ok.mod
def Inv.kIn(I:Inv X pins σ H s):X.K.In s.heap:=I.ok.mod.kin.keeps I.bk
theorem Inv.lt(I:Inv X pins σ H s):X.env.locals<s.heap.objs.size:=let ⟨_,hn,_⟩:=I.loc;hn.lt
def Inv.sz(I:Inv X pins σ H s):X.s₀.heap.objs.size<=s.heap.objs.size:=yar I.ok.above (ycu I.lt)
def Inv.nofs(I:Inv X pins σ H s){a:Addr}(h:s.heap.objs.size<=a):a ∉ X.fs:=fun hb=>by
 obtain ⟨_,o,ho,_⟩:=I.ok.funs.mem hb;exact absurd (yai (yam ho) (yar I.sz h)) (yaR _)
def Inv.cne(I:Inv X pins σ H s):∀x c,X.env.cells.lookup x=some c->c≠X.env.locals:=fun x c e z=>by
 obtain ⟨v,o,ho,hd⟩:=I.cell x c e;obtain ⟨m,⟨o',es,ep,ho',hd',_⟩,_⟩:=I.loc;rw [z,ho'] at ho;cases ho;rw [hd'] at hd;cases hd
theorem Inv.funs(I:Inv X pins σ H s):s.heap.FunFrames X.base X.outer:=by
 have all:∀(l:List Env),(∀b∈frs l,b∈X.fs)->X.s₀.heap.FunFrames X.base l->s.heap.FunFrames X.base l:=by
  intro l
  induction l with
  | nil=>intro _ _;trivial
  | cons env r ih =>
   intro hs hl;obtain ⟨hk,⟨L,o,hf,hn,ho,hd⟩,hr⟩:=hl;have hL:L∈X.fs:=hs L (by unfold frs;rw [yco,hf];exact yaB);obtain ⟨sl,e⟩:=I.base.slot L o ho (I.ok.frf L hL) hL fun z=>I.ok.exfs L z hL
   exact ⟨hk,⟨L,_,hf,hn,e,hd⟩,ih (fun b hb=>hs b (by unfold frs;rw [yco,hf];exact yaA _ hb)) hr⟩
 exact all X.outer (fun _ hb=>hb) I.ok.funs
theorem Inv.stack(I:Inv X pins σ H s):s.heap.FunFrames X.base X.stack:=by
 rcases I.ok.stk with e | ⟨e,hf⟩
 ·rw [e];exact I.funs
 ·rw [e];obtain ⟨m,hn,_⟩:=I.loc;refine .cons (by rw [I.ok.kind];decide) hf hn ?_ I.funs;exact Heap.get?_none_of_le (yar I.ok.bsz I.ok.above)
def Inv.stkSub(I:Inv X pins σ H s):∀b∈frs X.stack,b∈X.env.locals::X.fs:=fun b hb=>by
 rcases I.ok.stk with e | ⟨e,hf⟩
 ·rw [e] at hb;exact yaA _ hb
 ·rw [e] at hb;unfold frs at hb;rwa [yco,hf] at hb
def Inv.stkFree(I:Inv X pins σ H s):∀b∈frs X.stack,H b=none:=fun b hb=>by
 rcases yas.mp (I.stkSub b hb) with e | hb
 ·rw [e];exact I.free
 ·obtain ⟨_,o,ho,_⟩:=I.ok.funs.mem hb;exact I.base.free b o ho (I.ok.frf b hb) fun z=>I.ok.exfs b z hb
def Inv.step{g':Array GenState}{t':Nat}{d':Drawn}{ch:List Addr}(I:Inv X pins σ H s)
  (hch:∀b∈ch,(b∈X.ex\/X.s₀.heap.objs.size<=b)/\b≠X.env.locals/\(∀x c,X.env.cells.lookup x=some c->c≠b)/\∀p∈X.pn++pins,p.1≠b)
  (keep:∀b o,b≠X.env.locals->b ∉ X.fs->b ∉ ch->s.heap.get? b=some o->H b=none->h'.get? b=some o)
  (slot:∀b o,b≠X.env.locals->b∈X.fs->b ∉ ch->s.heap.get? b=some o->H b=none->∃sl,h'.get? b=some { o with slots:=sl }) (free:∀b o,b ∉ ch->s.heap.get? b=some o->H b=none->H' b=none)
  (there:∀b o,b ∉ ch->s.heap.get? b=some o->∃o',h'.get? b=some o')
  (tups:∀b xs,H b=some (.tup xs)->H' b=some (.tup xs)) (frzs:∀b o u,H b=some (.frz o u)->H' b=some (.frz o u)) (tbls:∀b ps,H b=some (.tbl ps)->∃more,H' b=some (.tbl (ps++more)))
  (ns:∀m,s.heap.Ns X.env.locals m->h'.Ns X.env.locals m) (hok:HOk X.prog X.w H' h') (hg:AllBare g') :
  Inv X pins σ H' { s with heap:=h',gens:=g',drawn:=d',toks:=t' }:=by
 have neL:∀b o,X.s₀.heap.get? b=some o->b≠X.env.locals:=fun b o e=>yay (yai (yam e) I.ok.above)
 have neC:∀b o,X.s₀.heap.get? b=some o->b ∉ X.ex->b ∉ ch:=fun b o e hx hb=>by
  rcases (hch b hb).1 with z | z
  ·exact hx z
  ·exact absurd (yai (yam e) z) (yaR _)
 have cellK:∀x c,X.env.cells.lookup x=some c->∀v,s.heap.IsCell c v->h'.IsCell c v:=fun x c e v ⟨o,ho,hd⟩=>by
  have nch:c ∉ ch:=fun z=>(hch c z).2.2.1 x c e rfl
  by_cases hc:c∈X.fs
  ·obtain ⟨sl,q⟩:=slot c o (I.cne x c e) hc nch ho (I.freeC x c e);exact ⟨_,q,hd⟩
  ·exact ⟨o,keep c o (I.cne x c e) hc nch ho (I.freeC x c e),hd⟩
 refine ⟨I.ok,I.os,hg,⟨fun b o e n hb hx=>?_,fun b o e n hb hx=>?_,fun b o e n hx=>?_,fun b o e hx=>?_,fun b xs e=>tups b xs (I.base.tups b xs e),fun b o xs e=>frzs b o xs (I.base.frzs b o xs e),fun b ps e=>?_⟩,?_,fun x c e=>?_,?_,fun x c e=>?_,fun p hp=>?_,hok,I.len⟩
 ·exact keep b o (neL b o e) hb (neC b o e hx) (I.base.keep b o e n hb hx) (I.base.free b o e n hx)
 ·obtain ⟨sl,e1⟩:=I.base.slot b o e n hb hx;obtain ⟨sl',e2⟩:=slot b _ (neL b o e) hb (neC b o e hx) e1 (I.base.free b o e n hx);exact ⟨sl',e2⟩
 ·obtain ⟨o',e1⟩:=I.base.there b o e hx;exact free b o' (neC b o e hx) e1 (I.base.free b o e n hx)
 ·obtain ⟨o',e1⟩:=I.base.there b o e hx;exact there b o' (neC b o e hx) e1
 ·obtain ⟨m1,e1⟩:=I.base.tbls b ps e;obtain ⟨m2,e2⟩:=tbls b _ e1;exact ⟨m1++m2,by rw [e2,Array.append_assoc]⟩
 ·obtain ⟨m,hn,hl⟩:=I.loc;refine ⟨m,ns m hn,fun i x v e1 e2 e3=>?_⟩;obtain ⟨u,r,l⟩:=hl i x v e1 e2 e3;refine ⟨u,r,?_⟩
  rcases l with l | ⟨k,c,e,z⟩
  ·exact .inl l
  ·exact .inr ⟨k,c,e,cellK x c e _ z⟩
 ·obtain ⟨v,z⟩:=I.cell x c e;exact ⟨v,cellK x c e v z⟩
 ·obtain ⟨m,⟨o,_,_,ho,_⟩,_⟩:=I.loc;exact free _ o (fun z=>(hch _ z).2.1 rfl) ho I.free
 ·obtain ⟨v,o,ho,hd⟩:=I.cell x c e;exact free c o (fun z=>(hch c z).2.2.1 x c e rfl) ho (I.freeC x c e)
 ·obtain ⟨e,n,ne,nf,d⟩:=I.pin p hp;have nch:p.1 ∉ ch:=fun z=>(hch p.1 z).2.2.2 p hp rfl
  exact ⟨keep p.1 p.2 ne nf nch e n,free p.1 p.2 nch e n,ne,nf,d⟩
def Inv.un{t':Nat}(I:Inv X pins σ H s)(u:Un X.fs [] H H' s.heap h')(hok:HOk X.prog X.w H' h'):Inv X pins σ H' { s with heap:=h',toks:=t' }:=by
 obtain ⟨m,⟨o,es,ep,ho,r⟩,_⟩:=id I.loc;obtain ⟨sl,hL⟩:=u.any ho I.free (by simp)
 exact I.step (g':=s.gens) (d':=s.drawn) (ch:=[]) (fun _ z=>nomatch z) (fun b o _ hb _ e n=>u.keep b o e n hb (by simp)) (fun b o _ hb _ e n=>u.slot b o e n hb (by simp)) (fun b o _ e n=>u.free b o e n (by simp)) (fun b o _ e=>u.there b o e (by simp)) u.tups u.frzs u.tbls (fun m' hm=>by
  obtain ⟨o',es',ep',ho',r'⟩:=hm;rw [ho] at ho';cases ho'
  exact ⟨_,es',ep',hL,r'⟩) hok I.bare
def Inv.call{g':Array GenState}{t':Nat}{d':Drawn}{ch:List Addr}(I:Inv X pins σ H s)(u:Un (frs X.stack) ch H H' s.heap h')(hok:HOk X.prog X.w H' h')(hg:AllBare g')
  (hch:∀b∈ch,(b∈X.ex\/X.s₀.heap.objs.size<=b)/\b≠X.env.locals/\(∀x c,X.env.cells.lookup x=some c->c≠b)/\∀p∈X.pn++pins,p.1≠b) :
  Inv X pins σ H' { s with heap:=h',gens:=g',drawn:=d',toks:=t' }:=by
 obtain ⟨m,⟨o,es,ep,ho,r⟩,_⟩:=id I.loc;obtain ⟨sl,hL⟩:=u.any ho I.free fun z=>(hch _ z).2.1 rfl
 exact I.step (ch:=ch) hch (fun b o hL hb hc e n=>u.keep b o e n (fun z=>(yas.mp (I.stkSub b z)).elim hL hb) hc) (fun b o _ _ hc e n=>u.any e n hc) (fun b o hc e n=>u.free b o e n hc) (fun b o hc e=>u.there b o e hc) u.tups u.frzs u.tbls (fun m' hm=>by
  obtain ⟨o',es',ep',ho',r'⟩:=hm;rw [ho] at ho';cases ho'
  exact ⟨_,es',ep',hL,r'⟩) hok hg
def Inv.turned{t':Nat}{it:Addr}(I:Inv X pins σ H s)(k:∀b o,b≠it->s.heap.get? b=some o->h'.get? b=some o)(hn:H it=none)(hL:it≠X.env.locals)
  (h1:it∈X.ex\/X.s₀.heap.objs.size<=it) (h2:∀x c,X.env.cells.lookup x=some c->c≠it) (h3:∀p∈X.pn++pins,p.1≠it):Inv X pins σ H { s with heap:=h',toks:=t' }:=by
 have nit:∀b u,H b=some u->b≠it:=fun b u e z=>by rw [z,hn] at e;cases e
 refine I.step (g':=s.gens) (d':=s.drawn) (ch:=[it]) (fun b hb=>?_) (fun b o _ _ hc e _=>k b o (fun z=>hc (by simp [z])) e) (fun b o _ _ hc e _=>⟨o.slots,k b o (fun z=>hc (by simp [z])) e⟩) (fun _ _ _ _ n=>n)
  (fun b o hc e=>⟨o,k b o (fun z=>hc (by simp [z])) e⟩) (fun _ _ e=>e) (fun _ _ _ e=>e) (fun b ps e=>⟨#[],by rw [e];simp⟩) (fun m hm=>?_) (fun b u e=>?_) I.bare
 ·have e:b=it:=by simpa using hb
  subst e;exact ⟨h1,hL,h2,h3⟩
 ·obtain ⟨o,es,ep,ho,r⟩:=hm;exact ⟨o,es,ep,k _ o (Ne.symm hL) ho,r⟩
 ·refine (I.hok b u e).stay (fun c v hc q=>k c v ?_ q) (fun _ q=>q) fun _ _ q=>q
  rcases hc with z | z
  ·rw [z];exact nit b u e
  ·exact nit c _ z
def Inv.tok(I:Inv X pins σ H s)(t:Nat):Inv X pins σ H { s with toks:=t }:=I.un (h':=s.heap) (t':=t) Un.refl I.hok
theorem Inv.kept{t':Nat}(I:Inv X pins σ H s)(k:∀b u,s.heap.get? b=some u->h'.get? b=some u):Inv X pins σ H { s with heap:=h',toks:=t' }:=I.un (Un.kept k) (I.hok.kept k)
theorem Inv.laid{a:Addr}{o:HO}{t':Nat}(I:Inv X pins σ H s)(k:∀b u,s.heap.get? b=some u->h'.get? b=some u)(hp:s.heap.objs.size<=a)(new:zbj X.prog X.w (upd H a o) h' a o) :
  Inv X pins σ (upd H a o) { s with heap:=h',toks:=t' }:=I.un (Un.laid k hp (I.hok.fresh hp)) (I.hok.laid k hp new)
theorem Inv.write{x e:Addr}{o:HO}{t':Nat}(I:Inv X pins σ H s)(mu:Mut (H x))(he:e=x\/H e=some (.own x))(k:∀b u,b≠e->s.heap.get? b=some u->h'.get? b=some u)(heo:∃u,h'.get? e=some u)
  (new:zbj X.prog X.w (upd H x o) h' x o):Inv X pins σ (upd H x o) { s with heap:=h',toks:=t' }:=I.un (Un.write mu he k heo) (I.hok.write mu he k heo new)
def Inv.pins_of{pins':Z3}(I:Inv X pins σ H s)(h:∀p∈pins',s.heap.get? p.1=some p.2/\H p.1=none/\p.1≠X.env.locals/\p.1 ∉ X.fs/\∀v,p.2.data≠.cell v):Inv X pins' σ H s :=
 ⟨I.ok,I.os,I.bare,I.base,I.loc,I.cell,I.free,I.freeC,fun p hp=>(ybi.mp hp).elim (fun z=>I.pin p (yaN _ z)) (h p),I.hok,I.len⟩
def zfa{N:List Str}(hN:N.Nodup){i j:Nat}{x:Str}(a:N[i]?=some x)(b:N[j]?=some x):i=j:=by
 obtain ⟨h1,e1⟩:=yap.mp a;obtain ⟨h2,e2⟩:=yap.mp b;exact (List.getElem_inj hN).mp (e1.trans e2.symm)
def zfE{M:Model}{A:Around}{E:Z5}{i:Nat}{x:Str}{v:V}{u:Value}{Q:Unit->Shared->Prop}(I:Inv X pins σ H s)(hN:X.N.Nodup)(hi:X.N[i]?=some x)(hx:Loc X.env.scope x)(r:zaV v u)
  (h:∀s',Inv X pins (σ.set i (some v)) H s'->(∃a,Heap.SameBut a s.heap s'.heap/\(a=X.env.locals\/X.env.cells.lookup x=some a))->Q () s') (hf:X.fn x=true\/X.env.scope.names.lookup x=some .local:=by first | exact .inl rfl | exact .inr rfl | assumption):wpAny M A (storeName X.env x u) Q E s:=by
 obtain ⟨m,hn,hl⟩:=id I.loc
 have hcls:(X.env.scope.kind == .class||(X.env.scope.kind == .module&&X.env.locals != X.env.globals))=false:=by rw [I.ok.kind];rfl
 have hiσ:i<σ.length:=by rw [I.len];exact (yap.mp hi).1
 have cne:=I.cne
 have tracked:∀{a:Addr} {h':Heap},(∃o,s.heap.get? a=some o/\H a=none)->Heap.SameBut a s.heap h'->HOk X.prog X.w H h':=fun {a h'} ha hs b ob e=>by
  obtain ⟨_,_,hfree⟩:=ha;refine (I.hok b ob e).stay (fun c w' hc q=>(hs.2 c ?_).trans q) (fun _ q=>q) fun _ _ q=>q
  rintro rfl
  rcases hc with rfl | hc
  ·rw [hfree] at e;cases e
  ·rw [hfree] at hc;cases hc
 rcases hx with hk | hk
 ·refine wpAny_storeName_local hk hn (fun h' hn' hs=>?_) hcls;obtain ⟨oL,_,_,hoL,_⟩:=id hn;refine h _ ⟨I.ok,I.os,I.bare,⟨fun b o e n hb hx=>?_,fun b o e n hb hx=>?_,I.base.free,fun b o e hx=>?_,I.base.tups,I.base.frzs,I.base.tbls⟩,⟨_,hn',fun j y v' e1 e2 e3=>?_⟩,fun y c e=>?_,I.free,I.freeC,fun p hp=>?_,tracked ⟨oL,hoL,I.free⟩ hs,by simpa using I.len⟩ ⟨_,hs,.inl rfl⟩
  ·exact (hs.2 b (yay (yai (yam e) I.ok.above))).trans (I.base.keep b o e n hb hx)
  ·obtain ⟨sl,e1⟩:=I.base.slot b o e n hb hx;exact ⟨sl,(hs.2 b (yay (yai (yam e) I.ok.above))).trans e1⟩
  ·obtain ⟨o',e1⟩:=I.base.there b o e hx;exact ⟨o',(hs.2 b (yay (yai (yam e) I.ok.above))).trans e1⟩
  ·by_cases hj:j=i
   ·subst hj;rw [hi] at e1;cases e1;rw [yaw hiσ] at e2;cases e2;exact ⟨u,r,.inl ⟨hk,by simp⟩⟩
   ·rw [yaG (Ne.symm hj)] at e2;obtain ⟨u',r',q⟩:=hl j y v' e1 e2 e3;refine ⟨u',r',?_⟩
    rcases q with ⟨k,e⟩ | ⟨k,c,e,z⟩
    ·refine .inl ⟨k,?_⟩;have:y≠x:=fun e=>hj (zfa hN e1 (e ▸ hi))
     simp [this,e]
    ·exact .inr ⟨k,c,e,z.sameBut hs (cne y c e)⟩
  ·obtain ⟨w',z⟩:=I.cell y c e;exact ⟨w',z.sameBut hs (cne y c e)⟩
  ·obtain ⟨e,n,ne,nf,d⟩:=I.pin p hp;exact ⟨(hs.2 p.1 ne).trans e,n,ne,nf,d⟩
 ·have hfn:X.fn x=true:=by
   rcases hf with z | z
   ·exact z
   ·rw [z] at hk;cases hk
  obtain ⟨c,hc⟩:=I.ok.has x (.inl hk);obtain ⟨w',z⟩:=I.cell x c hc;refine wpAny_storeName_cell I.ok.kind hk hc z (fun h' hc' hs=>?_);obtain ⟨oc,hoc,hocd⟩:=id z;refine h { s with heap:=h' } ⟨I.ok,I.os,I.bare,⟨fun b o e n hb hx=>?_,fun b o e n hb hx=>?_,I.base.free,fun b o e hx=>?_,I.base.tups,I.base.frzs,I.base.tbls⟩,⟨m,hn.sameBut hs (Ne.symm (cne x c hc)),fun j y v' e1 e2 e3=>?_⟩,fun y c' e=>?_,I.free,I.freeC,fun p hp=>?_,tracked ⟨oc,hoc,I.freeC x c hc⟩ hs,by simpa using I.len⟩ ⟨c,hs,.inr hc⟩
  ·exact (hs.2 b (yay (yai (yam e) (I.ok.cab x c hfn hc)))).trans (I.base.keep b o e n hb hx)
  ·obtain ⟨sl,e1⟩:=I.base.slot b o e n hb hx;exact ⟨sl,(hs.2 b (yay (yai (yam e) (I.ok.cab x c hfn hc)))).trans e1⟩
  ·obtain ⟨o',e1⟩:=I.base.there b o e hx;exact ⟨o',(hs.2 b (yay (yai (yam e) (I.ok.cab x c hfn hc)))).trans e1⟩
  ·by_cases hj:j=i
   ·subst hj;rw [hi] at e1;cases e1;rw [yaw hiσ] at e2;cases e2;exact ⟨u,r,.inr ⟨.inl hk,c,hc,hc'⟩⟩
   ·rw [yaG (Ne.symm hj)] at e2;obtain ⟨u',r',q⟩:=hl j y v' e1 e2 e3;refine ⟨u',r',?_⟩
    rcases q with q | ⟨k,c',e,z'⟩
    ·exact .inl q
    ·refine .inr ⟨k,c',e,z'.sameBut hs ?_⟩;rintro rfl;exact hj (zfa hN e1 (I.ok.inj _ _ _ e hc ▸ hi))
  ·by_cases hcc:c'=c
   ·subst hcc;exact ⟨_,hc'⟩
   ·obtain ⟨w2,z2⟩:=I.cell y c' e;exact ⟨w2,z2.sameBut hs hcc⟩
  ·obtain ⟨e,n,ne,nf,d⟩:=I.pin p hp;refine ⟨(hs.2 p.1 ?_).trans e,n,ne,nf,d⟩;intro q;rw [q,hoc] at e;have q':oc=p.2:=Option.some.inj e;exact d w' (by rw [<-q'];exact hocd)
def zcO{M:Model}{A:Around}{E:Z5}{i:Nat}{x:Str}{v:V}{u:Value}{Q:Unit->Shared->Prop}(I:Inv X pins σ H s)(hN:X.N.Nodup)(hi:X.N[i]?=some x)(hx:Loc X.env.scope x)(r:zaV v u)
  (h:∀s',Inv X pins (σ.set i (some v)) H s'->Q () s') (hf:X.fn x=true\/X.env.scope.names.lookup x=some .local:=by first | exact .inl rfl | exact .inr rfl | assumption):wpAny M A (storeName X.env x u) Q E s :=
 zfE I hN hi hx r (fun s' I' _=>h s' I') hf
def Inv.call'{s':Shared}{ch:List Addr}(I:Inv X pins σ H s)(ho:s'.os=s.os)(u:Un (frs X.stack) ch H H' s.heap s'.heap)(hok:HOk X.prog X.w H' s'.heap)(hg:AllBare s'.gens)
  (hch:∀b∈ch,(b∈X.ex\/X.s₀.heap.objs.size<=b)/\b≠X.env.locals/\(∀x c,X.env.cells.lookup x=some c->c≠b)/\∀p∈X.pn++pins,p.1≠b):Inv X pins σ H' s':=by
 obtain ⟨h',g',d',t',o'⟩:=s';have e:o'=s.os:=ho;subst e;exact I.call (g':=g') (t':=t') (d':=d') u hok hg hch
end
noncomputable abbrev XK:=Value->Option Addr->Hp->Prop
noncomputable abbrev St:=List (Option V)
noncomputable abbrev VK:=V->Hp->Prop
noncomputable abbrev TE:=St->Hp->VK->Prop
noncomputable abbrev TT:=St->Hp->(Bool->Hp->Prop)->Prop
noncomputable abbrev TA:=St->Hp->(List V->Hp->Prop)->Prop
structure Ends where
 nx:St->Hp->Prop
 rt:VK
 bk:St->Hp->Prop:=fun _ _=>False
 ct:St->Hp->Prop:=fun _ _=>False
noncomputable abbrev TS:=Ends->St->Hp->Prop
noncomputable def EP(X:Cx)(pins:Z3)(σ:St)(Q:VK)(u:Value)(s':Shared):Prop:=∃v H',Inv X pins σ H' s'/\zaV v u/\Q v H'
noncomputable def TP(X:Cx)(pins:Z3)(σ:St)(Q:Bool->Hp->Prop)(b:Bool)(s':Shared):Prop:=∃H',Inv X pins σ H' s'/\Q b H'
noncomputable def AP(X:Cx)(pins:Z3)(σ:St)(Q:List V->Hp->Prop)(us:List Value)(s':Shared):Prop:=∃vs H',Inv X pins σ H' s'/\Vals vs us/\Q vs H'
noncomputable def SP(X:Cx)(pins:Z3)(D:Ends)(f:Flow)(s':Shared):Prop :=
 match f with
 | .next=>∃σ' H',Inv X pins σ' H' s'/\D.nx σ' H'
 | .brk=>∃σ' H',Inv X pins σ' H' s'/\D.bk σ' H'
 | .cont=>∃σ' H',Inv X pins σ' H' s'/\D.ct σ' H'
 | .ret u=>∃v σ' H',Inv X pins σ' H' s'/\zaV v u/\D.rt v H'
noncomputable def PE(X:Cx)(e:Expr)(t:TE):Prop :=
 ∀(pins:Z3) (s:Shared) (σ:St) (H:Hp) (Q:VK),Inv X pins σ H s->t σ H Q->wpAny (model X.prog X.w) X.A (eval e X.env) (EP X pins σ Q) X.xe s
noncomputable def PT(X:Cx)(e:Expr)(t:TT):Prop :=
 ∀(pins:Z3) (s:Shared) (σ:St) (H:Hp) (Q:Bool->Hp->Prop),Inv X pins σ H s->t σ H Q->wpAny (model X.prog X.w) X.A (isTrue e X.env (eval e X.env)) (TP X pins σ Q) X.xe s
noncomputable def PW(X:Cx)(e:Expr)(t:TT):Prop :=
 ∀(whole:Sem Value) (pins:Z3) (s:Shared) (σ:St) (H:Hp) (Q:Bool->Hp->Prop),Inv X pins σ H s->t σ H Q->wpAny (model X.prog X.w) X.A (isTrue e X.env whole) (TP X pins σ Q) X.xe s
def PW.pt{X:Cx}{e:Expr}{t:TT}(h:PW X e t):PT X e t:=h _
noncomputable def PA(X:Cx)(es:List Expr)(t:TA):Prop :=
 ∀(pos:Pos) (pins:Z3) (s:Shared) (σ:St) (H:Hp) (Q:List V->Hp->Prop),Inv X pins σ H s->t σ H Q->wpAny (model X.prog X.w) X.A (spliced (backTo pos (starEach es X.env))) (AP X pins σ Q) X.xe s
noncomputable def PS(X:Cx)(st:Stmt)(t:TS):Prop :=
 ∀(pins:Z3) (s:Shared) (σ:St) (H:Hp) (D:Ends),Inv X pins σ H s->t D σ H->wpAny (model X.prog X.w) X.A (exec st X.env) (SP X pins D) X.xe s
noncomputable def PSs(X:Cx)(st:List Stmt)(t:TS):Prop :=
 ∀(pins:Z3) (s:Shared) (σ:St) (H:Hp) (D:Ends),Inv X pins σ H s->t D σ H->wpAny (model X.prog X.w) X.A (execs st X.env) (SP X pins D) X.xe s
def thn{α:Type}{t:Sem α}{Q Q':α->Shared->Prop}{M:Model}{A:Around}{E:Z5}{s:Shared}(h:wpAny M A t Q E s)(hQ:∀a s,Q a s->Q' a s):wpAny M A t Q' E s:=ybd h hQ fun _ _ x=>x
end L2
namespace L2
open PySem PySem.Spec PyProof.Rows
section
variable{X:Cx}
noncomputable def zsD(i:Nat):TE:=fun σ H Q=>∃v,σ[i]?=some (some v)/\Q v H
noncomputable def tC(v:V):TE:=fun _ H Q=>Q v H
def za4{i:Nat}{x:Str}{pos:Pos}(hN:X.N[i]?=some x)(hv:Vis X.env.scope x)(hd:(x == ("__debug__":Str))=false:=by decide)(hcd:(x == ("__classdict__":Str))=false:=by decide):PE X (.Name x pos) (zsD i):=by
 intro pins s σ H Q I h;obtain ⟨v,e,h⟩:=h;obtain ⟨m,hn,hl⟩:=I.loc;obtain ⟨u,r,l⟩:=hl i x v hN e hv;have fin:EP X pins σ Q u s:=⟨v,H,I,r,h⟩
 rcases l with ⟨hk,hm⟩ | ⟨hk,c,hc,hcell⟩
 ·exact wpAny_Name (wpAny_loadName_local I.ok.kind hk hn hm fin) hd
 ·rcases hk with hk | hk
  ·exact wpAny_Name (wpAny_loadName_cell I.ok.kind hk hc hcell fin) hd
  ·exact wpAny_Name (wpAny_loadName_free I.ok.kind hk hc hcell fin hcd) hd
def zqw{i j pos}:PE X (.Constant (.int i) j pos) (tC (.int i)):=fun _ _ _ H _ I h=>wpAny_Constant_int ⟨.int i,H,I.tok _,⟨_,rfl⟩,h⟩
def zn1{b j pos}:PE X (.Constant (.bool b) j pos) (tC (.bl b)):=fun _ _ _ H _ I h=>Constant_bool ⟨.bl b,H,I,rfl,h⟩
def zqt{j pos}:PE X (.Constant .none j pos) (tC .non):=fun _ _ _ H _ I h=>Constant_none ⟨.non,H,I,rfl,h⟩
def zqp{x j pos}:PE X (.Constant (.str x) j pos) (tC (.str x)):=fun _ _ _ H _ I h=>Calls.Constant_str ⟨.str x,H,I.tok _,⟨_,rfl⟩,h⟩
noncomputable def Gl(X:Cx)(x:Str):Prop:=X.env.kindOf x=some .globalImplicit
def zde{E:Z5}{pins:Z3}{s:Shared}{σ:St}{H:Hp}{x:Str}{u:Value}{pos:Pos}{Q:Z5}(I:Inv X pins σ H s)(hg:Gl X x)(hm:X.mg x=some u)(h:Q u s)
  (hd:(x == ("__debug__":Str))=false:=by decide):wpAny (model X.prog X.w) X.A (eval (.Name x pos) X.env) Q E s :=
 Calls.Name_function_global I.ok.kind hg (Calls.loadGlobal_global (by rw [I.ok.glob];exact I.mod.glob.keeps I.bk) hm h) hd
def zev{E:Z5}{pins:Z3}{s:Shared}{σ:St}{H:Hp}{x:Str}{u:Value}{pos:Pos}{Q:Z5}(I:Inv X pins σ H s)(hg:Gl X x)(hm:X.mg x=none)(hv:bootBuiltins x=some u)(h:Q u s)
  (hn:x ≠ "__name__":=by decide) (hd:(x == ("__debug__":Str))=false:=by decide):wpAny (model X.prog X.w) X.A (eval (.Name x pos) X.env) Q E s:=by
 obtain ⟨mb,h1,h2⟩:=I.mod.blt;exact Calls.Name_function_global I.ok.kind hg (Calls.loadGlobal_builtin (by rw [I.ok.glob];exact I.mod.glob.keeps I.bk) hm (by rw [I.ok.blt];exact h1.keeps I.bk) ((h2 x hn).trans hv) h) hd
def zjg{x:Str}{v:V}{u:Value}{pos:Pos}(hg:Gl X x)(hm:X.mg x=some u)(r:zaV v u)(hd:(x == ("__debug__":Str))=false:=by decide):PE X (.Name x pos) (tC v) :=
 fun _ _ _ H _ I h=>zde I hg hm ⟨v,H,I,r,h⟩ hd
def zji{x:Str}{v:V}{u:Value}{pos:Pos}(hg:Gl X x)(hm:X.mg x=none)(hv:bootBuiltins x=some u)(r:zaV v u)(hn:x ≠ "__name__":=by decide)(hd:(x == ("__debug__":Str))=false:=by decide):PE X (.Name x pos) (tC v) :=
 fun _ _ _ H _ I h=>zev I hg hm hv ⟨v,H,I,r,h⟩ hn hd
variable{a b:Expr}{ta tb:TE}{pos:Pos}
noncomputable def tB(t:TE):TT:=fun σ H Q=>t σ H fun x H1=>∃c,x=.bl c/\Q c H1
def zqh{e:Expr}{t:TE}(h:PE X e t)(he:∀whole,isTrue e X.env whole=(do let v ← whole;standAt e.pos;holding [v] (truthy v)):=by intro _;rfl):PT X e (tB t):=by
 intro pins s σ H Q I hw;refine isTrue_plain (thn (h pins s σ H _ I hw) fun v s1 ⟨x,H1,I1,r1,q1⟩=>?_) (he _);obtain ⟨d,rfl,q⟩:=q1;cases r1;exact ya5 ⟨H1,I1,q⟩
variable{tA tB':TT}{zbk:List Expr}
noncomputable def zuZ(t u:TT):TT:=fun σ H Q=>t σ H fun c H1=>if c=true then u σ H1 Q else Q false H1
noncomputable def tOr(t u:TT):TT:=fun σ H Q=>t σ H fun c H1=>if c=true then Q true H1 else u σ H1 Q
noncomputable def zuX(t:TT):TT:=fun σ H Q=>t σ H fun c H1=>Q (!c) H1
def znL(ha:PT X a tA):PW X (.BoolOp .And [a] pos) tA:=by
 intro wh pins s σ H Q I h;refine isTrue_and (thn (ha pins s σ H Q I h) fun c s1 e=>?_)
 cases c with
 | true=>exact isTrue_and_nil e
 | false=>exact e
def zqe(ha:PT X a tA):PW X (.BoolOp .Or [a] pos) tA:=by
 intro wh pins s σ H Q I h;refine isTrue_or (thn (ha pins s σ H Q I h) fun c s1 e=>?_)
 cases c with
 | false=>exact isTrue_or_nil e
 | true=>exact e
def zqf(ha:PT X a tA)(hb:PW X (.BoolOp .And (b::zbk) pos) tB'):PW X (.BoolOp .And (a::b::zbk) pos) (zuZ tA tB'):=by
 intro wh pins s σ H Q I h;refine isTrue_and (thn (ha pins s σ H _ I h) fun c s1 ⟨H1,I1,q1⟩=>?_)
 cases c with
 | true=>exact hb wh pins s1 σ H1 Q I1 q1
 | false=>exact ⟨H1,I1,q1⟩
def zs3(ha:PT X a tA)(hb:PW X (.BoolOp .Or (b::zbk) pos) tB'):PW X (.BoolOp .Or (a::b::zbk) pos) (tOr tA tB'):=by
 intro wh pins s σ H Q I h;refine isTrue_or (thn (ha pins s σ H _ I h) fun c s1 ⟨H1,I1,q1⟩=>?_)
 cases c with
 | true=>exact ⟨H1,I1,q1⟩
 | false=>exact hb wh pins s1 σ H1 Q I1 q1
def zqi(ha:PT X a tA):PT X (.UnaryOp .Not a pos) (zuX tA):=by
 intro pins s σ H Q I h;exact isTrue_not (ha pins s σ H (fun c H1=>Q (!c) H1) I h)
noncomputable def zsO(ta tb:TE):TE:=fun σ H Q=>ta σ H fun x H1=>∃c,x=.bl c/\if c=true then tb σ H1 Q else Q (.bl false) H1
noncomputable def zwQ(ta tb:TE):TE:=fun σ H Q=>ta σ H fun x H1=>∃c,x=.bl c/\if c=true then Q (.bl true) H1 else tb σ H1 Q
noncomputable def zsF(ta:TE):TE:=fun σ H Q=>ta σ H fun x H1=>∃c,x=.bl c/\Q (.bl (!c)) H1
def zqr{op}{t:TE}(h:PE X a t):PE X (.BoolOp op [a] pos) t:=fun pins s σ H Q I hw=>BoolOp_one (h pins s σ H Q I hw)
def zqy(ha:PE X a ta)(hb:PE X (.BoolOp .And (b::zbk) pos) tb):PE X (.BoolOp .And (a::b::zbk) pos) (zsO ta tb):=by
 intro pins s σ H Q I h;refine BoolOp_and (thn (ha pins s σ H _ I h) fun v s1 ⟨x,H1,I1,r1,q1⟩=>?_);obtain ⟨c,rfl,q1⟩:=q1;cases r1;refine ya5 ?_
 cases c with
 | true=>exact hb pins s1 σ H1 Q I1 q1
 | false=>exact ⟨.bl false,H1,I1,rfl,q1⟩
def zs8(ha:PE X a ta)(hb:PE X (.BoolOp .Or (b::zbk) pos) tb):PE X (.BoolOp .Or (a::b::zbk) pos) (zwQ ta tb):=by
 intro pins s σ H Q I h;refine BoolOp_or (thn (ha pins s σ H _ I h) fun v s1 ⟨x,H1,I1,r1,q1⟩=>?_);obtain ⟨c,rfl,q1⟩:=q1;cases r1;refine ya5 ?_
 cases c with
 | false=>exact hb pins s1 σ H1 Q I1 q1
 | true=>exact ⟨.bl true,H1,I1,rfl,q1⟩
def zqs(ha:PE X a ta):PE X (.UnaryOp .Not a pos) (zsF ta):=by
 intro pins s σ H Q I h;refine UnaryOp_ (thn (ha pins s σ H _ I h) fun v s1 ⟨x,H1,I1,r1,q1⟩=>?_);obtain ⟨c,rfl,q1⟩:=q1;cases r1;exact not_of (ya5 ⟨.bl (!c),H1,I1,rfl,q1⟩)
noncomputable def tIf(t:TT)(ta tb:TE):TE:=fun σ H Q=>t σ H fun c H1=>if c=true then ta σ H1 Q else tb σ H1 Q
def zlg{c:Expr}(hc:PT X c tA)(ha:PE X a ta)(hb:PE X b tb):PE X (.IfExp c a b pos) (tIf tA ta tb):=by
 intro pins s σ H Q I h;refine wpAny_IfExp (thn (hc pins s σ H _ I h) fun d s1 ⟨H1,I1,q1⟩=>?_)
 cases d with
 | true=>exact ha pins s1 σ H1 Q I1 q1
 | false=>exact hb pins s1 σ H1 Q I1 q1
end
end L2
namespace L2
open PySem PySem.Spec PyProof.Rows
noncomputable def SqL(K:PySem.W.Frag)(H:Hp)(a:Addr)(xs:List V):Prop :=
 Rd H a (.lst xs) ∨
  ∃(o:Obj) (its:Array Value) (n:Nat),K.lookup a=some o/\o.cls=.type "list" /\ o.dict=none/\o.data=.seq its n/\its.size<=sizeLine/\Vals xs its.toList
noncomputable def SqT(K:PySem.W.Frag)(H:Hp)(a:Addr)(xs:List V):Prop :=
 Rd H a (.tup xs) ∨
  ∃(o:Obj) (its:Array Value) (n:Nat),K.lookup a=some o/\o.cls=.type "tuple" /\ o.data=.seq its n/\its.size<=sizeLine/\Vals xs its.toList
noncomputable def zxV:Value->Option V
 | .none=>some .non
 | .bool b=>some (.bl b)
 | .int i _=>some (.int i)
 | .str x _=>some (.str x)
 | .bytes b _=>some (.byt b)
 | .float b _=>some (.flt b)
 | .ref a=>some (.ref a)
 | .type n=>some (.ty n)
 | _=>none
def zaV.abs{x:V}{u:Value}(r:zaV x u):zxV u=some x:=by
 cases x with
 | non=>cases r;rfl
 | bl _=>cases r;rfl
 | int _=>obtain ⟨t,rfl⟩:=r;rfl
 | str _=>obtain ⟨t,rfl⟩:=r;rfl
 | byt _=>obtain ⟨t,rfl⟩:=r;rfl
 | flt _=>obtain ⟨t,rfl⟩:=r;rfl
 | ref _=>cases r;rfl
 | ty _=>cases r;rfl
theorem zaV.inj{x y:V}{u:Value}(r:zaV x u)(q:zaV y u):x=y:=Option.some.inj (r.abs.symm.trans q.abs)
theorem Vals.inj:∀{xs ys:List V} {us:List Value},Vals xs us->Vals ys us->xs=ys
 | _,_,_,.nil,.nil=>rfl
 | _,_,_,.cons r t,.cons r' t'=>by rw [r.inj r',Vals.inj t t']
section
variable{X:Cx}{pins:Z3}{σ:St}{H:Hp}{s:Shared}{a:Addr}{xs ys:List V}
def SqL.of{K:PySem.W.Frag}(h:H a=some (.lst xs)):SqL K H a xs:=.inl (.inl h)
def SqT.of{K:PySem.W.Frag}(h:H a=some (.tup xs)):SqT K H a xs:=.inl (.inl h)
def Inv.list(I:Inv X pins σ H s)(h:SqL X.K H a xs):∃its:List Value,Vals xs its/\PlainL s.heap a its.toArray/\xs.length<=sizeLine:=by
 rcases h with h | ⟨o,its,n,hk,hc,hd,hs,hz,r⟩
 ·obtain ⟨z,its,n,r,e⟩:=h.ok I.hok;exact ⟨its,r,⟨_,n,e,rfl,rfl,rfl⟩,z⟩
 ·refine ⟨its.toList,r,⟨o,n,I.kIn a o hk,hc,hd,by simpa using hs⟩,?_⟩;have e:=r.length;simp only [yaZ] at e;omega
def Inv.tuple(I:Inv X pins σ H s)(h:SqT X.K H a xs):∃its:List Value,Vals xs its/\IsTup s.heap a its.toArray/\xs.length<=sizeLine:=by
 rcases h with h | ⟨o,its,n,hk,hc,hs,hz,r⟩
 ·obtain ⟨z,its,r,p⟩:=h.ok I.hok;exact ⟨its,r,p,z⟩
 ·refine ⟨its.toList,r,⟨o,I.kIn a o hk,hc,n,by simpa using hs⟩,?_⟩;have e:=r.length;simp only [yaZ] at e;omega
def Inv.list_inj(I:Inv X pins σ H s)(h:SqL X.K H a xs)(h':SqL X.K H a ys):xs=ys:=by
 obtain ⟨its,r,⟨o,n,e,_,_,d⟩,_⟩:=I.list h;obtain ⟨its',r',⟨o',n',e',_,_,d'⟩,_⟩:=I.list h';rw [e] at e';cases e';rw [d] at d'
 injection d' with d1 _
 have:its=its':=by simpa using congrArg Array.toList d1
 subst this;exact r.inj r'
def Inv.tuple_inj(I:Inv X pins σ H s)(h:SqT X.K H a xs)(h':SqT X.K H a ys):xs=ys:=by
 obtain ⟨its,r,⟨o,e,_,n,d⟩,_⟩:=I.tuple h;obtain ⟨its',r',⟨o',e',_,n',d'⟩,_⟩:=I.tuple h';rw [e] at e';cases e';rw [d] at d'
 injection d' with d1 _
 have:its=its':=by simpa using congrArg Array.toList d1
 subst this;exact r.inj r'
end
section
variable{X:Cx}{pins:Z3}{σ:St}{H:Hp}{s:Shared}{E:Z5}
end
section
variable{X:Cx}{st:Stmt}{zbk:List Stmt}{t u:TS}{e:Expr}{te:TE}{pos:Pos}
noncomputable def zpu:TS:=fun D σ H=>D.nx σ H
noncomputable def zwO(t u:TS):TS:=fun D σ H=>t { D with nx:=u D } σ H
def znN:PSs X [] zpu:=fun _ _ σ H _ I h=>yb1 ⟨σ,H,I,h⟩
def zk5(h1:PS X st t)(h2:PSs X zbk u):PSs X (st::zbk) (zwO t u):=by
 intro pins s σ H D I h;refine wpAny_execs_cons (thn (h1 pins s σ H { D with nx:=u D } I h) fun f s1 q=>?_)
 cases f with
 | next =>
  obtain ⟨σ',H',I',q⟩:=q;exact h2 pins s1 σ' H' D I' q
 | ret v=>exact q
 | brk=>exact q
 | cont=>exact q
def znM(h1:PS X st t):PSs X [st] t:=by
 intro pins s σ H D I h;refine wpAny_execs_cons (thn (h1 pins s σ H D I h) fun f s1 q=>?_)
 cases f with
 | next=>exact yb1 q
 | ret v=>exact q
 | brk=>exact q
 | cont=>exact q
noncomputable def zpx:TS:=fun D σ H=>D.bk σ H
def znQ:PS X (.Pass pos) zpu:=fun _ _ σ H _ I h=>wpAny_Pass ⟨σ,H,I,h⟩
def zk8:PS X (.Break pos) zpx:=fun _ _ σ H _ I h=>wpAny_Break ⟨σ,H,I,h⟩
def Inv.quiet{pins:Z3}{σ:St}{H:Hp}{s:Shared}(I:Inv X pins σ H s):interactive X.env=false:=by simp [interactive,I.ok.kind]
noncomputable def zsK(te:TE):TS:=fun D σ H=>te σ H fun _ H1=>D.nx σ H1
def zgB(he:PE X e te)(hs:swapsWith e none pos.line X.env=pure false:=by rfl):PS X (.Expr e pos) (zsK te):=by
 intro pins s σ H D I h;exact wpAny_Expr_any (thn (he pins s σ H _ I h) fun v s1 ⟨x,H1,I1,r1,q1⟩=>⟨σ,H1,I1,q1⟩) I.quiet hs
noncomputable def zwP(te:TE):TS:=fun D σ H=>te σ H D.rt
def zi1(he:PE X e te):PS X (.Return (some e) pos) (zwP te):=by
 intro pins s σ H D I h;exact wpAny_Return_some (thn (he pins s σ H _ I h) fun v s1 ⟨x,H1,I1,r1,q1⟩=>⟨x,σ,H1,I1,r1,q1⟩)
noncomputable def zsE:TS:=fun D _ H=>D.rt .non H
def znP:PS X (.Return none pos) zsE:=fun _ _ σ H _ I h=>wpAny_Return_none ⟨.non,σ,H,I,rfl,h⟩
noncomputable def zwS(c:TT)(t u:TS):TS:=fun D σ H=>c σ H fun b H1=>if b=true then t D σ H1 else u D σ H1
def zs4{c:Expr}{a b:List Stmt}{tc:TT}(hc:PT X c tc)(ha:PSs X a t)(hb:PSs X b u):PS X (.If c a b pos) (zwS tc t u):=by
 intro pins s σ H D I h;refine wpAny_If (thn (hc pins s σ H _ I h) fun d s1 ⟨H1,I1,q1⟩=>?_)
 cases d with
 | true=>exact ha pins s1 σ H1 D I1 q1
 | false=>exact hb pins s1 σ H1 D I1 q1
end
noncomputable abbrev TG:=V->St->Hp->(St->Hp->Prop)->Prop
noncomputable abbrev TGs:=List V->St->Hp->(St->Hp->Prop)->Prop
noncomputable def PG(X:Cx)(target:Expr)(t:TG):Prop :=
 ∀(pins:Z3) (s:Shared) (σ:St) (H:Hp) (v:V) (u:Value) (Q:St->Hp->Prop),Inv X pins σ H s->zaV v u->t v σ H Q →
  wpAny (model X.prog X.w) X.A (assign target X.env u) (fun _ s'=>∃σ' H',Inv X pins σ' H' s'/\Q σ' H') X.xe s
noncomputable def PGs(X:Cx)(ts:List Expr)(t:TGs):Prop :=
 ∀(pins:Z3) (s:Shared) (σ:St) (H:Hp) (vs:List V) (us:List Value) (Q:St->Hp->Prop),Inv X pins σ H s->Vals vs us->t vs σ H Q →
  wpAny (model X.prog X.w) X.A (assignInOrder ((assignEach ts X.env).map (·.2)) us) (fun _ s'=>∃σ' H',Inv X pins σ' H' s'/\Q σ' H') X.xe s
noncomputable abbrev TSet:=V->V->V->Hp->(Hp->Prop)->Prop
noncomputable def zsj(X:Cx)(t:TSet):Prop :=
 ∀(pins:Z3) (s:Shared) (σ:St) (H:Hp) (o i v:V) (ov iv u:Value) (Q:Hp->Prop),Inv X pins σ H s->zaV o ov->zaV i iv->zaV v u->t o i v H Q →
  wpAny (model X.prog X.w) X.A (setItem ov iv u) (fun _ s'=>∃H',Inv X pins σ H' s'/\Q H') X.xe s
noncomputable abbrev TIp:=V->V->Hp->VK->Prop
noncomputable def PIp(X:Cx)(op:Operator)(t:TIp):Prop :=
 ∀(pins:Z3) (s:Shared) (σ:St) (H:Hp) (x y:V) (v u:Value) (Q:VK),Inv X pins σ H s->zaV x v->zaV y u->t x y H Q →
  wpAny (model X.prog X.w) X.A (inplaceOp op v u) (EP X pins σ Q) X.xe s
section
variable{X:Cx}{pos:Pos}
noncomputable def zid(i:Nat):TG:=fun v σ H Q=>Q (σ.set i (some v)) H
def zje{i:Nat}{x:Str}(hN:X.N.Nodup)(hi:X.N[i]?=some x)(hx:Loc X.env.scope x)(hf:X.fn x=true\/X.env.scope.names.lookup x=some .local:=by first | exact .inl rfl | exact .inr rfl | assumption):PG X (.Name x pos) (zid i):=by
 intro pins s σ H v u Q I r h;exact wpAny_assign_Name (zcO I hN hi hx r (fun s' I'=>⟨_,H,I',h⟩) hf)
noncomputable def zxO:TGs:=fun vs σ H Q=>vs=[]/\Q σ H
noncomputable def ztL(t:TG)(u:TGs):TGs:=fun vs σ H Q=>∃v r,vs=v::r/\t v σ H fun σ' H'=>u r σ' H' Q
def znY:PGs X [] zxO:=by
 intro pins s σ H vs us Q I r h;obtain ⟨e,h⟩:=h;subst e;cases r;exact assignInOrder_nil ⟨σ,H,I,h⟩
def zld{e:Expr}{es:List Expr}{t:TG}{u:TGs}(h1:PG X e t)(h2:PGs X es u)
  (hs:(assignEach (e::es) X.env).map (·.2)=assign e X.env::(assignEach es X.env).map (·.2):=by rfl):PGs X (e::es) (ztL t u):=by
 intro pins s σ H vs us Q I r h;obtain ⟨v,vr,e1,h⟩:=h;subst e1
 cases r with
 | cons r rr =>
  rw [hs];refine assignInOrder_cons (thn (h1 pins s σ H _ _ _ I r h) fun _ s1 ⟨σ1,H1,I1,q1⟩=>?_);exact h2 pins s1 σ1 H1 _ _ Q I1 rr q1
noncomputable def zxM(K:PySem.W.Frag)(n:Nat)(t:TGs):TG:=fun v σ H Q=>∃a xs,v=.ref a/\SqT K H a xs/\xs.length=n/\t xs σ H Q
def zqn{es:List Expr}{k:Nat}{t:TGs}{n:Nat}(hc:X.calm=true)(h:PGs X es t)
  (hn:(assignEach es X.env).length=n:=by rfl) (hst:(assignEach es X.env).findIdx? (·.1)=none:=by rfl):PG X (.Tuple es k pos) (zxM X.K n t):=by
 intro pins s σ H v u Q I r hw;obtain ⟨a,xs,e1,hq,hl,hw⟩:=hw;subst e1;cases r;obtain ⟨its,rv,ht,hz⟩:=I.tuple hq;refine assign_Tuple_tuple (I.ok.hd hc) ht (by simp [hn,<-hl,rv.length]) hst fun h' hx=>?_
 have I1:Inv X pins σ H { s with heap:=h' }:=I.kept (t':=s.toks) fun b o e=>hx b o (yay (yam e)) e
 exact h pins _ σ H xs _ Q I1 (by simpa using rv) hw
noncomputable def zxN(to ti:TE)(t:TSet):TG:=fun v σ H Q=>to σ H fun o H1=>ti σ H1 fun i H2=>t o i v H2 fun H3=>Q σ H3
def zjd{o i:Expr}{to ti:TE}{t:TSet}(ho:PE X o to)(hi:PE X i ti)(hs:zsj X t)
  (ha:∀v,assign (.Subscript o i pos) X.env v=(do
   let ov ← holding [v] (eval o X.env)
   let iv ← holding [v,ov] (eval i X.env)
   standAt pos
   holding [v,ov,iv] (setItem ov iv v)
   release [v,ov,iv] []):=by intro _;rfl):PG X (.Subscript o i pos) (zxN to ti t):=by
 intro pins s σ H v u Q I r h;rw [ha];refine yaa (ybh (thn (ho pins s σ H _ I h) fun ov s1 ⟨x,H1,I1,r1,q1⟩=>?_));refine yaa (ybh (thn (hi pins s1 σ H1 _ I1 q1) fun iv s2 ⟨y,H2,I2,r2,q2⟩=>?_));refine yaa (wpAny_standAt (yaa (ybh (thn (hs pins s2 σ H2 x y v ov iv u _ I2 r1 r2 r q2) fun _ s3 ⟨H3,I3,q3⟩=>?_))));exact wpAny_release ⟨σ,H3,I3,q3⟩
noncomputable def znb(te:TE)(g:TG):TS:=fun D σ H=>te σ H fun x H1=>g x σ H1 D.nx
def zhn{tg e:Expr}{te:TE}{g:TG}(he:PE X e te)(hg:PG X tg g)(hs:swapsWithSole [tg] e pos.line X.env=pure false:=by rfl)(hw:swappedStores [tg] e X.env=pure none:=by rfl)
  (h1:(assignEach [tg] X.env).map (·.2)=[assign tg X.env]:=by rfl):PS X (.Assign [tg] e pos) (znb te g):=by
 intro pins s σ H D I h;refine wpAny_Assign_stores (thn (he pins s σ H _ I h) fun v s1 ⟨x,H1,I1,r1,q1⟩=>?_) hs hw;rw [h1];exact thn (hg pins s1 σ H1 x v _ I1 r1 q1) fun _ s2 q=>q
def zhm{i:Nat}{x:Str}{e:Expr}{te:TE}{pos':Pos}(hN:X.N.Nodup)(hi:X.N[i]?=some x)(hx:Loc X.env.scope x)(he:PE X e te)(hs:swapsWith e (some (.Name x pos')) pos.line X.env=pure false:=by rfl)(hf:X.fn x=true\/X.env.scope.names.lookup x=some .local:=by first | exact .inl rfl | exact .inr rfl | assumption) :
  PS X (.Assign [.Name x pos'] e pos) (znb te (zid i)):=by
 intro pins s σ H D I h;refine wpAny_Assign_Name (thn (he pins s σ H _ I h) fun v s1 ⟨y,H1,I1,r1,q1⟩=>?_) hs;exact zcO I1 hN hi hx r1 (fun s2 I2=>⟨_,H1,I2,q1⟩) hf
noncomputable def zx3(i j:Nat)(ta:TA):TS:=fun D σ H=>ta σ H fun vs H1=>∃v w,vs=[v,w]/\D.nx ((σ.set i (some v)).set j (some w)) H1
noncomputable def zwW(i:Nat)(te:TE)(ti:TIp):TS:=fun D σ H=>∃x,σ[i]?=some (some x)/\te σ H fun y H1=>ti x y H1 fun z H2=>D.nx (σ.set i (some z)) H2
def zql{i:Nat}{x:Str}{e:Expr}{te:TE}{op:Operator}{ti:TIp}{pos':Pos}(hN:X.N.Nodup)(hi:X.N[i]?=some x)(hx:Loc X.env.scope x)(he:PE X e te)(ho:PIp X op ti)(hf:X.fn x=true\/X.env.scope.names.lookup x=some .local:=by first | exact .inl rfl | exact .inr rfl | assumption) :
  PS X (.AugAssign (.Name x pos') op e pos) (zwW i te ti):=by
 intro pins s σ H D I h;obtain ⟨v,e1,h⟩:=h;obtain ⟨m,hn,hl⟩:=I.loc
 have vis:Vis X.env.scope x:=by rcases hx with k | k;exact .inl k;exact .inr (.inl k)
 obtain ⟨u,r,l⟩:=hl i x v hi e1 vis;refine wpAny_AugAssign_Name ?_
 have go:wpAny (model X.prog X.w) X.A (eval e X.env) (fun w s₂=>wpAny (model X.prog X.w) X.A (inplaceOp op u w) (fun r s₃=>wpAny (model X.prog X.w) X.A (storeName X.env x r) (fun _=>SP X pins D .next) X.xe s₃) X.xe s₂) X.xe s:=by
  refine thn (he pins s σ H _ I h) fun w s1 ⟨y,H1,I1,r1,q1⟩=>?_
  refine thn (ho pins s1 σ H1 v y u w _ I1 r r1 q1) fun z s2 ⟨zv,H2,I2,r2,q2⟩=>?_
  exact zcO I2 hN hi hx r2 (fun s3 I3=>⟨_,H2,I3,q2⟩) hf
 rcases l with ⟨hk,hm⟩ | ⟨hk,c,hc,hcell⟩
 ·exact wpAny_loadName_local I.ok.kind hk hn hm go
 ·rcases hk with hk | hk
  ·exact wpAny_loadName_cell I.ok.kind hk hc hcell go
  ·rcases hx with k | k
   ·have:X.env.scope.names.lookup x=some .free:=hk;rw [k] at this;cases this
   ·have:X.env.scope.names.lookup x=some .free:=hk;rw [k] at this;cases this
end
section
variable{X:Cx}{pos:Pos}
noncomputable def zpr(c:TT)(tb:TS):TS:=fun D σ H=>∃W:Nat->St->Hp->Prop,(∃m,W m σ H)/\∀m σ H,W m σ H →
 c σ H fun b H1=>if b=true then ∃N:St->Hp->Prop,(∀σ' H',N σ' H'->∃m',m'<m/\W m' σ' H')/\tb { D with nx:=N,ct:=N,bk:=D.nx } σ H1 else D.nx σ H1
def zk6{c:Expr}{body:List Stmt}{tc:TT}{tb:TS}(hp:PassesOwn (model X.prog X.w) X.A X.env X.xe)(hc:PT X c tc)(hb:PSs X body tb):PS X (.While c body [] pos) (zpr tc tb):=by
 intro pins s σ H D I h;obtain ⟨W,⟨m0,w0⟩,turn⟩:=h;refine wpAny_While (codeAny_whileLoop (fun n s'=>∃σ' H',Inv X pins σ' H' s'/\W n σ' H') ?_ m0 ⟨σ,H,I,w0⟩);rintro n s1 ⟨σ1,H1,I1,w1⟩;refine ybC hp (thn (hc pins s1 σ1 H1 _ I1 (turn n σ1 H1 w1)) fun b s2 ⟨H2,I2,q2⟩=>?_)
 cases b with
 | true =>
  obtain ⟨N,hN,q2⟩:=q2;rw [if_pos rfl];refine ybC hp (thn (hb pins s2 σ1 H2 _ I2 q2) fun f s3 q3=>?_)
  cases f with
  | next =>
   obtain ⟨σ3,H3,I3,n3⟩:=q3;obtain ⟨m',hm,w3⟩:=hN σ3 H3 n3;exact ⟨m',hm,σ3,H3,I3,w3⟩
  | cont =>
   obtain ⟨σ3,H3,I3,n3⟩:=q3;obtain ⟨m',hm,w3⟩:=hN σ3 H3 n3;exact ⟨m',hm,σ3,H3,I3,w3⟩
  | brk=>exact q3
  | ret v=>exact q3
 | false =>
  rw [if_neg yaH];exact yb1 ⟨σ1,H2,I2,q2⟩
end
structure It where
 go:Nat->Hp->Prop
 yld:Nat->Hp->V->Hp->Prop
 stop:Nat->Hp->Prop
noncomputable def zkC(X:Cx)(pins:Z3)(H:Hp)(b:Addr):Prop :=
 H b=none/\b≠X.env.locals/\b ∉ X.fs/\(b∈X.ex\/X.s₀.heap.objs.size<=b)/\(∀x c,X.env.cells.lookup x=some c->c≠b)/\∀p∈X.pn++pins,p.1≠b
def Inv.fpOk{X:Cx}{pins:Z3}{σ:St}{H H':Hp}{s:Shared}{b:Addr}(I:Inv X pins σ H s)(hb:s.heap.objs.size<=b)(hn:H' b=none):zkC X pins H' b:=by
 refine ⟨hn,ya3 (yai I.lt hb),I.nofs hb,.inr (yar I.sz hb),fun x c e z=>?_,fun p hp z=>?_⟩
 ·obtain ⟨v,q⟩:=I.cell x c e;exact absurd (yai q.lt (by rw [z];exact hb)) (yaR _)
 ·exact absurd (yai (yam (I.pin p hp).1) (by rw [z];exact hb)) (yaR _)
structure Turn(P:Program)(w:World)(K:PySem.W.Frag)(tg:Expr)(J:It)(fp:List Addr)(it:Addr)(tn:Nat->Heap->Prop):Prop where
 mem:it∈fp
 obj:∀i h,tn i h->∀b∈fp,∃o,h.get? b=some o/\∀v,o.data≠.cell v
 keep:∀i h h',tn i h->(∀b∈fp,∀o,h.get? b=some o->h'.get? b=some o)->tn i h'
 item:∀(X:Cx),X.prog=P->X.w=w->X.K=K->X.calm=true->∀(i:Nat) (pins:Z3) (s:Shared) (σ:St) (H:Hp) (E:Z5),Inv X pins σ H s->(∀b∈fp,zkC X pins H b)->tn i s.heap->J.go i H →
  wpAny (model P w) X.A (pyNext (.ref it)) (fun r s1=>∃u,r=some u ∧
   wpAny (model P w) X.A (letOwnedTupleGo tg (.ref it) u) (fun _ s2=>∃x H',Inv X pins σ H' s2/\zaV x u/\J.yld i H x H'/\tn (i+1) s2.heap/\∀b∈fp,H' b=none) E s1) E s
 done:∀(X:Cx),X.prog=P->X.w=w->X.K=K->X.calm=true->∀(i:Nat) (pins:Z3) (s:Shared) (σ:St) (H:Hp) (E:Z5),Inv X pins σ H s->(∀b∈fp,zkC X pins H b)->tn i s.heap->J.stop i H →
  wpAny (model P w) X.A (pyNext (.ref it)) (fun r s1=>r=none/\Inv X pins σ H s1) E s
 self:∀(A:Around) (i:Nat) (s:Shared) (Q:Z5) (E:Z5),tn i s.heap->Q (.ref it) s->wpAny (model P w) A (pyIter (.ref it)) Q E s
noncomputable abbrev TI:=St->Hp->(It->Hp->Prop)->Prop
noncomputable def PIE(X:Cx)(pins:Z3)(σ:St)(tg:Expr)(R:It->Hp->Prop)(itv:Value)(s2:Shared):Prop :=
 ∃(it:Addr) (fp:List Addr) (tn:Nat->Heap->Prop) (J:It) (H':Hp),itv=.ref it/\Inv X pins σ H' s2/\Turn X.prog X.w X.K tg J fp it tn/\tn 0 s2.heap/\(∀b∈fp,zkC X pins H' b)/\R J H'
noncomputable def PI(X:Cx)(tg iter:Expr)(wi:TI):Prop :=
 ∀(pins:Z3) (s:Shared) (σ:St) (H:Hp) (R:It->Hp->Prop),Inv X pins σ H s->wi σ H R →
  wpAny (model X.prog X.w) X.A (eval iter X.env) (fun v s1=>wpAny (model X.prog X.w) X.A (pyIter v) (PIE X pins σ tg R) X.xe s1) X.xe s
def zoB {M : Model} {A : Around} {E : Z5} {s : Shared} {tg : Expr} {it : Addr} {u : Value} {o : Obj} {n : String} {vs : Array Value} {Q : Unit -> Shared -> Prop} (ho : s.heap.get? it = some o) (hc : o.cls = .type n) (hd : o.data = .fields vs)
    (hn : ["enumerate", "zip", "dict_itemiterator", "dict_reverseitemiterator", "odict_iterator", "itertools.zip_longest", "itertools.pairwise"].contains n = false) (hQ : Q () s) : wpAny M A (letOwnedTupleGo tg (.ref it) u) Q E s := by
  unfold letOwnedTupleGo
  cases tg <;> first
    | exact yac hQ
    | (cases u <;> first
        | exact yac hQ
        | (refine yaa (wpAny_load ho ?_)
           rw [hc, hd];show wpAny M A (if (["enumerate", "zip", "dict_itemiterator", "dict_reverseitemiterator", "odict_iterator", "itertools.zip_longest", "itertools.pairwise"].contains n && vs[0]? == some (rawInt _)) = true then _ else _) Q E s;rw [if_neg (by intro h; rw [hn, Bool.false_and] at h; cases h)]
           exact yac hQ))
noncomputable def Itl(K:PySem.W.Frag)(a:Addr):It :=
 ⟨fun i H=>∃xs x,SqL K H a xs/\xs[i]?=some x,fun i H x H'=>H'=H/\∀xs,SqL K H a xs->xs[i]?=some x,fun i H=>∃xs,SqL K H a xs/\xs.length<=i⟩
noncomputable def Itt(K:PySem.W.Frag)(a:Addr):It :=
 ⟨fun i H=>∃xs x,SqT K H a xs/\xs[i]?=some x,fun i H x H'=>H'=H/\∀xs,SqT K H a xs->xs[i]?=some x,fun i H=>∃xs,SqT K H a xs/\xs.length<=i⟩
noncomputable def Itr(lo:Int)(n:Nat):It:=⟨fun i _=>i<n,fun i H x H'=>H'=H/\x=.int (lo+i),fun i _=>n<=i⟩
def ziv{P:Program}{w:World}{K:PySem.W.Frag}{tg:Expr}(a it:Addr):Turn P w K tg (Itl K a) [it] it (fun i h=>h.IsListIter it a i) where
 mem:=by simp
 obj:=fun i h st b hb=>by
  have e:b=it:=by simpa using hb
  subst e;obtain ⟨o,e,c,d⟩:=st;exact ⟨o,e,fun v z=>by rw [d] at z;cases z⟩
 keep:=fun i h h' st k=>st.at fun o e=>k it (by simp) o e
 item:=by
  intro X hP hw hK hc i pins s σ H E I hf st hg;subst hP hw hK;obtain ⟨xs,x,hq,hx⟩:=hg;obtain ⟨its,rv,p,hz⟩:=I.list hq;obtain ⟨u,hu,ru⟩:=rv.get hx;obtain ⟨f0,f1,f2,f3,f4,f5⟩:=hf it (by simp);refine wpAny_pyNext_list_item st p.isList (x:=u) (by simpa using hu) fun h' st' sb=>?_
  have I1:Inv X pins σ H { s with heap:=h' }:=I.turned (t':=s.toks) (fun b o hb e=>(sb.2 b hb).trans e) f0 f1 f3 f4 f5;obtain ⟨o,e,c,d⟩:=id st';exact ⟨u,rfl,zoB (s:={ s with heap:=h' }) e c d (by decide) ⟨x,H,I1,ru,⟨rfl,fun ys hy=>by rw [I.list_inj hy hq];exact hx⟩,st',fun b hb=>(hf b hb).1⟩⟩
 done:=by
  intro X hP hw hK hc i pins s σ H E I hf st hg;subst hP hw hK;obtain ⟨xs,hq,hx⟩:=hg;obtain ⟨its,rv,p,hz⟩:=I.list hq;obtain ⟨f0,f1,f2,f3,f4,f5⟩:=hf it (by simp);have hl:=rv.length;exact wpAny_pyNext_list_end (I.ok.hd hc) st p.isList (by simp;omega) fun h' eb=>⟨rfl,I.turned (t':=s.toks) (fun b o hb e=>eb b o hb e) f0 f1 f3 f4 f5⟩
 self:=fun _ _ _ _ _ st h=>wpAny_pyIter_listiter st h
def zhQ{P:Program}{w:World}{K:PySem.W.Frag}{tg:Expr}(a it:Addr):Turn P w K tg (Itt K a) [it] it (fun i h=>h.IsTupleIter it a i) where
 mem:=by simp
 obj:=fun i h st b hb=>by
  have e:b=it:=by simpa using hb
  subst e;obtain ⟨o,e,c,d⟩:=st;exact ⟨o,e,fun v z=>by rw [d] at z;cases z⟩
 keep:=fun i h h' st k=>st.at fun o e=>k it (by simp) o e
 item:=by
  intro X hP hw hK hc i pins s σ H E I hf st hg;subst hP hw hK;obtain ⟨xs,x,hq,hx⟩:=hg;obtain ⟨its,rv,p,hz⟩:=I.tuple hq;obtain ⟨u,hu,ru⟩:=rv.get hx;obtain ⟨f0,f1,f2,f3,f4,f5⟩:=hf it (by simp);refine wpAny_pyNext_tuple_item st (show s.heap.IsTuple a its.toArray from p) (x:=u) (by simpa using hu) fun h' st' sb=>?_
  have I1:Inv X pins σ H { s with heap:=h' }:=I.turned (t':=s.toks) (fun b o hb e=>(sb.2 b hb).trans e) f0 f1 f3 f4 f5;obtain ⟨o,e,c,d⟩:=id st';exact ⟨u,rfl,zoB (s:={ s with heap:=h' }) e c d (by decide) ⟨x,H,I1,ru,⟨rfl,fun ys hy=>by rw [I.tuple_inj hy hq];exact hx⟩,st',fun b hb=>(hf b hb).1⟩⟩
 done:=by
  intro X hP hw hK hc i pins s σ H E I hf st hg;subst hP hw hK;obtain ⟨xs,hq,hx⟩:=hg;obtain ⟨its,rv,p,hz⟩:=I.tuple hq;obtain ⟨f0,f1,f2,f3,f4,f5⟩:=hf it (by simp);have hl:=rv.length;exact wpAny_pyNext_tuple_end (I.ok.hd hc) st (show s.heap.IsTuple a its.toArray from p) (by simp;omega) fun h' eb=>⟨rfl,I.turned (t':=s.toks) (fun b o hb e=>eb b o hb e) f0 f1 f3 f4 f5⟩
 self:=fun _ _ _ _ _ st h=>wpAny_pyIter_tupleiter st h
def zhR{P:Program}{w:World}{K:PySem.W.Frag}{tg:Expr}(it:Addr)(lo:Int)(n:Nat):Turn P w K tg (Itr lo n) [it] it (fun i h=>IsRangeIter h it (lo+(i:Nat)*1) ((n:Int)-(i:Nat)) 1) where
 mem:=by simp
 obj:=fun i h st b hb=>by
  have e:b=it:=by simpa using hb
  subst e
  exact ⟨_,st,fun v z=>by
   have z':Data.fields _=Data.cell v:=z
   cases z'⟩
 keep:=fun i h h' st k=>k it (by simp) _ st
 item:=by
  intro X hP hw hK hc i pins s σ H E I hf st hg;subst hP hw hK;obtain ⟨f0,f1,f2,f3,f4,f5⟩:=hf it (by simp);have W:=Walks.range (prog:=X.prog) (w:=X.w) (I.ok.hd hc) it lo 1 n;refine W.item i s _ _ hg st fun v h' tk hv st' kk=>?_
  obtain ⟨t,rfl⟩:=hv;have I1:Inv X pins σ H { s with heap:=h',toks:=tk }:=I.turned (fun b o hb e=>kk b o (by simpa using hb) e) f0 f1 f3 f4 f5;refine ⟨_,rfl,zoB (s:={ s with heap:=h',toks:=tk }) (n:="range_iterator") st' rfl rfl (by decide) ⟨.int (lo+i),H,I1,⟨t,?_⟩,⟨rfl,rfl⟩,st',fun b hb=>(hf b hb).1⟩⟩;rw [Int.mul_one]
 done:=by
  intro X hP hw hK hc i pins s σ H E I hf st hg;subst hP hw hK;obtain ⟨f0,f1,f2,f3,f4,f5⟩:=hf it (by simp);exact wpAny_pyNext_range_end (I.ok.hd hc) st (by have:n<=i:=hg;omega) fun h' eb=>⟨rfl,I.turned (t':=s.toks) (fun b o hb e=>eb b o hb e) f0 f1 f3 f4 f5⟩
 self:=fun _ _ _ _ _ st h=>wpAny_pyIter_rangeiter st h
end L2
namespace L2
open PySem PySem.Spec PyProof.Rows
section
variable{X:Cx}{tg:Expr}
noncomputable def ztJ(K:PySem.W.Frag)(tl:TE):TI:=fun σ H R=>tl σ H fun x H1=>∃a,x=.ref a/\(∃xs,SqL K H1 a xs)/\R (Itl K a) H1
noncomputable def zxK(K:PySem.W.Frag)(tl:TE):TI:=fun σ H R=>tl σ H fun x H1=>∃a,x=.ref a/\(∃xs,SqT K H1 a xs)/\R (Itt K a) H1
def zjc{l:Expr}{tl:TE}(hl:PE X l tl):PI X tg l (ztJ X.K tl):=by
 intro pins s σ H R I h;refine thn (hl pins s σ H _ I h) fun v s1 ⟨x,H1,I1,r1,q1⟩=>?_
 obtain ⟨a,e,⟨xs,hq⟩,q⟩:=q1;subst e;cases r1;obtain ⟨its,rv,p,hz⟩:=I1.list hq;refine ycD p.isList ?_;refine ⟨s1.heap.objs.size,[s1.heap.objs.size],_,_,H1,rfl,I1.kept (t':=s1.toks) fun b o e=>yae _ e,ziv a _,⟨_,yao _ rfl,rfl,rfl⟩,fun b hb=>?_,q⟩
 have e:b=s1.heap.objs.size:=by simpa using hb
 subst e;exact I1.fpOk (yah _) (I1.hok.fresh (yah _))
def zqm{l:Expr}{tl:TE}(hl:PE X l tl):PI X tg l (zxK X.K tl):=by
 intro pins s σ H R I h;refine thn (hl pins s σ H _ I h) fun v s1 ⟨x,H1,I1,r1,q1⟩=>?_
 obtain ⟨a,e,⟨xs,hq⟩,q⟩:=q1;subst e;cases r1;obtain ⟨its,rv,p,hz⟩:=I1.tuple hq;refine wpAny_pyIter_tuple (show s1.heap.IsTuple a its.toArray from p) ?_;refine ⟨s1.heap.objs.size,[s1.heap.objs.size],_,_,H1,rfl,I1.kept (t':=s1.toks) fun b o e=>yae _ e,zhQ a _,⟨_,yao _ rfl,rfl,rfl⟩,fun b hb=>?_,q⟩
 have e:b=s1.heap.objs.size:=by simpa using hb
 subst e;exact I1.fpOk (yah _) (I1.hok.fresh (yah _))
def zhl{pins:Z3}{σ:St}{H:Hp}{s:Shared}{R:It->Hp->Prop}{E:Z5}{lo hi:Int}{t u v:Tok}{tk:Nat}(I:Inv X pins σ H s)(h1:-(2 ^ 62)<=lo)(h2:lo<2 ^ 62)(h3:-(2 ^ 62)<=hi)(h4:hi<2 ^ 62)
  (q:R (Itr lo (hi-lo).toNat) H):wpAny (model X.prog X.w) X.A (pyIter (.ref s.heap.objs.size)) (PIE X pins σ tg R) E { s with heap:=s.heap.push { cls:=.type "range",data:=.fields #[.int lo t,.int hi u,.int 1 v] },toks:=tk }:=by
 refine wpAny_pyIter_range (IsRange.new ..) (small_one h1 h2 h3 h4) ?_;have I1:Inv X pins σ H { s with heap:=s.heap.push { cls:=.type "range",data:=.fields #[.int lo t,.int hi u,.int 1 v] },toks:=tk }:=I.kept fun b o e=>yae _ e
 refine ⟨(s.heap.push { cls:=.type "range",data:=.fields #[.int lo t,.int hi u,.int 1 v] }).objs.size,[(s.heap.push { cls:=.type "range",data:=.fields #[.int lo t,.int hi u,.int 1 v] }).objs.size],_,_,H,rfl,
  I1.kept (t':=tk) fun b o e=>yae _ e,zhR _ lo (hi-lo).toNat,?_,fun b hb=>?_,q⟩
 ·have e1:lo+((0:Nat):Int)*1=lo:=by simp
  have e2:(((hi-lo).toNat:Nat):Int)-((0:Nat):Int)=Builtin.Range.rangeSize lo hi 1:=by rw [rangeSize_one];split<;>omega
  show IsRangeIter _ _ (lo+((0:Nat):Int)*1) ((((hi-lo).toNat:Nat):Int)-((0:Nat):Int)) 1;rw [e1,e2];exact yao _ rfl
 ·have e:b=(s.heap.push { cls:=.type "range",data:=.fields #[.int lo t,.int hi u,.int 1 v] }).objs.size:=by simpa using hb
  subst e;exact I1.fpOk (yah _) (I1.hok.fresh (yah _))
noncomputable def ztI(ta:TA):TI:=fun σ H R=>ta σ H fun vs H1=>∃j:Int,vs=[.int j]/\-(2 ^ 62)<=j/\j<2 ^ 62/\R (Itr 0 j.toNat) H1
noncomputable def ztH(ta:TA):TI:=fun σ H R=>ta σ H fun vs H1=>∃i j:Int,vs=[.int i,.int j]/\(-(2 ^ 62)<=i/\i<2 ^ 62/\-(2 ^ 62)<=j/\j<2 ^ 62)/\R (Itr i (j-i).toNat) H1
def zjb{a:Expr}{ta:TA}{p pos:Pos}(hg:Gl X "range")(hm:X.mg "range" = none)(ha:PA X [a] ta)(hs:starEach [a] X.env=[(false,eval a X.env)]:=by rfl):PI X tg (.Call (.Name "range" p) [a] [] pos) (ztI ta):=by
 intro pins s σ H R I h;refine Call_ (zev I hg hm boot_range (ybs (thn (ha pos pins s σ H _ I h) fun us s1 ⟨vs,H1,I1,r1,q1⟩=>?_) hs rfl));obtain ⟨j,e,q1,q2,q⟩:=q1;subst e
 cases r1 with
 | cons r rr =>
  cases rr;obtain ⟨t,rfl⟩:=r;exact call_range_1 (zhl I1 (by omega) (by omega) q1 q2 (by simpa using q))
def zja{a b:Expr}{ta:TA}{p pos:Pos}(hg:Gl X "range")(hm:X.mg "range" = none)(ha:PA X [a,b] ta)(hs:starEach [a,b] X.env=[(false,eval a X.env),(false,eval b X.env)]:=by rfl)(hs2:starEach [b] X.env=[(false,eval b X.env)]:=by rfl) :
  PI X tg (.Call (.Name "range" p) [a,b] [] pos) (ztH ta):=by
 intro pins s σ H R I h;refine Call_ (zev I hg hm boot_range (ybs (thn (ha pos pins s σ H _ I h) fun us s1 ⟨vs,H1,I1,r1,q1⟩=>?_) (by rw [hs,hs2]) (by rw [hs2];rfl)));obtain ⟨i,j,e,⟨q1,q2,q3,q4⟩,q⟩:=q1;subst e
 cases r1 with
 | cons r rr =>
  cases rr with
  | cons r' rr =>
   cases rr;obtain ⟨t,rfl⟩:=r;obtain ⟨t',rfl⟩:=r';exact call_range_2 (zhl I1 q1 q2 q3 q4 q)
noncomputable def zwU(wi:TI)(g:TG)(tb:TS):TS:=fun D σ H=>wi σ H fun J H1=>∃W:Nat->Nat->St->Hp->Prop,(∃m,W 0 m σ H1)/\∀i m σ H,W i m σ H →
 (J.stop i H/\D.nx σ H)\/(J.go i H/\∃N:St->Hp->Prop,(∀σ' H',N σ' H'->∃m',m'<m/\W (i+1) m' σ' H')/\∀x H',J.yld i H x H'->g x σ H' fun σ2 H2=>tb { D with nx:=N,ct:=N,bk:=D.nx } σ2 H2)
noncomputable def zfS(fp:List Addr)(h:Heap):List (Addr×Obj):=fp.filterMap fun b=>(h.get? b).map fun o=>(b,o)
def zci{fp:List Addr}{h:Heap}{b:Addr}{o:Obj}(hb:b∈fp)(e:h.get? b=some o):(b,o)∈zfS fp h:=yb2.mpr ⟨b,hb,by rw [e];rfl⟩
def zjq{fp:List Addr}{h:Heap}{p:Addr×Obj}(hp:p∈zfS fp h):p.1∈fp/\h.get? p.1=some p.2:=by
 obtain ⟨b,hb,e⟩:=yb2.mp hp
 cases q:h.get? b with
 | none=>rw [q] at e;cases e
 | some o =>
  rw [q] at e;have e':(b,o)=p:=Option.some.inj e;subst e';exact ⟨hb,q⟩
def Inv.pinned{pins:Z3}{σ:St}{H:Hp}{s:Shared}{fp:List Addr}(I:Inv X pins σ H s)(hf:∀b∈fp,zkC X pins H b)(ho:∀b∈fp,∃o,s.heap.get? b=some o/\∀v,o.data≠.cell v):Inv X (pins++zfS fp s.heap) σ H s :=
 I.pins_of fun p hp=>(ybi.mp hp).elim (fun z=>I.pin p (yav _ z)) fun z=>by
  obtain ⟨hb,e⟩:=zjq z;obtain ⟨f0,f1,f2,_⟩:=hf p.1 hb;obtain ⟨o,e',d⟩:=ho p.1 hb;rw [e] at e';cases e';exact ⟨e,f0,f1,f2,d⟩
def Inv.unpinned{pins pl:Z3}{σ:St}{H:Hp}{s:Shared}(I:Inv X (pins++pl) σ H s):Inv X pins σ H s:=I.pins_of fun p hp=>I.pin p (yav _ (yaN _ hp))
def zqk{iter:Expr}{body:List Stmt}{wi:TI}{g:TG}{tb:TS}{pos:Pos}(hp:PassesOwn (model X.prog X.w) X.A X.env X.xe)(hc:X.calm=true)(hi:PI X tg iter wi)(hg:PG X tg g)(hb:PSs X body tb)
  (hs:∀x,foldedSetIterable iter X.env x=pure x:=by intro _;rfl):PS X (.For tg iter body [] pos) (zwU wi g tb):=by
 intro pins s σ H D I h;refine wpAny_For (thn (hi pins s σ H _ I h) fun v s1 h1=>thn h1 fun itv s2 h2=>?_) hs;obtain ⟨it,fp,tn,J,H2,e,I2,T,st2,f2,W,⟨m0,w0⟩,turn⟩:=h2;subst e;have stat:∀{H':Hp},(∀b∈fp,H' b=none)->∀b∈fp,zkC X pins H' b:=fun hn b hb=>⟨hn b hb,(f2 b hb).2⟩
 refine codeAny_forLoop_any (fun n s'=>∃i σ' H',Inv X pins σ' H' s'/\tn i s'.heap/\(∀b∈fp,H' b=none)/\W i n σ' H') ?_ m0 ⟨0,σ,H2,I2,st2,fun b hb=>(f2 b hb).1,w0⟩;rintro n s3 ⟨i,σ3,H3,I3,st3,fr3,w3⟩
 rcases turn i n σ3 H3 w3 with ⟨stop,qn⟩ | ⟨go,N,hN,step⟩
 ·refine ybC hp (thn (T.done X rfl rfl rfl hc i pins s3 σ3 H3 X.xe I3 (stat fr3) st3 stop) fun r s4 ⟨hr,I4⟩=>?_);subst hr;exact yb1 ⟨σ3,H3,I4,qn⟩
 ·refine ybC hp (thn (T.item X rfl rfl rfl hc i pins s3 σ3 H3 X.xe I3 (stat fr3) st3 go) fun r s4 ⟨u,hr,h4⟩=>?_);subst hr;refine ybC hp (thn h4 fun _ s5 ⟨x,H5,I5,r5,y5,st5,fr5⟩=>?_);have I5':=I5.pinned (stat fr5) (T.obj _ _ st5);refine ybC hp (thn (hg _ s5 σ3 H5 x u _ I5' r5 (step x H5 y5)) fun _ s6 ⟨σ6,H6,I6,q6⟩=>?_);refine ybC hp (thn (hb _ s6 σ6 H6 _ I6 q6) fun f s7 q7=>?_)
  have again:∀{σ7:St} {H7:Hp},Inv X (pins++zfS fp s5.heap) σ7 H7 s7->N σ7 H7->∃m,m<n/\∃i σ' H',Inv X pins σ' H' s7/\tn i s7.heap/\(∀b∈fp,H' b=none)/\W i m σ' H':=fun {σ7 H7} I7 n7=>by
   obtain ⟨m',hm,w7⟩:=hN σ7 H7 n7;refine ⟨m',hm,i+1,σ7,H7,I7.unpinned,T.keep _ _ _ st5 fun b hb o e=>(I7.pin (b,o) (yav _ (yav _ (zci hb e)))).1,fun b hb=>?_,w7⟩;obtain ⟨o,e,d⟩:=T.obj _ _ st5 b hb;exact (I7.pin (b,o) (yav _ (yav _ (zci hb e)))).2.1
  cases f with
  | next=>obtain ⟨σ7,H7,I7,n7⟩:=q7;exact again I7 n7
  | cont=>obtain ⟨σ7,H7,I7,n7⟩:=q7;exact again I7 n7
  | brk=>obtain ⟨σ7,H7,I7,q7⟩:=q7;exact ⟨σ7,H7,I7.unpinned,q7⟩
  | ret v=>obtain ⟨x7,σ7,H7,I7,r7,q7⟩:=q7;exact ⟨x7,σ7,H7,I7.unpinned,r7,q7⟩
end
end L2
namespace L2
open PySem PySem.Spec PyProof.Rows
noncomputable abbrev R2:=V->V->Hp->VK->Prop
noncomputable def OpR(X:Cx)(f:Value->Value->Sem Value)(r:R2):Prop :=
 ∀(pins:Z3) (s:Shared) (σ:St) (H:Hp) (x y:V) (v u:Value) (Q:VK),Inv X pins σ H s->zaV x v->zaV y u->r x y H Q →
  wpAny (model X.prog X.w) X.A (f v u) (EP X pins σ Q) X.xe s
noncomputable def UnR(X:Cx)(f:Value->Sem Value)(r:V->Hp->VK->Prop):Prop :=
 ∀(pins:Z3) (s:Shared) (σ:St) (H:Hp) (x:V) (v:Value) (Q:VK),Inv X pins σ H s->zaV x v->r x H Q →
  wpAny (model X.prog X.w) X.A (f v) (EP X pins σ Q) X.xe s
noncomputable def zdk(X:Cx)(f:Value)(r:List V->Hp->VK->Prop):Prop :=
 ∀(pins:Z3) (s:Shared) (σ:St) (H:Hp) (xs:List V) (us:List Value) (Q:VK),Inv X pins σ H s->Vals xs us->r xs H Q →
  wpAny (model X.prog X.w) X.A (call f us) (EP X pins σ Q) X.xe s
noncomputable def tOp(r:R2)(ta tb:TE):TE:=fun σ H Q=>ta σ H fun x H1=>tb σ H1 fun y H2=>r x y H2 Q
noncomputable def tUn(r:V->Hp->VK->Prop)(ta:TE):TE:=fun σ H Q=>ta σ H fun x H1=>r x H1 Q
noncomputable def rI(C:Int->Int->Prop)(g:Int->Int->V):R2:=fun x y H Q=>∃i j,x=.int i/\y=.int j/\C i j/\Q (g i j) H
noncomputable def rI0(g:Int->Int->V):R2:=fun x y H Q=>∃i j,x=.int i/\y=.int j/\Q (g i j) H
noncomputable def rU(g:Int->V):V->Hp->VK->Prop:=fun x H Q=>∃i,x=.int i/\Q (g i) H
section
variable{X:Cx}{a b c:Expr}{ta tb tc:TE}{pos:Pos}
def ztW(ha:PE X a ta)(hb:PE X b tb){pins:Z3}{s:Shared}{σ:St}{H:Hp}{R:V->V->Hp->Prop}(I:Inv X pins σ H s)
  (h:ta σ H fun x H1=>tb σ H1 fun y H2=>R x y H2) {Q:Z5} {f:Value->Value->Sem Value}
  (hf:∀v u s2 x y H2,Inv X pins σ H2 s2->zaV x v->zaV y u->R x y H2->wpAny (model X.prog X.w) X.A (f v u) Q X.xe s2) :
  wpAny (model X.prog X.w) X.A (eval a X.env) (fun v s₁=>wpAny (model X.prog X.w) X.A (eval b X.env) (fun u s₂=>wpAny (model X.prog X.w) X.A (f v u) Q X.xe s₂) X.xe s₁) X.xe s:=by
 refine thn (ha pins s σ H _ I h) fun v s1 ⟨x,H1,I1,r1,q1⟩=>?_
 refine thn (hb pins s1 σ H1 _ I1 q1) fun u s2 ⟨y,H2,I2,r2,q2⟩=>?_
 exact hf v u s2 x y H2 I2 r1 r2 q2
def zqq{op:Operator}{r:R2}(ho:OpR X (binaryOp op) r)(ha:PE X a ta)(hb:PE X b tb):PE X (.BinOp a op b pos) (tOp r ta tb):=by
 intro pins s σ H Q I h;exact wpAny_BinOp (ztW ha hb I h fun v u s2 x y H2 I2 rx ry q=>ho pins s2 σ H2 x y v u Q I2 rx ry q)
def zs7{op:UnaryOp}{r:V->Hp->VK->Prop}(ho:UnR X (unaryOp op) r)(ha:PE X a ta):PE X (.UnaryOp op a pos) (tUn r ta):=by
 intro pins s σ H Q I h;exact UnaryOp_ (thn (ha pins s σ H _ I h) fun v s1 ⟨x,H1,I1,r1,q1⟩=>ho pins s1 σ H1 x v Q I1 r1 q1)
def opI{f:Value->Value->Sem Value}{C:Int->Int->Prop}{g:Int->Int->Int}
  (rule:∀(i j:Int) (t u:Tok) (s:Shared) (Q:Z5) (E:Z5),C i j->Q (.int (g i j) s.toks) { s with toks:=s.toks+1 }->wpAny (model X.prog X.w) X.A (f (.int i t) (.int j u)) Q E s) :
  OpR X f (rI C fun i j=>.int (g i j)):=by
 intro pins s σ H x y v u Q I rx ry h;obtain ⟨i,j,rfl,rfl,hc,q⟩:=h;obtain ⟨t,rfl⟩:=rx;obtain ⟨t',rfl⟩:=ry;exact rule i j t t' s _ _ hc ⟨.int (g i j),H,I.tok _,⟨_,rfl⟩,q⟩
def zu5{f:Value->Value->Sem Value}{g:Int->Int->Int}
  (rule:∀(i j:Int) (t u:Tok) (s:Shared) (Q:Z5) (E:Z5),Q (.int (g i j) s.toks) { s with toks:=s.toks+1 }->wpAny (model X.prog X.w) X.A (f (.int i t) (.int j u)) Q E s) :
  OpR X f (rI0 fun i j=>.int (g i j)):=by
 intro pins s σ H x y v u Q I rx ry h;obtain ⟨i,j,rfl,rfl,q⟩:=h;obtain ⟨t,rfl⟩:=rx;obtain ⟨t',rfl⟩:=ry;exact rule i j t t' s _ _ ⟨.int (g i j),H,I.tok _,⟨_,rfl⟩,q⟩
def zrZ{f:Value->Value->Sem Value}{g:Int->Int->Bool}
  (rule:∀(i j:Int) (t u:Tok) (s:Shared) (Q:Z5) (E:Z5),Q (.bool (g i j)) s->wpAny (model X.prog X.w) X.A (f (.int i t) (.int j u)) Q E s) :
  OpR X f (rI0 fun i j=>.bl (g i j)):=by
 intro pins s σ H x y v u Q I rx ry h;obtain ⟨i,j,rfl,rfl,q⟩:=h;obtain ⟨t,rfl⟩:=rx;obtain ⟨t',rfl⟩:=ry;exact rule i j t t' s _ _ ⟨.bl (g i j),H,I,rfl,q⟩
noncomputable def zxY(i j:Int):Prop:=0<j/\j<1073741824
noncomputable def zuc(i j:Int):Prop:=(-(2 ^ 64)<i/\i<2 ^ 64)\/(-(2 ^ 64)<j/\j<2 ^ 64)
def zuc.ok{i j:Int}(h:zuc i j):IntMulOk i j:=by
 rcases h with ⟨h1,h2⟩ | ⟨h1,h2⟩
 ·exact .of_left (intBits_le_64 h1 h2)
 ·exact .of_right (intBits_le_64 h1 h2)
def zqE:OpR X (binaryOp .Add) (rI0 fun i j=>.int (i+j)):=zu5 fun _ _ _ _ _ _ _ q=>add_int q
def zqz:OpR X (binaryOp .Sub) (rI0 fun i j=>.int (i-j)):=zu5 fun _ _ _ _ _ _ _ q=>sub_int q
def zqA:OpR X (binaryOp .Mult) (rI zuc fun i j=>.int (i*j)):=opI fun _ _ _ _ _ _ _ hc q=>mul_int q hc.ok
def zn4:OpR X (binaryOp .FloorDiv) (rI zxY fun i j=>.int (i / j)):=opI fun i j _ _ _ _ _ hc q=>by
 have h1:(0:Int)<j:=hc.1;have h2:j<1073741824:=hc.2;exact floordiv_int (by omega) (by rw [Int.fdiv_eq_ediv_of_nonneg i (by omega)];exact q) (.inl (PyProof.noPylong_small (by omega)))
def zqB:OpR X (binaryOp .Mod) (rI (fun _ j=>0<j) fun i j=>.int (i % j)):=opI fun i j _ _ _ _ _ hc q=>by
 have h1:(0:Int)<j:=hc;exact mod_int' (by omega) (by rw [Int.fmod_eq_emod_of_nonneg i (by omega)];exact q)
def unI{f:Value->Sem Value}{g:Int->Int}
  (rule:∀(i:Int) (t:Tok) (s:Shared) (Q:Z5) (E:Z5),Q (.int (g i) s.toks) { s with toks:=s.toks+1 }->wpAny (model X.prog X.w) X.A (f (.int i t)) Q E s) :
  UnR X f (rU fun i=>.int (g i)):=by
 intro pins s σ H x v Q I rx h;obtain ⟨i,rfl,q⟩:=h;obtain ⟨t,rfl⟩:=rx;exact rule i t s _ _ ⟨.int (g i),H,I.tok _,⟨_,rfl⟩,q⟩
def zpg:UnR X (unaryOp .USub) (rU fun i=>.int (-i)):=unI fun _ _ _ _ _ q=>neg_int q
end
section
variable{X:Cx}{a b c:Expr}{ta tb tc:TE}{pos:Pos}
def zmR{pins:Z3}{σ:St}{H:Hp}{s:Shared}{Q:VK}{k k':Bool}(I:Inv X pins σ H s)(q:Q (.bl k) H)(e:k=k'):EP X pins σ Q (.bool k') s:=by
 subst e;exact ⟨.bl k,H,I,rfl,q⟩
def zta:OpR X (compareOp .Lt) (rI0 fun i j=>.bl (decide (i<j))):=zrZ fun _ _ _ _ _ _ _ q=>lt_int q
def ztb:OpR X (compareOp .LtE) (rI0 fun i j=>.bl (decide (i<=j))):=zrZ fun _ _ _ _ _ _ _ q=>le_int q
def ztc:OpR X (compareOp .Gt) (rI0 fun i j=>.bl (decide (j<i))):=zrZ fun _ _ _ _ _ _ _ q=>gt_int q
def ztd:OpR X (compareOp .GtE) (rI0 fun i j=>.bl (decide (j<=i))):=zrZ fun _ _ _ _ _ _ _ q=>ge_int q
def zqC:OpR X (compareOp .Is) (fun x y H Q=>y=.non/\Q (.bl (decide (x=.non))) H):=by
 intro pins s σ H x y v u Q I rx ry h;obtain ⟨rfl,q⟩:=h;cases ry;refine is_none_gen (zmR I q ?_)
 cases x<;>first
  | (cases rx;rfl)
  | (obtain ⟨t,rfl⟩:=rx;rfl)
def zn3:OpR X (compareOp .IsNot) (fun x y H Q=>y=.non/\Q (.bl (!decide (x=.non))) H):=by
 intro pins s σ H x y v u Q I rx ry h;obtain ⟨rfl,q⟩:=h;cases ry;refine isnot_none_gen (zmR I q ?_)
 cases x<;>first
  | (cases rx;rfl)
  | (obtain ⟨t,rfl⟩:=rx;rfl)
def zgD{op:CmpOp}{r:R2}(ho:OpR X (compareOp op) r)(ha:PE X a ta)(hb:PE X b tb)(hm:behindInMarks op b=false):PE X (.Compare a [op] [b] pos) (tOp r ta tb):=by
 intro pins s σ H Q I h;exact wpAny_Compare1 (ztW ha hb I h fun v u s2 x y H2 I2 rx ry q=>ho pins s2 σ H2 x y v u Q I2 rx ry q) hm
noncomputable def zm9(t:TE):TT:=fun σ H Q=>t σ H fun x H'=>∃k,x=.bl k/\Q k H'
def zgz{op:CmpOp}{r:R2}(ho:OpR X (compareOp op) r)(ha:PE X a ta)(hb:PE X b tb)(hm:behindInMarks op b=false):PT X (.Compare a [op] [b] pos) (zm9 (tOp r ta tb)):=by
 intro pins s σ H Q I h
 refine wpAny_isTrue_Compare1 (thn (ha pins s σ H _ I h) fun v s1 ⟨x,H1,I1,r1,q1⟩=>thn (hb pins s1 σ H1 _ I1 q1) fun u s2 ⟨y,H2,I2,r2,q2⟩ =>
  thn (ho pins s2 σ H2 x y v u _ I2 r1 r2 q2) fun c s3 ⟨z,H3,I3,r3,k,e,q3⟩=>?_) hm
 subst e;cases r3;exact ya5 ⟨H3,I3,q3⟩
noncomputable def ziB(r r':R2)(ta tb tc:TE):TE:=fun σ H Q=>ta σ H fun x H1=>tb σ H1 fun y H2=>r x y H2 fun z H3=>∃k,z=.bl k ∧
 (if k=true then tc σ H3 fun w' H4=>r' y w' H4 Q else Q (.bl false) H3)
def zlj{op op':CmpOp}{r r':R2}(ho:OpR X (compareOp op) r)(ho':OpR X (compareOp op') r')(ha:PE X a ta)(hb:PE X b tb)(hc:PE X c tc)
  (hm:lastMarks [op,op'] [b,c]=false:=by with_unfolding_all rfl):PE X (.Compare a [op,op'] [b,c] pos) (ziB r r' ta tb tc):=by
 intro pins s σ H Q I h
 refine Compare_chain (thn (ha pins s σ H _ I h) fun v s1 ⟨x,H1,I1,r1,q1⟩=>chain_link (thn (hb pins s1 σ H1 _ I1 q1) fun u s2 ⟨y,H2,I2,r2,q2⟩ =>
  thn (ho pins s2 σ H2 x y v u _ I2 r1 r2 q2) fun d s3 ⟨z,H3,I3,r3,k,e,q3⟩=>?_)) hm
 subst e;cases r3;refine ya5 ?_
 cases k with
 | false=>exact ite_ff ⟨.bl false,H3,I3,rfl,q3⟩
 | true=>exact ite_tt (chain_last (thn (hc pins s3 σ H3 _ I3 q3) fun w' s4 ⟨z',H4,I4,r4,q4⟩=>ho' pins s4 σ H4 y z' u w' Q I4 r2 r4 q4))
def zk4{op op':CmpOp}{r r':R2}(ho:OpR X (compareOp op) r)(ho':OpR X (compareOp op') r')(ha:PE X a ta)(hb:PE X b tb)(hc:PE X c tc)
  (hm:lastMarks [op,op'] [b,c]=false:=by with_unfolding_all rfl):PT X (.Compare a [op,op'] [b,c] pos) (zm9 (ziB r r' ta tb tc)):=by
 intro pins s σ H Q I h
 refine isTrue_chain (thn (ha pins s σ H _ I h) fun v s1 ⟨x,H1,I1,r1,q1⟩=>test_link (thn (hb pins s1 σ H1 _ I1 q1) fun u s2 ⟨y,H2,I2,r2,q2⟩ =>
  thn (ho pins s2 σ H2 x y v u _ I2 r1 r2 q2) fun d s3 ⟨z,H3,I3,r3,k,e,q3⟩=>?_)) hm
 subst e;cases r3;refine ya5 ?_
 cases k with
 | false =>
  obtain ⟨k',e',q'⟩:=q3;cases e';exact ite_ff ⟨H3,I3,q'⟩
 | true =>
  refine ite_tt (test_last (thn (hc pins s3 σ H3 _ I3 q3) fun w' s4 ⟨z',H4,I4,r4,q4⟩=>thn (ho' pins s4 σ H4 y z' u w' _ I4 r2 r4 q4) fun d' s5 ⟨z2,H5,I5,r5,k2,e2,q5⟩=>?_));subst e2;cases r5;exact ya5 ⟨H5,I5,q5⟩
def zf1:(sizeLine:Nat)<2 ^ 63:=by rw [ybm];decide
def zh2:OpR X (binaryOp .Add) (fun x y H Q=>∃i j,x=.str i/\y=.str j/\i.length+j.length<=sizeLine/\Q (.str (i++j)) H):=by
 intro pins s σ H x y v u Q I rx ry h;obtain ⟨i,j,rfl,rfl,hz,q⟩:=h;obtain ⟨t,rfl⟩:=rx;obtain ⟨t',rfl⟩:=ry;exact add_str (fun t' tk=>⟨.str (i++j),H,I.tok _,⟨_,rfl⟩,q⟩) hz
def zgo{x:V}{us:List Value}(r:Vals [x] us):∃u,us=[u]/\zaV x u:=by
 cases r with
 | cons r1 r2=>cases r2;exact ⟨_,rfl,r1⟩
def zmb:zdk X (.builtin "abs") (fun xs H Q=>∃i,xs=[.int i]/\Q (.int (if i<0 then -i else i)) H):=by
 intro pins s σ H xs us Q I r h;obtain ⟨i,rfl,q⟩:=h;obtain ⟨u,rfl,t,rfl⟩:=zgo r;exact call_abs_int fun u tk=>⟨.int (if i<0 then -i else i),H,I.tok _,⟨_,rfl⟩,q⟩
end
end L2
namespace L2
open PySem PySem.Spec PyProof.Rows
structure ObjM(h:Heap)(x dx C:Addr)(mA:Z6):Prop where
 obj:h.get? x=some (PySem.W.instObj C dx)
 ns:h.Ns1 dx mA
 ne:dx≠x
def zjB{h:Heap}{dx:Addr}{mA:Z6}(n:h.Ns1 dx mA):∃od,h.get? dx=some od/\∀name,PySem.W.lookIn name od=some (mA name):=by
 obtain ⟨o,es,ep,ho,hd,hk,_,hm⟩:=n;refine ⟨o,ho,fun name=>?_⟩;have e:=hm name;unfold nsFind findBy at e;rw [<-Array.find?_toList] at e;unfold PySem.W.lookIn;rw [hd];dsimp only;split
 ·rename_i y q;rw [q] at e;exact congrArg some e
 ·rename_i q;rw [q] at e
  have a:es.toList.any (·.refKey)=false:=by
   rw [List.any_eq_false];intro y hy;obtain ⟨z,t,hkey⟩:=hk y (Array.mem_toList_iff.mp hy);simp [DictEntry.refKey,hkey]
  have a':¬ es.toList.any (·.refKey)=true:=by rw [a];exact yaH
  rw [if_neg a'];exact congrArg some e
def ObjM.look{h:Heap}{x dx C:Addr}{mA:Z6}(I:ObjM h x dx C mA):∃od,PySem.W.InstAt h x (PySem.W.instObj C dx) C (some od)/\∀name,PySem.W.lookIn name od=some (mA name) :=
 let ⟨od,ho,hl⟩:=zjB I.ns
 ⟨od,⟨I.obj,rfl,rfl,ho⟩,hl⟩
section
variable{prog:Program}{w:World}{A:Around}{E:Z5}{s:Shared}{K:PySem.W.Frag}{x dx C f:Addr}{mA:Z6}{name:Str}{v:Value}
def zoC{expr:Bool}{Q:Z5}(X:K.In s.heap)(I:ObjM s.heap x dx C mA)(hg:PySem.W.plainGet K C name=true)(hh:PySem.W.hasDictIn K C=true)
  (ha:PySem.W.findIn K (.ref C) name=some none) (hv:mA name=some v) (hv':PySem.W.handedIn v=true) (h:Q v { s with toks:=s.toks+1 }) :
  wpAny (model prog w) A (getAttr (.ref x) name expr) Q E s:=by
 obtain ⟨od,J,hl⟩:=I.look;exact PySem.W.get_value X J (ycp hg).1 (PySem.W.findObj_own hh ha rfl (by rw [hl,hv])) hv' h
def zlU{pl:Sem Bool}{Q:Value×List Value->Shared->Prop}(X:K.In s.heap)(I:ObjM s.heap x dx C mA)(hg:PySem.W.plainGet K C name=true)
  (hf:PySem.W.findIn K (.ref C) name=some (some (.ref f))) (ht:PySem.W.isFn K (.ref f)=true) (hv:mA name=none) (h:Q (.ref f,[.ref x]) s) :
  wpAny (model prog w) A (getMethod (.ref x) name pl) Q E s:=by
 obtain ⟨od,J,hl⟩:=I.look;exact PySem.W.method_fn X J (ycp hg).1 (ycp hg).2 hf (ybR.mp ht) (by show (PySem.W.lookIn name od).map (·.isSome)=some false;rw [hl,hv];rfl) h
def znv{ns:List Str}{Q:Unit->Shared->Prop}(X:K.In s.heap)(I:ObjM s.heap x dx C mA)
  (hs:PySem.W.findIn K (.ref C) "__setattr__" = some (some (.builtin "object.__setattr__"))) (hp:PySem.W.plainOver K C=true) (ht:PySem.W.takerIn K C name=some none) (hh:PySem.W.hasDictIn K C=true)
  (hw:PySem.Within mA ns) (hsz:ns.length<=sizeLine)
  (h:∀h',ObjM h' x dx C (fun y=>if y=name then some v else mA y)->Heap.SameBut dx s.heap h'->Q () { s with heap:=h',toks:=s.toks+2 }) :
  wpAny (model prog w) A (setAttr (.ref x) name v) Q E s:=by
 obtain ⟨od,J,hl⟩:=I.look;refine PySem.W.set_plain X J hs (PySem.W.osa_open (s:={ s with toks:=s.toks+1 }) (r:=none) X J hp ht fun b=>?_);obtain ⟨cd,hc,hd'⟩:=PySem.W.any_some hh;have hx:s.heap.get? x=some ⟨.ref C,some dx,.plain,#[]⟩:=I.obj;refine yaa (yac (yaa (yaa (wpAny_loadPart hx (yaa (PySem.W.Looks.here (s:={ s with toks:=s.toks+1 }) (PySem.W.looks_clsIn X hc) ?_))))));rw [hd'];refine yac (a:=some dx) (yaa (yac (yaa ?_)));refine wpAny_nsSet1 (s:={ s with toks:=s.toks+1 }) I.ns fun h' hn2 hs2=>?_
 obtain ⟨oD,esD,epD,hoD,hdD,hcD⟩:=hn2.count (PySem.Within.cons name v hw);refine yaa (wpAny_lookBehind hoD (by rw [hdD];exact pastItsLine_dict (yar hcD (by rw [yag];omega))) ?_);exact yac (h _ ⟨(hs2.2 _ (Ne.symm I.ne)).trans I.obj,hn2,I.ne⟩ hs2)
def zlE{R:Result->Shared->Prop}{vs:List Value}{kw:List (Str×Value)}(X:K.In s.heap)(hm:PySem.W.makesIn K C=true)
  (hi:PySem.W.findIn K (.ref C) "__init__" = some (some (.ref f))) (hf:PySem.W.typeIn K (.ref f)=some (.type "function"))
  (h:codeAny (model prog w) (A.under (.builtin "type.__call__" ⟨.ref C::vs,kw⟩)) (.call (.ref f) ⟨.ref (s.heap.objs.size+1)::vs,kw⟩) (PySem.W.InitBack (s.heap.objs.size+1) R)
   { s with heap:=(s.heap.push PySem.W.emptyDict).push (PySem.W.instObj C s.heap.objs.size) }) :
  codeAny (model prog w) A (.call (.ref C) ⟨vs,kw⟩) R s:=by
 obtain ⟨hh,g,d,t,os⟩:=s;exact PySem.W.make_core (PySem.W.makes_of X hm) (PySem.W.looks_findIn X hi) (fun self=>PySem.W.bind_fn X self hf) (.inl rfl) h
end
noncomputable def zcx(f:Str)(v:V):List (Str×V)->List (Str×V)
 | []=>[(f,v)]
 | (g,x)::r=>if g=f then (g,v)::r else (g,x)::zcx f v r
theorem zdV(f g:Str)(v:V):∀fs:List (Str×V),(zcx f v fs).lookup g=if g=f then some v else fs.lookup g
 | []=>by
  show List.lookup g [(f,v)]=_
  by_cases h:g=f
  ·have hb:(g == f)=true:=ybR.mpr h;simp only [List.lookup,hb,if_pos h]
  ·have hb:(g == f)=false:=yaY.mpr h;simp only [List.lookup,hb,if_neg h]
 | (k,x)::r=>by
  have ih:=zdV f g v r;rw [show zcx f v ((k,x)::r)=(if k=f then (k,v)::r else (k,x)::zcx f v r) from rfl]
  by_cases hk:k=f
  ·rw [if_pos hk]
   by_cases h:g=k
   ·have hb:(g == k)=true:=ybR.mpr h;simp only [List.lookup,hb,if_pos (h.trans hk)]
   ·have hb:(g == k)=false:=yaY.mpr h;simp only [List.lookup,hb,if_neg (fun e:g=f=>h (e.trans hk.symm))]
  ·rw [if_neg hk]
   by_cases h:g=k
   ·have hb:(g == k)=true:=ybR.mpr h;simp only [List.lookup,hb,if_neg (fun e:g=f=>hk (h.symm.trans e))]
   ·have hb:(g == k)=false:=yaY.mpr h;simp only [List.lookup,hb];exact ih
theorem zdX(f:Str)(v:V):∀fs:List (Str×V),f∈(zcx f v fs).map (·.1)/\∀g,g∈fs.map (·.1)->g∈(zcx f v fs).map (·.1)
 | []=>⟨by simp [zcx],fun g h=>by simp at h⟩
 | (k,x)::r=>by
  obtain ⟨i1,i2⟩:=zdX f v r;rw [show zcx f v ((k,x)::r)=(if k=f then (k,v)::r else (k,x)::zcx f v r) from rfl]
  by_cases hk:k=f
  ·rw [if_pos hk];subst hk;exact ⟨by simp,fun g h=>by simpa using h⟩
  ·rw [if_neg hk];refine ⟨?_,fun g h=>?_⟩
   ·rw [yat];exact yaA _ i1
   ·rw [yat] at h ⊢
    rcases yas.mp h with e | e
    ·exact yas.mpr (.inl e)
    ·exact yaA _ (i2 g e)
theorem zdW(f:Str)(v:V):∀fs:List (Str×V),(zcx f v fs).length<=fs.length+1
 | []=>by simp [zcx]
 | (k,x)::r=>by
  have ih:=zdW f v r;rw [show zcx f v ((k,x)::r)=(if k=f then (k,v)::r else (k,x)::zcx f v r) from rfl]
  by_cases hk:k=f
  ·rw [if_pos hk,yag,yag];omega
  ·rw [if_neg hk,yag,yag];omega
def zkz.some_of{v:V}{o:Option Value}(r:zkz (some v) o):∃u,o=some u/\zaV v u:=by
 cases o with
 | none=>exact (show False from r).elim
 | some u=>exact ⟨u,rfl,r⟩
def zkz.none_of{o:Option Value}(r:zkz none o):o=none:=by
 cases o with
 | none=>rfl
 | some u=>exact (show False from r).elim
def zjW{v:V}{u:Value}(r:zaV v u):PySem.W.handedIn u=true:=by
 cases v with
 | non=>cases (show u=Value.none from r);rfl
 | bl b=>cases (show u=Value.bool b from r);rfl
 | int i=>obtain ⟨t,e⟩:=(show ∃t,u=Value.int i t from r);cases e;rfl
 | str x=>obtain ⟨t,e⟩:=(show ∃t,u=Value.str x t from r);cases e;rfl
 | byt b=>obtain ⟨t,e⟩:=(show ∃t,u=Value.bytes b t from r);cases e;rfl
 | flt b=>obtain ⟨t,e⟩:=(show ∃t,u=Value.float b t from r);cases e;rfl
 | ref a=>cases (show u=Value.ref a from r);rfl
 | ty n=>cases (show u=Value.type n from r);rfl
section
variable{P:Program}{w:World}{H H':Hp}{h h':Heap}{a C dx:Addr}{fs fs':List (Str×V)}
def zff(hok:HOk P w H h)(e:H a=some (.ins C dx fs)):∃mA,ObjM h a dx C mA/\(∀f,zkz (fs.lookup f) (mA f))/\PySem.Within mA (fs.map (·.1))/\fs.length<=1000/\H dx=some (.own a):=by
 obtain ⟨d,z,ne,ob,mA,n,r,q⟩:=(show zbj P w H h a (.ins C dx fs) from hok a _ e);exact ⟨mA,⟨ob,n,ne⟩,r,q,z,d⟩
end
structure Cls(K:PySem.W.Frag)(C:Addr):Prop where
 pg:PySem.W.plainGet K C Str.empty=true
 hd:PySem.W.hasDictIn K C=true
 po:PySem.W.plainOver K C=true
 sa:PySem.W.findIn K (.ref C) "__setattr__" = some (some (.builtin "object.__setattr__"))
def Cls.get{K:PySem.W.Frag}{C:Addr}(c:Cls K C)(f:Str):PySem.W.plainGet K C f=true:=c.pg
noncomputable def zct(K:PySem.W.Frag)(C:Addr)(f:Str):Prop:=PySem.W.findIn K (.ref C) f=some none
def zct.taker{K:PySem.W.Frag}{C:Addr}{f:Str}(n:zct K C f):PySem.W.takerIn K C f=some none:=by
 unfold PySem.W.takerIn;rw [show PySem.W.findIn K (.ref C) f=some none from n];rfl
structure Meth(K:PySem.W.Frag)(C:Addr)(m:Str)(f:Addr):Prop where
 at_:PySem.W.findIn K (.ref C) m=some (some (.ref f))
 fn:PySem.W.isFn K (.ref f)=true
 kp:PySem.W.keepIn K (.ref f)=true
section
variable{X:Cx}{pins:Z3}{σ:St}{H:Hp}{s:Shared}{a C dx:Addr}{fs:List (Str×V)}{f:Str}{v:V}{A:Around}{E:Z5}
def zic{b:Bool}{Q:Z5}(I:Inv X pins σ H s)(e:H a=some (.ins C dx fs))(c:Cls X.K C)(n:zct X.K C f)(l:fs.lookup f=some v)
  (h:∀u s',Inv X pins σ H s'->zaV v u->Q u s'):wpAny (model X.prog X.w) A (getAttr (.ref a) f b) Q E s:=by
 obtain ⟨mA,O,r,_,_,_⟩:=zff I.hok e;obtain ⟨u,hu,ru⟩:=zkz.some_of (v:=v) (o:=mA f) (by rw [<-l];exact r f);exact zoC I.kIn O (c.get f) c.hd n hu (zjW ru) (h u _ (I.tok _) ru)
def zex{m:Str}{g:Addr}{pl:Sem Bool}{Q:Value×List Value->Shared->Prop}(I:Inv X pins σ H s)(e:H a=some (.ins C dx fs))(c:Cls X.K C)(k:Meth X.K C m g)(l:fs.lookup m=none)
  (h:Q (.ref g,[.ref a]) s):wpAny (model X.prog X.w) A (getMethod (.ref a) m pl) Q E s:=by
 obtain ⟨mA,O,r,_,_,_⟩:=zff I.hok e;have hn:mA m=none:=zkz.none_of (by rw [<-l];exact r m);exact zlU I.kIn O (c.get m) k.at_ k.fn hn h
def zhV{y:V}{u:Value}{Q:Unit->Shared->Prop}(I:Inv X pins σ H s)(e:H a=some (.ins C dx fs))(c:Cls X.K C)(n:zct X.K C f)(hl:fs.length<1000)(ry:zaV y u)
  (h:∀s',Inv X pins σ (upd H a (.ins C dx (zcx f y fs))) s'->Q () s'):wpAny (model X.prog X.w) A (setAttr (.ref a) f u) Q E s:=by
 obtain ⟨mA,O,r,wi,_,ho⟩:=zff I.hok e
 have hz:(fs.map (·.1)).length<=sizeLine:=by rw [yad,ybm];omega
 refine znv I.kIn O c.sa c.po n.taker c.hd wi hz fun h' O' sb=>h _ ?_
 have hd:∃o,h'.get? dx=some o:=let ⟨o,_,_,e',_⟩:=O'.ns;⟨o,e'⟩
 refine I.write (x:=a) (e:=dx) (by rw [e];exact True.intro) (.inr ho) (fun b q hb z=>(sb.2 b hb).trans z) hd ?_;refine ⟨by rw [zaf O.ne];exact ho,?_,O.ne,O'.obj,_,O'.ns,fun g=>?_,fun g hg=>?_⟩
 ·have:=zdW f y fs;omega
 ·show zkz ((zcx f y fs).lookup g) (if g=f then some u else mA g);rw [zdV]
  by_cases q:g=f
  ·rw [if_pos q,if_pos q];exact ry
  ·rw [if_neg q,if_neg q];exact r g
 ·by_cases q:g=f
  ·rw [q];exact (zdX f y fs).1
  ·refine (zdX f y fs).2 g (wi g fun z=>hg ?_);show (if g=f then some u else mA g)=none;rw [if_neg q];exact z
def Inv.made(I:Inv X pins σ H s):Inv X pins σ (upd (upd H s.heap.objs.size (.own (s.heap.objs.size+1))) (s.heap.objs.size+1) (.ins C s.heap.objs.size []))
  { s with heap:=(s.heap.push PySem.W.emptyDict).push (PySem.W.instObj C s.heap.objs.size) }:=by
 have e1:(s.heap.push PySem.W.emptyDict).get? s.heap.objs.size=some PySem.W.emptyDict:=yao s.heap rfl
 have e2:((s.heap.push PySem.W.emptyDict).push (PySem.W.instObj C s.heap.objs.size)).get? (s.heap.objs.size+1)=some (PySem.W.instObj C s.heap.objs.size):=by
  have:=yao (s.heap.push PySem.W.emptyDict) (o:=PySem.W.instObj C s.heap.objs.size) rfl
  rwa [ybo] at this
 have e3:(s.heap.push PySem.W.emptyDict).Ns s.heap.objs.size (fun _=>none):=⟨PySem.W.emptyDict,#[],_,e1,rfl,(fun e he=>absurd he (by simp)),fun _=>rfl⟩;have I1:=I.laid (a:=s.heap.objs.size) (o:=.own (s.heap.objs.size+1)) (h':=s.heap.push PySem.W.emptyDict) (t':=s.toks) (fun b u q=>yae _ q) (yah _) ⟨_,e1⟩;refine I1.laid (a:=s.heap.objs.size+1) (o:=.ins C s.heap.objs.size []) (t':=s.toks) (fun b u q=>yae _ q) (Nat.le_of_eq (ybo _ _)) ?_;have ne:s.heap.objs.size≠s.heap.objs.size+1:=yay (ycj _);refine ⟨by rw [zaf ne,zay],yaM _,ne,e2,fun _=>none,(Heap.Ns1.of_empty e3).at fun o q=>yae _ q,fun _=>True.intro,fun y hy=>absurd rfl hy⟩
def zoU{prog:Program}{w:World}{env:Env}{e:Expr}{f:Str}{pos:Pos}{s:Shared}{Q:Z5}(hb:attributeBase e f env (eval e env)=eval e env)
  (h:wpAny (model prog w) A (eval e env) (fun o s₁=>wpAny (model prog w) A (getAttr o f true) Q E s₁) E s):wpAny (model prog w) A (eval (.Attribute e f pos) env) Q E s :=
 Attribute_any_ h (by rw [arm_eval_Attribute,hb])
end
noncomputable def zuY(K:PySem.W.Frag)(ta:TE)(f:Str):TE:=fun σ H Q=>ta σ H fun x H1=>∃a C dx fs v,x=.ref a/\H1 a=some (.ins C dx fs)/\Cls K C/\zct K C f/\fs.lookup f=some v/\Q v H1
noncomputable def zwX(K:PySem.W.Frag)(ta tv:TE)(f:Str):TS:=fun D σ H=>tv σ H fun y H1=>ta σ H1 fun x H2=>∃a C dx fs,x=.ref a/\H2 a=some (.ins C dx fs)/\Cls K C/\zct K C f/\fs.length<1000 ∧
 D.nx σ (upd H2 a (.ins C dx (zcx f y fs)))
noncomputable def zwd(X:Cx)(op:Operator)(rd:V->V->Hp->VK->Prop):Prop :=
 ∀(pins:Z3) (s:Shared) (σ:St) (H:Hp) (x y:V) (u v:Value) (Q:VK),Inv X pins σ H s->zaV x u->zaV y v->rd x y H Q->wpAny (model X.prog X.w) X.A (inplaceOp op u v) (EP X pins σ Q) X.xe s
section
variable{X:Cx}{o e value:Expr}{f:Str}{pos pos' tpos:Pos}{ta tv:TE}
def zfT(he:PE X e ta)(hb:attributeBase e f X.env (eval e X.env)=eval e X.env):PE X (.Attribute e f pos) (zuY X.K ta f):=by
 intro pins s σ H Q I h;refine zoU hb (thn (he pins s σ H _ I h) fun u s1 ⟨x,H1,I1,rx,a,C,dx,fs,v,ex,ea,c,n,l,q⟩=>?_);subst ex;obtain rfl:u=Value.ref a:=rx;exact zic I1 ea c n l fun u' s2 I2 ru=>⟨v,H1,I2,ru,q⟩
def zmz(ha:PE X o ta)(hv:PE X value tv)(hs:swapsWith value (some (.Attribute o f pos')) pos.line X.env=pure false):PS X (.Assign [.Attribute o f pos'] value pos) (zwX X.K ta tv f):=by
 intro pins s σ H D I h;refine plainObj_wpAny_Assign_Attribute (thn (hv pins s σ H _ I h) fun u s1 ⟨y,H1,I1,ry,q⟩=>thn (ha pins s1 σ H1 _ I1 q) fun ov s2 ⟨x,H2,I2,rx,a,C,dx,fs,ex,ea,c,n,l,q2⟩=>?_) hs;subst ex;obtain rfl:ov=Value.ref a:=rx;exact zhV I2 ea c n l ry fun s3 I3=>⟨σ,_,I3,q2⟩
noncomputable def zu3:V->V->Hp->VK->Prop:=fun x y H Q=>∃i j,x=.int i/\y=.int j/\Q (.int (i+j)) H
noncomputable def zu2:V->V->Hp->VK->Prop:=fun x y H Q=>∃i j,x=.int i/\y=.int j/\Q (.int (i-j)) H
def zrk:zwd X .Add zu3:=by
 rintro pins s σ H x y u v Q I rx ry ⟨i,j,rfl,rfl,q⟩;obtain ⟨t,rfl⟩:=(show ∃t,u=Value.int i t from rx);obtain ⟨t',rfl⟩:=(show ∃t',v=Value.int j t' from ry);exact PyProof.Rows.iadd_int ⟨.int (i+j),H,I.tok _,⟨_,rfl⟩,q⟩
def zrj:zwd X .Sub zu2:=by
 rintro pins s σ H x y u v Q I rx ry ⟨i,j,rfl,rfl,q⟩;obtain ⟨t,rfl⟩:=(show ∃t,u=Value.int i t from rx);obtain ⟨t',rfl⟩:=(show ∃t',v=Value.int j t' from ry);exact PyProof.Rows.isub_int ⟨.int (i-j),H,I.tok _,⟨_,rfl⟩,q⟩
end
section
variable{X:Cx}{pins:Z3}{σ:St}{H:Hp}{s:Shared}{A:Around}{E:Z5}{Q:Z5}{c:Value}{b:Bool}
inductive TyOf(K:PySem.W.Frag)(H:Hp):V->Value->Prop where
 | non:TyOf K H .non (.type "NoneType")
 | bl (x:Bool):TyOf K H (.bl x) (.type "bool")
 | int (i:Int):TyOf K H (.int i) (.type "int")
 | str (x:Str):TyOf K H (.str x) (.type "str")
 | flt (x:UInt64):TyOf K H (.flt x) (.type "float")
 | lst {a:Addr} {xs:List V} (e:H a=some (.lst xs)):TyOf K H (.ref a) (.type "list")
 | frz {a:Addr} {o:Obj} {xs:List V} (e:H a=some (.frz o (.lst xs))):TyOf K H (.ref a) (.type "list")
 | tup {a:Addr} {xs:List V} (e:H a=some (.tup xs)):TyOf K H (.ref a) (.type "tuple")
 | dK {a:Addr} {kvs:List (Key×V)} (e:H a=some (.dK kvs)):TyOf K H (.ref a) (.type "dict")
 | dT {a:Addr} {kvs:List (List Key×V)} (e:H a=some (.dT kvs)):TyOf K H (.ref a) (.type "dict")
 | ins {a C dx:Addr} {fs:List (Str×V)} (e:H a=some (.ins C dx fs)) (cl:Cls K C) (ha:PySem.W.findIn K (.ref C) "__class__" = some (some (.builtin "object.__class__")))
   (hn:PySem.W.specialIn K (.builtin "object.__class__") "__get__" = some (some (.builtin "getset_descriptor.__get__"))) (htk:PySem.W.takesIn K (.builtin "object.__class__")=some true)
   (hm:PySem.W.mroIn K C (.type "object")=some true):TyOf K H (.ref a) (.ref C)
def zjO{x:V}{u t:Value}(I:Inv X pins σ H s)(rx:zaV x u)(ty:TyOf X.K H x t)(e:PySem.W.kitOne X.K t c=some b)(h:∀tk,Q (.bool b) { s with toks:=tk }) :
  wpAny (model X.prog X.w) A (call (.builtin "isinstance") [u,c]) Q E s:=by
 cases ty with
 | non=>cases (show u=Value.none from rx);exact ya0 PySem.W.kitx_none I.kIn True.intro e (fun z=>nomatch z) h
 | bl y=>cases (show u=Value.bool y from rx);exact ya0 PySem.W.kitx_bool I.kIn True.intro e (fun z=>nomatch z) h
 | int i=>obtain ⟨t,q⟩:=(show ∃t,u=Value.int i t from rx);cases q;exact ya0 PySem.W.kitx_int I.kIn True.intro e (fun z=>nomatch z) h
 | str y=>obtain ⟨t,q⟩:=(show ∃t,u=Value.str y t from rx);cases q;exact ya0 PySem.W.kitx_str I.kIn True.intro e (fun z=>nomatch z) h
 | flt y=>obtain ⟨t,q⟩:=(show ∃t,u=Value.float y t from rx);cases q;exact ya0 PySem.W.kitx_float I.kIn True.intro e (fun z=>nomatch z) h
 | @lst a xs ea =>
  cases (show u=Value.ref a from rx);obtain ⟨_,_,n,_,h1⟩:=(show zbj X.prog X.w H s.heap a (.lst xs) from I.hok a _ ea);exact ya0 PySem.W.kitx_list I.kIn ⟨_,h1,rfl⟩ e (fun z=>nomatch z) h
 | @frz a ob xs ea =>
  cases (show u=Value.ref a from rx);obtain ⟨_,_,_,n,_,h1⟩:=(show zbj X.prog X.w H s.heap a (.frz ob (.lst xs)) from I.hok a _ ea);exact ya0 PySem.W.kitx_list I.kIn ⟨_,h1,rfl⟩ e (fun z=>nomatch z) h
 | @tup a xs ea =>
  cases (show u=Value.ref a from rx);obtain ⟨_,_,_,p⟩:=(show zbj X.prog X.w H s.heap a (.tup xs) from I.hok a _ ea);obtain ⟨o,h1,h2,_⟩:=p;exact ya0 PySem.W.kitx_tuple I.kIn ⟨o,h1,h2⟩ e (fun z=>nomatch z) h
 | @dK a kvs ea =>
  cases (show u=Value.ref a from rx);obtain ⟨_,_,vs,_,p⟩:=(show zbj X.prog X.w H s.heap a (.dK kvs) from I.hok a _ ea);obtain ⟨o,es,ep,h1,h2,_⟩:=p;exact ya0 PySem.W.kitx_dict I.kIn ⟨o,h1,h2.1⟩ e (fun z=>nomatch z) h
 | @dT a kvs ea =>
  cases (show u=Value.ref a from rx);obtain ⟨_,_,xs,_,o,es,ep,h1,h2,_⟩:=(show zbj X.prog X.w H s.heap a (.dT kvs) from I.hok a _ ea);exact ya0 PySem.W.kitx_dict I.kIn ⟨o,h1,h2.1⟩ e (fun z=>nomatch z) h
 | @ins a C dx fs ea cl ha hn htk hm =>
  cases (show u=Value.ref a from rx);obtain ⟨mA,O,_⟩:=zff I.hok ea;obtain ⟨od,J,_⟩:=O.look;exact ya0 (PySem.W.kitx_own (cl.get _) cl.hd ha hn htk hm) I.kIn J e (fun z=>nomatch z) h
end
end L2
namespace L2
open PySem PySem.Spec PyProof.Rows
structure Room(k:Nat)(A:Around):Prop where
 hd:A.handled=none
 dp:A.depth+3*k+5<recursionLimit
 un:A.units+16*k+200<cLine
def Room.mono{j k:Nat}{A:Around}(r:Room k A)(h:j<=k):Room j A:=⟨r.hd,by have:=r.dp;omega,by have:=r.un;omega⟩
theorem Room.deeper{k:Nat}{A:Around}(r:Room (k+1) A)(env:Env):Room k (A.deeper env) :=
 ⟨r.hd,by have:=r.dp;show A.depth+1+3*k+5<_;omega,by have:=r.un;show A.units+3+16*k+200<_;omega⟩
def zh6{A:Around}{C:Addr}{us:List Value}{kw:List (Str×Value)}:(A.under (.builtin "type.__call__" ⟨.ref C::us,kw⟩)).depth=A.depth+1:=by
 first | rfl | simp [Around.under,Code.weight,Code.isCreation,Code.isGuard,Code.isCaller,Code.frames,Code.isFrame,guardIds]
def zh5{A:Around}{C:Addr}{us:List Value}{kw:List (Str×Value)}:(A.under (.builtin "type.__call__" ⟨.ref C::us,kw⟩)).units=A.units+1:=by
 first | rfl | simp [Around.under,Code.cUnits,Code.frames,Code.isFrame]
def Room.make{k:Nat}{A:Around}(r:Room (k+1) A)(C:Addr)(us:List Value)(kw:List (Str×Value)):Room k (A.under (.builtin "type.__call__" ⟨.ref C::us,kw⟩)) :=
 ⟨r.hd,by have:=r.dp;rw [zh6];omega,by have:=r.un;rw [zh5];omega⟩
theorem Room.depth{k:Nat}{A:Around}(r:Room k A):A.depth<recursionLimit:=by have:=r.dp;omega
theorem Room.units{k:Nat}{A:Around}(r:Room k A):A.units+64<cLine:=by have:=r.un;omega
noncomputable def zsG:TA:=fun _ H Q=>Q [] H
noncomputable def zsM(ta:TE)(tr:TA):TA:=fun σ H Q=>ta σ H fun x H1=>tr σ H1 fun xs H2=>Q (x::xs) H2
section
variable{X:Cx}{e:Expr}{es:List Expr}{te:TE}{t:TA}{pos:Pos}
def zdo:PA X [] zsG:=fun _ _ _ _ H Q I h=>Calls.spliced_nil ⟨[],H,I,.nil,h⟩
def zbH(ha:PE X e te)(hr:PA X es t)(hs:starEach (e::es) X.env=(false,eval e X.env)::starEach es X.env:=by rfl):PA X (e::es) (zsM te t):=by
 intro pos pins s σ H Q I h;rw [hs];show wpAny _ _ (spliced ((false,eval e X.env)::backTo pos (starEach es X.env))) _ _ s;refine Calls.spliced_cons (thn (ha pins s σ H _ I h) fun u s1 ⟨x,H1,I1,r1,q1⟩=>?_);exact thn (hr pos pins s1 σ H1 _ I1 q1) fun us s2 ⟨xs,H2,I2,r2,q2⟩=>⟨x::xs,H2,I2,.cons r1 r2,q2⟩
noncomputable def zwN(t:TA):TE:=fun σ H Q=>t σ H fun xs H1=>xs.length<=sizeLine/\∀p,H1 p=none->Q (.ref p) (upd H1 p (.tup xs))
noncomputable def zwR(t:TA):TE:=fun σ H Q=>t σ H fun xs H1=>xs.length<=sizeLine/\∀p,H1 p=none->Q (.ref p) (upd H1 p (.lst xs))
def zqo{x1}(h:PA X es t):PE X (.Tuple es x1 pos) (zwN t):=by
 intro pins s σ H Q I hq;refine wpAny_Tuple_spliced (thn (h pos pins s σ H _ I hq) fun us s1 ⟨xs,H1,I1,r,z,q⟩=>⟨by rw [<-r.length];exact z,?_⟩);have hf:H1 s1.heap.objs.size=none:=I1.hok.fresh (yah _);refine ⟨.ref s1.heap.objs.size,upd H1 s1.heap.objs.size (.tup xs),I1.laid (t':=s1.toks) (fun b u e=>yae _ e) (yah _) ?_,rfl,q _ hf⟩;exact ⟨z,us,r,⟨_,yao _ rfl,rfl,_,rfl⟩⟩
def zqu(h:PA X es t):PE X (.List es pos) (zwR t):=by
 intro pins s σ H Q I hq;refine wpAny_List_spliced (thn (h pos pins s σ H _ I hq) fun us s1 ⟨xs,H1,I1,r,z,q⟩=>⟨by rw [<-r.length];exact z,?_⟩);have hf:H1 s1.heap.objs.size=none:=I1.hok.fresh (yah _);refine ⟨.ref s1.heap.objs.size,upd H1 s1.heap.objs.size (.lst xs),I1.laid (t':=s1.toks) (fun b u e=>yae _ e) (yah _) ?_,rfl,q _ hf⟩;exact ⟨z,us,0,r,yao _ rfl⟩
end
noncomputable abbrev Sp:=List V->Hp->VK->XK->Prop
noncomputable abbrev CXT:=List Env->Hp->Shared->XK->Value->Shared->Prop
structure Env0(P:Program)(w:World)(K:PySem.W.Frag)(mg:Z6)(base:Heap)(A:Around)(outer:List Env)(s:Shared)(H:Hp):Prop where
 frames:A.frames=some outer
 mod:Mod K mg base
 bs:∀b o,base.get? b=some o->s.heap.get? b=some o/\H b=none
 bsz:base.objs.size<=s.heap.objs.size
 funs:s.heap.FunFrames base outer
 frf:∀b∈frs outer,H b=none
 hok:HOk P w H s.heap
 bare:AllBare s.gens
noncomputable def CE(outer:List Env)(P:Program)(w:World)(H:Hp)(s:Shared)(Q:VK)(u:Value)(s':Shared):Prop :=
 ∃v H',s'.os=s.os/\AllBare s'.gens/\Un (frs outer) [] H H' s.heap s'.heap/\HOk P w H' s'.heap/\zaV v u/\Q v H'
noncomputable def CR(CX:CXT)(outer:List Env)(P:Program)(w:World)(H:Hp)(s:Shared)(Q:VK)(E:XK)(r:Result)(s':Shared):Prop :=
 match r with
 | .ok (.ret u)=>CE outer P w H s Q u s'
 | .ok _=>False
 | .error e=>CX outer H s E e s'
structure FnOk(P:Program)(w:World)(K:PySem.W.Frag)(mg:Z6)(base:Heap)(CX:CXT)(k:Nat)(f:Addr)(fd:FuncData)(ps:List Str)(sp:Sp):Prop where
 len:∀vs H Q E,sp vs H Q E->vs.length=ps.length
 run:∀(A:Around) (outer:List Env) (s:Shared) (H:Hp) (args:Args) (us:List Value) (vs:List V) (Q:VK) (E:XK),Room k A->Env0 P w K mg base A outer s H->BindsTo s fd args (ps.zip us)->Vals vs us->sp vs H Q E →
  codeAny (model P w) A (.call (.ref f) args) (CR CX outer P w H s Q E) s
theorem FnOk.mono{P:Program}{w:World}{K:PySem.W.Frag}{mg:Z6}{base:Heap}{CX:CXT}{j k:Nat}{f:Addr}{fd:FuncData}{ps:List Str}{sp:Sp}(F:FnOk P w K mg base CX j f fd ps sp)(h:j<=k) :
  FnOk P w K mg base CX k f fd ps sp:=⟨F.len,fun A outer s H args us vs Q E hr=>F.run A outer s H args us vs Q E (hr.mono h)⟩
def FnOk.imp{P:Program}{w:World}{K:PySem.W.Frag}{mg:Z6}{base:Heap}{CX:CXT}{k:Nat}{f:Addr}{fd:FuncData}{ps:List Str}{sp sp':Sp}(F:FnOk P w K mg base CX k f fd ps sp)
  (h:∀vs H Q E,sp' vs H Q E->sp vs H Q E):FnOk P w K mg base CX k f fd ps sp' :=
 ⟨fun vs H Q E q=>F.len vs H Q E (h _ _ _ _ q),fun A outer s H args us vs Q E hr he hb hv hs=>F.run A outer s H args us vs Q E hr he hb hv (h _ _ _ _ hs)⟩
def Env0.make{P:Program}{w:World}{K:PySem.W.Frag}{mg:Z6}{base:Heap}{A:Around}{outer:List Env}{s:Shared}{H:Hp}(e:Env0 P w K mg base A outer s H)(C:Addr)(us:List Value)(kw:List (Str×Value)) :
  Env0 P w K mg base (A.under (.builtin "type.__call__" ⟨.ref C::us,kw⟩)) outer s H:=⟨by first | exact e.frames | (simpa [Around.under,Code.envs,Code.isFrame,pushEnvs] using e.frames),e.mod,e.bs,e.bsz,e.funs,e.frf,e.hok,e.bare⟩
section
variable{X:Cx}{pins:Z3}{σ:St}{H:Hp}{s s':Shared}
def Inv.env0(I:Inv X pins σ H s):Env0 X.prog X.w X.K X.mg X.base X.A X.stack s H :=
 ⟨I.ok.frames,I.ok.mod,I.bs,yar I.ok.bsz I.sz,I.stack,I.stkFree,I.hok,I.bare⟩
def Inv.after{Q:VK}{u:Value}(I:Inv X pins σ H s)(h:CE X.stack X.prog X.w H s Q u s'):EP X pins σ Q u s':=by
 obtain ⟨v,H',os,bare,un,hok,r,q⟩:=h;obtain ⟨hh,g,d,t,os'⟩:=s';obtain rfl:os'=s.os:=os;exact ⟨v,H',I.call (h':=hh) (g':=g) (d':=d) (t':=t) (ch:=[]) un hok bare (fun b z=>absurd z (by simp)),r,q⟩
end
noncomputable def zcq(K:PySem.W.Frag)(fd:FuncData)(ps:List Str)(ds:List Value):Prop :=
 ∀(s:Shared) (us:List Value),K.In s.heap->(us++ds).length=ps.length->BindsTo s fd ⟨us,[]⟩ (ps.zip (us++ds))
def zcq.all{K:PySem.W.Frag}{fd:FuncData}{ps:List Str}(h:∀us:List Value,us.length=ps.length->bindArgs fd ⟨us,[]⟩=pure (ps.zip us)):zcq K fd ps []:=fun s us _ hl=>by
 rw [yaT] at hl ⊢;exact .of_eq (h us hl)
noncomputable def zrQ(CX:CXT)(X:Cx)(E:XK):Prop:=∀(pins:Z3) (σ:St) (H:Hp) (s:Shared) (e:Value) (s':Shared),Inv X pins σ H s->CX X.stack H s E e s'->X.xe e s'
section
variable{X:Cx}{CX:CXT}{k:Nat}{f C:Addr}{fd:FuncData}{ps:List Str}{sp:Sp}{dvs:List V}{ds:List Value}{E:XK}{x m:Str}{p pos apos:Pos}{e o:Expr}{es:List Expr}{ta:TE}{t:TA}
structure Mk(K:PySem.W.Frag)(C f:Addr):Prop where
 makes:PySem.W.makesIn K C=true
 init:PySem.W.findIn K (.ref C) "__init__" = some (some (.ref f))
 fn:PySem.W.isFn K (.ref f)=true
 kp:PySem.W.keepIn K (.ref C)=true
end
section
variable{X:Cx}{CX:CXT}{k:Nat}{f C:Addr}{fd:FuncData}{ps ks:List Str}{sp:Sp}{E:XK}{x m:Str}{p pos apos kpos:Pos}{e o:Expr}{es:List Expr}{kws:List Keyword}{te ta:TE}{t tk:TA}{nm:Option Str}
variable{g:List Value->List Value->List Value}{gV:List V->List V->List V}
end
structure FnScope(N P:List Str)(sc:Scope):Prop where
 kind:sc.kind=.function
 co:sc.isCoroutine=false
 gen:sc.isGenerator=false
 nd:N.Nodup
 pre:N.take P.length=P
 par:∀x∈P,sc.names.lookup x=some .local\/sc.names.lookup x=some .cell
 nofree:∀y∈sc.names,y.2≠.free
theorem zgg{kindOf:Str->Option NameKind}{x:Str}:∀{binds:List (Str×Value)} {m:Z6},(∀v,(x,v) ∉ binds)->bindL kindOf binds m x=m x
 | [],_,_=>rfl
 | (n,v)::r,m,h=>by
  unfold bindL;rw [zgg fun w hw=>h w (yaA _ hw)];split
  ·have:x≠n:=by rintro rfl;exact h v yaB
   simp [this]
  ·rfl
theorem zgi{kindOf:Str->Option NameKind}{x:Str}:∀{binds:List (Str×Value)} {m:Z6},(∀v,(x,v) ∉ binds)->bindC kindOf binds m x=m x
 | [],_,_=>rfl
 | (n,v)::r,m,h=>by
  unfold bindC;rw [zgi fun w hw=>h w (yaA _ hw)];split
  ·rfl
  ·have:x≠n:=by rintro rfl;exact h v yaB
   simp [this]
theorem zgh{kindOf:Str->Option NameKind}{x:Str}{v:Value}:∀{P:List Str} {vs:List Value} {i:Nat} {m:Z6},P.Nodup->P[i]?=some x->vs[i]?=some v->kindOf x=some .local →
  bindL kindOf (P.zip vs) m x=some v
 | [],_,_,_,_,h,_,_=>by simp at h
 | _::_,[],_,_,_,_,h,_=>by simp at h
 | p::P,w::vs,0,m,nd,h1,h2,hk=>by
  simp at h1 h2;subst h1;subst h2;show bindL kindOf ((p,w)::P.zip vs) m p=_;unfold bindL;rw [zgg fun v hv=>(ybj.mp nd).1 (List.of_mem_zip hv).1,if_pos hk];simp
 | p::P,w::vs,i+1,m,nd,h1,h2,hk=>by
  show bindL kindOf ((p,w)::P.zip vs) m x=_;unfold bindL;exact zgh (i:=i) (ybj.mp nd).2 (by simpa using h1) (by simpa using h2) hk
theorem zgj{kindOf:Str->Option NameKind}{x:Str}{v:Value}:∀{P:List Str} {vs:List Value} {i:Nat} {m:Z6},P.Nodup->P[i]?=some x->vs[i]?=some v->kindOf x≠some .local →
  bindC kindOf (P.zip vs) m x=some v
 | [],_,_,_,_,h,_,_=>by simp at h
 | _::_,[],_,_,_,_,h,_=>by simp at h
 | p::P,w::vs,0,m,nd,h1,h2,hk=>by
  simp at h1 h2;subst h1;subst h2;show bindC kindOf ((p,w)::P.zip vs) m p=_;unfold bindC;rw [zgi fun v hv=>(ybj.mp nd).1 (List.of_mem_zip hv).1,if_neg hk];simp
 | p::P,w::vs,i+1,m,nd,h1,h2,hk=>by
  show bindC kindOf ((p,w)::P.zip vs) m x=_;unfold bindC;exact zgj (i:=i) (ybj.mp nd).2 (by simpa using h1) (by simpa using h2) hk
noncomputable def zeS(N:List Str)(vs:List V):St:=vs.map some++List.replicate (N.length-vs.length) none
noncomputable def zky(CX:CXT)(P:Program)(w:World)(K:PySem.W.Frag)(mg:Z6)(base:Heap)(N:List Str)(qual:Str)(scope:Scope)(f:Addr)(cd:Value)(A:Around)(outer:List Env)(s:Shared)(H:Hp)(E:XK):Cx where
 prog:=P
 w:=w
 K:=K
 mg:=mg
 base:=base
 A:=A.deeper (envOfC qual scope s.heap.objs.size f cd)
 N:=N
 s₀:=s
 H₀:=H
 env:=envOfC qual scope s.heap.objs.size f cd
 outer:=outer
 stack:=envOfC qual scope s.heap.objs.size f cd::outer
 ex:=[]
 calm:=true
 fn:=fun _=>true
 pn:=[]
 xe:=fun e s'=>wpAny (model P w) (A.deeper (envOfC qual scope s.heap.objs.size f cd)) (leaving (envOfC qual scope s.heap.objs.size f cd) e) (fun _ s''=>CX outer H s E e s'') (fun e' s''=>CX outer H s E e' s'') s'
def zhH{sc:Scope}{n:Nat}{x:Str}(h:sc.names.lookup x=some .cell):∃c,(cellsFrom n sc.names []).lookup x=some c:=by
 have q:=PySem.W.cellsFrom_some sc.names n [] (.inl h);exact Option.isSome_iff_exists.mp q
def zjR{CX:CXT}{P:Program}{w:World}{K:PySem.W.Frag}{mg:Z6}{base:Heap}{N ps:List Str}{qual:Str}{scope:Scope}{f:Addr}{cd:Value}{A:Around}{outer:List Env}{s s1:Shared}{H:Hp}{E:XK}{us:List Value}{vs:List V}
  (S:FnScope N ps scope) (hd:A.handled=none) (e0:Env0 P w K mg base A outer s H) (hl:vs.length=ps.length) (r:Vals vs us)
  (x:InCallC s s.heap.objs.size (bindL (envOfC qual scope s.heap.objs.size f cd).kindOf (ps.zip us) fun _=>none) (cellsFrom (s.heap.objs.size+1) scope.names []) (bindC (envOfC qual scope s.heap.objs.size f cd).kindOf (ps.zip us) fun _=>none) s1) :
  Inv (zky CX P w K mg base N qual scope f cd A outer s H E) [] (zeS N vs) H s1:=by
 have hpl:ps.length<=N.length:=by have:=congrArg List.length S.pre;rw [List.length_take] at this;omega
 obtain ⟨h1,tk,rfl,hk⟩:=x.done;have noA:∀b:Addr,b ∉ (zky CX P w K mg base N qual scope f cd A outer s H E).ex:=fun b z=>absurd (show b∈([]:List Addr) from z) (by simp)
 refine ⟨⟨e0.mod,S.kind,rfl,rfl,yah _,fun y z c h1 h2=>?_,fun y hy=>?_,fun y c _ h=>?_,fun _=>hd,Around.frames_deeper e0.frames,.inr ⟨rfl,rfl⟩,fun b z=>absurd z (noA b),e0.bs,e0.bsz,fun b _ _=>noA b,fun b z=>absurd z (noA b),e0.funs,e0.frf⟩,
  rfl,e0.bare,Un.kept hk,⟨_,x.toInCall.ns,fun i y v h1 h2 h3=>?_⟩,fun y c h=>⟨_,x.cell y c h⟩,e0.hok.fresh (yah _),fun y c h=>?_,fun p hp=>absurd (show p∈([]:Z3) from hp) (by simp),e0.hok.kept hk,?_⟩
 ·exact name_of_addr x.apart (yaD h1) (yaD h2)
 ·have hy:scope.names.lookup y=some .cell\/scope.names.lookup y=some .free:=hy
  rcases hy with hy | hy
  ·exact zhH hy
  ·exact absurd rfl (S.nofree _ (yaD hy))
 ·exact ycu (x.above y c (yaD h))
 ·have hi:i<vs.length:=by
   unfold zeS at h2
   by_cases hi:i<vs.length
   ·exact hi
   ·rw [yaJ (by simpa using hi)] at h2;rw [ybF] at h2
    split at h2<;>cases h2
  have ha:vs[i]?=some v:=by
   unfold zeS at h2;rw [yaW (by simpa using hi),yaF] at h2
   cases e:vs[i]? with
   | none=>rw [e] at h2;cases h2
   | some a=>rw [e] at h2;cases h2;rfl
  obtain ⟨u,hu,rv⟩:=r.get ha
  have hp:ps[i]?=some y:=by
   rw [<-S.pre,List.getElem?_take_of_lt (by omega)];exact h1
  have ndP:ps.Nodup:=by rw [<-S.pre];exact S.nd.sublist (List.take_sublist _ _)
  refine ⟨u,rv,?_⟩
  rcases S.par y (List.mem_of_getElem? hp) with k | k
  ·exact .inl ⟨k,zgh ndP hp hu k⟩
  ·obtain ⟨c,e⟩:=zhH (n:=s.heap.objs.size+1) k;refine .inr ⟨.inl k,c,e,?_⟩;have q:=x.cell y c e;rw [zgj ndP hp hu (by show scope.names.lookup y≠_;rw [k];decide)] at q;exact q
 ·exact e0.hok.fresh (ycu (x.above y c (yaD h)))
 ·unfold zeS;show _=N.length;rw [yal,yad,yaL];omega
def ztM{CX:CXT}{P:Program}{w:World}{K:PySem.W.Frag}{mg:Z6}{base:Heap}{k:Nat}{f:Addr}{name qual:Str}{params:Arguments}{body:List Stmt}{scope:Scope}{dV kV doc pm cdv ct oc:Value}{an od:Option Addr}
  {osl:Array (Option Value)} {N ps:List Str} {sp:Sp} (lk:K.lookup f=some ⟨oc,od,.func (PySem.W.fnOf name qual params body scope dV kV doc pm an cdv ct),osl⟩) (hcd:PySem.W.codeIn K cdv qual=true) (S:FnScope N ps scope)
  (len:∀vs H Q E,sp vs H Q E->vs.length=ps.length)
  (hbody:∀(A:Around) (outer:List Env) (s:Shared) (H:Hp) (vs:List V) (Q:VK) (E:XK),Room k (A.deeper (envOfC qual scope s.heap.objs.size f cdv))->sp vs H Q E →
   ∃t,PSs (zky CX P w K mg base N qual scope f cdv A outer s H E) body t/\t { nx:=fun _ H'=>Q .non H',rt:=Q } (zeS N vs) H) :
  FnOk P w K mg base CX (k+1) f (PySem.W.fnOf name qual params body scope dV kV doc pm an cdv ct) ps sp:=by
 refine ⟨len,fun A outer s H args us vs Q E hr e0 hb r hsp=>?_⟩;have hl:=len _ _ _ _ hsp;have KX:K.In s.heap:=e0.mod.kin.keeps fun b o e=>(e0.bs b o e).1
 have lim:s.heap.NoLimit:=e0.mod.nolimit.keeps fun b o e=>(e0.bs b o e).1
 have hkind:∀y∈ps.zip us,scope.names.lookup y.1=some .local\/(scope.names.lookup y.1=some .cell/\((cellsFrom (s.heap.objs.size+1) scope.names []).lookup y.1).isSome=true):=fun ⟨n,v⟩ hy=>by
  rcases S.par n (List.of_mem_zip hy).1 with q | q
  ·exact .inl q
  ·exact .inr ⟨q,PySem.W.cellsFrom_some _ _ _ (.inl q)⟩
 refine codeAny_call_function hr.depth (KX _ _ lk) rfl S.co S.gen rfl (PySem.W.codeRec_of KX hcd) (hb _ _ _ _ ?_);refine wpAny_newFunctionEnv_cells S.kind hkind fun env he s1 x=>?_
 subst he;refine ⟨lim.keeps x.toInCall.keep,codeAny_func ?_⟩;obtain ⟨t,ht,hq⟩:=hbody A outer s H vs Q E (hr.deeper _) hsp;have I:Inv (zky CX P w K mg base N qual scope f cdv A outer s H E) [] (zeS N vs) H s1:=zjR S hr.hd e0 hl r x;refine ybd (ht [] s1 (zeS N vs) H _ I hq) (fun fl s' hs=>?_) fun e s' hs=>hs
 have fin:∀{σ':St} {H':Hp} {v:V} {u:Value},Inv (zky CX P w K mg base N qual scope f cdv A outer s H E) [] σ' H' s'->zaV v u->Q v H'->CE outer P w H s Q u s' :=
  fun {σ' H' v u} J rv q=>⟨v,H',J.os,J.bare,J.base,J.hok,rv,q⟩
 cases fl with
 | ret u =>
  obtain ⟨v,σ',H',J,rv,q⟩:=hs;exact fin J rv q
 | next =>
  obtain ⟨σ',H',J,q⟩:=hs;exact fin (v:=V.non) (u:=Value.none) J rfl q
 | brk =>
  obtain ⟨_,_,_,q⟩:=hs;exact False.elim q
 | cont =>
  obtain ⟨_,_,_,q⟩:=hs;exact False.elim q
end L2
namespace L2
open PySem PySem.Spec PyProof.Rows
section
variable{X:Cx}{x:Str}{p pos:Pos}{e:Expr}{es:List Expr}{t:TA}{id T:String}{r:List V->Hp->VK->Prop}
noncomputable def tCB(r:List V->Hp->VK->Prop)(t:TA):TE:=fun σ H Q=>t σ H fun vs H1=>r vs H1 Q
def zcW(hc:zdk X (.builtin id) r)(hg:Gl X x)(hm:X.mg x=none)(hv:bootBuiltins x=some (.builtin id))(ha:PA X (e::es) t)(hn:x ≠ "__name__":=by decide)(hdb:(x == ("__debug__":Str))=false:=by decide)
  (he:starEach (e::es) X.env=(false,eval e X.env)::starEach es X.env:=by rfl) (hpl:(backTo pos (starEach es X.env)).any (·.1)=false:=by rfl):PE X (.Call (.Name x p) (e::es) [] pos) (tCB r t):=by
 intro pins s σ H Q I h;refine ybL (zev I hg hm hv ?_ hn hdb);exact PyProof.Rows.callWith_builtin1 (thn (ha pos pins s σ H _ I h) fun us s1 ⟨vs,H1,I1,r1,q1⟩=>hc pins s1 σ H1 vs us Q I1 r1 q1) he hpl
def zfU(hc:zdk X (.type T) r)(hg:Gl X x)(hm:X.mg x=none)(hv:bootBuiltins x=some (.type T))(ha:PA X (e::es) t)(hn:x ≠ "__name__":=by decide)(hdb:(x == ("__debug__":Str))=false:=by decide)
  (he:starEach (e::es) X.env=(false,eval e X.env)::starEach es X.env:=by rfl) (hpl:(backTo pos (starEach es X.env)).any (·.1)=false:=by rfl):PE X (.Call (.Name x p) (e::es) [] pos) (tCB r t):=by
 intro pins s σ H Q I h;refine ybL (zev I hg hm hv ?_ hn hdb);exact ybs (thn (ha pos pins s σ H _ I h) fun us s1 ⟨vs,H1,I1,r1,q1⟩=>hc pins s1 σ H1 vs us Q I1 r1 q1) he hpl
end
end L2
namespace HT
open PySem PyProof.Rows
section
open PySem.SeqAt
open PySem.AutoSeq1 (wpAny_loadPart')
open PySem.MeetsSeq PySem.MeetsSeq2 PySem.MeetsSeq3
end
section
variable{prog:Program}{w:World}{A:Around}{E:Z5}{s:Shared}
def zoP{t b:Addr}{vs ws:List Value}{Q:Z5}(ht:IsTup s.heap t vs.toArray)(hb:IsTup s.heap b ws.toArray)(hv:vs≠[])
  (h1:ws=[]->Q (.ref t) s) (h2:ws≠[]->Q (.ref s.heap.objs.size) { s with heap:=s.heap.push { cls:=.type "tuple",data:=.seq (vs++ws).toArray } })
  (hsz:vs.length+ws.length<=sizeLine):wpAny (model prog w) A (binaryOp .Add (.ref t) (.ref b)) Q E s:=by
 obtain ⟨⟨cls,dd,data,sl⟩,ho,hc,n,hd⟩:=id ht;obtain ⟨⟨cls2,dd2,data2,sl2⟩,ho2,hc2,n2,hd2⟩:=id hb;simp only at hc hd hc2 hd2;subst hc hd hc2 hd2
 have e:vs.toArray++ws.toArray=(vs++ws).toArray:=by simp
 by_cases hw:ws=[]
 ·exact concat_meets ⟨_,ho,rfl⟩ ⟨_,ho2,rfl⟩ noFill_tuple_add seq_tuple_add yb9 yb3 (ybZ _ _)
   (tuple_addW1 t b vs.toArray ws.toArray n n2 dd dd2 sl sl2 (by simpa using hv) (by simp [hw])) ⟨ho,ho2,h1 hw⟩
 ·refine concat_meets ⟨_,ho,rfl⟩ ⟨_,ho2,rfl⟩ noFill_tuple_add seq_tuple_add yb9 yb3 (ybZ _ _)
   (tuple_addW2 t b vs.toArray ws.toArray n n2 dd dd2 sl sl2 (by simpa using hv) (by simpa using hw) (by rw [yaf,yaf];exact hsz)) ⟨ho,ho2,?_⟩
  rw [e];exact h2 hw
noncomputable def sIx(n d:Nat):Option Int->Nat
 | none=>d
 | some v=>if v<0 then (v+(n:Int)).toNat else min v.toNat n
def ziQ(n d k:Nat):sIx n d (some (k:Int))=min k n:=by
 show (if (k:Int)<0 then ((k:Int)+(n:Int)).toNat else min (k:Int).toNat n)=min k n;rw [if_neg (by omega),ya1]
def zp8(n d:Nat)(hd:d<=n)(o:Option Int):sIx n d o<=n:=by
 cases o with
 | none=>exact hd
 | some v =>
  show (if v<0 then (v+(n:Int)).toNat else min v.toNat n)<=n
  by_cases hv:v<0
  ·rw [if_pos hv];omega
  ·rw [if_neg hv];exact Nat.min_le_right _ _
def zke(v:Int)(n d:Nat):(if v<0 then max (v+(n:Int)) 0 else min v (n:Int))=((sIx n d (some v):Nat):Int):=by
 show (if v<0 then max (v+(n:Int)) 0 else min v (n:Int))=(((if v<0 then (v+(n:Int)).toNat else min v.toNat n):Nat):Int)
 by_cases hv:v<0
 ·simp only [if_pos hv];omega
 ·simp only [if_neg hv];omega
def zir(lo hi:Option Int)(n:Nat):Builtin.Slice.sliceAdjust lo hi 1 (n:Int)=(((sIx n 0 lo:Nat):Int),((sIx n n hi:Nat):Int)):=by
 have h1:¬ ((1:Int)<0):=by omega
 unfold Builtin.Slice.sliceAdjust;simp only [h1,ybl];refine Prod.ext ?_ ?_
 ·cases lo with
  | none=>rfl
  | some v=>exact zke v n 0
 ·cases hi with
  | none=>rfl
  | some v=>exact zke v n n
def zh0(i j:Nat):Builtin.Slice.slicePlaces (i:Int) (j:Int) 1=j-i:=by
 unfold Builtin.Slice.slicePlaces
 have h1:(1:Int) > 0:=by omega
 simp only [h1,ycB,Int.ediv_one]
 split<;>omega
def zeo{v:Value}{o:Option Int}{Q:Option Int->Shared->Prop}(p:IsPart v o)(h:Q o s):wpAny (model prog w) A (Builtin.Slice.slicePartIndex v) Q E s:=by
 cases p with
 | none=>exact slicePart_none h
 | int i t=>exact slicePart_int h
def zb5{sl:Addr}{vl vu:Value}{lo hi:Option Int}{n:Nat}{Q:Int×Int×Nat->Shared->Prop}(hs:s.heap.IsSliceOf sl vl vu .none)(pl:IsPart vl lo)(pu:IsPart vu hi)
  (h:Q (((sIx n 0 lo:Nat):Int),1,sIx n n hi-sIx n 0 lo) s):wpAny (model prog w) A (Builtin.Slice.sliceApplied (.ref sl) (pure (n:Int))) Q E s:=by
 obtain ⟨os,hos,hcs,hds⟩:=id hs;unfold Builtin.Slice.sliceApplied Builtin.Slice.sliceFields;refine yaa (yaa (ybB hos hds (x:=vl) rfl (yaa (ybB hos hds (x:=vu) rfl (yaa (ybB hos hds (x:=.none) rfl (yac ?_)))))));refine yaa (slicePart_none ?_);show wpAny _ _ (if ((1:Int) == 0)=true then _ else _) _ _ s;rw [if_neg (by decide)];refine yaa (zeo pl (yaa (zeo pu (yaa (yac ?_)))));show wpAny _ _ (match Builtin.Slice.sliceAdjust lo hi 1 (n:Int) with | (lo,hi)=>pure (lo,(1:Int),Builtin.Slice.slicePlaces lo hi 1)) _ _ s;rw [zir lo hi n];show wpAny _ _ (pure (((sIx n 0 lo:Nat):Int),(1:Int),Builtin.Slice.slicePlaces ((sIx n 0 lo:Nat):Int) ((sIx n n hi:Nat):Int) 1)) _ _ s;rw [zh0];exact yac h
def zlc(xs:Array Value)(i k:Nat):((List.range k).filterMap fun (m:Nat)=>xs[((i:Int)+(m:Int)*1).toNat]?).toArray=((xs.toList.drop i).take k).toArray:=by
 have e:(fun (m:Nat)=>xs[((i:Int)+(m:Int)*1).toNat]?)=fun m=>xs[i+m]?:=by
  funext m
  have:((i:Int)+(m:Int)*1).toNat=i+m:=by omega
  rw [this]
 rw [e];have:=pick_run xs i k;rw [List.filterMap_map] at this;have e2:((fun x=>xs[x]?)∘fun x=>i+x)=fun m=>xs[i+m]?:=rfl
 rw [e2] at this;rw [this]
def zdg{t sl:Addr}{items:Array Value}{vl vu:Value}{lo hi:Option Int}{Q:Z5}(ht:IsTup s.heap t items)(hs:s.heap.IsSliceOf sl vl vu .none)(pl:IsPart vl lo)(pu:IsPart vu hi)
  (hw:¬ (sIx items.size 0 lo=0/\sIx items.size items.size hi=items.size))
  (h:Q (.ref s.heap.objs.size) { s with heap:=s.heap.push { cls:=.type "tuple",data:=.seq ((items.toList.drop (sIx items.size 0 lo)).take (sIx items.size items.size hi-sIx items.size 0 lo)).toArray } })
  (hsz:items.size<=sizeLine):wpAny (model prog w) A (getItem (.ref t) (.ref sl)) Q E s:=by
 have htake:sizeOk (.seq ((items.toList.drop (sIx items.size 0 lo)).take (sIx items.size items.size hi-sIx items.size 0 lo)).toArray):=by
  show ((items.toList.drop (sIx items.size 0 lo)).take (sIx items.size items.size hi-sIx items.size 0 lo)).toArray.size<=sizeLine;rw [yaf,List.length_take,List.length_drop,yaZ];omega
 have hj:sIx items.size items.size hi<=items.size:=zp8 _ _ (yah _) hi;obtain ⟨os,hos,hcs,hds⟩:=id hs;have hTs:s.TypeIs (.ref sl) "slice":=⟨os,hos,hcs⟩;unfold getItem
 try with_reducible refine ybh ?_
 first | refine yaa (yac ?_) | skip
 refine yaa (wpAny_sequenceKey ht.typeIs (by decide) ?_)
 refine yaa (yaS (name:=Str.ofString "__getitem__") ht.typeIs yaO
  (yaU yaO ht.typeIs entry_tuple_getitem ?_ (args_tuple_getitem _ _)))
 show wpAny _ _ (Builtin.Tuple.tupleItemsOf (.ref t) >>= _) _ _ s;refine yaa (tupleItemsOf_ ht ?_);refine yaa (wpAny_typeOf hTs ?_);rw [if_pos (by decide)];refine yaa (zb5 hs pl pu ?_)
 have hno:¬ ((((sIx items.size 0 lo:Nat):Int) == 0&&(1:Int) == 1&&(sIx items.size items.size hi-sIx items.size 0 lo) == items.size)=true):=by
  intro q;rw [yab,yab] at q;have q1:((sIx items.size 0 lo:Nat):Int)=0:=eq_of_beq q.1.1;have q2:sIx items.size items.size hi-sIx items.size 0 lo=items.size:=eq_of_beq q.2;exact hw ⟨by omega,by omega⟩
 show wpAny _ _ (if (((sIx items.size 0 lo:Nat):Int) == 0&&(1:Int) == 1&&(sIx items.size items.size hi-sIx items.size 0 lo) == items.size)=true then _ else _) _ _ s;rw [if_neg hno,zlc]
 first
  | exact yaa (m:=Builtin.Tuple.tupleExact _) (yaK (yac ⟨_,rfl,yac h⟩) htake)
  | exact yaa (m:=Builtin.Tuple.tupleExact _) (yaK (yaa (yac (yac ⟨_,rfl,yac h⟩))) htake)
  | exact yaa (yaa (m:=Builtin.Tuple.tupleExact _) (yaK (yac (yac ⟨_,rfl,yac h⟩)) htake))
  | exact yaa (yaa (m:=Builtin.Tuple.tupleExact _) (yaK (yac ⟨_,rfl,yac h⟩) htake))
end
end HT
namespace L2
open PySem PySem.Spec PyProof.Rows
noncomputable abbrev TO:=St->Hp->(Option Int->Hp->Prop)->Prop
noncomputable def PO(X:Cx)(e:Option Expr)(t:TO):Prop :=
 ∀(pins:Z3) (s:Shared) (σ:St) (H:Hp) (Q:Option Int->Hp->Prop),Inv X pins σ H s->t σ H Q →
  wpAny (model X.prog X.w) X.A (evalPart e X.env) (fun u s'=>∃o H',Inv X pins σ H' s'/\IsPart u o/\Q o H') X.xe s
noncomputable def ziA:TO:=fun _ H Q=>Q none H
noncomputable def zpt(t:TE):TO:=fun σ H Q=>t σ H fun x H1=>∃i,x=.int i/\Q (some i) H1
section
variable{X:Cx}{e:Expr}{te:TE}{lo hi:Option Expr}{tl th:TO}{pos p2:Pos}
def znU:PO X none ziA:=by
 intro pins s σ H Q I h;rw [evalPart_none];exact yac ⟨none,H,I,.none,h⟩
def znT(h:PE X e te):PO X (some e) (zpt te):=by
 intro pins s σ H Q I hw;rw [evalPart_some];refine thn (h pins s σ H _ I hw) fun u s1 ⟨x,H1,I1,r1,q1⟩=>?_
 obtain ⟨i,rfl,q⟩:=q1;obtain ⟨t,rfl⟩:=r1;exact ⟨some i,H1,I1,.int i t,q⟩
noncomputable def SlR(X:Cx)(r:V->Option Int->Option Int->Hp->VK->Prop):Prop :=
 ∀(pins:Z3) (s:Shared) (σ:St) (H:Hp) (x:V) (v vl vu:Value) (lo hi:Option Int) (sl:Addr) (Q:VK),Inv X pins σ H s->zaV x v->s.heap.IsSliceOf sl vl vu .none->IsPart vl lo->IsPart vu hi->r x lo hi H Q →
  ∃T id,typeLookup (.type T) "__getitem__" = pure (some (.builtin id))/\s.TypeIs v T/\wpAny (model X.prog X.w) X.A (getItem v (.ref sl)) (EP X pins σ Q) X.xe s
noncomputable def tSl(r:V->Option Int->Option Int->Hp->VK->Prop)(te:TE)(tl th:TO):TE:=fun σ H Q=>te σ H fun x H1=>tl σ H1 fun l H2=>th σ H2 fun u H3=>r x l u H3 Q
def zle{r:V->Option Int->Option Int->Hp->VK->Prop}(hr:SlR X r)(he:PE X e te)(hl:PO X lo tl)(hu:PO X hi th):PE X (.Subscript e (.Slice lo hi none p2) pos) (tSl r te tl th):=by
 intro pins s σ H Q I h;refine Subscript_ (thn (he pins s σ H _ I h) fun v s1 ⟨x,H1,I1,r1,q1⟩=>?_);refine wpAny_Slice (thn (hl pins s1 σ H1 _ I1 q1) fun vl s2 ⟨l,H2,I2,pl,q2⟩=>thn (hu pins s2 σ H2 _ I2 q2) fun vu s3 ⟨u,H3,I3,pu,q3⟩=>?_);rw [evalPart_none];refine yac ?_;have I4:Inv X pins σ H3 { s3 with heap:=s3.heap.push { cls:=.type "slice",data:=.fields #[vl,vu,.none] } }:=I3.kept (t':=s3.toks) fun b ob q=>yae _ q
 obtain ⟨T,id,hT,ht,hg⟩:=hr pins { s3 with heap:=s3.heap.push { cls:=.type "slice",data:=.fields #[vl,vu,.none] } } σ H3 x v vl vu l u s3.heap.objs.size Q I4 r1 (Heap.IsSliceOf.new ..) pl pu q3;show wpAny (model X.prog X.w) X.A (subscriptTail e (.Slice lo hi none p2) v (.ref s3.heap.objs.size)) (EP X pins σ Q) X.xe { s3 with heap:=s3.heap.push { cls:=.type "slice",data:=.fields #[vl,vu,.none] } };exact tail_any (ops:=[.ref s3.heap.objs.size,v]) ht hT hg (by with_unfolding_all rfl)
noncomputable def zmV(xs:List V)(lo hi:Option Int):List V:=(xs.drop (HT.sIx xs.length 0 lo)).take (HT.sIx xs.length xs.length hi-HT.sIx xs.length 0 lo)
def zec(xs:List V)(lo hi:Option Int):(zmV xs lo hi).length<=xs.length:=by
 unfold zmV;rw [List.length_take,List.length_drop];omega
noncomputable def zwY(K:PySem.W.Frag):V->Option Int->Option Int->Hp->VK->Prop:=fun x lo hi H Q=>∃a xs,x=.ref a/\SqT K H a xs ∧
 ¬ (HT.sIx xs.length 0 lo=0/\HT.sIx xs.length xs.length hi=xs.length)/\∀p,H p=none->Q (.ref p) (upd H p (.tup (zmV xs lo hi)))
def zpO:SlR X (zwY X.K):=by
 intro pins s σ H x v vl vu lo hi sl Q I rx hs pl pu h;obtain ⟨a,xs,rfl,hx,hw,q⟩:=h;cases rx;obtain ⟨its,r,ht,hz⟩:=I.tuple hx
 have hlen:its.toArray.size=xs.length:=by rw [yaf];exact r.length.symm
 refine ⟨"tuple",_,yaO.lookup,ht.typeIs,?_⟩;refine HT.zdg ht hs pl pu (by rw [hlen];exact hw) ?_ (by rw [hlen];exact hz);rw [hlen];refine ⟨.ref s.heap.objs.size,_,I.laid (t':=s.toks) (o:=.tup (zmV xs lo hi)) (fun b ob q=>yae _ q) (yah _) ?_,rfl,q _ (I.hok.fresh (yah _))⟩;exact ⟨yar (zec xs lo hi) hz,_,(r.drop (HT.sIx xs.length 0 lo)).take (HT.sIx xs.length xs.length hi-HT.sIx xs.length 0 lo),IsTup.new _ _⟩
noncomputable def zs2(K:PySem.W.Frag):R2:=fun x y H Q=>∃a b xs ys,x=.ref a/\y=.ref b/\SqT K H a xs/\SqT K H b ys/\xs≠[]/\xs.length+ys.length<=sizeLine ∧
 (ys=[]->Q (.ref a) H)/\(ys≠[]->∀p,H p=none->Q (.ref p) (upd H p (.tup (xs++ys))))
def Vals.nil_iff{xs:List V}{us:List Value}(r:Vals xs us):us=[]↔xs=[]:=by
 cases r with
 | nil=>simp
 | cons _ _=>simp
def zn5:OpR X (binaryOp .Add) (zs2 X.K):=by
 intro pins s σ H x y v u Q I rx ry h;obtain ⟨a,b,xs,ys,rfl,rfl,ha,hb,hx,hz,q1,q2⟩:=h;cases rx;cases ry;obtain ⟨its,r1,p1,_⟩:=I.tuple ha;obtain ⟨its2,r2,p2,_⟩:=I.tuple hb;refine HT.zoP p1 p2 (fun z=>hx (r1.nil_iff.mp z)) (fun z=>⟨.ref a,H,I,rfl,q1 (r2.nil_iff.mp z)⟩) (fun z=>?_) (by rw [<-r1.length,<-r2.length];exact hz);refine ⟨.ref s.heap.objs.size,_,I.laid (t':=s.toks) (o:=.tup (xs++ys)) (fun b ob q=>yae _ q) (yah _) ?_,rfl,q2 (fun w=>z (r2.nil_iff.mpr w)) _ (I.hok.fresh (yah _))⟩;exact ⟨by rw [yal];exact hz,_,r1.append r2,IsTup.new _ _⟩
end
end L2
namespace L2
open PySem PySem.Spec PyProof.Rows
noncomputable def ixN(n:Nat)(i:Int):Option Nat:=if 0<=i then (if i<n then some i.toNat else none) else if -(n:Int)<=i then some (i+n).toNat else none
noncomputable def atI{α:Type}(xs:List α)(i:Int):Option α:=(ixN xs.length i).bind fun j=>xs[j]?
def zjK{n:Nat}{i:Int}{j:Nat}(h:ixN n i=some j):seqIndex? i n=some j/\j<n/\-(n:Int)<=i/\i<n:=by
 unfold ixN at h
 by_cases h0:0<=i
 ·rw [if_pos h0] at h
  by_cases h1:i<n
  ·rw [if_pos h1] at h;have e:i.toNat=j:=Option.some.inj h;exact ⟨by rw [seqIndex_of h0 h1,e],by omega,by omega,h1⟩
  ·rw [if_neg h1] at h;cases h
 ·rw [if_neg h0] at h
  by_cases h1:-(n:Int)<=i
  ·rw [if_pos h1] at h;have e:(i+n).toNat=j:=Option.some.inj h;exact ⟨by rw [seqIndex_neg (by omega) h1,e],by omega,h1,by omega⟩
  ·rw [if_neg h1] at h;cases h
def zkn{α:Type}{xs:List α}{i:Int}{v:α}(h:atI xs i=some v):∃j,seqIndex? i xs.length=some j/\xs[j]?=some v/\j<xs.length/\-(xs.length:Int)<=i/\i<xs.length:=by
 unfold atI at h
 cases e:ixN xs.length i with
 | none=>rw [e] at h;cases h
 | some j =>
  rw [e] at h;obtain ⟨h1,h2,h3,h4⟩:=zjK e;exact ⟨j,h1,h,h2,h3,h4⟩
noncomputable def zfq(b:Expr):Prop:=∀o i,subscripted b false o i=operate [o,i] (getItem o i)
noncomputable def IxR(X:Cx)(r:R2):Prop :=
 ∀(value slice:Expr) (pins:Z3) (s:Shared) (σ:St) (H:Hp) (x y:V) (v u:Value) (Q:VK),Inv X pins σ H s->zaV x v->zaV y u->r x y H Q →
  subscripted slice false v u=operate [v,u] (getItem v u)->wpAny (model X.prog X.w) X.A (subscriptTail value slice v u) (EP X pins σ Q) X.xe s
noncomputable def MtR(X:Cx)(id:String)(r:V->List V->Hp->VK->Prop):Prop :=
 ∀(pins:Z3) (s:Shared) (σ:St) (H:Hp) (x:V) (xs:List V) (v:Value) (us:List Value) (Q:VK),Inv X pins σ H s->zaV x v->Vals xs us->r x xs H Q →
  wpAny (model X.prog X.w) X.A (call (.builtin id) (v::us)) (EP X pins σ Q) X.xe s
section
variable{X:Cx}{a b:Expr}{ta tb:TE}{pos:Pos}
def zqv{r:R2}(hr:IxR X r)(ha:PE X a ta)(hb:PE X b tb)(hs:zfq b):PE X (.Subscript a b pos) (tOp r ta tb):=by
 intro pins s σ H Q I h;exact Subscript_ (ztW ha hb I h fun v u s2 x y H2 I2 rx ry q=>hr a b pins s2 σ H2 x y v u Q I2 rx ry q (hs _ _))
noncomputable def zw3(K:PySem.W.Frag):R2:=fun x y H Q=>∃p xs i v,x=.ref p/\y=.int i/\SqL K H p xs/\atI xs i=some v/\Q v H
noncomputable def zw2(K:PySem.W.Frag):R2:=fun x y H Q=>∃p xs i v,x=.ref p/\y=.int i/\SqT K H p xs/\atI xs i=some v/\Q v H
def zjJ:IxR X (zw3 X.K):=by
 intro value slice pins s σ H x y v u Q I rx ry h hs;obtain ⟨p,xs,i,z,rfl,rfl,hq,he,q⟩:=h;cases rx;obtain ⟨t,rfl⟩:=ry;obtain ⟨its,r,pl,hz⟩:=I.list hq;obtain ⟨j,h1,h2,h3,h4,h5⟩:=zkn he;obtain ⟨w,ew,rw'⟩:=r.get h2;have hl:=r.length;have hn:=zf1;have fin:EP X pins σ Q w s:=⟨z,H,I,rw',q⟩
 by_cases h0:0<=i
 ·have hj:i.toNat=j:=by
   rw [seqIndex_of h0 h5] at h1;exact Option.some.inj h1
  exact item_listR pl.isList h0 (by omega) (by rw [hj];simpa using ew) fin hs
 ·have hj:(i+(its.toArray.size:Int)).toNat=j:=by
   rw [seqIndex_neg (by omega) h4] at h1;rw [yaf,<-hl];exact Option.some.inj h1
  exact yca (x:=w) pl.isList.typeIs slot_list_getitem.lookup
   (wpAny_getItem_list_neg (Q:=fun r s'=>r=w/\EP X pins σ Q r s') pl.isList (by omega) (by rw [yaf]<;>omega) (by omega) (by rw [hj];simpa using ew) ⟨rfl,fin⟩) hs
def zrd:IxR X (zw2 X.K):=by
 intro value slice pins s σ H x y v u Q I rx ry h hs;obtain ⟨p,xs,i,z,rfl,rfl,hq,he,q⟩:=h;cases rx;obtain ⟨t,rfl⟩:=ry;obtain ⟨its,r,pl,hz⟩:=I.tuple hq;obtain ⟨j,h1,h2,h3,h4,h5⟩:=zkn he;obtain ⟨w,ew,rw'⟩:=r.get h2;have hl:=r.length;have hn:=zf1;have fin:EP X pins σ Q w s:=⟨z,H,I,rw',q⟩
 exact yca (x:=w) pl.typeIs slot_tuple_getitem.lookup
  (getItem_tuple (j:=j) (Q:=fun r s'=>r=w/\EP X pins σ Q r s') pl (by omega) (by omega) (by rw [yaf,<-hl];exact h1) (by simpa using ew) ⟨rfl,fin⟩) hs
def zh4(its:List Value)(n j:Nat)(u:Value):Obj.mapSeq (·.setIfInBounds j u) { cls:=.type "list",data:=.seq its.toArray n }={ cls:=.type "list",data:=.seq (its.set j u).toArray n }:=by
 simp [Obj.mapSeq]
theorem Inv.lst{pins:Z3}{σ:St}{H:Hp}{s:Shared}{p:Addr}{xs:List V}(I:Inv X pins σ H s)(h:H p=some (.lst xs)) :
  ∃(its:List Value) (n:Nat),Vals xs its/\s.heap.get? p=some { cls:=.type "list",data:=.seq its.toArray n }/\xs.length<=sizeLine:=by
 obtain ⟨z,its,n,r,e⟩:=I.hok p _ h;exact ⟨its,n,r,e,z⟩
def Inv.lstUpd{pins:Z3}{σ:St}{H:Hp}{s:Shared}{p:Addr}{xs ys:List V}{its its':List Value}{n n':Nat}{f:Obj->Obj}(I:Inv X pins σ H s)(h:H p=some (.lst xs))
  (ho:s.heap.get? p=some { cls:=.type "list",data:=.seq its.toArray n }) (hf:f { cls:=.type "list",data:=.seq its.toArray n }={ cls:=.type "list",data:=.seq its'.toArray n' }) (r:Vals ys its') (hz:ys.length<=sizeLine) (t:Nat) :
  Inv X pins σ (upd H p (.lst ys)) { s with heap:=s.heap.update p f,toks:=t }:=by
 have e:(s.heap.update p f).get? p=some { cls:=.type "list",data:=.seq its'.toArray n' }:=by
  rw [ybx f ho (by rw [hf]<;>rfl),hf]
 refine I.write (x:=p) (e:=p) (by rw [h];trivial) (.inl rfl) (fun b u hb q=>(Heap.get?_update_other _ _ (Ne.symm hb)).trans q) ⟨_,e⟩ ?_;exact ⟨hz,its',n',r,e⟩
noncomputable def zs1:V->V->V->Hp->(Hp->Prop)->Prop:=fun o i v H Q=>∃p xs k j,o=.ref p/\i=.int k/\H p=some (.lst xs)/\ixN xs.length k=some j/\Q (upd H p (.lst (xs.set j v)))
def zkT:zsj X zs1:=by
 intro pins s σ H o i v ov iv u Q I ro ri rv h;obtain ⟨p,xs,k,j,rfl,rfl,hp,hj,q⟩:=h;cases ro;obtain ⟨t,rfl⟩:=ri;obtain ⟨its,n,r,ho,hz⟩:=I.lst hp;obtain ⟨h1,h2,h3,h4⟩:=zjK hj;have hl:=r.length;have hn:=zf1
 have I':Inv X pins σ (upd H p (.lst (xs.set j v))) { s with heap:=s.heap.update p (Obj.mapSeq (·.setIfInBounds j u)) } :=
  I.lstUpd hp ho (zh4 its n j u) (r.set rv j) (by rw [yaz];exact hz) s.toks
 by_cases h0:0<=k
 ·have hk:k.toNat=j:=by
   rw [seqIndex_of h0 h4] at h1;exact Option.some.inj h1
  exact PySem.W.ki_setAt ho h0 (by omega) (by rw [yaf,<-hl];exact h4) (by rw [hk];exact ⟨_,I',q⟩)
 ·have hk:(k+(its.toArray.size:Int)).toNat=j:=by
   rw [seqIndex_neg (by omega) h3] at h1;rw [yaf,<-hl];exact Option.some.inj h1
  exact PySem.W.ki_setBack ho (by omega) (by rw [yaf,<-hl];exact h3) (by omega) (by rw [hk];exact ⟨_,I',q⟩)
def zfH(lo hi:Option Int)(n:Nat):(sliceBounds lo hi none n).1=((HT.sIx n 0 lo:Nat):Int)/\(sliceBounds lo hi none n).2.1=((HT.sIx n n hi:Nat):Int)/\(sliceBounds lo hi none n).2.2=1:=by
 refine ⟨?_,?_,rfl⟩
 ·cases lo with
  | none=>simp [sliceBounds,HT.sIx]
  | some i =>
   simp only [sliceBounds,HT.sIx,Option.getD_none,show (1:Int) > 0 by decide,ycB]
   by_cases h:i<0
   ·simp only [h,ycB]<;>omega
   ·simp only [h,ybl]<;>omega
 ·cases hi with
  | none=>simp [sliceBounds,HT.sIx]
  | some i =>
   simp only [sliceBounds,HT.sIx,Option.getD_none,show (1:Int) > 0 by decide,ycB]
   by_cases h:i<0
   ·simp only [h,ycB]<;>omega
   ·simp only [h,ybl]<;>omega
def zeW(its:List Value)(lo hi:Option Int):slicePick its.toArray lo hi none=((its.drop (HT.sIx its.length 0 lo)).take (HT.sIx its.length its.length hi-HT.sIx its.length 0 lo)).toArray:=by
 obtain ⟨h1,h2,h3⟩:=zfH lo hi its.toArray.size;unfold slicePick;rw [h1,h2,h3]
 simp only [sliceRange_one,pick_run,yaf]<;>rfl
noncomputable def zwZ(K:PySem.W.Frag):V->Option Int->Option Int->Hp->VK->Prop:=fun x lo hi H Q=>∃a xs,x=.ref a/\SqL K H a xs/\∀p,H p=none->Q (.ref p) (upd H p (.lst (zmV xs lo hi)))
def znp:SlR X (zwZ X.K):=by
 intro pins s σ H x v vl vu lo hi sl Q I rx hs pl pu h;obtain ⟨a,xs,rfl,hx,q⟩:=h;cases rx;obtain ⟨its,r,ht,hz⟩:=I.list hx;have hlen:=r.length;refine ⟨"list",_,slot_list_getitem.lookup,ht.isList.typeIs,?_⟩;refine wpAny_getItem_list_slice ht.isList hs pl pu .none (by simp) ?_ (by rw [yaf]<;>omega);rw [zeW,<-hlen];refine ⟨.ref s.heap.objs.size,_,I.laid (t':=s.toks) (o:=.lst (zmV xs lo hi)) (fun b ob q=>yae _ q) (yah _) ?_,rfl,q _ (I.hok.fresh (yah _))⟩;exact ⟨yar (zec xs lo hi) hz,_,0,(r.drop (HT.sIx xs.length 0 lo)).take (HT.sIx xs.length xs.length hi-HT.sIx xs.length 0 lo),yao _ rfl⟩
def zcg:zdk X (.builtin "len") (fun xs H Q=>∃p ys,xs=[.ref p]/\(SqL X.K H p ys\/SqT X.K H p ys)/\Q (.int ys.length) H):=by
 intro pins s σ H xs us Q I r h;obtain ⟨p,ys,rfl,hq,q⟩:=h;obtain ⟨u,rfl,rx⟩:=zgo r;cases rx;have hn:=zf1
 rcases hq with hq | hq
 ·obtain ⟨its,r',pl,hz⟩:=I.list hq;have hlen:=r'.length;exact Calls.call_len_list pl.isList (by simp only [yaf]<;>omega) ⟨.int ys.length,H,I.tok _,⟨s.toks+1,by rw [yaf,hlen]⟩,q⟩
 ·obtain ⟨its,r',pl,hz⟩:=I.tuple hq;have hlen:=r'.length;exact len_tuple pl (by simp only [yaf]<;>omega) ⟨.int ys.length,H,I.tok _,⟨s.toks+1,by rw [yaf,hlen]⟩,q⟩
def zge:zdk X (.builtin "len") (fun xs H Q=>∃z,xs=[.str z]/\z.length<=sizeLine/\Q (.int z.length) H):=by
 intro pins s σ H xs us Q I r h;obtain ⟨z,rfl,hz,q⟩:=h;obtain ⟨u,rfl,t,rfl⟩:=zgo r;have hn:=zf1;exact len_str (by omega) ⟨.int z.length,H,I.tok _,⟨_,rfl⟩,q⟩
def zc6:zdk X (.type "tuple") (fun xs H Q=>∃p ys,xs=[.ref p]/\((SqL X.K H p ys/\∀l,H l=none->Q (.ref l) (upd H l (.tup ys)))\/(SqT X.K H p ys/\Q (.ref p) H))):=by
 intro pins s σ H xs us Q I r h;obtain ⟨p,ys,rfl,h⟩:=h;obtain ⟨u,rfl,rx⟩:=zgo r;cases rx
 rcases h with ⟨hq,q⟩ | ⟨hq,q⟩
 ·obtain ⟨its,r',pl,hz⟩:=I.list hq;have hlen:=r'.length;refine call_tuple_list pl.isList (fun h' kp=>?_) (by simp only [yaf]<;>omega);have I1:Inv X pins σ H { s with heap:=h' }:=I.kept (t':=s.toks) kp
  have I2:Inv X pins σ (upd H h'.objs.size (.tup ys)) { s with heap:=h'.push { cls:=.type "tuple",data:=.seq its.toArray } } :=
   I1.laid (t':=s.toks) (fun b o e=>yae _ e) (yah _) (show zbj X.prog X.w _ _ _ (.tup ys) from ⟨hz,its,r',IsTup.new _ _⟩)
  exact ⟨.ref h'.objs.size,_,I2,rfl,q _ (I1.hok.fresh (yah _))⟩
 ·obtain ⟨its,r',pl,hz⟩:=I.tuple hq;exact call_tuple_same pl ⟨.ref p,H,I,rfl,q⟩
noncomputable def tyV(K:PySem.W.Frag)(T:String)(x:V)(H:Hp):Prop:=match x with
 | .str _=>T = "str"
 | .int _=>T = "int"
 | .ref p=>(T = "list" /\ ∃xs,SqL K H p xs)\/(T = "tuple" /\ ∃o,K.lookup p=some o/\o.cls=.type "tuple" /\ o.dict=none) ∨
   (T = "dict" /\ ((∃kvs,H p=some (.dK kvs))\/∃kvs,H p=some (.dT kvs)))\/(T = "set" /\ ∃S n,H p=some (.set S n))
 | _=>False
def zmm{pins:Z3}{σ:St}{H:Hp}{s:Shared}{T:String}{x:V}{v:Value}(I:Inv X pins σ H s)(r:zaV x v)(ty:tyV X.K T x H) :
  s.TypeIs v T/\∀a,v=.ref a->∃ob,s.heap.get? a=some ob/\ob.dict=none:=by
 cases x with
 | str z =>
  obtain ⟨t,rfl⟩:=r;cases (show T = "str" from ty);exact ⟨typeIs_str s z t,fun _ e=>nomatch e⟩
 | int i =>
  obtain ⟨t,rfl⟩:=r;cases (show T = "int" from ty);exact ⟨ycn s i t,fun _ e=>nomatch e⟩
 | ref p =>
  cases r
  rcases ty with ⟨rfl,xs,hq⟩ | ⟨rfl,o,hk,hc,hd⟩ | ⟨rfl,hk⟩ | ⟨rfl,S,n,hk⟩
  ·obtain ⟨its,_,pl,_⟩:=I.list hq;refine ⟨pl.isList.typeIs,fun a e=>?_⟩;cases e;obtain ⟨o,n,e,c,hd,_⟩:=pl;exact ⟨o,e,hd⟩
  ·refine ⟨⟨o,I.kIn p o hk,hc⟩,fun a e=>?_⟩;cases e;exact ⟨o,I.kIn _ o hk,hd⟩
  ·have z:∃o,s.heap.get? p=some o/\o.ExactDict:=by
    rcases hk with ⟨kvs,hk⟩ | ⟨kvs,hk⟩
    ·obtain ⟨_,_,_,_,o,_,_,e,ex,_⟩:=I.hok p _ hk;exact ⟨o,e,ex⟩
    ·obtain ⟨_,_,_,_,o,_,_,e,ex,_⟩:=I.hok p _ hk;exact ⟨o,e,ex⟩
   obtain ⟨o,e,ex⟩:=z;refine ⟨⟨o,e,ex.1⟩,fun a e2=>?_⟩;cases e2;exact ⟨o,e,ex.2.1⟩
  ·obtain ⟨o,_,_,_,e,ex,_⟩:=I.hok p _ hk;refine ⟨⟨o,e,ex.1⟩,fun a e2=>?_⟩;cases e2;exact ⟨o,e,ex.2.1⟩
 | _=>exact False.elim ty
noncomputable def zwV(K:PySem.W.Frag)(T:String)(r:V->List V->Hp->VK->Prop)(to:TE):TE:=fun σ H Q=>to σ H fun x H1=>tyV K T x H1/\r x [] H1 Q
noncomputable def tBM(K:PySem.W.Frag)(T:String)(r:V->List V->Hp->VK->Prop)(to:TE)(t:TA):TE:=fun σ H Q=>to σ H fun x H1=>tyV K T x H1/\t σ H1 fun xs H2=>r x xs H2 Q
variable{o e:Expr}{es:List Expr}{to:TE}{t:TA}{name:Str}{apos cpos:Pos}{T id:String}{r:V->List V->Hp->VK->Prop}
def zqx(pa:PlainAttrs T)(slot:Slot T name id)(hty:typeOf (.builtin id)=pure (.type "method_descriptor"))(hm:MtR X id r)(ho:PE X o to)
  (hbase:attributeBase o name X.env (eval o X.env)=eval o X.env:=by rfl) (hline:(apos.endLine == cpos.line)=true:=by rfl):PE X (.Call (.Attribute o name apos) [] [] cpos) (zwV X.K T r to):=by
 intro pins s σ H Q I h;refine wpAny_Call_method0_late hbase hline (thn (ho pins s σ H _ I h) fun v s1 ⟨x,H1,I1,r1,ty,q1⟩=>?_);obtain ⟨h1,h2⟩:=zmm I1 r1 ty;exact ⟨T,id,pa,slot,hty,h1,h2,Calls.callWith_builtin rfl (PySem.evalArgs_none (hm pins s1 σ H1 x [] v [] Q I1 r1 .nil q1))⟩
def zn0(pa:PlainAttrs T)(slot:Slot T name id)(hty:typeOf (.builtin id)=pure (.type "method_descriptor"))(hm:MtR X id r)(ho:PE X o to)(ha:PA X (e::es) t)
  (hbase:attributeBase o name X.env (eval o X.env)=eval o X.env:=by rfl)
  (hfew:((backTo cpos (starEach (e::es) X.env)).all (fun x=>!x.1)&&(backToKw cpos (keywordEach [] X.env)).all (fun x=>x.1.isSome)
   && decide ((e::es).length+([]:List Keyword).length+(if ([]:List Keyword).isEmpty then 0 else 1)<30))=true:=by rfl)
  (hline:(apos.endLine == cpos.line)=true:=by rfl) (hs:starEach (e::es) X.env=(false,eval e X.env)::starEach es X.env:=by rfl) (hplain:(backTo cpos (starEach es X.env)).any (·.1)=false:=by rfl) :
  PE X (.Call (.Attribute o name apos) (e::es) [] cpos) (tBM X.K T r to t):=by
 intro pins s σ H Q I h;refine wpAny_Call_method_late hbase hfew hline rfl (thn (ho pins s σ H _ I h) fun v s1 ⟨x,H1,I1,r1,ty,q1⟩=>?_);obtain ⟨h1,h2⟩:=zmm I1 r1 ty;refine ⟨T,id,pa,slot,hty,h1,h2,?_⟩;have hA:=ha cpos pins s1 σ H1 _ I1 q1;rw [hs] at hA ⊢;refine Calls.callWith_builtin (by show (false||(backTo cpos (starEach es X.env)).any (·.1))=false;rw [hplain]<;>rfl) (Calls.evalArgs_plain ?_);exact thn hA fun us s2 ⟨vs,H2,I2,r2,q2⟩=>hm pins s2 σ H2 x vs v us Q I2 r1 r2 q2
end
end L2
namespace L2
open PySem PySem.Spec PyProof.Rows
noncomputable def MtM(X:Cx)(id:String)(r:V->List V->Hp->VK->Prop):Prop :=
 ∀(pins:Z3) (s:Shared) (σ:St) (H:Hp) (x:V) (xs:List V) (v:Value) (us:List Value) (Q:VK),Inv X pins σ H s->zaV x v->Vals xs us->r x xs H Q →
  wpAny (model X.prog X.w) X.A (call (.builtin id) (v::us)) (EP X pins σ Q) X.xe s
theorem Vals.one:∀{x:V} {us:List Value},Vals [x] us->∃u,us=[u]/\zaV x u
 | _,_,.cons r .nil=>⟨_,rfl,r⟩
theorem Vals.zero:∀{us:List Value},Vals [] us->us=[]
 | _,.nil=>rfl
theorem Vals.dropLast{xs:List V}{us:List Value}(h:Vals xs us):Vals xs.dropLast us.dropLast:=by
 induction h with
 | nil=>exact .nil
 | cons r t ih =>
  cases t with
  | nil=>exact .nil
  | cons q t'=>exact .cons r ih
theorem Vals.rep{xs:List V}{us:List Value}(h:Vals xs us):∀k:Nat,Vals (List.replicate k xs).flatten (List.replicate k us).flatten
 | 0=>.nil
 | k+1=>by
  rw [ybg,ybg,ybD,ybD];exact Vals.append h (Vals.rep h k)
def zie{α:Type}(l:List α):l.eraseIdx (l.length-1)=l.dropLast:=by
 induction l with
 | nil=>rfl
 | cons a r ih =>
  cases r with
  | nil=>rfl
  | cons b r =>
   have e:(a::b::r).length-1=((b::r).length-1)+1:=by
    have h1:(a::b::r).length=r.length+2:=rfl;have h2:(b::r).length=r.length+1:=rfl;omega
   rw [e,List.eraseIdx_cons_succ,ih]
   all_goals rfl
theorem zd5(its:List Value):∀(k:Nat) (acc:List Value),
  List.foldl (fun x1 x2=>x1++x2) acc.toArray (List.replicate k its.toArray)=(acc++(List.replicate k its).flatten).toArray
 | 0,acc=>by simp
 | k+1,acc=>by
  have e:acc.toArray++its.toArray=(acc++its).toArray:=by simp
  have e2:(acc++its)++(List.replicate k its).flatten=acc++(List.replicate (k+1) its).flatten:=by
   rw [ybg,ybD,ybp]
  rw [<-e2,<-zd5 its k (acc++its),<-e,ybg,ybN]
section
variable{X:Cx}{pins:Z3}{σ:St}{H:Hp}{s:Shared}{l b:Addr}{xs ys zs:List V}
def Inv.lset{its its':List Value}{n:Nat}{f:Array Value->Array Value}{t':Nat}(I:Inv X pins σ H s)(hH:H l=some (.lst xs))
  (e:s.heap.get? l=some { cls:=.type "list",data:=.seq its.toArray n }) (hf:f its.toArray=its'.toArray) (hv:Vals ys its') (hz:ys.length<=sizeLine) :
  Inv X pins σ (upd H l (.lst ys)) { s with heap:=s.heap.update l (Obj.mapSeq f),toks:=t' }:=by
 have q:=PySem.IsL.update e f;rw [hf] at q;refine I.write (x:=l) (e:=l) (by rw [hH];exact trivial) (.inl rfl) (fun b' u hb hu=>(Heap.get?_update_other s.heap (Obj.mapSeq f) (Ne.symm hb)).trans hu) ⟨_,q⟩ ?_;exact ⟨hz,its',_,hv,q⟩
def Inv.lnew{its:List Value}{t':Nat}(I:Inv X pins σ H s)(hv:Vals ys its)(hz:ys.length<=sizeLine) :
  Inv X pins σ (upd H s.heap.objs.size (.lst ys)) { s with heap:=s.heap.push { cls:=.type "list",data:=.seq its.toArray },toks:=t' } :=
 I.laid (fun _ _ q=>yae _ q) (yah _) ⟨hz,its,0,hv,yao _ rfl⟩
theorem Inv.fresh(I:Inv X pins σ H s):H s.heap.objs.size=none:=I.hok.fresh (yah _)
def Inv.lstM(I:Inv X pins σ H s)(hH:H l=some (.lst xs)):xs.length<=sizeLine/\∃(its:List Value) (n:Nat),Vals xs its/\xs.length=its.length/\s.heap.get? l=some { cls:=.type "list",data:=.seq its.toArray n }:=by
 obtain ⟨z,its,n,r,e⟩:=I.hok l _ hH;exact ⟨z,its,n,r,r.length,e⟩
def zhs{n:Nat}(h:n<=sizeLine):Builtin.List.listTooLong n=false:=by
 unfold Builtin.List.listTooLong;exact yau (by omega)
end
section
variable{X:Cx}
noncomputable def znJ:V->List V->Hp->VK->Prop:=fun x vs H Q=>∃l xs y,x=.ref l/\vs=[y]/\H l=some (.lst xs)/\xs.length<sizeLine/\Q .non (upd H l (.lst (xs++[y])))
def zjv:MtM X "list.append" znJ:=by
 intro pins s σ H x vs v us Q I rx rv h;obtain ⟨l,xs,y,rfl,rfl,hH,hz,q⟩:=h;cases rx;obtain ⟨u,rfl,ru⟩:=rv.one;obtain ⟨z,its,n,r,hl,e⟩:=I.lstM hH;refine yb0 F.slot_list_append ⟨_,e,rfl⟩ F.entry_list_append (F.args_list_append_2 _ _) (PySem.list_append l its.toArray n u (by rw [yaf];omega)) ⟨e,?_⟩;refine ⟨.non,_,I.lset (its':=its++[u]) hH e (by simp) (r.append (.cons ru .nil)) ?_,rfl,q⟩;rw [yal,ya6];omega
noncomputable def znI:V->List V->Hp->VK->Prop:=fun x vs H Q=>∃l b xs zs,x=.ref l/\vs=[.ref b]/\H l=some (.lst xs)/\H b=some (.lst zs)/\xs.length+zs.length<=sizeLine/\Q .non (upd H l (.lst (xs++zs)))
def zju:MtM X "list.extend" znI:=by
 intro pins s σ H x vs v us Q I rx rv h;obtain ⟨l,b,xs,zs,rfl,rfl,hH,hB,hz,q⟩:=h;cases rx;obtain ⟨u,rfl,ru⟩:=rv.one;cases ru;obtain ⟨z,its,n,r,hl,e⟩:=I.lstM hH;obtain ⟨z2,its2,n2,r2,hl2,e2⟩:=I.lstM hB
 have hsz:its.toArray.size+its2.toArray.size<=sizeLine:=by rw [yaf,yaf];omega
 have hlong:¬ (!its.toArray.isEmpty&&Builtin.List.listTooLong (its.toArray.size+its2.toArray.size))=true:=by
  rw [zhs hsz,Bool.and_false];exact yaH
 refine yb0 F.slot_list_extend ⟨_,e,rfl⟩ F.entry_list_extend (F.args_list_extend_2 _ _)
  (AutoSeq1.list_extend_list_list_0 l its.toArray n b its2.toArray n2 hlong (by rw [yaf];omega) (by omega)) ⟨e,e2,?_⟩
 refine ⟨.non,_,I.lset (its':=its++its2) hH e (by simp) (r.append r2) ?_,rfl,q⟩;rw [yal];omega
noncomputable def zw1:V->List V->Hp->VK->Prop:=fun x vs H Q=>∃l xs y,x=.ref l/\vs=[]/\H l=some (.lst xs)/\xs[xs.length-1]?=some y/\Q y (upd H l (.lst xs.dropLast))
def zqV:MtM X "list.pop" zw1:=by
 intro pins s σ H x vs v us Q I rx rv h;obtain ⟨l,xs,y,rfl,rfl,hH,hy,q⟩:=h;cases rx;have hus:=rv.zero;subst hus;obtain ⟨z,its,n,r,hl,e⟩:=I.lstM hH;obtain ⟨u,hu,ru⟩:=r.get hy
 have hy':its.toArray[its.toArray.size-1]?=some u:=by
  show its.toArray[its.length-1]?=some u;rw [<-ycg,<-hl];exact hu
 refine yb0 F.slot_list_pop ⟨_,e,rfl⟩ F.entry_list_pop (F.args_list_pop_1 _) (MeetsSeq.list_pop_last l its.toArray n u hy' (by rw [yaf];omega)) ⟨e,?_⟩;refine ⟨y,_,I.lset (its':=its.dropLast) hH e ?_ r.dropLast ?_,ru,q⟩
 ·show its.toArray.eraseIdxIfInBounds (its.toArray.size-1)=its.dropLast.toArray;rw [yaf,List.eraseIdxIfInBounds_toArray,zie]
 ·rw [List.length_dropLast];omega
noncomputable def zw4:R2:=fun x y H Q=>∃l b xs zs,x=.ref l/\y=.ref b/\H l=some (.lst xs)/\H b=some (.lst zs)/\xs.length+zs.length<=sizeLine/\∀p,H p=none->Q (.ref p) (upd H p (.lst (xs++zs)))
def zqD:OpR X (binaryOp .Add) zw4:=by
 intro pins s σ H x y v u Q I rx ry h;obtain ⟨l,b,xs,zs,rfl,rfl,hH,hB,hz,q⟩:=h;cases rx;cases ry;obtain ⟨z,its,n,r,hl,e⟩:=I.lstM hH;obtain ⟨z2,its2,n2,r2,hl2,e2⟩:=I.lstM hB;refine PySem.P.add_list e e2 ?_ (by rw [yaf,yaf];omega)
 have ea:its.toArray++its2.toArray=(its++its2).toArray:=by simp
 rw [ea];exact ⟨.ref _,_,I.lnew (t':=s.toks) (r.append r2) (by rw [yal];omega),rfl,q _ I.fresh⟩
noncomputable def zw0:R2:=fun x y H Q=>∃l k xs,x=.ref l/\y=.int k/\H l=some (.lst xs)/\-(2 ^ 63)<=k/\k<2 ^ 63/\xs.length*k.toNat<=sizeLine ∧
 ∀p,H p=none->Q (.ref p) (upd H p (.lst (List.replicate k.toNat xs).flatten))
def zgH{α:Type}(xs:List α)(k:Nat):(List.replicate k xs).flatten.length=k*xs.length:=by
 induction k with
 | zero=>simp
 | succ k ih=>rw [ybg,ybD,yal,ih,Nat.succ_mul,Nat.add_comm]
def zmE:OpR X (binaryOp .Mult) zw0:=by
 intro pins s σ H x y v u Q I rx ry h;obtain ⟨l,k,xs,rfl,rfl,hH,h1,h2,hz,q⟩:=h;cases rx;obtain ⟨t,rfl⟩:=ry;obtain ⟨z,its,n,r,hl,e⟩:=I.lstM hH
 have hlen:its.toArray.size*k.toNat<=sizeLine:=by rw [yaf,<-hl];exact hz
 have hcap:¬ its.toArray.size*k.toNat > (2 ^ 63-1) / 8:=by
  have:(sizeLine:Nat)<=(2 ^ 63-1) / 8:=by decide
  omega
 have hfit:¬ (!Builtin.List.listFitsIndex k)=true:=by
  rw [fitsIndex_both h1 h2];exact yaH
 have hlong:¬ Builtin.List.listTooLong (its.toArray.size*k.toNat)=true:=by
  rw [zhs hlen];exact yaH
 have hnew:List.foldl (fun x1 x2=>x1++x2) #[] (List.replicate (if its.toArray.isEmpty=true then 0 else k.toNat) its.toArray)=(List.replicate k.toNat its).flatten.toArray:=by
  have f0:∀m:Nat,List.foldl (fun x1 x2=>x1++x2) #[] (List.replicate m its.toArray)=(List.replicate m its).flatten.toArray:=fun m=>by
   have:=zd5 its m [];rwa [List.nil_append] at this
  rw [f0]
  cases its with
  | nil=>simp
  | cons a r'=>rw [if_neg (by simp)]
 refine ybW (T:="list") (U:="int") (by decide) ⟨_,e,rfl⟩ (fun s'=>ycn s' k t) noFill_list_mul F.fills_int_mul ybO repeat_list F.slot_int_index.lookup
  (yb0 ybO (ycn s k t) F.entry_int_rmul (ycE _ _) (int___rmul___int_list k t l its.toArray n)
   ⟨e,rfl,⟨_,e,rfl⟩,yb0 F.slot_list_mul ⟨_,e,rfl⟩ F.entry_list_mul (F.args_list_mul_2 _ _) (AutoListH.list___mul___list_int_3 l its.toArray n k t hfit hcap hlong) ⟨e,?_⟩⟩)
 rw [hnew];exact ⟨.ref _,_,I.lnew (t':=s.toks) (r.rep k.toNat) (by rw [zgH,Nat.mul_comm];exact hz),rfl,q _ I.fresh⟩
end
section
variable{prog:Program}{w:World}{A:Around}{E:Z5}{s:Shared}
end
section
variable{X:Cx}
end
end L2
namespace Att
open PySem PySem.W PySem.Calls PyProof.Rows
def zd1{P:Params}{h:Heap}:∀(ns:List Int) (vs:List Value),WellAll P h vs (ns.map WData.int)->IntsAre vs ns:=by
 intro ns
 induction ns with
 | nil =>
  intro vs w;rw [List.map_nil] at w;cases w;exact .nil
 | cons n ns ih =>
  intro vs w;rw [yat] at w
  cases w with
  | cons a b =>
   cases a;exact .cons _ _ (ih _ b)
def ziM{l:OpenLaw}{n:Nat}(hn:l.most=some n){P:Params}{h:Heap}{args:List WData}{vals:List Value}
  (hpre:l.row.toRowW.claim.pre args=true) (hwl:WellAll P h vals args) :
  ∃a vs ns,vals=[Value.ref a]/\args=[WData.list (ns.map WData.int)]/\h.get? a=some { cls:=.type "list",data:=.seq vs.toArray }/\IntsAre vs ns/\ns.length<=n:=by
 have hsh:WShape.hasAll [] args [.list .int]=true:=(pre_splitW hpre).1;have hc:l.pre.holds [] { args:=args }=true:=(pre_splitW hpre).2;obtain ⟨d,r,rfl,h1,h2⟩:=hasAllW_cons hsh;obtain rfl:=hasAllW_nil h2;obtain ⟨xs,rfl,h3⟩:=hasW_list h1;obtain ⟨ns,rfl⟩:=items_int h3
 have hlen:ns.length<=n:=by
  unfold OpenLaw.pre at hc
  have h4:(WTm.not (.lt (.lit (.int (n:Int))) (.len (.arg 0)))).holds [] { args:=[.list (ns.map .int)] }=true:=by
   have h4:=(holds_andW hc).1;rwa [hn] at h4
  have h5:=condW_of h4 (w_not (w_lt w_lit (w_len_list (w_arg rfl))));rw [yad] at h5;refine Nat.le_of_not_lt fun q=>?_
  have q':(n:Int)<((ns.length:Nat):Int):=by omega
  first
   | (rw [yan q'] at h5;exact absurd h5 (by decide))
   | (simp at h5;omega)
 cases hwl with
 | cons w1 w2 =>
  cases w2
  cases w1 with
  | list ho hall=>exact ⟨_,_,ns,rfl,rfl,ho,zd1 ns _ hall,hlen⟩
def zi6(l:OpenLaw)(args:List WData):l.row.toRowW.claim.post args (.bool true) args=true :=
 postW_of (r:=l.row.toRowW) (X:=(true == true))
  (show WShape.has [] (.bool true) .bool=true by first | rfl | decide | simp [WShape.has,WShape.arms,WShape.armsAll])
  (show (WTm.eq .res (.lit (.bool true))).value [] { args:=args,res:=some (.bool true),after:=args }=some (.bool (true == true)) from w_eq_bool (w_res rfl) w_lit) rfl
def zgV{l:OpenLaw}{n:Nat}{q:Program}{loose:List Str}{XP:(Str->Option Value)->Heap->Prop}{YP:World->Heap->Prop}{d:DefRec}
  (hn:l.most=some n) (hdf:d.params.defaults=[])
  (call:∀(w:World) (s₀ s₁:Shared) (mg mb:Z6) (fa:Addr) (o:Obj) (pm cd doc:Value) (a:Addr) (vs:List Value) (ns:List Int),
   Ground q loose [] XP w s₀ mg mb s₁.heap->YP w s₁.heap →
   s₁.heap.get? fa=some o->o.data=.func (docDef d.name d.params d.body d.scope pm cd doc)->s₁.heap.CodeRec cd d.name->mg d.name=some (.ref fa) →
   s₁.heap.get? a=some { cls:=.type "list",data:=.seq vs.toArray }->IntsAre vs ns->ns.length<=n->s₁.gens=#[] →
   codeAny (model l.prog w) callerA (.call (.ref fa) ⟨[.ref a],[]⟩) (fun r s'=>r=.ok (.ret (.bool true))/\OldK s₁.heap s'.heap/\s'.os=s₁.os/\AllBare s'.gens) s₁) :
  WalkO q loose XP YP l.row.toRowW d [] (fun f vs=>PySem.call f vs):=by
 intro w s₀ s₁ mg mb G Y fa o pm cd doc dV kV ho hd hcd hD hmg hg args vals as hpre hlay hrd hwl hlo;obtain rfl:dV=.none:=Dflts.none hD hdf;obtain rfl:kV=.none:=Dflts.noKw hD;obtain ⟨a,vs,ns,rfl,rfl,hobj,hints,hlen⟩:=ziM hn hpre hwl;refine enter_call (ycv (call w s₀ s₁ mg mb fa o pm cd doc a vs ns G Y ho (fd_plain hd) hcd hmg hobj hints hlen hg) fun r s' hq=>?_);obtain ⟨rfl,h2,h3,h4⟩:=hq;exact ⟨.inl ⟨.bool true,.bool true,[],rfl,fun _=>rfl,.bool true,zi6 l _,fun _=>⟨List.Pairwise.nil,fun _ hm=>(nomatch hm)⟩⟩,h2,h3,h4⟩
section
variable{prog:Program}{w:World}{A:Around}{E:Z5}{s:Shared}{K:Frag}
end
end Att
namespace L2
open PySem PySem.Spec PyProof.Rows
theorem zfw:∀{vs:List Value} {ns:List Int},IntsAre vs ns->Vals (ns.map V.int) vs
 | _,_,.nil=>.nil
 | _,_,.cons n t h=>.cons ⟨t,rfl⟩ (zfw h)
noncomputable def zsk(H:Hp):Prop:=∀b,H b=none\/∃o xs,H b=some (.frz o (.lst xs))
def zlI{P:Program}{w:World}{K:PySem.W.Frag}{mg mb:Z6}{CX:CXT}{k:Nat}{fa a:Addr}{fd:FuncData}{x:Str}{sp:Sp}{s₁:Shared}{vs:List Value}{ns:List Int}
  (KX:K.In s₁.heap) (hns:s₁.heap.Ns mainGlobals mg) (hb:s₁.heap.Ns builtinsNs mb) (hbb:∀x:Str,x ≠ "__name__" -> mb x=bootBuiltins x) (hlim:s₁.heap.NoLimit) (hg:s₁.gens=#[])
  (ha:s₁.heap.get? a=some { cls:=.type "list",data:=.seq vs.toArray }) (hi:IntsAre vs ns) (hl:ns.length<=sizeLine) (hr:Room k callerA)
  (F:∀base:Heap,K.In base->base.Ns mainGlobals mg->FnOk P w K mg base CX k fa fd [x] sp) (hbind:∀(s:Shared) (u:Value),BindsTo s fd ⟨[u],[]⟩ [(x,u)])
  (hsp:∀H:Hp,zsk H->SqL K H a (ns.map V.int)->sp [.ref a] H (fun v _=>v=.bl true) fun _ _ _=>False)
  (hCX:∀H e s',CX [] H s₁ (fun _ _ _=>False) e s'->False) :
  codeAny (model P w) callerA (.call (.ref fa) ⟨[.ref a],[]⟩) (fun r s'=>r=.ok (.ret (.bool true))/\OldK s₁.heap s'.heap/\s'.os=s₁.os/\AllBare s'.gens) s₁:=by
 have rv:=zfw hi;have lenV:=hi.length
 have core:∀H:Hp,zsk H->SqL K H a (ns.map V.int)->HOk P w H s₁.heap->(∀b,H b≠none->b=a)->(H a≠none->K.lookup a=none) →
   codeAny (model P w) callerA (.call (.ref fa) ⟨[.ref a],[]⟩) (fun r s'=>r=.ok (.ret (.bool true))/\OldK s₁.heap s'.heap/\s'.os=s₁.os/\AllBare s'.gens) s₁:=by
  intro H hO hS hok hA hK;have zcK:∀{b:Addr} {o:Obj},s₁.heap.get? b=some o->H b=none->(zlT s₁.heap H).get? b=some o:=fun e n=>zlS e n
  have noA:∀{b:Addr} {o:Obj} {es:Array DictEntry} {ep:Nat},s₁.heap.get? b=some o->o.data=.dict es ep->H b=none:=fun {b o es ep} e d=>by
   cases q:H b with
   | none=>rfl
   | some u =>
    have e':b=a:=hA b (by rw [q];simp);subst e';rw [ha] at e;cases e;have d':Data.seq vs.toArray _=Data.dict es ep:=d;cases d'
  have nsK:∀{b:Addr} {m:Z6},s₁.heap.Ns b m->(zlT s₁.heap H).Ns b m:=fun {b m} ⟨o,es,ep,e,d,r⟩=>⟨o,es,ep,zcK e (noA e d),d,r⟩
  have hKb:K.In (zlT s₁.heap H):=fun b o e=>zcK (KX b o e) (by
   cases q:H b with
   | none=>rfl
   | some u =>
    have e':b=a:=hA b (by rw [q];simp);subst e'
    rw [hK (by rw [q];simp)] at e;cases e)
  have hM:Mod K mg (zlT s₁.heap H):=⟨hKb,nsK hns,⟨mb,nsK hb,hbb⟩,let ⟨mc,h1,h2⟩:=hlim;⟨mc,nsK h1,h2⟩⟩;have e0:Env0 P w K mg (zlT s₁.heap H) callerA [] s₁ H:=⟨rfl,hM,fun b o e=>zn8 e,Nat.le_of_eq (zjU _ _),trivial,fun b hb=>absurd (show b∈([]:List Addr) from hb) (by simp),hok,.of_eq hg⟩;refine ycv ((F _ hKb (nsK hns)).run callerA [] s₁ H ⟨[.ref a],[]⟩ [.ref a] [.ref a] _ _ hr e0 (hbind s₁ (.ref a)) (.cons rfl .nil) (hsp H hO hS)) fun r s' h=>?_
  cases r with
  | error e=>exact (hCX H e s' h).elim
  | ok fl =>
   cases fl with
   | next=>exact False.elim h
   | brk=>exact False.elim h
   | cont=>exact False.elim h
   | ret u =>
    obtain ⟨v,H',os,bare,un,hok',r',q⟩:=h;have q':v=.bl true:=q;subst q';obtain rfl:u=Value.bool true:=r';refine ⟨rfl,OldK.of_keep fun b o e=>?_,os,bare⟩
    cases q:H b with
    | none=>exact un.keep b o e q (by intro z;exact absurd (show b∈([]:List Addr) from z) (by simp)) (by simp)
    | some u =>
     rcases hO b with z | ⟨ob,xs,z⟩
     ·rw [q] at z;cases z
     ·have z2:=un.frzs b ob _ z;obtain ⟨e1,_⟩:=hok b _ z;obtain ⟨e2,_⟩:=hok' b _ z2;rw [e] at e1;cases e1;exact e2
 cases hk:K.lookup a with
 | some o =>
  have e:=KX a o hk;rw [ha] at e;cases e;refine core (fun _=>none) (fun _=>.inl rfl) (.inr ⟨_,vs.toArray,_,hk,rfl,rfl,rfl,by rw [yaf,lenV];exact hl,by simpa using rv⟩) (fun b u z=>by have z':(none:Option HO)=some u:=z;cases z') (fun b z=>absurd rfl z) fun z=>absurd rfl z
 | none =>
  refine core (fun b=>if b=a then some (.frz { cls:=.type "list",data:=.seq vs.toArray } (.lst (ns.map V.int))) else none) (fun b=>?_) (.inl (.inr ⟨{ cls:=.type "list",data:=.seq vs.toArray },if_pos rfl⟩)) (fun b u z=>?_) (fun b z=>?_) fun _=>hk
  ·by_cases hb:b=a
   ·exact .inr ⟨_,_,if_pos hb⟩
   ·exact .inl (if_neg hb)
  ·by_cases hb:b=a
   ·have z':=(if_pos hb).symm.trans z;cases z';subst hb;exact ⟨ha,by rw [yad];exact hl,vs,_,rv,ha⟩
   ·have z':=(if_neg hb).symm.trans z;cases z'
  ·by_cases hb:b=a
   ·exact hb
   ·exact absurd (if_neg hb) z
end L2
namespace L2
open PySem PySem.Spec PyProof.Rows
def zm3{l:PySem.W.OpenLaw}{n k:Nat}{q:Program}{loose:List Str}{XP:(Str->Option Value)->Heap->Prop}{YP:World->Heap->Prop}{d:DefRec}{K:Params->PySem.W.Frag}{CX:World->CXT}{sp:World->Sp}{x:Str}
  (hn:l.most=some n) (hn2:n<=sizeLine) (hdf:d.params.defaults=[]) (hr:Room k callerA)
  (hY:∀(w:World) (h:Heap),YP w h->(K w.params).In h)
  (F:∀(w:World) (mg:Z6) (fa:Addr) (h:Heap),(K w.params).In h->h.Ns mainGlobals mg->mg d.name=some (.ref fa) →
   ∃fd:FuncData,(∀(s:Shared) (u:Value),BindsTo s fd ⟨[u],[]⟩ [(x,u)]) ∧
    ∀base:Heap,(K w.params).In base->base.Ns mainGlobals mg->FnOk l.prog w (K w.params) mg base (CX w) k fa fd [x] (sp w))
  (hsp:∀(w:World) (H:Hp) (a:Addr) (ns:List Int),ns.length<=n->zsk H->SqL (K w.params) H a (ns.map V.int)->sp w [.ref a] H (fun v _=>v=.bl true) fun _ _ _=>False)
  (hCX:∀(w:World) (H:Hp) (s:Shared) (e:Value) (s':Shared),CX w [] H s (fun _ _ _=>False) e s'->False) :
  PySem.W.WalkO q loose XP YP l.row.toRowW d [] (fun f vs=>PySem.call f vs):=by
 refine Att.zgV hn hdf fun w s₀ s₁ mg mb fa o pm cd doc a vs ns G Y ho hd hcd hmg hobj hints hlen hg=>?_
 have KX:=hY w _ Y;obtain ⟨fd,hb,hF⟩:=F w mg fa _ KX G.T.g hmg;exact zlI KX G.T.g G.T.b G.T.builtins G.T.nolimit hg hobj hints (yar hlen hn2) hr hF hb (fun H hO hS=>hsp w H a ns hlen hO hS) fun H e s'=>hCX w H s₁ e s'
end L2
namespace L2
open PySem PySem.Spec PyProof.Rows
noncomputable def zbL(s:Stmt):Arguments:=match s with
 | .FunctionDef _ a _ _ _ _ _ _ _ _=>a
 | _=>{ posonlyargs:=[],args:=[],vararg:=none,kwonlyargs:=[],kw_defaults:=[],kwarg:=none,defaults:=[] }
noncomputable def zbB(s:Stmt):List Stmt:=match s with
 | .FunctionDef _ _ b _ _ _ _ _ _ _=>b
 | _=>[]
noncomputable def zab(s:Stmt):Scope:=match s with
 | .FunctionDef _ _ _ _ _ _ sc _ _ _=>sc
 | _=>{ kind:=.function,names:=[],isGenerator:=false,isCoroutine:=false }
structure Fun(K:PySem.W.Frag)(x qual:Str)(st:Stmt)(f:Addr)(fd:FuncData):Prop where
 ex:∃(oc:Value) (od:Option Addr) (kV doc pm:Value) (an:Option Addr) (cdv ct:Value) (osl:Array (Option Value)),
  fd=PySem.W.fnOf x qual (zbL st) (zbB st) (zab st) .none kV doc pm an cdv ct/\K.lookup f=some ⟨oc,od,.func fd,osl⟩/\PySem.W.codeIn K cdv qual=true
 kp:PySem.W.keepIn K (.ref f)=true
section
variable{P:Program}{w:World}{K:PySem.W.Frag}{mg:Z6}{base:Heap}
def Fun.binds{x qual:Str}{st:Stmt}{f:Addr}{fd:FuncData}{ps:List Str}(F:Fun K x qual st f fd)
  (h:∀(kV doc pm:Value) (an:Option Addr) (cdv ct:Value) (us:List Value),us.length=ps.length->bindArgs (PySem.W.fnOf x qual (zbL st) (zbB st) (zab st) .none kV doc pm an cdv ct) ⟨us,[]⟩=pure (ps.zip us)):zcq K fd ps []:=by
 obtain ⟨oc,od,kV,doc,pm,an,cdv,ct,osl,rfl,lk,hcd⟩:=F.ex;exact .all (h kV doc pm an cdv ct)
def zmQ{x qual:Str}{st:Stmt}{f:Addr}{oc:Value}{od an:Option Addr}{osl:Array (Option Value)}{kV doc pm cdv ct:Value}(l:K.lookup f=some ⟨oc,od,.func (PySem.W.fnOf x qual (zbL st) (zbB st) (zab st) .none kV doc pm an cdv ct),osl⟩)
  (c:PySem.W.codeIn K cdv qual=true) (k:PySem.W.keepIn K (.ref f)=true):Fun K x qual st f (PySem.W.fnOf x qual (zbL st) (zbB st) (zab st) .none kV doc pm an cdv ct):=⟨⟨oc,od,kV,doc,pm,an,cdv,ct,osl,rfl,l,c⟩,k⟩
end
section
variable{X:Cx}
end
def zlP{A B:Prop}(h:B):if false=true then A else B:=by
 rw [if_neg yaH];exact h
def zlO{A B:Prop}(h:A):if true=true then A else B:=by
 rw [if_pos rfl];exact h
end L2
namespace L2
open PySem PySem.Spec PyProof.Rows
def zik{scope:Scope}{env:Env}(h:∀y∈scope.names,y.2=.free->∃c,env.cells.lookup y.1=some c) :
  ∃cl,closureFor scope env=pure cl/\(∀y c,cl.lookup y=some c->env.cells.lookup y=some c)/\∀y,(y,NameKind.free)∈scope.names->∃c,cl.lookup y=some c:=by
 unfold closureFor
 have key:∀(l:List (Str×NameKind)) (cs:List (Str×Addr)),(∀y∈l,y.2=.free->∃c,env.cells.lookup y.1=some c)->(∀y c,cs.lookup y=some c->env.cells.lookup y=some c) →
   ∃cl,(forIn l cs fun (x:Str×NameKind) (r:List (Str×Addr))=>(if (x.2 == NameKind.free)=true then (do let c ← cellOf env x.1;pure (ForInStep.yield ((x.1,c)::r))) else pure (ForInStep.yield r):Sem (ForInStep (List (Str×Addr)))))=pure cl ∧
    (∀y c,cl.lookup y=some c->env.cells.lookup y=some c)/\(∀y,(y,NameKind.free)∈l->∃c,cl.lookup y=some c)/\(∀y c,cs.lookup y=some c->∃c',cl.lookup y=some c'):=by
  intro l
  induction l with
  | nil=>intro cs _ hc;exact ⟨cs,rfl,hc,fun y hy=>by simp at hy,fun y c e=>⟨c,e⟩⟩
  | cons p l ih =>
   intro cs hl hc;obtain ⟨n,k⟩:=p
   by_cases hk:(k == NameKind.free)=true
   ·have ek:k=.free:=eq_of_beq hk;obtain ⟨c,ec⟩:=hl (n,k) yaB ek
    obtain ⟨cl,e1,e2,e3,e4⟩:=ih ((n,c)::cs) (fun y hy=>hl y (yaA _ hy)) (fun y c' e=>by
     rw [yax] at e
     cases hq:y == n with
     | true=>rw [hq] at e;cases e;rw [eq_of_beq hq];exact ec
     | false=>rw [hq] at e;exact hc y c' e)
    refine ⟨cl,?_,e2,fun y hy=>?_,fun y c' e=>?_⟩
    ·rw [yb4];show ((if (k == NameKind.free)=true then _ else _) >>= _)=_;rw [if_pos hk]
     have ecell:cellOf env n=pure c:=by unfold cellOf;rw [ec]
     show (cellOf env n >>= _) >>= _=_;rw [ecell];simpa using e1
    ·rcases yas.mp hy with z | hy
     ·cases z;exact e4 n c (by rw [yax];simp)
     ·exact e3 y hy
    ·cases hq:y == n with
     | true=>exact e4 y c (by rw [yax,hq])
     | false=>exact e4 y c' (by rw [yax,hq];exact e)
   ·obtain ⟨cl,e1,e2,e3,e4⟩:=ih cs (fun y hy=>hl y (yaA _ hy)) hc;refine ⟨cl,?_,e2,fun y hy=>?_,e4⟩
    ·rw [yb4];show ((if (k == NameKind.free)=true then _ else _) >>= _)=_;rw [if_neg hk];simpa using e1
    ·rcases yas.mp hy with z | hy
     ·cases z;exact absurd rfl hk
     ·exact e3 y hy
 obtain ⟨cl,e1,e2,e3,_⟩:=key scope.names [] h (fun y c e=>by simp at e);refine ⟨cl,?_,e2,e3⟩;show ((forIn scope.names [] _:Sem (List (Str×Addr))) >>= _)=_;have e1':=congrArg (fun m=>m >>= (pure:List (Str×Addr)->Sem (List (Str×Addr)))) e1;simpa using e1
noncomputable def PIf(X:Cx)(ifs:List Expr)(t:TT):Prop :=
 ∀(pins:Z3) (s:Shared) (σ:St) (H:Hp) (Q:Bool->Hp->Prop),Inv X pins σ H s->t σ H Q →
  wpAny (model X.prog X.w) X.A (forIn ifs true fun c r=>if r=true then do let ok ← isTrue c X.env (eval c X.env);pure (ForInStep.yield ok) else pure (ForInStep.yield r)) (TP X pins σ Q) X.xe s
noncomputable def zwM:TT:=fun _ H Q=>Q true H
def znX{X:Cx}:PIf X [] zwM:=fun _ _ _ H _ I h=>wpAny_tests_nil ⟨H,I,h⟩
def znW{X:Cx}{c:Expr}{t:TT}(h:PT X c t):PIf X [c] t:=fun pins s σ H Q I hw=>wpAny_tests_one (h pins s σ H Q I hw)
theorem zdm{scope:Scope}{env:Env}:∀{names:List (Str×NameKind)} {y:Str},(y,NameKind.free)∈names->(∀z∈names,z.1=y->z.2=.free) →
  (names.map fun (n,k)=>if (k == NameKind.free&&env.scope.kind == .function&&env.kindOf n == some .cell) then (n,NameKind.cell) else (n,k)).lookup y=some .cell ∨
  (names.map fun (n,k)=>if (k == NameKind.free&&env.scope.kind == .function&&env.kindOf n == some .cell) then (n,NameKind.cell) else (n,k)).lookup y=some .free
 | [],_,h,_=>by simp at h
 | (n,k)::r,y,h,u=>by
  rw [yat];show List.lookup y ((if (k == NameKind.free&&env.scope.kind == .function&&env.kindOf n == some .cell)=true then (n,NameKind.cell) else (n,k))::_)=_\/List.lookup y ((if (k == NameKind.free&&env.scope.kind == .function&&env.kindOf n == some .cell)=true then (n,NameKind.cell) else (n,k))::_)=_
  cases hq:y == n with
  | true =>
   have e:n=y:=(eq_of_beq hq).symm;have ek:k=.free:=u (n,k) yaB e
   by_cases hc:(k == NameKind.free&&env.scope.kind == .function&&env.kindOf n == some .cell)=true
   ·rw [if_pos hc];left;simp [yax,hq]
   ·rw [if_neg hc];right;simp [yax,hq,ek]
  | false =>
   have hy:(y,NameKind.free)∈r:=by
    rcases yas.mp h with z | z
    ·cases z;simp at hq
    ·exact z
   have ih:=zdm (scope:=scope) (env:=env) hy fun z hz=>u z (yaA _ hz)
   by_cases hc:(k == NameKind.free&&env.scope.kind == .function&&env.kindOf n == some .cell)=true
   ·rw [if_pos hc];simpa [yax,hq] using ih
   ·rw [if_neg hc];simpa [yax,hq] using ih
def Inv.track{X:Cx}{pins:Z3}{σ:St}{H:Hp}{s:Shared}{D:Addr}{o:HO}(I:Inv X pins σ H s)(hn:H D=none)(h1:X.s₀.heap.objs.size<=D)(h2:D≠X.env.locals)(h3:∀x c,X.env.cells.lookup x=some c->c≠D)(h4:∀p∈X.pn++pins,p.1≠D)
  (new:zbj X.prog X.w (upd H D o) s.heap D o):Inv X pins σ (upd H D o) s:=by
 have nD:∀b u,H b=some u->b≠D:=fun b u e=>zap e hn
 obtain ⟨h',g',d',t',o'⟩:=s;refine I.step (h':=h') (g':=g') (d':=d') (t':=t') (ch:=[D]) (fun b hb=>?_) (fun b o _ _ _ e _=>e) (fun b o _ _ _ e _=>⟨o.slots,e⟩) (fun b o hc e n=>?_) (fun b o _ e=>⟨o,e⟩) (fun b xs e=>?_) (fun b o u e=>?_) (fun b ps e=>?_) (fun m hm=>hm) (fun b u e=>?_) I.bare
 ·have e:b=D:=by simpa using hb
  subst e;exact ⟨.inr h1,h2,h3,h4⟩
 ·rw [zaf (fun z=>hc (by simp [z]))];exact n
 ·rw [zaf (nD _ _ e)];exact e
 ·rw [zaf (nD _ _ e)];exact e
 ·exact ⟨#[],by rw [zaf (nD _ _ e),e];simp⟩
 ·by_cases hb:b=D
  ·subst hb;rw [zay] at e;cases e;exact new
  ·rw [zaf hb] at e
   exact (I.hok b u e).stay (fun _ _ _ q=>q) (fun c q=>by rw [zaf (nD _ _ q)];exact q) fun c xs q=>by rw [zaf (nD _ _ q)];exact q
section
variable{X:Cx}{elt iter:Expr}{x:Str}{px pos:Pos}{ifs:List Expr}{scope:Scope}{caps:List (Str×Nat)}{wi:TI}{tt:TT}{te:TE}
noncomputable abbrev lob(its:List Value)(k:Nat):Obj:={ cls:=.type "list",data:=.seq its.toArray k }
end
end L2
namespace L2
open PySem PySem.Spec PyProof.Rows
section
variable{X:Cx}{elt iter:Expr}{x:Str}{px pos:Pos}{ifs:List Expr}{scope:Scope}{caps:List (Str×Nat)}{wi:TI}{tt:TT}{te:TE}
end
end L2
namespace L2
open PySem PySem.Spec PyProof.Rows
section
variable{prog:Program}{w:World}{A:Around}{R:Result->Shared->Prop}{s:Shared}
theorem zlF{elt target iter:Expr}{ifs:List Expr}{scope:Scope}{pos:Pos}{it acc:Value}{env:Env}(I:Nat->Shared->Prop)
  (turn:∀n s,I n s->wpAny (model prog w) A (pyNext it) (fun r s₁=>match r with
   | none=>R (.ok .next) s₁
   | some v=>wpAny (model prog w) A (letOwnedTupleGo target it v) (fun _ s₀=>wpAny (model prog w) A (assign target env v) (fun _ s₂ =>
     wpAny (model prog w) A (forIn ifs true fun c r=>if r=true then do let ok ← isTrue c env (eval c env);pure (ForInStep.yield ok) else pure (ForInStep.yield r)) (fun ok s₃ =>
      if ok=true then wpAny (model prog w) A (eval elt env) (fun x s₄ =>
       wpAny (model prog w) A (call (.builtin "list.append") [acc,x]) (fun _ s₅=>∃m,m<n/\I m s₅) (notedBy (model prog w) A env fun e s'=>R (.error e) s') s₄) (notedBy (model prog w) A env fun e s'=>R (.error e) s') s₃
      else ∃m,m<n/\I m s₃) (notedBy (model prog w) A env fun e s'=>R (.error e) s') s₂) (notedBy (model prog w) A env fun e s'=>R (.error e) s') s₀) (notedBy (model prog w) A env fun e s'=>R (.error e) s') s₁) (notedBy (model prog w) A env fun e s'=>R (.error e) s') s)
  (n:Nat) (h:I n s):codeAny (model prog w) A (.compLoop (.ListComp elt [⟨target,iter,ifs,0⟩] scope pos) 0 it acc env) R s:=by
 refine codeAny_loop rfl I (fun n s hI=>?_) n h;show wpAny _ A ((compTurn (.ListComp elt [⟨target,iter,ifs,0⟩] scope pos) 0 it acc env).onRaise (fun x=>do noteFrame x env;theTreesLotGoes x)) _ _ s;refine wpAny_noted ?_;rw [compTurn_list];refine yaa (wpAny_standAt (yaa (ybd (turn n s hI) (fun r s₁ h₁=>?_) fun _ _ h'=>h')))
 cases r with
 | none=>exact yac h₁
 | some v =>
  refine yaa (ybd h₁ (fun _ s₀ h₀=>?_) fun _ _ h'=>h');refine yaa (ybd h₀ (fun _ s₂ h₂=>yaa (ybd h₂ (fun ok s₃ h₃=>?_) fun _ _ h'=>h')) fun _ _ h'=>h')
  cases ok with
  | false=>exact yac ⟨rfl,h₃⟩
  | true =>
   exact yaa (yaa (ybd h₃ (fun x s₄ h₄=>yaa (ybd h₄ (fun _ s₅ h₅=>yac (yac ⟨rfl,h₅⟩)) fun _ _ h'=>h')) fun _ _ h'=>h'))
end
theorem zaJ:∀(names:List (Str×NameKind)) (n:Nat) (acc:List (Str×Addr)),cellsFrom n names acc=cellsFrom n names []++acc
 | [],_,_=>rfl
 | (x,k)::r,n,acc=>by
  unfold cellsFrom;split
  ·rw [zaJ r (n+1) ((x,n)::acc),zaJ r (n+1) [(x,n)]];simp
  ·exact zaJ r n acc
theorem zb2:∀(names:List (Str×NameKind)) (n:Nat) {x:Str} {c:Addr},(x,c)∈cellsFrom n names []->(x,NameKind.cell)∈names
 | [],_,_,_,h=>by cases h
 | (y,k)::r,n,x,c,h=>by
  unfold cellsFrom at h;split at h
  ·rename_i hk;rw [zaJ] at h
   rcases ybi.mp h with h | h
   ·exact yaA _ (zb2 r _ h)
   ·rw [yaP] at h;cases h;rw [ybR.mp hk];exact yaB
  ·exact yaA _ (zb2 r _ h)
theorem zbs{α:Type}{x:Str}:∀{l m:List (Str×α)},(l++m).lookup x=(l.lookup x).or (m.lookup x)
 | [],m=>rfl
 | (y,a)::l,m=>by
  rw [List.cons_append,yax,yax]
  cases x == y with
  | true=>rfl
  | false=>exact zbs
theorem zbo:∀(names:List (Str×NameKind)) (n:Nat) {x:Str},(x,NameKind.cell)∈names->∃c,(cellsFrom n names []).lookup x=some c
 | [],_,_,h=>by cases h
 | (y,k)::r,n,x,h=>by
  unfold cellsFrom;split
  ·rename_i hk;rw [zaJ,zbs]
   rcases yas.mp h with e | h
   ·cases e
    cases hq:(cellsFrom (n+1) r []).lookup y with
    | some c=>exact ⟨c,rfl⟩
    | none=>exact ⟨n,by simp [yax]⟩
   ·obtain ⟨c,e⟩:=zbo r (n+1) h;rw [e];exact ⟨c,rfl⟩
  ·rename_i hk
   rcases yas.mp h with e | h
   ·cases e;exact absurd rfl hk
   ·exact zbo r n h
def zbF{M:Model}{A:Around}{E:Z5}{s:Shared}{scope:Scope}{globals:Addr}{closure:List (Str×Addr)}{qual:Str}{func:Option Addr}{code:Value}{outer:Env}{builtins:Addr}{Q:Env->Shared->Prop}
  (hQ:∀h',h'.Ns s.heap.objs.size (fun _=>none)->(∀b o,s.heap.get? b=some o->h'.get? b=some o)->CellsOk h' (s.heap.objs.size+1) (cellsFrom (s.heap.objs.size+1) scope.names []) →
   Q (newEnv scope s.heap.objs.size globals (cellsFrom (s.heap.objs.size+1) scope.names []++closure) qual func code (some outer) builtins) { s with heap:=h' }) :
  wpAny M A (newFunctionEnv scope globals closure [] qual func code (some outer) builtins) Q E s:=by
 simp only [newFunctionEnv,Option.isSome_some,ycB];refine yaa (wpAny_alloc ?_);refine yaa (wpAny_layCells _ (fun name kind cells=>by cases hkc:kind == NameKind.cell<;>simp [hkc]) _ _ _ _ ?_);have ok:=cellsFrom_ok scope.names (s.heap.push { cls:=.type "dict",data:=.dict #[] }) (s.heap.objs.size+1) [] ⟨fun _ _ hm=>(nomatch hm),List.Pairwise.nil⟩ (by rw [ybo];exact yah _);rw [ybo] at ok;rw [show ({ s with heap:=s.heap.push { cls:=.type "dict",data:=.dict #[] } }:Shared).heap.objs.size=s.heap.objs.size+1 from ybo ..];rw [zaJ];simp only [List.forIn_nil];refine yaa (yac (yac ?_));exact hQ _ ((Heap.Ns.new s.heap (.type "dict")).keeps (pushCells_keeps _ _)) (fun b o e=>pushCells_keeps _ _ b o (yae _ e)) ok
structure CompScopeG(sc scope:Scope)(N:List Str)(xs:List Str)(caps:List (Str×Nat)):Prop where
 nd:(scope.names.map (·.1)).Nodup
 kind:scope.kind=.function
 names:∀y∈scope.names,y.2=.local->scope.names.lookup y.1=some .local
 free:∀y∈scope.names,y.2=.free->sc.names.lookup y.1=some .cell\/sc.names.lookup y.1=some .free
 cap:∀p∈caps,N[p.2]?=some p.1/\(p.1,NameKind.free)∈scope.names/\sc.names.lookup p.1≠some .local
 uniq:∀p∈caps,∀z∈scope.names,z.1=p.1->z.2=.free
noncomputable def zaN(X:Cx)(xs:List Str)(caps:List (Str×Nat))(scope:Scope)(cl:List (Str×Addr))(C:Addr)(s:Shared)(H:Hp)(ex:List Addr):Cx :=
 { X with N:=xs++caps.map (·.1),s₀:=s,H₀:=H,env:=compEnvC scope cl C X.env,outer:=X.stack,ex:=ex,fn:=fun x=>decide (scope.names.lookup x=some .cell),pn:=[],xe:=fun _ _=>False }
noncomputable abbrev capσ(σ:St)(n:Nat)(caps:List (Str×Nat)):St:=List.replicate n none++caps.map fun p=>(σ[p.2]?).join
noncomputable def zhd(wi:TI)(g:TG)(tt:TT)(te:TE)(n:Nat)(caps:List (Str×Nat)):TE:=fun σ H Q=>wi σ H fun J H1=>∃W:Nat->Nat->List V->St->Hp->Prop,(∃m,W 0 m [] (capσ σ n caps) H1)/\∀i m ys σ' H,W i m ys σ' H →
 ys.length<=sizeLine/\((J.stop i H/\∀p,H p=none->Q (.ref p) (upd H p (.lst ys))) ∨
 (J.go i H/\∀x H',J.yld i H x H'->g x σ' H' fun σ2 H2=>tt σ2 H2 fun ok H3=>if ok=true then te σ2 H3 fun y H4=>∃m',m'<m/\W (i+1) m' (ys++[y]) σ2 H4 else ∃m',m'<m/\W (i+1) m' ys σ2 H3))
section
variable{X:Cx}{elt iter tg:Expr}{xs:List Str}{pos:Pos}{ifs:List Expr}{scope:Scope}{caps:List (Str×Nat)}{wi:TI}{g:TG}{tt:TT}{te:TE}
structure OwnC(X:Cx)(scope:Scope)(lo:Nat)(h:Heap)(cl:List (Str×Addr)):Prop where
 sort:∀y c,cl.lookup y=some c->X.env.cells.lookup y=some c\/(h.IsCell c none/\lo<=c)
 inj:∀y z c,cl.lookup y=some c->cl.lookup z=some c->y=z
 has:∀y,((y,NameKind.free)∈scope.names\/(y,NameKind.cell)∈scope.names)->∃c,cl.lookup y=some c
 own:∀y c,scope.names.lookup y=some .cell->cl.lookup y=some c->lo<=c
 free:∀y,(y,NameKind.free)∈scope.names->∃c,cl.lookup y=some c/\X.env.cells.lookup y=some c
def zfN{scope:Scope}{env:Env}{y:Str}(h:(relabel scope env).names.lookup y=some .cell\/(relabel scope env).names.lookup y=some .free):(y,NameKind.free)∈scope.names\/(y,NameKind.cell)∈scope.names:=by
 have go:∀k,(relabel scope env).names.lookup y=some k->(k=.cell\/k=.free)->(y,NameKind.free)∈scope.names\/(y,NameKind.cell)∈scope.names:=fun k e hk=>by
  have hm:=yaD e;obtain ⟨⟨n,k0⟩,hp,e2⟩:=yaq.mp hm
  by_cases hq:(k0 == .free&&env.scope.kind == .function&&env.kindOf n == some .cell)=true
  ·have e3:(n,NameKind.cell)=(y,k):=by rw [<-e2];show _=if _ then _ else _;rw [if_pos hq]
   cases e3
   have:k0=.free:=by simp only [yab] at hq;exact eq_of_beq hq.1.1
   subst this;exact .inl hp
  ·have e3:(n,k0)=(y,k):=by rw [<-e2];show _=if _ then _ else _;rw [if_neg hq]
   cases e3
   rcases hk with rfl | rfl
   ·exact .inr hp
   ·exact .inl hp
 rcases h with h | h
 ·exact go _ h (.inl rfl)
 ·exact go _ h (.inr rfl)
theorem zfX:∀{l:List (Str×NameKind)},(l.map (·.1)).Nodup->∀{x:Str} {a b:NameKind},(x,a)∈l->(x,b)∈l->a=b
 | [],_,_,_,_,h,_=>by cases h
 | p::l,nd,x,a,b,h,h'=>by
  rw [yat,ybj] at nd
  rcases yas.mp h with h | h<;>rcases yas.mp h' with h' | h'
  ·rw [<-h'] at h;exact (Prod.mk.inj h).2
  ·exact absurd (yaq.mpr ⟨_,h',by rw [<-h]⟩) nd.1
  ·exact absurd (yaq.mpr ⟨_,h,by rw [<-h']⟩) nd.1
  ·exact zfX nd.2 h h'
def zjj{X:Cx}{scope:Scope}{lo n:Nat}{h:Heap}{cl:List (Str×Addr)}(nd:(scope.names.map (·.1)).Nodup)(hn:lo<=n)(hinj:∀x y c,X.env.cells.lookup x=some c->X.env.cells.lookup y=some c->x=y)
  (hcl:∀y c,cl.lookup y=some c->X.env.cells.lookup y=some c) (hlo:∀y c,X.env.cells.lookup y=some c->c<lo) (hhas:∀y,(y,NameKind.free)∈scope.names->∃c,cl.lookup y=some c) (ok:CellsOk h n (cellsFrom n scope.names [])) :
  OwnC X scope lo h (cellsFrom n scope.names []++cl):=by
 have sort:∀y c,(cellsFrom n scope.names []++cl).lookup y=some c->((cellsFrom n scope.names []).lookup y=some c)\/((cellsFrom n scope.names []).lookup y=none/\cl.lookup y=some c):=fun y c e=>by
  rw [zbs] at e
  cases hq:(cellsFrom n scope.names []).lookup y with
  | some c'=>rw [hq] at e;exact .inl e
  | none=>rw [hq] at e;exact .inr ⟨rfl,e⟩
 refine ⟨fun y c e=>?_,fun y z c e e'=>?_,fun y hy=>?_,fun y c hy e=>?_,fun y hy=>?_⟩
 ·rcases sort y c e with z | ⟨_,z⟩
  ·have:=ok.empty y c (yaD z);exact .inr ⟨this.1,yar hn this.2⟩
  ·exact .inl (hcl y c z)
 ·rcases sort y c e with a | ⟨_,a⟩<;>rcases sort z c e' with b | ⟨_,b⟩
  ·exact name_of_addr ok.apart (yaD a) (yaD b)
  ·have h1:=(ok.empty y c (yaD a)).2;have h2:=hlo z c (hcl z c b);exact absurd (yai h2 (yar hn h1)) (yaR _)
  ·have h1:=(ok.empty z c (yaD b)).2;have h2:=hlo y c (hcl y c a);exact absurd (yai h2 (yar hn h1)) (yaR _)
  ·exact hinj y z c (hcl y c a) (hcl z c b)
 ·rw [zbs]
  cases hq:(cellsFrom n scope.names []).lookup y with
  | some c=>exact ⟨c,rfl⟩
  | none =>
   rcases hy with hy | hy
   ·exact hhas y hy
   ·obtain ⟨c,e⟩:=zbo scope.names n hy;rw [hq] at e;cases e
 ·obtain ⟨c',e'⟩:=zbo scope.names n (yaD hy);rw [zbs,e'] at e;have:c'=c:=Option.some.inj e;subst this;exact yar hn (ok.empty y c' (yaD e')).2
 ·obtain ⟨c,e⟩:=hhas y hy;refine ⟨c,?_,hcl y c e⟩;rw [zbs]
  cases hq:(cellsFrom n scope.names []).lookup y with
  | some c' =>
   have:=zb2 scope.names n (yaD hq);cases zfX nd hy this
  | none=>exact e
def zj9{pins:Z3}{σ:St}{H:Hp}{s s':Shared}{cl:List (Str×Addr)}{C:Addr}{fp:List Addr}(S:CompScopeG X.env.scope scope X.N xs caps)(hu:∀p∈caps,∀z∈scope.names,z.1=p.1->z.2=.free)
  (I:Inv X pins σ H s) (hcl:OwnC X scope s.heap.objs.size s'.heap cl)
  (hf:∀b∈fp,zkC X pins H b) (hlt:∀b∈fp,b<s.heap.objs.size) (hC:s.heap.objs.size<=C) (ho:s'.os=s.os) (hg:s'.gens=s.gens) (hk:∀b o,s.heap.get? b=some o->s'.heap.get? b=some o) (hn:s'.heap.Ns C (fun _=>none)) :
  Inv (zaN X xs caps scope cl C s H fp) [] (capσ σ xs.length caps) H s':=by
 have cellK:∀y c,cl.lookup y=some c->∃v,s'.heap.IsCell c v:=fun y c e=>by
  rcases hcl.sort y c e with z | z
  ·obtain ⟨v,o,q,d⟩:=I.cell y c z;exact ⟨v,o,hk _ _ q,d⟩
  ·exact ⟨none,z.1⟩
 refine ⟨⟨I.ok.mod,S.kind,I.ok.glob,I.ok.blt,hC,hcl.inj,fun y hy=>hcl.has y (zfN hy),fun y c z e=>hcl.own y c (yak z) e,I.ok.hd,I.ok.frames,.inl rfl,fun b hb=>⟨yay (yai (hlt b hb) hC),fun y c e=>(hcl.sort y c e).elim (fun z=>(hf b hb).2.2.2.2.1 y c z) fun z=>ya3 (yai (hlt b hb) z.2)⟩,
  I.bs,yar I.ok.bsz I.sz,fun b o e hb=>?_,fun b hb hm=>?_,I.stack,I.stkFree⟩,ho,by rw [hg];exact I.bare,Un.kept hk,⟨_,hn,fun i y v h1 h2 h3=>?_⟩,fun y c e=>cellK y c e,I.hok.fresh hC,fun y c e=>(hcl.sort y c e).elim (I.freeC y c) fun z=>I.hok.fresh z.2,fun p hp=>absurd (show p∈([]:Z3) from hp) (by simp),I.hok.kept hk,?_⟩
 ·rcases (hf b hb).2.2.2.1 with z | z
  ·exact I.ok.noex b o e z
  ·exact absurd (yai (yam e) (yar I.ok.bsz z)) (yaR _)
 ·rcases yas.mp (I.stkSub b hm) with z | z
  ·exact (hf b hb).2.1 z
  ·exact (hf b hb).2.2.1 z
 ·have hi:¬ i<xs.length:=fun hi=>by
   have h2':(capσ σ xs.length caps)[i]?=some (some v):=h2;rw [yaW (by rw [yaL];exact hi),ybF] at h2'
   split at h2'<;>cases h2'
  ·have h1':(caps.map (·.1))[i-xs.length]?=some y:=by
    have h1':(xs++caps.map (·.1))[i]?=some y:=h1;rwa [yaJ (by omega)] at h1'
   rw [yaF] at h1'
   have h2':(caps.map fun p=>(σ[p.2]?).join)[i-xs.length]?=some (some v):=by
    have h2':(capσ σ xs.length caps)[i]?=some (some v):=h2;rw [yaJ (by rw [yaL];omega),yaL] at h2';exact h2'
   rw [yaF] at h2'
   cases hp:caps[i-xs.length]? with
   | none=>rw [hp] at h1';cases h1'
   | some p =>
    rw [hp] at h1' h2';have ey:p.1=y:=Option.some.inj h1';have ev:(σ[p.2]?).join=some v:=Option.some.inj h2';subst ey;have hmem:p∈caps:=List.mem_of_getElem? hp;obtain ⟨c1,c2,c3⟩:=S.cap p hmem
    have eσ:σ[p.2]?=some (some v):=by
     cases q:σ[p.2]? with
     | none=>rw [q] at ev;cases ev
     | some w=>rw [q] at ev;have:w=some v:=ev;rw [this]
    have hfr:=S.free _ c2 rfl;have hv:Vis X.env.scope p.1:=hfr.elim (fun z=>.inr (.inl z)) (fun z=>.inr (.inr z));obtain ⟨m,_,hl⟩:=I.loc;obtain ⟨u,r,l⟩:=hl p.2 p.1 v c1 eσ hv;refine ⟨u,r,.inr ⟨zdm (scope:=scope) (env:=X.env) c2 (hu p hmem),?_⟩⟩;obtain ⟨c,ec,ec2⟩:=hcl.free p.1 c2;refine ⟨c,ec,?_⟩
    rcases l with ⟨z,_⟩ | ⟨_,c',ec',hcell⟩
    ·exact absurd z c3
    ·have:c'=c:=by rw [ec2] at ec';exact (Option.some.inj ec').symm
     subst this;obtain ⟨o,q,d⟩:=hcell;exact ⟨o,hk _ _ q,d⟩
 ·simp [zaN,capσ]
def zgb{use:Option (Value->Sem Unit)}{Qf:Z5}{R:VK}{pins:Z3}{s:Shared}{σ:St}{H:Hp}(hc:X.calm=true)(S:CompScopeG X.env.scope scope X.N xs caps)(hi:PI X tg iter wi)(hg:∀cl C s H fp,PG (zaN X xs caps scope cl C s H fp) tg g)
  (ht:∀cl C s H fp,PIf (zaN X xs caps scope cl C s H fp) ifs tt) (he:∀cl C s H fp,PE (zaN X xs caps scope cl C s H fp) elt te)
  (hs:∀v,foldedSetIterable iter X.env v=pure v) (I:Inv X pins σ H s) (h:zhd wi g tt te xs.length caps σ H R)
  (fin:∀(D C:Addr) (s4:Shared) (m4:Z6) (H6:Hp) (r:Flow),s4.heap.Ns C m4->(∀{σ':St} {H7:Hp} {s5:Shared} {h':Heap},Inv X pins σ' H7 s5->Heap.SameBut C s5.heap h'->H7 C=none->Inv X pins σ' H7 { s5 with heap:=h' })->H6 C=none->C≠X.env.locals->(∀y c,X.env.cells.lookup y=some c->C≠c)->Inv X pins σ H6 s4->R (.ref D) H6->compPost (model X.prog X.w) X.A X.xe use Qf (.ref D) C (.ok r) s4) :
  wpAny (model X.prog X.w) X.A (comprehension (.ListComp elt [⟨tg,iter,ifs,0⟩] scope pos) scope X.env (firstIterPos [⟨tg,iter,ifs,0⟩] pos) (newList []) false (eval iter X.env) use) Qf X.xe s:=by
 obtain ⟨cl,hclos,hcl,hhas⟩:=zik (scope:=scope) (env:=X.env) fun y hy hf=>I.ok.has y.1 (S.free y hy hf)
 refine wpAny_comprehension_free (use:=use) rfl hs hclos S.kind S.names (thn (hi pins s σ H _ I h) fun v s1 h1=>thn h1 fun itv s2 h2=>?_);obtain ⟨it,fp,tn,J,H2,rfl,I2,T,st2,f2,W,⟨m0,w0⟩,turn⟩:=h2;refine yaK (zbF (fun h₁ hns₁ hsb₁ hok₁=>?_));dsimp only at hns₁ hsb₁ hok₁ ⊢;generalize hHp:s2.heap.push { cls:=.type "list",dict:=none,data:=.seq ([]:List Value).toArray }=Hq at hns₁ hsb₁ hok₁ ⊢
 have hCe:Hq.objs.size=s2.heap.objs.size+1:=by rw [<-hHp,ybo]
 have hDC:s2.heap.objs.size≠Hq.objs.size:=by rw [hCe];exact yay (ycj _)
 have hC:s2.heap.objs.size<=Hq.objs.size:=by rw [hCe];exact ycI _
 have old:∀b o,s2.heap.get? b=some o->h₁.get? b=some o:=fun b o e=>hsb₁ b o (hHp ▸ yae _ e)
 have hacc:h₁.get? s2.heap.objs.size=some (lob [] 0):=hsb₁ _ _ (hHp ▸ yao _ rfl)
 have cellX:∀y c,X.env.cells.lookup y=some c->c<s2.heap.objs.size:=fun y c e=>by obtain ⟨v,q⟩:=I2.cell y c e;exact q.lt
 have oc:=zjj (X:=X) (lo:=s2.heap.objs.size+1) S.nd (by rw [hCe];exact ycI _) I.ok.inj hcl (fun y c e=>Nat.lt_succ_of_lt (cellX y c e)) hhas hok₁;generalize hcl2:cellsFrom (Hq.objs.size+1) scope.names []++cl=cl2 at oc ⊢;have oc':OwnC X scope s2.heap.objs.size h₁ cl2:=⟨fun y c e=>(oc.sort y c e).imp id fun z=>⟨z.1,ycF z.2⟩,oc.inj,oc.has,fun y c a e=>ycF (oc.own y c a e),oc.free⟩
 have hlt:∀b∈fp,b<s2.heap.objs.size:=fun b hb=>by obtain ⟨o,e,_⟩:=T.obj 0 _ st2 b hb;exact yam e
 generalize hY:zaN X xs caps scope cl2 Hq.objs.size s2 H2 fp=Y;have PEY:PE Y elt te:=hY ▸ he cl2 _ s2 H2 fp;have PIY:PIf Y ifs tt:=hY ▸ ht cl2 _ s2 H2 fp;have PGY:PG Y tg g:=hY ▸ hg cl2 _ s2 H2 fp
 have I3:Inv Y [] (capσ σ xs.length caps) H2 { s2 with heap:=h₁ }:=by
  rw [<-hY];exact zj9 S S.uniq I2 oc' f2 hlt hC rfl rfl old hns₁
 have eYenv:Y.env=compEnvC scope cl2 Hq.objs.size X.env:=by rw [<-hY];rfl
 have eYloc:Y.env.locals=Hq.objs.size:=by rw [eYenv];rfl
 have eYfs:Y.fs=frs X.stack:=by rw [<-hY];rfl
 have eYprog:Y.prog=X.prog:=by rw [<-hY];rfl
 have eYw:Y.w=X.w:=by rw [<-hY];rfl
 have eYK:Y.K=X.K:=by rw [<-hY];rfl
 have eYA:Y.A=X.A:=by rw [<-hY];rfl
 have eYc:Y.calm=true:=by rw [<-hY];exact hc
 have eYex:Y.ex=fp:=by rw [<-hY];rfl
 have eYs:Y.s₀=s2:=by rw [<-hY];rfl
 have eYH:Y.H₀=H2:=by rw [<-hY];rfl
 have eYpn:Y.pn=[]:=by rw [<-hY];rfl
 have eYcell:∀y c,Y.env.cells.lookup y=some c->X.env.cells.lookup y=some c\/s2.heap.objs.size+1<=c:=fun y c e=>(oc.sort y c (by rwa [eYenv] at e)).imp id (·.2)
 have eYxe:∀e s',¬ Y.xe e s':=fun e s' z=>by rwa [<-hY] at z
 have stkX:∀b∈frs X.stack,b<s2.heap.objs.size:=fun b hb=>by
  rcases yas.mp (I2.stkSub b hb) with z | z
  ·rw [z];exact I2.lt
  ·refine Nat.not_le.mp fun hle=>I2.nofs hle z
 have pinX:∀p∈X.pn++pins,p.1<s2.heap.objs.size:=fun p hp=>yam (I2.pin p hp).1
 have fpY:∀{H':Hp} {its:List Value} {k:Nat},(∀b∈fp,H' b=none)->∀b∈fp,zkC Y [(s2.heap.objs.size,lob its k)] H' b:=fun {H' its k} hn b hb=>by
  refine ⟨hn b hb,by rw [eYloc];exact yay (yai (hlt b hb) hC),?_,.inl (by rw [eYex];exact hb),fun y c e=>(eYcell y c e).elim (fun z=>(f2 b hb).2.2.2.2.1 y c z) fun z=>ya3 (yai (hlt b hb) (ycF z)),fun p hp=>?_⟩
  ·rw [eYfs];intro hm
   rcases yas.mp (I2.stkSub b hm) with z | z
   ·exact (f2 b hb).2.1 z
   ·exact (f2 b hb).2.2.1 z
  ·rw [eYpn] at hp
   have e:p=(s2.heap.objs.size,lob its k):=by simpa using hp
   rw [e];exact ya3 (hlt b hb)
 have pinD:∀{H':Hp} {σ':St} {s':Shared} {its:List Value} {k:Nat},Inv Y [] σ' H' s'->s'.heap.get? s2.heap.objs.size=some (lob its k)->H' s2.heap.objs.size=none->Inv Y [(s2.heap.objs.size,lob its k)] σ' H' s':=fun {H' σ' s' its k} I' e n =>
  I'.pins_of fun p hp=>by
   have ep:p=(s2.heap.objs.size,lob its k):=by simpa using hp
   subst ep;refine ⟨e,n,by rw [eYloc];exact hDC,?_,fun v z=>?_⟩
   ·rw [eYfs];exact fun hm=>yaR _ (stkX _ hm)
   ·have z':Data.seq its.toArray k=Data.cell v:=z;cases z'
 have loop:codeAny (model X.prog X.w) X.A (.compLoop (.ListComp elt [⟨tg,iter,ifs,0⟩] scope pos) 0 (.ref it) (.ref s2.heap.objs.size) (compEnvC scope cl2 Hq.objs.size X.env))
   (compPost (model X.prog X.w) X.A X.xe use Qf (.ref s2.heap.objs.size) Hq.objs.size) { s2 with heap:=h₁ }:=by
  refine zlF (fun n s'=>∃i σx H' ys its k,Inv Y [(s2.heap.objs.size,lob its k)] σx H' s'/\tn i s'.heap/\(∀b∈fp,H' b=none)/\Vals ys its/\W i n ys σx H') ?_ m0
   ⟨0,capσ σ xs.length caps,H2,[],[],0,pinD I3 hacc (I2.hok.fresh (yah _)),T.keep _ _ _ st2 fun b hb o e=>old b o e,fun b hb=>(f2 b hb).1,.nil,w0⟩
  rintro n s3 ⟨i,σx,H3,ys,its,k,J3,st3,fr3,rv,w3⟩;obtain ⟨hz,hcase⟩:=turn i n ys σx H3 w3
  rcases hcase with ⟨stop,q⟩ | ⟨go,step⟩
  ·have hd:=T.done Y eYprog eYw eYK eYc i _ s3 _ H3 (notedBy (model X.prog X.w) X.A (compEnvC scope cl2 Hq.objs.size X.env) fun e s'=>compPost (model X.prog X.w) X.A X.xe use Qf (.ref s2.heap.objs.size) Hq.objs.size (.error e) s') J3 (fpY fr3) st3 stop;rw [eYA] at hd;refine thn hd fun r s4 ⟨hr,J4⟩=>?_
   subst hr;obtain ⟨m4,hn4,_⟩:=J4.loc
   have hn4':s4.heap.Ns Hq.objs.size m4:=by rw [<-eYloc];exact hn4
   have hnC:H3 Hq.objs.size=none:=by rw [<-eYloc];exact J4.free
   have hk5:HOk X.prog X.w H3 s4.heap:=by rw [<-eYprog,<-eYw];exact J4.hok
   have u5:Un (frs X.stack) fp H2 H3 s2.heap s4.heap:=by
    have ub:=J4.base;rwa [eYfs,eYex,eYH,eYs] at ub
   have J5:Inv X pins σ H3 s4:=I2.call' (s':=s4) (ch:=fp) (by have:=J4.os;rwa [eYs] at this) u5 hk5 J4.bare fun b hb=>⟨(f2 b hb).2.2.2.1,(f2 b hb).2.1,(f2 b hb).2.2.2.2.1,(f2 b hb).2.2.2.2.2⟩
   have hp4:=J4.pin (s2.heap.objs.size,lob its k) (yav _ yaB);have hD5:s4.heap.get? s2.heap.objs.size=some (lob its k):=hp4.1;have J6:Inv X pins σ (upd H3 s2.heap.objs.size (.lst ys)) s4:=J5.track hp4.2.1 I2.sz (ya3 I2.lt) (fun y c e=>yay (cellX y c e)) (fun p hp=>yay (pinX p hp)) (show zbj X.prog X.w _ s4.heap _ (.lst ys) from ⟨hz,its,k,rv,hD5⟩);have hCloc:Hq.objs.size≠X.env.locals:=ya3 (yai I2.lt hC);exact fin _ Hq.objs.size s4 m4 _ _ hn4' (fun {σ'} {H7} {s5} {h'} J sb' hn=>J.turned (t':=s5.toks) (it:=Hq.objs.size) (fun b o hb e=>(sb'.2 b hb).trans e) hn hCloc (.inr (yar I2.sz hC)) (fun y c e=>yay (yai (cellX y c e) hC)) (fun p hp=>yay (yai (pinX p hp) hC))) (by rw [zaf (Ne.symm hDC)];exact hnC) hCloc (fun y c e=>ya3 (yai (cellX y c e) hC)) J6 (q _ hp4.2.1)
  ·have hd:=T.item Y eYprog eYw eYK eYc i _ s3 _ H3 (notedBy (model X.prog X.w) X.A (compEnvC scope cl2 Hq.objs.size X.env) fun e s'=>compPost (model X.prog X.w) X.A X.xe use Qf (.ref s2.heap.objs.size) Hq.objs.size (.error e) s') J3 (fpY fr3) st3 go;rw [eYA] at hd;refine thn hd fun r s4 ⟨u,hr,h4⟩=>?_
   subst hr;refine thn h4 fun _ s5 ⟨v4,H4,J4,r4,y4,st5,fr4⟩=>?_
   have J4':=J4.pinned (fp:=fp) (fpY fr4) (T.obj _ _ st5);have ha:=PGY _ s5 σx H4 v4 u _ J4' r4 (step v4 H4 y4);rw [eYprog,eYw,eYA,eYenv] at ha;refine ybd ha (fun _ s5' ⟨σ5,H5,J5',q5⟩=>?_) fun e s' z=>(eYxe _ _ z).elim
   have ht5:=PIY _ s5' σ5 H5 _ J5' q5;rw [eYprog,eYw,eYA,eYenv] at ht5;refine ybd ht5 (fun ok s6 ⟨H6,J6,q6⟩=>?_) fun e s' z=>(eYxe _ _ z).elim
   have back:∀{H7:Hp} {s7:Shared},Inv Y ([(s2.heap.objs.size,lob its k)]++zfS fp s5.heap) σ5 H7 s7->tn (i+1) s7.heap/\∀b∈fp,H7 b=none:=fun {H7 s7} J7 =>
    ⟨T.keep _ _ _ st5 fun b hb o e=>(J7.pin (b,o) (yav _ (yav _ (zci hb e)))).1,fun b hb=>by
     obtain ⟨o,e,d⟩:=T.obj _ _ st5 b hb
     exact (J7.pin (b,o) (yav _ (yav _ (zci hb e)))).2.1⟩
   cases ok with
   | false =>
    rw [if_neg yaH] at q6;rw [if_neg yaH];obtain ⟨m',hm',w6⟩:=q6;exact ⟨m',hm',i+1,σ5,H6,ys,its,k,J6.unpinned,(back J6).1,(back J6).2,rv,w6⟩
   | true =>
    rw [if_pos rfl] at q6;rw [if_pos rfl];have he6:=PEY _ s6 _ H6 _ J6 q6;rw [eYprog,eYw,eYA,eYenv] at he6;refine ybd he6 (fun u7 s7 ⟨v7,H7,J7,r7,m',hm',w7⟩=>?_) fun e s' z=>(eYxe _ _ z).elim
    obtain ⟨st7,fr7⟩:=back J7;have hp7:=(J7.unpinned).pin (s2.heap.objs.size,lob its k) (yav _ yaB);have hl:=rv.length;refine append_at (hsz:=by show its.toArray.size<=sizeLine;rw [yaf];omega) hp7.1 fun h8 sb8 hD8=>?_
    have J7':Inv Y [] σ5 H7 s7:=J7.unpinned.pins_of fun p hp=>absurd hp (by simp)
    have J8:Inv Y [] σ5 H7 { s7 with heap:=h8 }:=J7'.turned (t':=s7.toks) (it:=s2.heap.objs.size) (fun b o hb e=>(sb8.2 b hb).trans e) hp7.2.1 (by rw [eYloc];exact hDC) (.inr (by rw [eYs];exact yah _)) (fun y c e=>(eYcell y c e).elim (fun z=>yay (cellX y c z)) fun z=>ya3 z) (fun p hp=>by rw [eYpn] at hp;simp at hp)
    have hD8':h8.get? s2.heap.objs.size=some (lob (its++[u7]) (k+1)):=by rw [hD8];simp [lob]
    exact ⟨m',hm',i+1,σ5,H7,ys++[v7],its++[u7],k+1,pinD J8 hD8' hp7.2.1,T.keep _ _ _ st7 fun b hb o e=>(sb8.2 b (yay (hlt b hb))).trans e,fr7,rv.append (.cons r7 .nil),w7⟩
 exact codeAny_compStart_list loop (T.self X.A 0 _ _ _ (T.keep _ _ _ st2 fun b hb o e=>old b o e) loop)
def zli(hc:X.calm=true)(S:CompScopeG X.env.scope scope X.N xs caps)(hi:PI X tg iter wi)(hg:∀cl C s H fp,PG (zaN X xs caps scope cl C s H fp) tg g)
  (ht:∀cl C s H fp,PIf (zaN X xs caps scope cl C s H fp) ifs tt) (he:∀cl C s H fp,PE (zaN X xs caps scope cl C s H fp) elt te)
  (hs:∀v,foldedSetIterable iter X.env v=pure v:=by intro _;rfl):PE X (.ListComp elt [⟨tg,iter,ifs,0⟩] scope pos) (zhd wi g tt te xs.length caps):=by
 intro pins s σ H Q I h;rw [eval_ListComp];exact zgb (use:=none) hc S hi hg ht he hs I h fun D C s4 m4 H6 r hn tr hC _ _ J6 q=>⟨m4,hn,fun h5 sb=>⟨.ref D,H6,tr J6 sb hC,rfl,q⟩⟩
def zk7{k0:Nat}{y0:Str}{py spos:Pos}(hc:X.calm=true)(S:CompScopeG X.env.scope scope X.N xs caps)(hN0:X.N.Nodup)(hi0:X.N[k0]?=some y0)(hx0:Loc X.env.scope y0)(hi:PI X tg iter wi)(hg:∀cl C s H fp,PG (zaN X xs caps scope cl C s H fp) tg g)
  (ht:∀cl C s H fp,PIf (zaN X xs caps scope cl C s H fp) ifs tt) (he:∀cl C s H fp,PE (zaN X xs caps scope cl C s H fp) elt te)
  (hsw:swapsWith (.ListComp elt [⟨tg,iter,ifs,0⟩] scope pos) (some (.Name y0 py)) spos.line X.env=pure true)
  (hf0:X.fn y0=true\/X.env.scope.names.lookup y0=some .local)
  (hs:∀v,foldedSetIterable iter X.env v=pure v):PS X (.Assign [.Name y0 py] (.ListComp elt [⟨tg,iter,ifs,0⟩] scope pos) spos) (znb (zhd wi g tt te xs.length caps) (zid k0)):=by
 intro pins s σ H DD I h;rw [exec_Assign_Name_used _ _ _ _ hsw];refine yaa (wpAny_standAt (yaa ?_));show wpAny _ X.A (do let _ ← comprehension (.ListComp elt [⟨tg,iter,ifs,0⟩] scope pos) scope X.env _ (newList []) false (eval iter X.env) (some (assign (.Name y0 py) X.env))) _ _ s;refine yaa (ybd (zgb (use:=some (assign (.Name y0 py) X.env)) (Qf:=fun _ s'=>SP X pins DD .next s') hc S hi hg ht he hs I h fun D C s4 m4 H6 r hn tr hC hl hce J6 q=>?_) (fun _ s' hq=>yac (yac hq)) fun _ _ e=>e);show wpAny _ X.A (assign (.Name y0 py) X.env (.ref D)) _ X.xe s4;refine wpAny_assign_Name (zfE (i:=k0) J6 hN0 hi0 hx0 (v:=.ref D) rfl (fun s5 J7 ⟨a,sb,ha⟩=>?_) hf0);have haC:C≠a:=ha.elim (fun z=>by rw [z];exact hl) fun z=>hce _ _ z
 exact ⟨m4,hn.sameBut sb haC,fun h' sb'=>⟨_,_,tr J7 sb' hC,q⟩⟩
end
end L2
namespace ST
open PySem PySem.SetTable
noncomputable def stp(mask:Nat)(p:Probe):Probe :=
 if p.more > 0 then { p with j:=p.j+1,more:=p.more-1 } else
 { p with j:=(leap mask p.i p.perturb).1,more:=runEnd mask (leap mask p.i p.perturb).1-(leap mask p.i p.perturb).1,i:=(leap mask p.i p.perturb).1,perturb:=(leap mask p.i p.perturb).2 }
noncomputable def itr(mask:Nat):Nat->Probe->Probe
 | 0,p=>p
 | n+1,p=>itr mask n (stp mask p)
noncomputable def zt0(mask i pert:Nat):Probe:={ j:=i,more:=runEnd mask i-i,i:=i,perturb:=pert,dummy:=none }
noncomputable def st(mask:Nat)(h:Int)(n:Nat):Probe:=itr mask n (zt0 mask (bits h % (mask+1)) (bits h))
end ST
namespace ST
open PySem PySem.SetTable
end ST
namespace ST
open PySem PySem.SetTable
end ST
namespace ST
open PySem PySem.Spec PyProof.Rows
section
variable{prog:Program}{w:World}{A:Around}{E:Z5}{s:Shared}
end
end ST
namespace ST
open PySem PySem.Spec PyProof.Rows
section
variable{prog:Program}{w:World}{A:Around}{E:Z5}{s:Shared}
end
end ST
namespace ST
open PySem PySem.Spec PyProof.Rows
section
variable{prog:Program}{w:World}{A:Around}{R:Result->Shared->Prop}{s:Shared}
end
end ST
namespace PySem
section
variable{prog:Program}{w:World}{A:Around}{E:Z5}{s:Shared}
end
end PySem
namespace L2
open PySem PySem.Spec PyProof.Rows
section
variable{X:Cx}{a b c:Expr}{ta tb tc:TE}{pos:Pos}
def zgT:zdk X (.builtin "isinstance") (fun xs H Q=>∃x t c k,xs=[x,.ty c]/\TyOf X.K H x t/\PySem.W.kitOne X.K t (.type c)=some k/\Q (.bl k) H):=by
 intro pins s σ H xs us Q I r h;obtain ⟨x,t,c,k,rfl,ty,e,q⟩:=h
 cases r with
 | cons r1 rr =>
  cases rr with
  | cons r2 r3 =>
   cases r3;cases (show _=Value.type c from r2);exact zjO I r1 ty e fun tk=>⟨.bl k,H,I.tok tk,rfl,q⟩
def ze0(bs:List Bool):((List.range bs.length).all fun i=>(bs[i]?).getD true)=bs.all id:=by
 rw [ycq,ybu,ybu];constructor
 ·intro h b hb;obtain ⟨i,hi,e⟩:=List.mem_iff_getElem.mp hb;have:=h i (ybA.mpr hi);rwa [yaj hi,e] at this
 ·intro h i hi;have hi':=ybA.mp hi;rw [yaj hi'];exact h _ (ybv hi')
def zgU(hc:X.calm=true):zdk X (.builtin "all") (fun xs H Q=>∃(p:Addr) (bs:List Bool),xs=[.ref p]/\SqL X.K H p (bs.map V.bl)/\Q (.bl (bs.all id)) H):=by
 intro pins s σ H xs us Q I r h;obtain ⟨p,bs,rfl,hq,q⟩:=h;obtain ⟨u,rfl,rx⟩:=zgo r;cases rx;obtain ⟨its,rv,pl,hz⟩:=I.list hq;have hl:=pl.isList
 have hlt:p<s.heap.objs.size:=by obtain ⟨_,e,_⟩:=hl;exact yam e
 have hn:its.length=bs.length:=by have:=rv.length;rw [yad] at this;exact this.symm
 refine call_all_walk (ycD hl ?_);refine ⟨s.heap.objs.size,[s.heap.objs.size,p],[s.heap.objs.size],its.toArray.size,_,_,fun i=>(bs[i]?).getD true,rfl,Walks.list (A:=X.A.in1) (I.ok.hd hc) _ p (yay hlt) its.toArray,⟨⟨_,yao _ rfl,rfl,rfl⟩,hl.push _⟩,fun i v s' Q' E' hP hQ=>?_,fun h' tk hk=>?_⟩
 ·have hv:its[i]?=some v:=by simpa using hP
  have hi:i<bs.length:=by rw [<-hn];exact (yap.mp hv).1
  obtain ⟨u,hu,ru⟩:=rv.get (i:=i) (x:=.bl bs[i]) (by rw [yaF,yaj hi];rfl);rw [hv] at hu;cases hu;cases (show v=Value.bool bs[i] from ru);refine ya5 ?_;have hQ':Q' ((bs[i]?).getD true) s':=hQ;rwa [yaj hi] at hQ'
 ·rw [yaf,hn,ze0];refine ⟨.bl _,H,I.kept (t':=tk) fun b o e=>?_,rfl,q⟩;exact hk b o (fun hm=>by rw [yaP.mp hm] at e;exact yaR _ (yam e)) (yae _ e)
def zgE:OpR X (compareOp .IsNot) (fun x y H Q=>∃i j,x=.bl i/\y=.bl j/\Q (.bl (!decide (i=j))) H):=by
 intro pins s σ H x y v u Q I rx ry h;obtain ⟨i,j,rfl,rfl,q⟩:=h;cases rx;cases ry;show wpAny _ _ (isSame (Value.bool i) (Value.bool j) >>= fun r=>pure (Value.bool (!r))) _ _ s;refine yaa (wpAny_isSame_plain (by rfl) (yac ?_));refine ⟨.bl (!decide (i=j)),H,I,?_,q⟩;show _=Value.bool _;congr 1
 cases i<;>cases j<;>rfl
def zlo:OpR X (binaryOp .Add) (fun x y H Q=>∃(a b:Addr) (ys:List V),x=.ref a/\y=.ref b/\SqT X.K H a []/\SqT X.K H b ys/\Q (.ref b) H):=by
 intro pins s σ H x y v u Q I rx ry h;obtain ⟨a,b,ys,rfl,rfl,ha,hb,q⟩:=h;cases rx;cases ry;obtain ⟨its,r1,p1,_⟩:=I.tuple ha;obtain ⟨its2,r2,p2,_⟩:=I.tuple hb;cases r1;obtain ⟨⟨cls,dd,data,sl⟩,ho,hc,n,hd⟩:=id p1;obtain ⟨⟨cls2,dd2,data2,sl2⟩,ho2,hc2,n2,hd2⟩:=id p2;simp only at hc hd hc2 hd2;subst hc hd hc2 hd2
 exact concat_meets ⟨_,ho,rfl⟩ ⟨_,ho2,rfl⟩ noFill_tuple_add seq_tuple_add yb9 yb3 (ybZ _ _)
  (tuple_addW0 a b ([]:List Value).toArray its2.toArray n n2 dd dd2 sl sl2 (by rfl)) ⟨ho,ho2,⟨.ref b,H,I,rfl,q⟩⟩
end
end L2
namespace PySem
open PySem.Spec PyProof.Rows
def zcs:fillsNumberSlot (.type "tuple") "mul" = pure false :=
 fillsNumberSlot_seq (id:="tuple.__mul__") (r:=some (.builtin "tuple.__rmul__")) yck.lookup (by decide +kernel) F.slot_tuple_rmul.lookup (by decide +kernel)
def zeq:seqRepeat? (.type "tuple")=pure (some (.builtin "tuple.__mul__")):=by
 have e1:=seqSlot_of (T:="tuple") (name:="__mul__") (id:="tuple.__mul__") yck.lookup (by decide +kernel);have e2:=seqSlot_of (T:="tuple") (name:="__rmul__") (id:="tuple.__rmul__") F.slot_tuple_rmul.lookup (by decide +kernel);unfold seqRepeat?;rw [e1,e2];rfl
def zdq(a:Int)(t:Tok)(l:Addr)(o:Obj){its:Array Value}{n:Nat}(hc:o.cls=.type "tuple")(hdd:o.data=.seq its n) :
  Meets (Builtin.«int.__rmul__» ⟨[.int a t,.ref l],[]⟩) (fun _ R s=>s.heap.get? l=some o/\R (.ok (.ret Value.notImplemented)) s) :=
 .of_wp fun prog w A R s h=>by
  obtain ⟨c,d,dt,sl⟩:=o;simp only at hc hdd;subst hc hdd;obtain ⟨hp,g,dr,tk,os⟩:=s;obtain ⟨hl,h⟩:=h
  wp_walk
  exact ⟨_,rfl,h⟩
section
variable{prog:Program}{w:World}{A:Around}{E:Z5}{s:Shared}
def zfy{a:Addr}{o:Obj}{its:Array Value}{n:Nat}{k:Int}{t:Tok}{P:Fin->Shared->Prop}(ho:s.heap.get? a=some o)(hc:o.cls=.type "tuple")(hd:o.data=.seq its n)(hne:its.isEmpty=false)(h2:2<=k)(hz:(its.size:Int)*k<=1000000)(hk:k<=1000)
  (h:P (.done (.ret (.ref s.heap.objs.size))) { s with heap:=s.heap.push { cls:=.type "tuple",data:=.seq ((List.replicate k.toNat its).foldl (·++·) #[]) } }) (hsz:((List.replicate k.toNat its).foldl (·++·) #[]).size<=sizeLine) :
  wpAny (model prog w) A (Builtin.«tuple.__mul__» ⟨[.ref a,.int k t],[]⟩) P E s:=by
 show wpAny _ _ (asIndex (.int k t) >>= _) _ _ s;refine yaa ?_;unfold asIndex;refine yaa (yac ?_);dsimp only;refine yac ?_
 have e0:(decide (k < -(2 ^ 63))||decide (k ≥ 2 ^ 63))=false:=by
  rw [Bool.or_eq_false_iff];refine ⟨yau ?_,yau ?_⟩
  ·omega
  ·omega
 rw [e0];simp only [yaC,ybl];refine yaa (ycw ho hd ?_)
 have e1:(its.isEmpty||k == 1)=false:=by rw [hne,Bool.false_or];simp;omega
 rw [e1];simp only [yaC,ybl]
 have e2:(decide (k<=0)||its.isEmpty)=false:=by rw [hne,Bool.or_false];exact yau (by omega)
 rw [e2];simp only [yaC,ybl];rw [if_neg (by omega)]
 have e3:Builtin.Tuple.tupleTooMany (its.size*k)=false:=by
  unfold Builtin.Tuple.tupleTooMany;refine yau ?_
  have:(1000000:Int)<=(sizeLine:Int):=by decide
  omega
 rw [e3];simp only [yaC,ybl];unfold Builtin.Tuple.tupleExact;exact yaa (yaK (yac h) hsz)
def zfx{a:Addr}{o:Obj}{its:Array Value}{n:Nat}{t:Tok}{P:Fin->Shared->Prop}(ho:s.heap.get? a=some o)(hc:o.cls=.type "tuple")(hd:o.data=.seq its n)(h:P (.done (.ret (.ref a))) s) :
  wpAny (model prog w) A (Builtin.«tuple.__mul__» ⟨[.ref a,.int 1 t],[]⟩) P E s:=by
 show wpAny _ _ (asIndex (.int 1 t) >>= _) _ _ s;refine yaa ?_;unfold asIndex;refine yaa (yac ?_);dsimp only;refine yac ?_
 have e0:(decide ((1:Int) < -(2 ^ 63))||decide ((1:Int) ≥ 2 ^ 63))=false:=by decide
 rw [e0];simp only [yaC,ybl];refine yaa (ycw ho hd ?_)
 have e1:(its.isEmpty||(1:Int) == 1)=true:=by simp
 rw [e1];simp only [ycB];unfold Builtin.Tuple.tupleIsExact;refine yaa (yaa (wpAny_typeOf (T:="tuple") ⟨o,ho,hc⟩ (yac ?_)));simp only [ybe,ycB];exact yaa (ycL (yac h))
def zoh{a:Addr}{o:Obj}{its:Array Value}{n:Nat}{k:Int}{t:Tok}{Q:Z5}(ho:s.heap.get? a=some o)(hc:o.cls=.type "tuple")(hd:o.data=.seq its n)(hne:its.isEmpty=false)(h2:2<=k)(hz:(its.size:Int)*k<=1000000)(hk:k<=1000)
  (h:Q (.ref s.heap.objs.size) { s with heap:=s.heap.push { cls:=.type "tuple",data:=.seq ((List.replicate k.toNat its).foldl (·++·) #[]) } }) (hsz:((List.replicate k.toNat its).foldl (·++·) #[]).size<=sizeLine) :
  wpAny (model prog w) A (binaryOp .Mult (.ref a) (.int k t)) Q E s:=by
 have hT:s.TypeIs (.ref a) "tuple":=⟨o,ho,hc⟩
 refine ybW (T:="tuple") (U:="int") (by decide) hT (fun s'=>ycn s' k t) zcs F.fills_int_mul ybO zeq F.slot_int_index.lookup
  (yb0 ybO (ycn s k t) F.entry_int_rmul (ycE _ _) (zdq k t a o hc hd) ⟨ho,rfl,hT,?_⟩)
 exact yaU yck hT F.entry_tuple_mul (zfy ho hc hd hne h2 hz hk ⟨_,rfl,h⟩ hsz) (F.args_tuple_mul_2 _ _)
def zlx{a:Addr}{o:Obj}{its:Array Value}{n:Nat}{t:Tok}{Q:Z5}(ho:s.heap.get? a=some o)(hc:o.cls=.type "tuple")(hd:o.data=.seq its n)(h:Q (.ref a) s):wpAny (model prog w) A (binaryOp .Mult (.ref a) (.int 1 t)) Q E s:=by
 have hT:s.TypeIs (.ref a) "tuple":=⟨o,ho,hc⟩
 refine ybW (T:="tuple") (U:="int") (by decide) hT (fun s'=>ycn s' 1 t) zcs F.fills_int_mul ybO zeq F.slot_int_index.lookup
  (yb0 ybO (ycn s 1 t) F.entry_int_rmul (ycE _ _) (zdq 1 t a o hc hd) ⟨ho,rfl,hT,?_⟩)
 exact yaU yck hT F.entry_tuple_mul (zfx ho hc hd ⟨_,rfl,h⟩) (F.args_tuple_mul_2 _ _)
end
end PySem
namespace L2
open PySem PySem.Spec PyProof.Rows
inductive D where
 | non | bl (b:Bool) | int (i:Int) | str (x:Str) | tup (l:List D) | lst (l:List D)
section
variable{X:Cx}
def zn2:OpR X (binaryOp .Mult) (fun x y H Q=>∃(p:Addr) (k:Int) (xs:List V),x=.ref p/\y=.int k/\SqT X.K H p xs/\xs≠[]/\2<=k/\k<=1000/\xs.length<=1000/\∀l,H l=none->Q (.ref l) (upd H l (.tup (List.replicate k.toNat xs).flatten))):=by
 intro pins s σ H x y v u Q I rx ry h;obtain ⟨p,k,xs,rfl,rfl,hq,hne,h2,hk,hx,q⟩:=h;cases rx;obtain ⟨t,rfl⟩:=ry;obtain ⟨its,rv,⟨o,ho,hc,n,hd⟩,_⟩:=I.tuple hq;have hl:=rv.length
 have hnew:(List.replicate k.toNat its.toArray).foldl (·++·) #[]=(List.replicate k.toNat its).flatten.toArray:=by
  have:=zd5 its k.toNat [];rwa [List.nil_append] at this
 have hsz:(List.replicate k.toNat its).flatten.length<=1000000:=by
  rw [zgH];exact yar (yce (show k.toNat<=1000 by omega) (show its.length<=1000 by omega)) (by decide)
 have hline:(1000000:Nat)<=sizeLine:=by decide
 refine zoh ho hc hd ?_ h2 ?_ hk ?_ ?_
 ·have:its≠[]:=fun z=>hne (by cases xs with | nil=>rfl | cons a r=>rw [z] at hl;cases hl)
  simpa using this
 ·rw [yaf];have:=Int.mul_le_mul (show (its.length:Int)<=1000 by omega) hk (by omega) (by omega);omega
 ·rw [hnew];refine ⟨.ref s.heap.objs.size,_,I.laid (t':=s.toks) (o:=.tup (List.replicate k.toNat xs).flatten) (fun b ob q=>yae _ q) (yah _) ?_,rfl,q _ (I.hok.fresh (yah _))⟩;refine ⟨?_,_,rv.rep k.toNat,IsTup.new _ _⟩;rw [zgH] at hsz ⊢;rw [<-hl] at hsz;omega
 ·rw [hnew,yaf];omega
end
end L2
namespace HT
open PySem PySem.Spec PyProof.Rows L2
section
variable{prog:Program}{w:World}{A:Around}{E:Z5}{s:Shared}
def zdh{t sl:Addr}{items:Array Value}{vl vu:Value}{lo hi:Option Int}{Q:Z5}(ht:IsTup s.heap t items)(hs:s.heap.IsSliceOf sl vl vu .none)(pl:IsPart vl lo)(pu:IsPart vu hi)
  (h1:sIx items.size 0 lo=0) (h2:sIx items.size items.size hi=items.size) (h:Q (.ref t) s):wpAny (model prog w) A (getItem (.ref t) (.ref sl)) Q E s:=by
 obtain ⟨os,hos,hcs,hds⟩:=id hs;have hTs:s.TypeIs (.ref sl) "slice":=⟨os,hos,hcs⟩;unfold getItem
 try with_reducible refine ybh ?_
 first | refine yaa (yac ?_) | skip
 refine yaa (wpAny_sequenceKey ht.typeIs (by decide) ?_)
 refine yaa (yaS (name:=Str.ofString "__getitem__") ht.typeIs yaO
  (yaU yaO ht.typeIs entry_tuple_getitem ?_ (args_tuple_getitem _ _)))
 show wpAny _ _ (Builtin.Tuple.tupleItemsOf (.ref t) >>= _) _ _ s;refine yaa (tupleItemsOf_ ht ?_);refine yaa (wpAny_typeOf hTs ?_);rw [if_pos (by decide)];refine yaa (zb5 hs pl pu ?_);rw [h1,h2];show wpAny _ _ (if ((((0:Nat):Int) == 0&&(1:Int) == 1&&(items.size-0) == items.size)=true) then _ else _) _ _ s;rw [if_pos (by simp)];unfold Builtin.Tuple.tupleIsExact;refine yaa (yaa (wpAny_typeOf ht.typeIs (yac ?_)));simp only [ybe,ycB];refine yaa (ycL ?_)
 first
  | exact yac ⟨_,rfl,yac h⟩
  | exact yaa (yac (yac ⟨_,rfl,yac h⟩))
end
end HT
namespace L2
open PySem PySem.Spec PyProof.Rows
def zhU{X:Cx}:SlR X (fun x lo hi H Q=>∃(a:Addr) (xs:List V),x=.ref a/\SqT X.K H a xs/\HT.sIx xs.length 0 lo=0/\HT.sIx xs.length xs.length hi=xs.length/\Q (.ref a) H):=by
 intro pins s σ H x v vl vu lo hi sl Q I rx hs pl pu h;obtain ⟨a,xs,rfl,hx,h1,h2,q⟩:=h;cases rx;obtain ⟨its,r,ht,hz⟩:=I.tuple hx
 have hlen:its.toArray.size=xs.length:=by rw [yaf];exact r.length.symm
 refine ⟨"tuple",_,yaO.lookup,ht.typeIs,?_⟩;exact HT.zdh ht hs pl pu (by rw [hlen];exact h1) (by rw [hlen];exact h2) ⟨.ref a,H,I,rfl,q⟩
end L2
namespace L2
open PySem PySem.Spec PyProof.Rows
mutual
noncomputable def D.py:D->PyData
 | .non=>.none
 | .bl b=>.bool b
 | .int i=>.int i
 | .str x=>.str x
 | .tup l=>.tuple (D.pys l)
 | .lst l=>.list (D.pys l)
noncomputable def D.pys:List D->List PyData
 | []=>[]
 | d::l=>d.py::D.pys l
end
mutual
noncomputable def D.fit:Nat->D->Bool
 | _,.non=>true
 | _,.bl _=>false
 | _,.int _=>true
 | _,.str x=>PyData.strOk x
 | 0,.tup _=>false
 | n+1,.tup l=>D.fits n l
 | 0,.lst _=>false
 | n+1,.lst l=>D.fits n l
noncomputable def D.fits:Nat->List D->Bool
 | _,[]=>true
 | n,d::l=>d.fit n&&D.fits n l
end
theorem D.fits_iff{n:Nat}:∀{l:List D},D.fits n l=true↔∀d∈l,d.fit n=true
 | []=>by simp [D.fits]
 | d::l=>by simp [D.fits,D.fits_iff (l:=l)]
mutual
theorem D.lay:∀{n:Nat} {d:D},d.fit n=true->d.py.canLay0=true/\d.py.depth<=n
 | _,.non,_=>⟨rfl,yaM _⟩
 | _,.bl _,h=>by simp [D.fit] at h
 | _,.int _,_=>⟨rfl,yaM _⟩
 | _,.str x,h=>⟨by simpa [D.fit,D.py,PyData.canLay0] using h,yaM _⟩
 | 0,.tup _,h=>by simp [D.fit] at h
 | 0,.lst _,h=>by simp [D.fit] at h
 | n+1,.tup l,h=>by
  have h':D.fits n l=true:=by simpa [D.fit] using h
  obtain ⟨a,b⟩:=D.lays h';exact ⟨by simpa [D.py,PyData.canLay0] using a,by simp only [D.py,PyData.depth];omega⟩
 | n+1,.lst l,h=>by
  have h':D.fits n l=true:=by simpa [D.fit] using h
  obtain ⟨a,b⟩:=D.lays h';exact ⟨by simpa [D.py,PyData.canLay0] using a,by simp only [D.py,PyData.depth];omega⟩
theorem D.lays:∀{n:Nat} {l:List D},D.fits n l=true->PyData.canLayAll0 (D.pys l)=true/\PyData.depthAll (D.pys l)<=n
 | _,[],_=>⟨rfl,yaM _⟩
 | n,d::l,h=>by
  simp only [D.fits,yab] at h;obtain ⟨a,b⟩:=D.lay h.1;obtain ⟨c,e⟩:=D.lays h.2;exact ⟨by simp [D.pys,PyData.canLayAll0,a,c],by simp only [D.pys,PyData.depthAll];omega⟩
end
section
variable{X:Cx}
def zgx{h:Heap}{v:Value}{d:PyData}{as:List Addr}(hl:d.canLay0=true)(r:Reads h v d as):SeqAt.readOf h v=d:=by
 have hx:∃d as,Reads h v d as:=⟨d,as,r⟩;unfold SeqAt.readOf;rw [dif_pos hx];obtain ⟨bs,rb⟩:=hx.choose_spec;exact (SeqAt.Reads.unique _ _ _ _ _ hl r rb).symm
end
end L2
namespace L2
open PySem PySem.Spec PyProof.Rows
noncomputable def zjm:Option Int->Value->Bool
 | none,.none=>true
 | some i,v=>Value.isInt i v
 | _,_=>false
theorem zaG:∀{k:Option Int} {v:Value},zjm k v=true->(k=none/\v=.none)\/∃i t,k=some i/\v=.int i t
 | none,v,h=>by
  cases v<;>simp [zjm] at h
  exact .inl ⟨rfl,rfl⟩
 | some i,v,h=>by
  obtain ⟨t,e⟩:=Value.isInt_shape (k:=i) (v:=v) (by simpa [zjm] using h);exact .inr ⟨i,t,rfl,e⟩
noncomputable def zht:Int:=reduceHash 0xFCA86420
def zjV{prog:Program}{w:World}{A:Around}{E:Z5}{s:Shared}{Q:Int->Shared->Prop}(h:Q zht { s with toks:=s.toks+1 }):wpAny (model prog w) A (pyHash .none) Q E s :=
 PySem.W.pyHash_slot (T:="NoneType") rfl F.slot_NoneType_hash F.entry_NoneType_hash (F.args_NoneType_hash_1 _) (beq_builtin_none _) (.inl rfl) (yaa (yac (yaa (wpAny_mkInt (yac ⟨_,_,rfl,h⟩)))))
noncomputable def zcA(prog:Program)(w:World):KeyKind prog w (Option Int) where
 is:=zjm
 hash:=fun k=>match k with | none=>zht | some i=>hashInt i
 inj:=fun v a b ha hb=>by
  rcases zaG ha with ⟨rfl,rfl⟩ | ⟨i,t,rfl,rfl⟩<;>rcases zaG hb with ⟨rfl,e⟩ | ⟨j,u,rfl,e⟩<;>cases e<;>rfl
 byValue:=fun k v h=>by
  rcases zaG h with ⟨rfl,rfl⟩ | ⟨i,t,rfl,rfl⟩<;>rfl
 pyHash:=fun {A E s k v Q} h hq=>by
  rcases zaG h with ⟨rfl,rfl⟩ | ⟨i,t,rfl,rfl⟩
  ·exact zjV hq
  ·exact wpAny_pyHash_int hq
 eqBool:=fun {A E s a b u v Q} ha hb hq=>by
  rcases zaG ha with ⟨rfl,rfl⟩ | ⟨i,t,rfl,rfl⟩<;>rcases zaG hb with ⟨rfl,rfl⟩ | ⟨j,u,rfl,rfl⟩
  ·unfold PySem.eqBool;refine ybh ?_;refine wpAny_ite_split (fun _=>yaa (ycL (yac (by simpa using hq)))) (fun z=>absurd rfl z)
  ·exact SeqAt.EqAt.none_int j u prog w E Q (by simpa using hq)
  ·exact SeqAt.EqAt.int_none i t prog w E Q (by simpa using hq)
  ·refine SeqAt.EqAt.int_int i t j u prog w E Q ?_
   have e:decide (some i=some j)=(i == j):=by
    rw [ycq];simp
   rw [<-e];exact hq
 «strs»:=fun k x t v h=>by
  rcases zaG h with ⟨_,e⟩ | ⟨i,u,_,e⟩<;>cases e
noncomputable abbrev NK:=Int×List (Option Int)
noncomputable def zdb:Option Int->PyData | none=>.none | some i=>.int i
noncomputable def zc7(prog:Program)(w:World)(h:Heap)(k:NK)(a:Addr):Prop:=∃o items n t b,h.get? a=some o/\o.cls=.type "tuple" /\ o.data=.seq items n/\items.toList=[.int k.1 t,.ref b]/\IsTupleKey (zcA prog w) h k.2 b
section
variable{prog:Program}{w:World}{A:Around}{E:Z5}{s:Shared}
noncomputable def zlv(prog:Program)(w:World)(k:NK):Int:=reduceHash (Builtin.Tuple.tupleHashOf [hashInt k.1,tupleKeyHash (zcA prog w) k.2])
def zc7.typeIs{k:NK}{a:Addr}(x:zc7 prog w s.heap k a):s.TypeIs (.ref a) "tuple":=let ⟨o,_,_,_,_,ho,hc,_⟩:=x;⟨o,ho,hc⟩
theorem zcB{h:Heap}:∀{l:Z4} {vs:List Value},ItemsAre (zcA prog w) l vs->ReadsAll h vs (l.map zdb) []
 | _,_,.nil=>.nil
 | _,_,.cons h1 r=>by
  rcases zaG h1 with ⟨rfl,rfl⟩ | ⟨i,t,rfl,rfl⟩
  ·exact .cons (as:=[]) (bs:=[]) .none (zcB r)
  ·exact .cons (as:=[]) (bs:=[]) (.int i t) (zcB r)
def zc7.reads{h:Heap}{k:NK}{a:Addr}(x:zc7 prog w h k a):Reads h (.ref a) (.tuple [.int k.1,.tuple (k.2.map zdb)]) []:=by
 obtain ⟨o,items,n,t,b,ho,hc,hd,hi,ob,its,m,hob,hcb,hdb,hib⟩:=x;refine .tuple ho hc hd ?_;rw [hi];exact .cons (as:=[]) (bs:=[]) (.int _ _) (.cons (as:=[]) (bs:=[]) (.tuple hob hcb hdb (zcB hib)) .nil)
theorem zfV:∀{l m:Z4},PyData.eqvAll (l.map zdb) (m.map zdb)=decide (l=m)
 | [],[]=>by simp [PyData.eqvAll]
 | [],_::_=>by simp [PyData.eqvAll]
 | _::_,[]=>by simp [PyData.eqvAll]
 | x::l,y::m=>by
  have ih:=zfV (l:=l) (m:=m);simp only [yat,PyData.eqvAll,ih]
  cases x<;>cases y<;>simp [zdb,PyData.eqv]
  rw [ycq];simp
theorem zdB:∀{l:Z4},PyData.canLayAll0 (l.map zdb)=true/\PyData.depthAll (l.map zdb)=0
 | []=>⟨rfl,rfl⟩
 | x::l=>by
  obtain ⟨a,b⟩:=zdB (l:=l)
  cases x<;>simp [zdb,PyData.canLayAll0,PyData.depthAll,PyData.canLay0,PyData.depth,a,b]
noncomputable def zcZ(prog:Program)(w:World):HeapKind prog w NK where
 is:=zc7 prog w
 hash:=zlv prog w
 draws:=fun k=>1+(k.2.length+1)+1
 room:=fun A=>A.units+8<cLine
 inj:=fun {h a x y} hx hy=>by
  obtain ⟨o,items,n,t,b,ho,hc,hd,hi,kx⟩:=hx;obtain ⟨o',items',n',t',b',ho',hc',hd',hi',ky⟩:=hy;rw [ho] at ho';cases ho';rw [hd] at hd';cases hd';rw [hi] at hi';simp only [List.cons.injEq,Value.int.injEq,Value.ref.injEq,and_true] at hi';obtain ⟨⟨e1,_⟩,e2⟩:=hi';subst e2;exact Prod.ext e1 (kx.inj ky)
 keeps:=fun {h h' k a d o es ep} x ho hd hs=>by
  obtain ⟨o1,items,n,t,b,ho1,hc,hd1,hi,kx⟩:=x;refine ⟨o1,items,n,t,b,(hs.2 a ?_).trans ho1,hc,hd1,hi,kx.keeps ho hd hs⟩;rintro rfl;rw [ho] at ho1;cases ho1;rw [hd] at hd1;cases hd1
 pyHash:=fun {A E s k a Q} hu x hq=>by
  have hT:=zc7.typeIs (prog:=prog) (w:=w) x;obtain ⟨o,items,n,t,b,ho,hc,hd,hi,kx⟩:=x;refine PySem.W.pyHash_slot (T:="tuple") hT F.slot_tuple_hash F.entry_tuple_hash (F.args_tuple_hash_1 _) (beq_builtin_none _) (.inr (by omega)) ?_;show wpAny _ _ (Builtin.Tuple.tupleItemsOf (.ref a) >>= _) _ _ s;refine yaa (ycw ho hd ?_);refine yaa ?_;rw [<-ycx,hi];refine wpAny_forIn_list _ (fun zbk (r:Array Int) s'=>(zbk=[.int k.1 t,.ref b]/\r.toList=[]/\s'=s)\/(zbk=[.ref b]/\r.toList=[hashInt k.1]/\s'={ s with toks:=s.toks+1 })\/(zbk=[]/\r.toList=[hashInt k.1,tupleKeyHash (zcA prog w) k.2]/\s'={ s with toks:=s.toks+1+(k.2.length+1) })) _ ?_ ?_ _ _ (.inl ⟨rfl,rfl,rfl⟩)
  ·rintro x zbk r s' (⟨e,hr,rfl⟩ | ⟨e,hr,rfl⟩ | ⟨e,hr,rfl⟩)
   ·injection e with e1 e2
    subst e1 e2;refine yaa (wpAny_pyHash_int ?_)
    first
     | exact yac (.inr (.inl ⟨rfl,by simp [hr],rfl⟩))
     | exact yaa (yac (yac (.inr (.inl ⟨rfl,by simp [hr],rfl⟩))))
   ·injection e with e1 e2
    subst e1 e2;refine yaa (wpAny_pyHash_tuple (A:=A.in1) (by show A.units+1<cLine;omega) kx ?_)
    first
     | exact yac (.inr (.inr ⟨rfl,by simp [hr],rfl⟩))
     | exact yaa (yac (yac (.inr (.inr ⟨rfl,by simp [hr],rfl⟩))))
   ·cases e
  ·rintro r s' (⟨e,_⟩ | ⟨e,_⟩ | ⟨_,hr,rfl⟩)
   ·cases e
   ·cases e
   ·show wpAny _ _ (retInt (Builtin.Tuple.tupleHashOf r.toList)) _ _ _;rw [hr];refine yaa (wpAny_mkInt (yac ⟨_,_,rfl,?_⟩))
    have e:s.toks+1+(k.2.length+1)+1=s.toks+(1+(k.2.length+1)+1):=by omega
    show Q _ { s with toks:=s.toks+1+(k.2.length+1)+1 };rw [e];exact hq
 eqBool:=fun {A E s x y a b Q} hu hx hy hq=>by
  refine SeqAt.eqAt_reads _ _ A s (.ref a) (.ref b) [] [] hx.reads hy.reads ?_ ?_ ?_ prog w E Q ?_
  ·simp [PyData.canLay0,PyData.canLayAll0,zdB.1]
  ·simp [PyData.canLay0,PyData.canLayAll0,zdB.1]
  ·have h1:(PyData.tuple [.int x.1,.tuple (x.2.map zdb)]).depth<=3:=by
    simp [PyData.depth,PyData.depthAll,zdB.2]
   have:min (PyData.tuple [.int x.1,.tuple (x.2.map zdb)]).depth (PyData.tuple [.int y.1,.tuple (y.2.map zdb)]).depth<=3:=yar (Nat.min_le_left _ _) h1;omega
  ·have e:(PyData.tuple [.int x.1,.tuple (x.2.map zdb)]).eqv (.tuple [.int y.1,.tuple (y.2.map zdb)])=decide (x=y):=by
    simp only [PyData.eqv,PyData.eqvAll,zfV];rw [ycq];simp [Prod.ext_iff]
   rw [e];exact hq
 quiet:=fun {A E s k a Q} x hq=>by
  have hT:=zc7.typeIs (prog:=prog) (w:=w) x;obtain ⟨o,items,n,t,b,ho,hc,hd,hi,kx⟩:=x;have hTb:=kx.typeIs;obtain ⟨ob,its,m,hob,hcb,hdb,hib⟩:=kx
  have low:wpAny (model prog w) A (eqIsQuiet 7 (.ref b)) (fun r s'=>r=true/\s'=s) E s:=by
   unfold eqIsQuiet;refine yaa (wpAny_specialOf hTb F.slot_tuple_eq.lookup ?_);show wpAny _ _ (isInstance (.ref b) (.type "tuple") >>= _) _ _ s;refine yaa (ycl hTb isSubtype_tuple_tuple ?_);simp only [ycm,yaC,ybl];refine yaa (ybJ hob hdb (yaa ?_));show wpAny _ _ (forIn its _ _) _ _ s;rw [<-ycx];refine wpAny_forIn_list _ (fun zbk r s'=>r.1=none/\s'=s/\∀v∈zbk,carriedByValue v=true) _ ?_ ?_ _ _ ⟨rfl,rfl,hib.byValue⟩
   ·rintro v zbk r s' ⟨hr,rfl,hall⟩;rw [eqIsQuiet_byValue _ (hall v yaB)];refine yaa (yac ?_);simp only [ycm,yaC,ybl];exact yac ⟨rfl,rfl,fun z hz=>hall z (yaA _ hz)⟩
   ·rintro ⟨r1,r2⟩ s' ⟨hr,rfl,_⟩;simp only at hr;subst hr;exact yac ⟨rfl,rfl⟩
  unfold eqIsQuiet;refine yaa (wpAny_specialOf hT F.slot_tuple_eq.lookup ?_);show wpAny _ _ (isInstance (.ref a) (.type "tuple") >>= _) _ _ s;refine yaa (ycl hT isSubtype_tuple_tuple ?_);simp only [ycm,yaC,ybl];refine yaa (ybJ ho hd (yaa ?_));show wpAny _ _ (forIn items _ _) _ _ s;rw [<-ycx,hi];refine wpAny_forIn_list _ (fun zbk r s'=>r.1=none/\s'=s/\(zbk=[.int k.1 t,.ref b]\/zbk=[.ref b]\/zbk=[])) _ ?_ ?_ _ _ ⟨rfl,rfl,.inl rfl⟩
  ·rintro v zbk r s' ⟨hr,rfl,(e | e | e)⟩
   ·injection e with e1 e2
    subst e1 e2;rw [eqIsQuiet_byValue _ rfl];refine yaa (yac ?_);simp only [ycm,yaC,ybl];exact yac ⟨rfl,rfl,by simp⟩
   ·injection e with e1 e2
    subst e1 e2;refine yaa (ybd low (fun r' s'' hz=>?_) fun _ _ z=>z);obtain ⟨rfl,rfl⟩:=hz;simp only [ycm,yaC,ybl];exact yac ⟨rfl,rfl,by simp⟩
   ·cases e
  ·rintro ⟨r1,r2⟩ s' ⟨hr,rfl,_⟩;simp only at hr;subst hr;exact yac hq
end
end L2
namespace L2
open PySem PySem.Spec PyProof.Rows
section
variable{σ:St}{H:Hp}{K:PySem.W.Frag}{te:TE}{tt:TT}{caps:List (Str×Nat)}{Q:VK}
end
end L2
namespace L2
open PySem PySem.Spec PyProof.Rows
noncomputable def oV:Option Int->V | none=>.non | some i=>.int i
noncomputable def DN(P:Program)(w:World)(a:Addr)(xs:List (NK×Addr×Value))(h:Heap):Prop :=
 ∃o es ep,h.get? a=some o/\o.ExactDict/\o.data=.dict es ep/\es.toList=xs.map (entryOfKey (zcZ P w))/\(xs.map (·.1)).Nodup/\(a == sysModules)=false
noncomputable def zgZ(H:Hp)(kb:Addr)(k:NK):Prop:=∃b,H kb=some (.tup [.int k.1,.ref b])/\H b=some (.tup (k.2.map oV))
noncomputable def zml(H:Hp)(xs:List (NK×Addr×Value))(m:List (NK×V)):Prop:=Paired (fun (x:NK×Addr×Value) (p:NK×V)=>x.1=p.1/\zgZ H x.2.1 x.1/\zaV p.2 x.2.2) xs m
def zhE{P:Program}{w:World}{a:Addr}{xs:List (NK×Addr×Value)}:∀h1 h2:Heap,DN P w a xs h1->(∀o,h1.get? a=some o->h2.get? a=some o)->DN P w a xs h2:=fun h1 h2 ⟨o,es,ep,e,r⟩ k=>⟨o,es,ep,k _ e,r⟩
section
variable{X:Cx}{pins:Z3}{σ:St}{H:Hp}{s:Shared}
theorem zdI:∀{l:Z4} {its:List Value},Vals (l.map oV) its->ItemsAre (zcA X.prog X.w) l its
 | [],_,.nil=>.nil
 | none::l,_,.cons r t=>by
  cases r;exact .cons rfl (zdI t)
 | some i::l,_,.cons r t=>by
  obtain ⟨u,rfl⟩:=r;exact .cons (by simp [zcA,zjm,Value.isInt]) (zdI t)
def Inv.nest(I:Inv X pins σ H s){kb:Addr}{k:NK}(h:zgZ H kb k):zc7 X.prog X.w s.heap k kb:=by
 obtain ⟨b,h1,h2⟩:=h;obtain ⟨its,rv,⟨o,ho,hc,n,hd⟩,_⟩:=I.tuple (SqT.of (K:=X.K) h1);obtain ⟨its2,rv2,⟨o2,ho2,hc2,n2,hd2⟩,_⟩:=I.tuple (SqT.of (K:=X.K) h2)
 cases rv with
 | cons r1 rr =>
  cases rr with
  | cons r2 rr =>
   cases rr;obtain ⟨t,rfl⟩:=r1;cases r2;exact ⟨o,_,n,t,b,ho,hc,hd,rfl,o2,_,n2,ho2,hc2,hd2,by simpa using zdI rv2⟩
def zml.keys{xs:List (NK×Addr×Value)}{m:List (NK×V)}(I:Inv X pins σ H s):zml H xs m->∀x∈xs,zc7 X.prog X.w s.heap x.1 x.2.1:=by
 intro h
 induction h with
 | nil=>intro x hx;simp at hx
 | cons h t ih =>
  intro x hx
  rcases yas.mp hx with rfl | hx
  ·exact I.nest h.2.1
  ·exact ih x hx
def Inv.ndict(I:Inv X pins σ H s){a:Addr}{xs:List (NK×Addr×Value)}{m:List (NK×V)}(h:H a=some (.ext (DN X.prog X.w a xs)))(e:zml H xs m):s.heap.DictOfH (zcZ X.prog X.w) a xs/\(a == sysModules)=false:=by
 obtain ⟨⟨o,es,ep,h1,h2,h3,h4,h5,h6⟩,_⟩:=I.hok a _ h;exact ⟨⟨o,es,ep,h1,h2,h3,h4,e.keys I,h5⟩,h6⟩
def zdj{xs:List (NK×Addr×Value)}{m:List (NK×V)}(e:zml H xs m)(k:NK):(m.lookup k=none/\atKey xs k=none)\/∃c p,m.lookup k=some c/\atKey xs k=some p/\zaV c p.2:=by
 induction e with
 | nil=>exact .inl ⟨rfl,rfl⟩
 | @cons x p l1 l2 h t ih =>
  obtain ⟨h1,h2,h3⟩:=h
  by_cases hk:x.1=k
  ·refine .inr ⟨p.2,x.2,?_,?_,h3⟩
   ·obtain ⟨pk,pc⟩:=p;simp only at h1;subst h1;rw [yax,hk];simp
   ·simp [atKey,hk]
  ·have hk':¬ p.1=k:=by rw [<-h1];exact hk
   have e1:List.lookup k (p::l2)=List.lookup k l2:=by
    obtain ⟨pk,pc⟩:=p;rw [yax]
    have:(k == pk)=false:=by
     rw [yaY];exact fun z=>hk' z.symm
    rw [this]
   have e2:atKey (x::l1) k=atKey l1 k:=by simp [atKey,List.find?_cons,hk]
   rw [e1,e2];exact ih
def zmF(hu:X.A.units+16<cLine):OpR X (compareOp .NotIn) (fun x y H Q=>∃kb a k xs m,x=.ref kb/\y=.ref a/\zgZ H kb k/\H a=some (.ext (DN X.prog X.w a xs))/\zml H xs m/\Q (.bl (m.lookup k).isNone) H):=by
 intro pins s σ H x y v u Q I rx ry h;obtain ⟨kb,a,k,xs,m,rfl,rfl,hk,hx,he,q⟩:=h;cases rx;cases ry;obtain ⟨hm,hd⟩:=I.ndict hx he;refine wpAny_notIn_heap (knd:=zcZ X.prog X.w) (k:=k) (by show X.A.units+1+8<cLine;omega) (I.nest hk) hd hm ⟨.bl _,H,I.tok _,?_,q⟩
 rcases zdj he k with ⟨e1,e2⟩ | ⟨c,p,e1,e2,_⟩<;>rw [e1,e2]<;>rfl
def zre(hu:X.A.units+16<cLine):IxR X (fun x y H Q=>∃a kb k xs m c,x=.ref a/\y=.ref kb/\zgZ H kb k/\H a=some (.ext (DN X.prog X.w a xs))/\zml H xs m/\m.lookup k=some c/\Q c H):=by
 intro value slice pins s σ H x y v u Q I rx ry h hs;obtain ⟨a,kb,k,xs,m,c,rfl,rfl,hk,hx,he,hl,q⟩:=h;cases rx;cases ry;obtain ⟨hm,hd⟩:=I.ndict hx he
 rcases zdj he k with ⟨e1,_⟩ | ⟨c',p,e1,e2,r⟩
 ·rw [e1] at hl;cases hl
 ·rw [e1] at hl;cases hl;exact yca (x:=p.2) hm.typeIs slot_dict_getitem.lookup (wpAny_getItem_heap (knd:=zcZ X.prog X.w) (k:=k) (by show X.A.units+1+8<cLine;omega) (I.nest hk) hm e2 ⟨rfl,c,H,I.tok _,r,q⟩) hs
def znu(hu:X.A.units+16<cLine):zsj X (fun o i v H Q=>∃a kb k xs m,o=.ref a/\i=.ref kb/\zgZ H kb k/\H a=some (.ext (DN X.prog X.w a xs))/\zml H xs m/\m.lookup k=none/\m.length<=1000000/\∀u,zaV v u->Q (upd H a (.ext (DN X.prog X.w a (xs++[(k,kb,u)]))))):=by
 intro pins s σ H o i v ov iv u Q I ro ri rv h;obtain ⟨a,kb,k,xs,m,rfl,rfl,hk,hx,he,hl,hz,q⟩:=h;cases ro;cases ri;obtain ⟨hm,hd⟩:=I.ndict hx he;have hlen:xs.length=m.length:=Paired.length he
 have e2:atKey xs k=none:=by
  rcases zdj he k with ⟨_,e2⟩ | ⟨c',p,e1,_,_⟩
  ·exact e2
  ·rw [e1] at hl;cases hl
 refine wpAny_setItem_heap (knd:=zcZ X.prog X.w) (k:=k) (by show X.A.units+1+8<cLine;omega) (I.nest hk) hm (fun h' hm' sb=>?_) (by rw [hlen];exact yar hz (by decide));rw [storedH_new e2] at hm';obtain ⟨o,es,ep,g1,g2,g3,g4,g5,g6⟩:=hm';have dn:DN X.prog X.w a (xs++[(k,kb,u)]) h':=⟨o,es,ep,g1,g2,g3,g4,g6,hd⟩;refine ⟨upd H a (.ext (DN X.prog X.w a (xs++[(k,kb,u)]))),?_,q u rv⟩;exact I.write (x:=a) (e:=a) (by rw [hx];trivial) (.inl rfl) (fun b o hb z=>(sb.2 b hb).trans z) ⟨_,g1⟩ ⟨dn,⟨_,g1⟩,zhE⟩
noncomputable def zsL(P:Program)(w:World):TE:=fun _ H Q=>∀p,H p=none->Q (.ref p) (upd H p (.ext (DN P w p [])))
def znZ{pos:Pos}:PE X (.Dict [] [] pos) (zsL X.prog X.w):=fun pins s σ H Q I h=>by
 have big:sysModules<s.heap.objs.size:=Nat.lt_trans (show sysModules<mainGlobals by decide) (I.mod.glob.keeps I.bk).lt;have hne:(s.heap.objs.size == sysModules)=false:=yaY.mpr (Ne.symm (yay big));have dn:DN X.prog X.w s.heap.objs.size [] (s.heap.push { cls:=.type "dict",data:=.dict #[] }):=⟨_,#[],0,yao _ rfl,⟨rfl,rfl,rfl⟩,rfl,rfl,List.nodup_nil,hne⟩;refine wpAny_Dict_empty ⟨.ref s.heap.objs.size,upd H s.heap.objs.size (.ext (DN X.prog X.w s.heap.objs.size [])),?_,rfl,h _ (I.hok.fresh (yah _))⟩;exact I.laid (a:=s.heap.objs.size) (t':=s.toks) (fun _ _ q=>yae _ q) (yah _) ⟨dn,⟨_,yao _ rfl⟩,zhE⟩
end
end L2
namespace L2
open PySem PySem.Spec PyProof.Rows
section
variable{κ:Type}[DecidableEq κ]
end
def ztu{P:Program}{w:World}{k:Key}{u:Value}(r:zaV (kV k) u):(zbY P w).is k u=true:=by
 cases k with
 | inl i=>obtain ⟨t,e⟩:=(show ∃t,u=Value.int i t from r);subst e;exact zgG P w i t
 | inr x=>obtain ⟨t,e⟩:=(show ∃t,u=Value.str x t from r);subst e;exact zgF P w x t
theorem zf3{P:Program}{w:World}:∀{ks:List Key} {us:List Value},Vals (ks.map kV) us->ItemsAre (zbY P w) ks us
 | [],_,r=>by rw [List.map_nil] at r;cases r;exact .nil
 | k::ks,_,r=>by
  rw [yat] at r
  cases r with
  | cons h t=>exact .cons (ztu h) (zf3 t)
section
variable{P:Program}{w:World}{H:Hp}{h:Heap}{a:Addr}
def zhu{ks:List Key}(ok:HOk P w H h)(e:H a=some (.tup (ks.map kV))):(tupleKind (zbY P w)).is h ks a:=by
 obtain ⟨_,its,r,o,h1,h2,n,h3⟩:=(show zbj P w H h a (.tup (ks.map kV)) from ok a _ e);exact ⟨o,its.toArray,n,h1,h2,h3,by simpa using zf3 r⟩
end
section
variable{X:Cx}{pins:Z3}{σ:St}{H:Hp}{s:Shared}{a:Addr}{y v:V}{u r:Value}{o:Option V}{A:Around}{E:Z5}
def Inv.big(I:Inv X pins σ H s):sysModules<s.heap.objs.size:=by
 have h:mainGlobals<s.heap.objs.size:=(I.mod.glob.keeps I.bk).lt;exact Nat.lt_trans (by decide) h
end
section
variable{X:Cx}{pins:Z3}{σ:St}{H:Hp}{s:Shared}{a:Addr}{kvs:List (Key×V)}{k:Key}{u:Value}{A:Around}{E:Z5}
end
section
variable{X:Cx}{o i e value:Expr}{pos pos' tpos:Pos}{td ty tv:TE}
end
section
variable{X:Cx}{pos:Pos}
end
section
variable{X:Cx}{pins:Z3}{σ:St}{H:Hp}{s:Shared}{a:Addr}{y d:V}{u r:Value}{o:Option V}{A:Around}{E:Z5}
end
section
variable{X:Cx}{o e f:Expr}{apos cpos:Pos}{td ty tx:TE}
end
section
variable{X:Cx}{pins:Z3}{σ:St}{H:Hp}{s:Shared}{a:Addr}{kvs:List (Key×V)}{A:Around}{E:Z5}
end
section
variable{X:Cx}{pins:Z3}{σ:St}{H:Hp}{s:Shared}{a:Addr}{y:V}{u:Value}{A:Around}{E:Z5}
end
end L2
namespace L2
open PySem PySem.Spec PyProof.Rows
section
variable{κ:Type}[DecidableEq κ]
end
section
variable{P:Program}{w:World}{H:Hp}{h:Heap}{a:Addr}
end
noncomputable def zmo:List (TE×TE)->St->Hp->(List (V×V)->Hp->Prop)->Prop
 | [],_,H,Q=>Q [] H
 | (tk,tv)::r,σ,H,Q=>tk σ H fun x H1=>tv σ H1 fun y H2=>zmo r σ H2 fun ps H3=>Q ((x,y)::ps) H3
noncomputable abbrev VV:List (V×V)->List (Value×Value)->Prop:=Paired fun p q=>zaV p.1 q.1/\zaV p.2 q.2
noncomputable def PPs(X:Cx)(pos:Pos)(keys:List (Option Expr))(values:List Expr)(trs:List (TE×TE)):Prop :=
 ∀(pins:Z3) (s:Shared) (σ:St) (H:Hp) (Q:List (V×V)->Hp->Prop),Inv X pins σ H s->zmo trs σ H Q →
  wpAny (model X.prog X.w) X.A (evalPairs (pairTrees keys values X.env pos)) (fun vs s'=>∃ps H',Inv X pins σ H' s'/\VV ps vs/\Q ps H') X.xe s
def znR{X:Cx}{pos:Pos}:PPs X pos [] [] []:=fun pins s σ H Q I h=>pairTrees_nil_walk ⟨[],H,I,.nil,h⟩
def zk9{X:Cx}{pos:Pos}{k v:Expr}{ks:List (Option Expr)}{vs:List Expr}{tk tv:TE}{trs:List (TE×TE)}(hk:PE X k tk)(hv:PE X v tv)(hr:PPs X pos ks vs trs) :
  PPs X pos (some k::ks) (v::vs) ((tk,tv)::trs):=fun pins s σ H Q I h =>
 pairTrees_cons_walk (thn (hk pins s σ H _ I h) fun u s1 ⟨x,H1,I1,rx,q1⟩=>thn (hv pins s1 σ H1 _ I1 q1) fun w2 s2 ⟨y,H2,I2,ry,q2⟩ =>
  thn (hr pins s2 σ H2 _ I2 q2) fun ws s3 ⟨ps,H3,I3,rel,q3⟩=>⟨(x,y)::ps,H3,I3,.cons ⟨rx,ry⟩ rel,q3⟩)
end L2
namespace L2
open PySem PySem.Spec PyProof.Rows
noncomputable abbrev PA2:=(Int×Int)×Addr
noncomputable def kP(p:Int×Int):List Key:=[.inl p.1,.inl p.2]
def zrb{p q:Int×Int}(h:kP p=kP q):p=q:=by
 obtain ⟨a,b⟩:=p;obtain ⟨c,d⟩:=q;unfold kP at h
 injection h with h1 h2
 injection h2 with h2 _
 injection h1 with h1
 injection h2 with h2
 exact Prod.ext h1 h2
noncomputable def xsP(xs:List PA2):List (List Key×Addr×Value):=xs.map fun x=>(kP x.1,x.2,.bool true)
noncomputable def DP(P:Program)(w:World)(a:Addr)(xs:List PA2)(h:Heap):Prop :=
 ∃o es ep,h.get? a=some o/\o.ExactDict/\o.data=.dict es ep/\es.toList=(xsP xs).map (entryOfKey (tupleKind (zbY P w)))/\((xsP xs).map (·.1)).Nodup/\(a == sysModules)=false
noncomputable def KsP(H:Hp)(xs:List PA2):Prop:=∀x∈xs,H x.2=some (.tup [.int x.1.1,.int x.1.2])
def zfl{P:Program}{w:World}{a:Addr}{xs:List PA2}:∀h1 h2:Heap,DP P w a xs h1->(∀o,h1.get? a=some o->h2.get? a=some o)->DP P w a xs h2:=fun h1 h2 ⟨o,es,ep,e,r⟩ k=>⟨o,es,ep,k _ e,r⟩
def zfn{xs:List PA2}{p:Int×Int}:atKey (xsP xs) (kP p)=none↔p ∉ xs.map (·.1):=by
 unfold atKey xsP;rw [Option.map_eq_none_iff,List.find?_eq_none];constructor
 ·intro h z;obtain ⟨x,hx,e⟩:=yaq.mp z;exact h _ (yaq.mpr ⟨x,hx,rfl⟩) (by simp [e])
 ·intro h y hy e;obtain ⟨x,hx,rfl⟩:=yaq.mp hy
  have:kP x.1=kP p:=by simpa using e
  exact h (yaq.mpr ⟨x,hx,zrb this⟩)
section
variable{X:Cx}{pins:Z3}{σ:St}{H:Hp}{s:Shared}{a kb:Addr}{xs:List PA2}{p:Int×Int}
def Inv.dp(I:Inv X pins σ H s)(h:H a=some (.ext (DP X.prog X.w a xs)))(k:KsP H xs):s.heap.DictOfH (tupleKind (zbY X.prog X.w)) a (xsP xs)/\(a == sysModules)=false:=by
 obtain ⟨⟨o,es,ep,h1,h2,h3,h4,h5,h6⟩,_⟩:=I.hok a _ h;refine ⟨⟨o,es,ep,h1,h2,h3,h4,fun y hy=>?_,h5⟩,h6⟩;obtain ⟨x,hx,rfl⟩:=yaq.mp hy;exact zhu I.hok (k x hx)
def Inv.dp_addr{a':Addr}(I:Inv X pins σ H s)(h:H a=some (.ext (DP X.prog X.w a' xs))):a'=a:=by
 apply Classical.byContradiction;intro hne;obtain ⟨dp,_,st⟩:=I.hok a _ h;obtain ⟨o,es,ep,h1,h2,h3,_⟩:=id dp;have dp2:=st s.heap (s.heap.update a' fun _=>{ cls:=.type "list",data:=.seq #[] }) dp (fun q e=>(Heap.get?_update_ne _ _ _ _ (fun z=>hne z.symm)).trans e);obtain ⟨o2,es2,ep2,g1,g2,_⟩:=dp2;rw [ybx (fun _=>{ cls:=.type "list",data:=.seq #[] }) h1 rfl] at g1;cases g1;exact absurd g2.1 (by decide)
def zjn(hu:X.A.units+1<cLine):OpR X (compareOp .NotIn) (fun x y H Q=>∃(kb a a':Addr) (p:Int×Int) (xs:List PA2),x=.ref kb/\y=.ref a/\H kb=some (.tup [.int p.1,.int p.2])/\H a=some (.ext (DP X.prog X.w a' xs))/\KsP H xs/\Q (.bl (!decide (p∈xs.map (·.1)))) H):=by
 intro pins s σ H x y v u Q I rx ry h;obtain ⟨kb,a,a',p,xs,rfl,rfl,hk,hx,he,q⟩:=h;cases rx;cases ry;obtain rfl:=I.dp_addr hx;obtain ⟨hm,hd⟩:=I.dp hx he;refine wpAny_notIn_heap (k:=kP p) (tupleKind_room_in1 hu) (zhu I.hok hk) hd hm ⟨.bl _,H,I.tok _,?_,q⟩
 by_cases e:p∈xs.map (·.1)
 ·have:(atKey (xsP xs) (kP p)).isSome=true:=by
   cases h:atKey (xsP xs) (kP p) with
   | none=>exact absurd e (zfn.mp h)
   | some _=>rfl
  rw [yan e,this];rfl
 ·rw [yau e,zfn.mpr e];rfl
def zkS(hu:X.A.units+1<cLine):zsj X (fun o i v H Q=>∃(a a' kb:Addr) (p:Int×Int) (xs:List PA2),o=.ref a/\i=.ref kb/\v=.bl true/\H kb=some (.tup [.int p.1,.int p.2])/\H a=some (.ext (DP X.prog X.w a' xs))/\KsP H xs/\p ∉ xs.map (·.1)/\xs.length<=1000000/\Q (upd H a (.ext (DP X.prog X.w a' (xs++[(p,kb)]))))):=by
 intro pins s σ H o i v ov iv u Q I ro ri rv h;obtain ⟨a,a',kb,p,xs,rfl,rfl,rfl,hk,hx,he,hl,hz,q⟩:=h;cases ro;cases ri;obtain rfl:=I.dp_addr hx;cases (show u=Value.bool true from rv);obtain ⟨hm,hd⟩:=I.dp hx he;refine wpAny_setItem_heap (k:=kP p) (tupleKind_room_in1 hu) (zhu I.hok hk) hm (fun h' hm' sb=>?_) (by unfold xsP;rw [yad];exact yar hz (by decide));rw [storedH_new (zfn.mpr hl)] at hm';obtain ⟨o,es,ep,g1,g2,g3,g4,g5,g6⟩:=hm'
 have ex:xsP xs++[(kP p,kb,Value.bool true)]=xsP (xs++[(p,kb)]):=by unfold xsP;rw [ybb];rfl
 rw [ex] at g4 g6;have dn:DP X.prog X.w _ (xs++[(p,kb)]) h':=⟨o,es,ep,g1,g2,g3,g4,g6,hd⟩;exact ⟨upd H _ (.ext (DP X.prog X.w _ (xs++[(p,kb)]))),I.write (by rw [hx];trivial) (.inl rfl) (fun b o hb z=>(sb.2 b hb).trans z) ⟨_,g1⟩ ⟨dn,⟨_,g1⟩,zfl⟩,q⟩
noncomputable def zpv(P:Program)(w:World)(tk tv:TE):TE:=fun σ H Q=>∀d,H d=none->tk σ (upd H d (.ext (DP P w d []))) fun x H1=>tv σ H1 fun y H2=>∃(kb:Addr) (p:Int×Int),x=.ref kb/\y=.bl true/\H2 kb=some (.tup [.int p.1,.int p.2])/\H2 d=some (.ext (DP P w d []))/\Q (.ref d) (upd H2 d (.ext (DP P w d [(p,kb)])))
def zlh{pos:Pos}{k v:Expr}{tk tv:TE}(hu:X.A.units+1<cLine)(hk:PE X k tk)(hv:PE X v tv):PE X (.Dict [some k] [v] pos) (zpv X.prog X.w tk tv):=by
 intro pins s σ H Q I q;have hn:=I.hok.fresh (yah s.heap.objs.size);have big:sysModules<s.heap.objs.size:=I.big;have hne:(s.heap.objs.size == sysModules)=false:=yaY.mpr (Ne.symm (yay big));have dn:DP X.prog X.w s.heap.objs.size [] (s.heap.push { cls:=.type "dict",data:=.dict #[] }):=⟨_,#[],0,yao _ rfl,⟨rfl,rfl,rfl⟩,rfl,rfl,List.nodup_nil,hne⟩;have I1:=I.laid (a:=s.heap.objs.size) (o:=.ext (DP X.prog X.w s.heap.objs.size [])) (h':=s.heap.push { cls:=.type "dict",data:=.dict #[] }) (t':=s.toks) (fun _ _ q=>yae _ q) (yah _) ⟨dn,⟨_,yao _ rfl⟩,zfl⟩;refine wpAny_Dict_any rfl rfl (fun z=>nomatch z) (by show (1:Nat)<=15;decide) (thn (zk9 hk hv znR pins _ σ _ (fun ps H2=>match ps with | [(x,y)]=>∃(kb:Addr) (p:Int×Int),x=.ref kb/\y=.bl true/\H2 kb=some (.tup [.int p.1,.int p.2])/\H2 s.heap.objs.size=some (.ext (DP X.prog X.w s.heap.objs.size []))/\Q (.ref s.heap.objs.size) (upd H2 s.heap.objs.size (.ext (DP X.prog X.w s.heap.objs.size [(p,kb)]))) | _=>False) I1 (q _ hn)) fun ws s2 ⟨ps,H2,I2,rel,z⟩=>?_);split at z
 rotate_left
 ·exact z.elim
 ·obtain ⟨kb,p,rfl,rfl,h1,h2,q2⟩:=z
  cases rel with
  | @cons x y xs ys r1 r2 =>
   cases r2;obtain ⟨u1,u2⟩:=y;obtain ⟨ra,rb⟩:=r1;cases (show u1=Value.ref kb from ra);cases (show u2=Value.bool true from rb);unfold storeAll;rw [yb4];obtain ⟨hm,hd⟩:=I2.dp h2 (fun x hx=>by cases hx);refine yaa (yaa (wpAny_dictSet_heap (k:=kP p) (hsz:=yaM _) (show X.A.units<cLine by omega) (zhu I2.hok h1) hm fun h' hm' sb=>yac ?_));rw [storedH_new (zfn.mpr (fun z=>by cases z))] at hm';obtain ⟨o,es,ep,g1,g2,g3,g4,g5,g6⟩:=hm';have dn2:DP X.prog X.w s.heap.objs.size [(p,kb)] h':=⟨o,es,ep,g1,g2,g3,g4,g6,hd⟩;refine yac ⟨.ref s.heap.objs.size,_,?_,rfl,q2⟩;exact I2.write (x:=s.heap.objs.size) (e:=s.heap.objs.size) (by rw [h2];trivial) (.inl rfl) (fun b o hb z=>(sb.2 b hb).trans z) ⟨_,g1⟩ ⟨dn2,⟨_,g1⟩,zfl⟩
end
noncomputable def DO(P:Program)(w:World)(a:Addr)(ps:List (Option Int×Int))(h:Heap):Prop:=∃vs,h.DictOf (zcA P w) a vs/\Paired (fun (v:Option Int×Value) (p:Option Int×Int)=>v.1=p.1/\∃t,v.2=.int p.2 t) vs ps/\(a == sysModules)=false
end L2
namespace S2
open PySem PySem.Spec PyProof.Rows L2
noncomputable abbrev St:=L2.St
inductive D where
 | non | bl (b:Bool) | int (i:Int) | str (x:Str) | tup (l:List D) | lst (l:List D) | dic (l:List (D×D)) | ref (n:Nat) | exc (c:Str) | scr (l:List Int)
inductive Root where
 | slot (i:Nat) | fld (n:Nat) (f:Str) | obj (n:Nat) | far
 deriving DecidableEq
noncomputable abbrev Ow:=Addr->Option Root
structure Cf where
 ad:Str->Addr
 K:PySem.W.Frag
 P:Program
 wo:PySem.World
noncomputable instance:CoeFun Cf (fun _=>Str->Addr):=⟨Cf.ad⟩
structure Wd where
 H:Hp
 ow:Ow
 mu:List Addr
noncomputable def zw9:Key->D | .inl i=>.int i | .inr x=>.str x
noncomputable def zw7(k:List Key):D:=.tup (k.map zw9)
noncomputable def kvI(ps:List (Int×Int)):List (Key×V):=ps.map fun x=>(.inl x.1,.int x.2)
noncomputable def dsI(ps:List (Int×Int)):List (D×D):=ps.map fun x=>(.int x.1,.int x.2)
noncomputable def pdD(ps:List (Int×Int)):List (D×D):=ps.map fun p=>(.tup [.int p.1,.int p.2],.bl true)
noncomputable def oI:Option Int->D | none=>.non | some i=>.int i
noncomputable def odD(ps:List (Option Int×Int)):List (D×D):=(.non,.non)::ps.map fun p=>(oI p.1,.int p.2)
inductive Exd(cl:Cf)(w:Wd):HO->List (D×D)->Prop
 | pd {a:Addr} {xs:List PA2}:(∀x∈xs,w.H x.2=some (.tup [.int x.1.1,.int x.1.2])/\w.ow x.2=none)->Exd cl w (.ext (DP cl.P cl.wo a xs)) (pdD (xs.map (·.1)))
 | od {a:Addr} {ps:List (Option Int×Int)}:Exd cl w (.ext (DO cl.P cl.wo a ps)) (odD ps)
mutual
inductive Shd(cl:Cf)(w:Wd):V->D->Prop
 | non:Shd cl w .non .non
 | bl (b:Bool):Shd cl w (.bl b) (.bl b)
 | int (i:Int):Shd cl w (.int i) (.int i)
 | str (x:Str):Shd cl w (.str x) (.str x)
 | tup {a:Addr} {xs:List V} {ds:List D}:w.H a=some (.tup xs)->w.ow a=none->Shds cl w xs ds->Shd cl w (.ref a) (.tup ds)
 | lst {a:Addr} {xs:List V} {ds:List D}:w.H a=some (.lst xs)->w.ow a=none->Shds cl w xs ds->Shd cl w (.ref a) (.lst ds)
 | dicK {a:Addr} {kvs:List (Key×V)} {ds:List (D×D)}:w.H a=some (.dK kvs)->w.ow a=none->ShdK cl w kvs ds->Shd cl w (.ref a) (.dic ds)
 | dicT {a:Addr} {kvs:List (List Key×V)} {ds:List (D×D)}:w.H a=some (.dT kvs)->w.ow a=none->ShdT cl w kvs ds->Shd cl w (.ref a) (.dic ((.exc "",.non)::ds))
 | dicN {a:Addr} {ps:List (Int×Int)}:w.H a=some (.dK (kvI ps))->w.ow a=none->Shd cl w (.ref a) (.dic ((.non,.non)::dsI ps))
 | dicX {a:Addr} {o:HO} {ds:List (D×D)}:w.H a=some o->w.ow a=none->Exd cl w o ds->Shd cl w (.ref a) (.dic ((.bl true,.non)::ds))
 | ref {n:Nat} {a:Addr}:w.mu[n]?=some a->Shd cl w (.ref a) (.ref n)
 | scr {a:Addr} {o:Obj} {l:List Int}:w.H a=some (.frz o (.lst (l.map V.int)))->w.ow a=none->Shd cl w (.ref a) (.scr l)
 | scrK {a:Addr} {l:List Int}:(∀H:Hp,SqL cl.K H a (l.map V.int))->Shd cl w (.ref a) (.scr l)
 | exc {a:Addr} {c:Str} {ob:Obj}:w.H a=some (.frz ob (.own a))->w.ow a=none->ob.cls=.ref (cl c)->Shd cl w (.ref a) (.exc c)
inductive Shds(cl:Cf)(w:Wd):List V->List D->Prop
 | nil:Shds cl w [] []
 | cons {v:V} {d:D} {vs:List V} {ds:List D}:Shd cl w v d->Shds cl w vs ds->Shds cl w (v::vs) (d::ds)
inductive ShdK(cl:Cf)(w:Wd):List (Key×V)->List (D×D)->Prop
 | nil:ShdK cl w [] []
 | consI {i:Int} {v:V} {d:D} {vs:List (Key×V)} {ds:List (D×D)}:Shd cl w v d->ShdK cl w vs ds->ShdK cl w ((.inl i,v)::vs) ((.int i,d)::ds)
 | consS {x:Str} {v:V} {d:D} {vs:List (Key×V)} {ds:List (D×D)}:Shd cl w v d->ShdK cl w vs ds->ShdK cl w ((.inr x,v)::vs) ((.str x,d)::ds)
inductive ShdT(cl:Cf)(w:Wd):List (List Key×V)->List (D×D)->Prop
 | nil:ShdT cl w [] []
 | cons {k:List Key} {v:V} {d:D} {vs:List (List Key×V)} {ds:List (D×D)}:Shd cl w v d->ShdT cl w vs ds->ShdT cl w ((k,v)::vs) ((zw7 k,d)::ds)
end
structure Fut(w w':Wd):Prop where
 keep:∀a o,w.H a=some o->w.ow a=none->w'.H a=some o/\w'.ow a=none
 mu:∀(n:Nat) (a:Addr),w.mu[n]?=some a->w'.mu[n]?=some a
def Fut.refl(w:Wd):Fut w w:=⟨fun _ _ h k=>⟨h,k⟩,fun _ _ h=>h⟩
def Fut.trans{w w1 w2:Wd}(a:Fut w w1)(b:Fut w1 w2):Fut w w2:=⟨fun c o h k=>b.keep c o (a.keep c o h k).1 (a.keep c o h k).2,fun n c h=>b.mu n c (a.mu n c h)⟩
theorem Exd.up{cl:Cf}{w w':Wd}(f:Fut w w'){o:HO}{ds:List (D×D)}:Exd cl w o ds->Exd cl w' o ds
 | .pd h=>.pd fun x hx=>f.keep _ _ (h x hx).1 (h x hx).2
 | .od=>.od
mutual
theorem Shd.up{cl:Cf}{w w':Wd}(f:Fut w w'):∀{v:V} {d:D},Shd cl w v d->Shd cl w' v d
 | _,_,.non=>.non
 | _,_,.bl b=>.bl b
 | _,_,.int i=>.int i
 | _,_,.str x=>.str x
 | _,_,.tup e k r=>.tup (f.keep _ _ e k).1 (f.keep _ _ e k).2 (Shds.up f r)
 | _,_,.lst e k r=>.lst (f.keep _ _ e k).1 (f.keep _ _ e k).2 (Shds.up f r)
 | _,_,.dicK e k r=>.dicK (f.keep _ _ e k).1 (f.keep _ _ e k).2 (ShdK.up f r)
 | _,_,.dicT e k r=>.dicT (f.keep _ _ e k).1 (f.keep _ _ e k).2 (ShdT.up f r)
 | _,_,.dicN e k=>.dicN (f.keep _ _ e k).1 (f.keep _ _ e k).2
 | _,_,.dicX e k x=>.dicX (f.keep _ _ e k).1 (f.keep _ _ e k).2 (x.up f)
 | _,_,.ref e=>.ref (f.mu _ _ e)
 | _,_,.scr e k=>.scr (f.keep _ _ e k).1 (f.keep _ _ e k).2
 | _,_,.scrK h=>.scrK h
 | _,_,.exc e k h=>.exc (f.keep _ _ e k).1 (f.keep _ _ e k).2 h
theorem Shds.up{cl:Cf}{w w':Wd}(f:Fut w w'):∀{vs:List V} {ds:List D},Shds cl w vs ds->Shds cl w' vs ds
 | _,_,.nil=>.nil
 | _,_,.cons r t=>.cons (Shd.up f r) (Shds.up f t)
theorem ShdK.up{cl:Cf}{w w':Wd}(f:Fut w w'):∀{vs:List (Key×V)} {ds:List (D×D)},ShdK cl w vs ds->ShdK cl w' vs ds
 | _,_,.nil=>.nil
 | _,_,.consI r t=>.consI (Shd.up f r) (ShdK.up f t)
 | _,_,.consS r t=>.consS (Shd.up f r) (ShdK.up f t)
theorem ShdT.up{cl:Cf}{w w':Wd}(f:Fut w w'):∀{vs:List (List Key×V)} {ds:List (D×D)},ShdT cl w vs ds->ShdT cl w' vs ds
 | _,_,.nil=>.nil
 | _,_,.cons r t=>.cons (Shd.up f r) (ShdT.up f t)
end
section
variable{cl:Cf}{w:Wd}
theorem Shds.length:∀{vs:List V} {ds:List D},Shds cl w vs ds->vs.length=ds.length
 | _,_,.nil=>rfl
 | _,_,.cons _ t=>by rw [yag,yag,Shds.length t]
theorem Shds.get:∀{vs:List V} {ds:List D},Shds cl w vs ds->∀{i:Nat} {v:V},vs[i]?=some v->∃d,ds[i]?=some d/\Shd cl w v d
 | _,_,.nil,i,v,e=>by simp at e
 | _,_,.cons r _,0,v,e=>by simp at e;subst e;exact ⟨_,rfl,r⟩
 | _,_,.cons _ t,i+1,v,e=>by
  obtain ⟨d,h1,h2⟩:=Shds.get t (i:=i) (v:=v) (by simpa using e);exact ⟨d,by simpa using h1,h2⟩
theorem Shds.at:∀{vs:List V} {ds:List D},Shds cl w vs ds->∀{i:Nat} {d:D},ds[i]?=some d->∃v,vs[i]?=some v/\Shd cl w v d
 | _,_,.nil,i,v,e=>by simp at e
 | _,_,.cons r _,0,v,e=>by simp at e;subst e;exact ⟨_,rfl,r⟩
 | _,_,.cons _ t,i+1,v,e=>by
  obtain ⟨d,h1,h2⟩:=Shds.at t (i:=i) (d:=v) (by simpa using e);exact ⟨d,by simpa using h1,h2⟩
theorem Shds.append:∀{vs ws:List V} {ds es:List D},Shds cl w vs ds->Shds cl w ws es->Shds cl w (vs++ws) (ds++es)
 | _,_,_,_,.nil,s=>s
 | _,_,_,_,.cons r t,s=>.cons r (Shds.append t s)
theorem Shds.take:∀{vs:List V} {ds:List D} (n:Nat),Shds cl w vs ds->Shds cl w (vs.take n) (ds.take n)
 | _,_,0,_=>.nil
 | _,_,_+1,.nil=>.nil
 | _,_,n+1,.cons r t=>.cons r (Shds.take n t)
theorem Shds.drop:∀{vs:List V} {ds:List D} (n:Nat),Shds cl w vs ds->Shds cl w (vs.drop n) (ds.drop n)
 | _,_,0,s=>s
 | _,_,_+1,.nil=>.nil
 | _,_,n+1,.cons _ t=>Shds.drop n t
theorem Shds.set{v:V}{d:D}(r:Shd cl w v d):∀{vs:List V} {ds:List D} (i:Nat),Shds cl w vs ds->Shds cl w (vs.set i v) (ds.set i d)
 | _,_,_,.nil=>.nil
 | _,_,0,.cons _ t=>.cons r t
 | _,_,i+1,.cons q t=>.cons q (Shds.set r i t)
theorem Shds.flat{vs:List V}{ds:List D}(h:Shds cl w vs ds):∀n:Nat,Shds cl w (List.replicate n vs).flatten (List.replicate n ds).flatten
 | 0=>.nil
 | n+1=>by
  rw [ybg,ybg,ybD,ybD];exact Shds.append h (Shds.flat h n)
end
inductive Top(cl:Cf)(w:Wd):HO->D->Prop
 | lst {xs:List V} {ds:List D}:Shds cl w xs ds->Top cl w (.lst xs) (.lst ds)
 | dicK {kvs:List (Key×V)} {ds:List (D×D)}:ShdK cl w kvs ds->Top cl w (.dK kvs) (.dic ds)
 | dicT {kvs:List (List Key×V)} {ds:List (D×D)}:ShdT cl w kvs ds->Top cl w (.dT kvs) (.dic ((.exc "",.non)::ds))
 | dicN {ps:List (Int×Int)}:Top cl w (.dK (kvI ps)) (.dic ((.non,.non)::dsI ps))
 | dicX {o:HO} {ds:List (D×D)}:Exd cl w o ds->Top cl w o (.dic ((.bl true,.non)::ds))
theorem Top.up{cl:Cf}{w w':Wd}(f:Fut w w'){o:HO}{d:D}:Top cl w o d->Top cl w' o d
 | .lst h=>.lst (h.up f)
 | .dicK h=>.dicK (h.up f)
 | .dicT h=>.dicT (h.up f)
 | .dicN=>.dicN
 | .dicX x=>.dicX (x.up f)
noncomputable def zhN(cl:Cf)(w:Wd)(r:Root):Bool->V->D->Prop
 | false,v,d=>Shd cl w v d
 | true,v,d=>∃a o,v=.ref a/\w.ow a=some r/\w.H a=some o/\Top cl w o d
theorem zhN.keep{cl:Cf}{w w':Wd}(f:Fut w w'){r:Root}(k:∀a o,w.H a=some o->w.ow a=some r->w'.H a=some o/\w'.ow a=some r):∀{b:Bool} {v:V} {d:D},zhN cl w r b v d->zhN cl w' r b v d
 | false,_,_,h=>Shd.up f h
 | true,_,_,⟨a,o,e,h1,h2,t⟩=>⟨a,o,e,(k a o h2 h1).2,(k a o h2 h1).1,t.up f⟩
noncomputable def oDn:Option Int->D | none=>.non | some i=>.int i
noncomputable def nkD(k:NK):D:=.tup [.int k.1,.tup (k.2.map oDn)]
inductive ShdN(cl:Cf)(w:Wd):List (NK×V)->List (D×D)->Prop
 | nil:ShdN cl w [] []
 | cons {k:NK} {v:V} {d:D} {m:List (NK×V)} {ds:List (D×D)}:Shd cl w v d->ShdN cl w m ds->ShdN cl w ((k,v)::m) ((nkD k,d)::ds)
theorem ShdN.up{cl:Cf}{w w':Wd}(f:Fut w w'):∀{m:List (NK×V)} {ds:List (D×D)},ShdN cl w m ds->ShdN cl w' m ds
 | _,_,.nil=>.nil
 | _,_,.cons r t=>.cons (r.up f) (ShdN.up f t)
noncomputable def zkA(w:Wd)(kb:Addr)(k:NK):Prop:=∃b,(w.H kb=some (.tup [.int k.1,.ref b])/\w.ow kb=none)/\w.H b=some (.tup (k.2.map oV))/\w.ow b=none
def zkA.up{w w':Wd}(f:Fut w w'){kb:Addr}{k:NK}(h:zkA w kb k):zkA w' kb k:=by
 obtain ⟨b,h1,h2⟩:=h;exact ⟨b,f.keep _ _ h1.1 h1.2,f.keep _ _ h2.1 h2.2⟩
def zkA.at{w:Wd}{kb:Addr}{k:NK}(h:zkA w kb k):zgZ w.H kb k:=by
 obtain ⟨b,h1,h2⟩:=h;exact ⟨b,h1.1,h2.1⟩
noncomputable def zhP(w:Wd):List (NK×Addr×Value)->List (NK×V)->Prop:=Paired fun (x:NK×Addr×Value) (p:NK×V)=>x.1=p.1/\zkA w x.2.1 x.1/\zaV p.2 x.2.2
theorem zhP.up{w w':Wd}(f:Fut w w'):∀{xs:List (NK×Addr×Value)} {m:List (NK×V)},zhP w xs m->zhP w' xs m
 | _,_,.nil=>.nil
 | _,_,.cons h t=>.cons ⟨h.1,h.2.1.up f,h.2.2⟩ (zhP.up f t)
theorem zhP.ents{w:Wd}:∀{xs:List (NK×Addr×Value)} {m:List (NK×V)},zhP w xs m->zml w.H xs m
 | _,_,.nil=>.nil
 | _,_,.cons h t=>.cons ⟨h.1,h.2.1.at,h.2.2⟩ (zhP.ents t)
theorem zhP.snoc{w:Wd}{x:NK×Addr×Value}{p:NK×V}(h:x.1=p.1/\zkA w x.2.1 x.1/\zaV p.2 x.2.2):∀{xs:List (NK×Addr×Value)} {m:List (NK×V)},zhP w xs m->zhP w (xs++[x]) (m++[p])
 | _,_,.nil=>.cons h .nil
 | _,_,.cons h' t=>.cons h' (zhP.snoc h t)
theorem ShdN.snoc{cl:Cf}{w:Wd}{k:NK}{v:V}{d:D}(h:Shd cl w v d):∀{m:List (NK×V)} {ds:List (D×D)},ShdN cl w m ds->ShdN cl w (m++[(k,v)]) (ds++[(nkD k,d)])
 | _,_,.nil=>.cons h .nil
 | _,_,.cons r t=>.cons r (ShdN.snoc h t)
noncomputable def zxX(cl:Cf)(w:Wd)(r:Root)(v:V)(d:D):Prop:=∃a xs m ds,v=.ref a/\w.ow a=some r/\w.H a=some (.ext (DN cl.P cl.wo a xs))/\zhP w xs m/\ShdN cl w m ds/\d=.dic ds
noncomputable def zg0(cl:Cf)(w:Wd)(r:Root)(own:Bool)(v:V)(d:D):Prop:=(own=false/\Shd cl w v d)\/(own=true/\zxX cl w r v d)
def zg0.keep{cl:Cf}{w w':Wd}(f:Fut w w'){r:Root}(k:∀a o,w.H a=some o->w.ow a=some r->w'.H a=some o/\w'.ow a=some r){b:Bool}{v:V}{d:D}(h:zg0 cl w r b v d):zg0 cl w' r b v d:=by
 rcases h with ⟨e,h⟩ | ⟨e,a,xs,m,ds,e1,e2,e3,e4,e5,e6⟩
 ·exact .inl ⟨e,h.up f⟩
 ·exact .inr ⟨e,a,xs,m,ds,e1,(k a _ e3 e2).2,(k a _ e3 e2).1,e4.up f,e5.up f,e6⟩
structure Ob where
 cls:Str
 fs:List (Str×Bool×D)
noncomputable abbrev Sto:=List Ob
noncomputable def zcp(cl:Cf)(w:Wd)(n:Nat):List (Str×V)->List (Str×Bool×D)->Prop:=Paired fun p q=>p.1=q.1/\zg0 cl w (.fld n q.1) q.2.1 p.2 q.2.2
noncomputable def zrR(cl:Cf)(w:Wd)(n:Nat)(a:Addr)(ob:Ob):Prop:=w.ow a=some (.obj n)/\∃dx fs,w.H a=some (.ins (cl ob.cls) dx fs)/\zcp cl w n fs ob.fs
noncomputable def zqG(n:Nat):Option Root->Prop | some (.obj m)=>m=n | some (.fld m _)=>m=n | _=>False
theorem zcp.keep{cl:Cf}{w w':Wd}(f:Fut w w'){n:Nat}(k:∀a o,w.H a=some o->zqG n (w.ow a)->w'.H a=some o/\w'.ow a=w.ow a):∀{fs:List (Str×V)} {gs:List (Str×Bool×D)},zcp cl w n fs gs->zcp cl w' n fs gs
 | _,_,.nil=>.nil
 | _,_,.cons ⟨e,h⟩ t=>.cons ⟨e,h.keep f fun a o ha hr=>by
   have:=k a o ha (by rw [hr];rfl)
   exact ⟨this.1,this.2.trans hr⟩⟩ (zcp.keep f k t)
theorem zrR.keep{cl:Cf}{w w':Wd}(f:Fut w w'){n:Nat}{a:Addr}{ob:Ob}(k:∀a o,w.H a=some o->zqG n (w.ow a)->w'.H a=some o/\w'.ow a=w.ow a)(h:zrR cl w n a ob):zrR cl w' n a ob:=by
 obtain ⟨h1,dx,fs,h2,h3⟩:=h;have:=k a _ h2 (by rw [h1];rfl);exact ⟨this.2.trans h1,dx,fs,this.1,h3.keep f k⟩
structure Base where
 Fr:Hp
 fw:Ow
structure World'(cl:Cf)(B:Base)(w:Wd)(S:Sto):Prop where
 fr:∀a o,B.Fr a=some o->w.H a=some o/\w.ow a=B.fw a
 own:∀a r,w.ow a=some r->r=.far\/B.Fr a=none
 len:w.mu.length=S.length
 obj:∀(n:Nat) (ob:Ob),S[n]?=some ob->∃a,w.mu[n]?=some a/\zrR cl w n a ob
noncomputable abbrev Env:=List (Option (Bool×D))
structure Rel(cl:Cf)(B:Base)(σ:St)(w:Wd)(ρ:Env)(S:Sto):Prop where
 wd:World' cl B w S
 len:σ.length=ρ.length
 slots:∀(i:Nat) (o:Bool) (d:D),ρ[i]?=some (some (o,d))->∃v,σ[i]?=some (some v)/\zhN cl w (.slot i) o v d
structure Grow(w w':Wd):Prop where
 keep:∀a o,w.H a=some o->w'.H a=some o/\w'.ow a=w.ow a
 new:∀a r,w'.ow a=some r->w.H a=none->w.ow a=some r\/r=.far
 mu:w'.mu=w.mu
def Grow.refl(w:Wd):Grow w w:=⟨fun _ _ h=>⟨h,rfl⟩,fun _ _ h _=>.inl h,rfl⟩
def Grow.fut{w w':Wd}(g:Grow w w'):Fut w w':=⟨fun a o h k=>⟨(g.keep a o h).1,(g.keep a o h).2.trans k⟩,fun n a h=>by rw [g.mu];exact h⟩
def World'.grow{cl:Cf}{B:Base}{w w':Wd}{S:Sto}(W:World' cl B w S)(g:Grow w w'):World' cl B w' S where
 fr:=fun a o h=>by
  obtain ⟨h1,h2⟩:=W.fr a o h;exact ⟨(g.keep a o h1).1,(g.keep a o h1).2.trans h2⟩
 own:=fun a r h=>by
  cases e:w.H a with
  | none=>exact (g.new a r h e).elim (W.own a r) .inl
  | some o=>exact W.own a r (by rw [<-(g.keep a o e).2];exact h)
 len:=by rw [g.mu];exact W.len
 obj:=fun n ob h=>by
  obtain ⟨a,e,x⟩:=W.obj n ob h;exact ⟨a,by rw [g.mu];exact e,x.keep g.fut fun a o ha _=>g.keep a o ha⟩
theorem Rel.grow{cl:Cf}{B:Base}{σ:St}{w w':Wd}{ρ:Env}{S:Sto}(R:Rel cl B σ w ρ S)(g:Grow w w'):Rel cl B σ w' ρ S where
 wd:=R.wd.grow g
 len:=R.len
 slots:=fun i o d h=>by
  obtain ⟨v,e,x⟩:=R.slots i o d h;exact ⟨v,e,x.keep g.fut fun a o ha hr=>⟨(g.keep a o ha).1,(g.keep a o ha).2.trans hr⟩⟩
noncomputable def Wd.add(w:Wd)(p:Addr)(o:HO):Wd:=⟨upd w.H p o,fun a=>if a=p then none else w.ow a,w.mu⟩
def zav{w:Wd}{p:Addr}(h:w.H p=none)(o:HO):Grow w (w.add p o) where
 keep:=fun a u ha=>by
  have n:a≠p:=zap ha h;refine ⟨?_,?_⟩
  ·show upd w.H p o a=_;rw [zaf n];exact ha
  ·show (if a=p then none else w.ow a)=_;rw [if_neg n]
 new:=fun a r h1 h2=>by
  have h1':(if a=p then none else w.ow a)=some r:=h1;split at h1'
  ·cases h1'
  ·exact .inl h1'
 mu:=rfl
def zdx{w:Wd}{p:Addr}{o:HO}:(w.add p o).ow p=none:=if_pos rfl
def zgl{w:Wd}{p:Addr}{o:HO}:(w.add p o).H p=some o:=zay
def Shd.newT{cl:Cf}{w:Wd}{p:Addr}{xs:List V}{ds:List D}(h:w.H p=none)(r:Shds cl w xs ds):Shd cl (w.add p (.tup xs)) (.ref p) (.tup ds):=.tup zgl zdx (r.up (zav h _).fut)
def Shd.newL{cl:Cf}{w:Wd}{p:Addr}{xs:List V}{ds:List D}(h:w.H p=none)(r:Shds cl w xs ds):Shd cl (w.add p (.lst xs)) (.ref p) (.lst ds):=.lst zgl zdx (r.up (zav h _).fut)
def Shd.newO{cl:Cf}{w:Wd}{p:Addr}{o:HO}{d:D}(h:w.H p=none)(r:Top cl w o d):Shd cl (w.add p o) (.ref p) d:=by
 have g:=(zav h o).fut
 cases r with
 | lst r=>exact .lst zgl zdx (r.up g)
 | dicK r=>exact .dicK zgl zdx (r.up g)
 | dicT r=>exact .dicT zgl zdx (r.up g)
 | dicN=>exact .dicN zgl zdx
 | dicX x=>exact .dicX zgl zdx (x.up g)
inductive Out(α:Type) where
 | ok (a:α) (S:Sto) | exc (c:Str) (S:Sto) | bad
noncomputable abbrev Fe:=Env->Sto->Out D
inductive Fo where
 | nx (ρ:Env) (S:Sto) | rt (d:D) (S:Sto) | bk (ρ:Env) (S:Sto) | ct (ρ:Env) (S:Sto) | ex (c:Str) (ρ:Env) (S:Sto) | bad
noncomputable abbrev Fs:=Env->Sto->Fo
noncomputable def tE(cl:Cf)(E:St->XK)(f:Fe):TE:=fun σ H Q=>∃B w ρ S,w.H=H/\Rel cl B σ w ρ S/\match f ρ S with
 | .ok d S'=>∀v w',Rel cl B σ w' ρ S'->Fut w w'->Shd cl w' v d->Q v w'.H
 | .exc c S'=>∀w',Rel cl B σ w' ρ S'->Fut w w'->E σ (.ref (cl c)) none w'.H
 | .bad=>False
noncomputable def tN(cl:Cf)(E:St->XK)(f:Fe):TE:=fun σ H Q=>∃B w ρ S,w.H=H/\Rel cl B σ w ρ S/\match f ρ S with
 | .ok d S'=>∀p o w',Rel cl B σ w' ρ S'->Fut w w'->w'.H p=none->Top cl w' o d->Q (.ref p) (upd w'.H p o)
 | .exc c S'=>∀w',Rel cl B σ w' ρ S'->Fut w w'->E σ (.ref (cl c)) none w'.H
 | .bad=>False
noncomputable def Hd(cl:Cf)(σ:St)(ρ:Env)(w:Wd)(v:V)(d:D):Prop:=Shd cl w v d\/∃i:Nat,ρ[i]?=some (some (true,d))/\σ[i]?=some (some v)
noncomputable def tH(cl:Cf)(E:St->XK)(f:Fe):TE:=fun σ H Q=>∃B w ρ S,w.H=H/\Rel cl B σ w ρ S/\match f ρ S with
 | .ok d S'=>∀v w',Rel cl B σ w' ρ S'->Fut w w'->Hd cl σ ρ w' v d->Q v w'.H
 | .exc c S'=>∀w',Rel cl B σ w' ρ S'->Fut w w'->E σ (.ref (cl c)) none w'.H
 | .bad=>False
inductive TopV(cl:Cf)(w:Wd):V->D->Prop
 | sh {v:V} {d:D}:Shd cl w v d->TopV cl w v d
 | ow {a:Addr} {o:HO} {d:D}:w.H a=some o->Top cl w o d->TopV cl w (.ref a) d
def Hd.top{cl:Cf}{B:Base}{σ:St}{ρ:Env}{w:Wd}{S:Sto}{v:V}{d:D}(h:Hd cl σ ρ w v d)(R:Rel cl B σ w ρ S):TopV cl w v d:=by
 rcases h with h | ⟨i,h1,h2⟩
 ·exact .sh h
 ·obtain ⟨v',e,a,o,rfl,_,h3,t⟩:=R.slots i true d h1;rw [h2] at e;cases e;exact .ow h3 t
theorem Hd.up{cl:Cf}{σ:St}{ρ:Env}{w w':Wd}{v:V}{d:D}(f:Fut w w')(h:Hd cl σ ρ w v d):Hd cl σ ρ w' v d:=by
 rcases h with h | h
 ·exact .inl (h.up f)
 ·exact .inr h
def PE.imp{X:Cx}{e:Expr}{t t':TE}(h:PE X e t)(i:∀σ H Q,t' σ H Q->t σ H Q):PE X e t':=fun pins s σ H Q I q=>h pins s σ H Q I (i _ _ _ q)
def zsI{cl:Cf}{E:St->XK}{f:Fe}{σ:St}{H:Hp}{Q:VK}(h:tE cl E f σ H Q):tN cl E f σ H Q:=by
 obtain ⟨B,w,ρ,S,e,R,h⟩:=h;refine ⟨B,w,ρ,S,e,R,?_⟩
 cases hf:f ρ S with
 | ok d S' =>
  rw [hf] at h;intro p o w' R' F' hp t;exact h (.ref p) (w'.add p o) (R'.grow (zav hp o)) (F'.trans (zav hp o).fut) (Shd.newO hp t)
 | exc c S'=>rwa [hf] at h
 | bad=>rwa [hf] at h
def zsH{cl:Cf}{E:St->XK}{f:Fe}{σ:St}{H:Hp}{Q:VK}(h:tH cl E f σ H Q):tE cl E f σ H Q:=by
 obtain ⟨B,w,ρ,S,e,R,h⟩:=h;refine ⟨B,w,ρ,S,e,R,?_⟩
 cases hf:f ρ S with
 | ok d S' =>
  rw [hf] at h;intro v w' R' F' t;exact h v w' R' F' (.inl t)
 | exc c S'=>rwa [hf] at h
 | bad=>rwa [hf] at h
end S2
namespace S2
open PySem PySem.Spec PyProof.Rows L2
noncomputable def Out.bind{α β:Type}(o:Out α)(k:α->Sto->Out β):Out β:=match o with | .ok a S=>k a S | .exc c S=>.exc c S | .bad=>.bad
noncomputable def Out.of{α:Type}(o:Option α)(S:Sto):Out α:=match o with | some a=>.ok a S | none=>.bad
@[simp] def Out.bind_ok{α β:Type}(a:α)(S:Sto)(k:α->Sto->Out β):(Out.ok a S).bind k=k a S:=rfl
@[simp] def Out.bind_exc{α β:Type}(c:Str)(S:Sto)(k:α->Sto->Out β):(Out.exc c S:Out α).bind k=.exc c S:=rfl
@[simp] def Out.bind_bad{α β:Type}(k:α->Sto->Out β):(Out.bad:Out α).bind k=.bad:=rfl
@[simp] def Out.of_some{α:Type}(a:α)(S:Sto):Out.of (some a) S=.ok a S:=rfl
noncomputable def zad(i:Nat):Fe:=fun ρ S=>match ρ[i]? with | some (some (false,d))=>.ok d S | _=>.bad
noncomputable def zam(i:Nat):Fe:=fun ρ S=>match ρ[i]? with | some (some (_,d))=>.ok d S | _=>.bad
noncomputable def zae(d:D):Fe:=fun _ S=>.ok d S
noncomputable def eUn(g:D->Option D)(f:Fe):Fe:=fun ρ S=>(f ρ S).bind fun a S1=>Out.of (g a) S1
noncomputable def zai(g:D->D->Option D)(f h:Fe):Fe:=fun ρ S=>(f ρ S).bind fun a S1=>(h ρ S1).bind fun b S2=>Out.of (g a b) S2
noncomputable def isB:D->Option Bool | .bl b=>some b | _=>none
noncomputable def eIf(c f h:Fe):Fe:=fun ρ S=>(c ρ S).bind fun d S1=>match isB d with | some true=>f ρ S1 | some false=>h ρ S1 | none=>.bad
noncomputable def zfu(f h:Fe):Fe:=fun ρ S=>(f ρ S).bind fun d S1=>match isB d with | some true=>h ρ S1 | some false=>.ok (.bl false) S1 | none=>.bad
noncomputable def eOr(f h:Fe):Fe:=fun ρ S=>(f ρ S).bind fun d S1=>match isB d with | some true=>.ok (.bl true) S1 | some false=>h ρ S1 | none=>.bad
noncomputable def zft:D->Option D | .bl b=>some (.bl (!b)) | _=>none
noncomputable def zag:List Fe->Env->Sto->Out (List D)
 | [],_,S=>.ok [] S
 | f::fs,ρ,S=>(f ρ S).bind fun d S1=>(zag fs ρ S1).bind fun ds S2=>.ok (d::ds) S2
noncomputable def zaM(n:Nat):Bool:=decide (n<=100000)
noncomputable def zem(fs:List Fe):Fe:=fun ρ S=>(zag fs ρ S).bind fun ds S1=>if zaM ds.length then .ok (.tup ds) S1 else .bad
noncomputable def zeg(fs:List Fe):Fe:=fun ρ S=>(zag fs ρ S).bind fun ds S1=>if zaM ds.length then .ok (.lst ds) S1 else .bad
noncomputable def zaO(g:List D->Option D)(fs:List Fe):Fe:=fun ρ S=>(zag fs ρ S).bind fun ds S1=>Out.of (g ds) S1
def zaH{n:Nat}(h:zaM n=true):n<=sizeLine:=yar (yak h) (by decide)
noncomputable def zbD:Expr->Bool | .Starred _ _=>false | _=>true
def za6{e:Expr}{es:List Expr}{env:PySem.Env}(h:zbD e=true):starEach (e::es) env=(false,eval e env)::starEach es env:=by
 cases e<;>first | rfl | cases h
theorem za3{pos:Pos}{env:PySem.Env}:∀{es:List Expr},es.all zbD=true->(backTo pos (starEach es env)).any (·.1)=false
 | [],_=>rfl
 | e::es,h=>by
  rw [yby,yab] at h;rw [za6 h.1];show (false||(backTo pos (starEach es env)).any (·.1))=false;rw [za3 h.2];rfl
theorem zfR{pos:Pos}{env:PySem.Env}:∀{es:List Expr},es.all zbD=true->(backTo pos (starEach es env)).all (fun x=>!x.1)=true
 | [],_=>rfl
 | e::es,h=>by
  rw [yby,yab] at h;rw [za6 h.1];show (true&&(backTo pos (starEach es env)).all (fun x=>!x.1))=true;rw [zfR h.2];rfl
def zj0{pos:Pos}{env:PySem.Env}{es:List Expr}(h:es.all zbD=true)(hl:es.length<30):((backTo pos (starEach es env)).all (fun x=>!x.1)&&(backToKw pos (keywordEach [] env)).all (fun x=>x.1.isSome)
   && decide (es.length+([]:List Keyword).length+(if ([]:List Keyword).isEmpty then 0 else 1)<30))=true:=by
 rw [zfR h];show (true&&true&&decide (es.length+0+0<30))=true;simpa using hl
noncomputable def Hds(cl:Cf)(σ:St)(ρ:Env)(w:Wd):List V->List D->Prop:=Paired (Hd cl σ ρ w)
noncomputable def zks(cl:Cf)(w:Wd):List V->List D->Prop:=Paired (TopV cl w)
theorem Hds.top{cl:Cf}{B:Base}{σ:St}{ρ:Env}{w:Wd}{S:Sto}(R:Rel cl B σ w ρ S):∀{vs:List V} {ds:List D},Hds cl σ ρ w vs ds->zks cl w vs ds
 | _,_,.nil=>.nil
 | _,_,.cons h t=>.cons (h.top R) (Hds.top R t)
noncomputable def tAs(cl:Cf)(E:St->XK)(fs:List Fe):TA:=fun σ H Q=>∃B w ρ S,w.H=H/\Rel cl B σ w ρ S/\match zag fs ρ S with
 | .ok ds S'=>∀vs w',Rel cl B σ w' ρ S'->Fut w w'->Shds cl w' vs ds->Q vs w'.H
 | .exc c S'=>∀w',Rel cl B σ w' ρ S'->Fut w w'->E σ (.ref (cl c)) none w'.H
 | .bad=>False
noncomputable def tHs(cl:Cf)(E:St->XK)(fs:List Fe):TA:=fun σ H Q=>∃B w ρ S,w.H=H/\Rel cl B σ w ρ S/\match zag fs ρ S with
 | .ok ds S'=>∀vs w',Rel cl B σ w' ρ S'->Fut w w'->Hds cl σ ρ w' vs ds->Q vs w'.H
 | .exc c S'=>∀w',Rel cl B σ w' ρ S'->Fut w w'->E σ (.ref (cl c)) none w'.H
 | .bad=>False
def PA.imp{X:Cx}{es:List Expr}{t t':TA}(h:PA X es t)(i:∀σ H Q,t' σ H Q->t σ H Q):PA X es t':=fun pos pins s σ H Q I q=>h pos pins s σ H Q I (i _ _ _ q)
def PT.imp{X:Cx}{e:Expr}{t t':TT}(h:PT X e t)(i:∀σ H Q,t' σ H Q->t σ H Q):PT X e t':=fun pins s σ H Q I q=>h pins s σ H Q I (i _ _ _ q)
section
variable{X:Cx}{cl:Cf}{E:St->XK}{a b c e:Expr}{f h g:Fe}{pos:Pos}
def zpW{i:Nat}{x:Str}(hN:X.N[i]?=some x)(hv:Vis X.env.scope x)(hd:(x == ("__debug__":Str))=false)(hcd:(x == ("__classdict__":Str))=false):PE X (.Name x pos) (tE cl E (zad i)):=by
 refine PE.imp (za4 hN hv hd hcd) ?_;rintro σ H Q ⟨B,w,ρ,S,rfl,R,q⟩;unfold zad at q;split at q
 ·rename_i o d S' hm;split at hm
  ·rename_i d' he;cases hm;obtain ⟨v,e,r⟩:=R.slots i false d he;exact ⟨v,e,q v w R (Fut.refl _) r⟩
  ·cases hm
 ·rename_i hm;split at hm<;>cases hm
 ·exact q.elim
def zp5{i:Nat}{x:Str}(hN:X.N[i]?=some x)(hv:Vis X.env.scope x)(hd:(x == ("__debug__":Str))=false)(hcd:(x == ("__classdict__":Str))=false):PE X (.Name x pos) (tH cl E (zam i)):=by
 refine PE.imp (za4 hN hv hd hcd) ?_;rintro σ H Q ⟨B,w,ρ,S,rfl,R,q⟩;unfold zam at q;split at q
 ·rename_i o d S' hm;split at hm
  ·rename_i b d' he;cases hm;obtain ⟨v,e,r⟩:=R.slots i b d he;refine ⟨v,e,q v w R (Fut.refl _) ?_⟩
   cases b with
   | false=>exact .inl r
   | true=>exact .inr ⟨i,he,e⟩
  ·cases hm
 ·rename_i hm;split at hm<;>cases hm
 ·exact q.elim
def ziK{v:V}{d:D}(h:PE X e (tC v))(hd:∀w,Shd cl w v d):PE X e (tE cl E (zae d)):=by
 refine PE.imp h ?_;rintro σ H Q ⟨B,w,ρ,S,rfl,R,q⟩;exact q v w R (Fut.refl _) (hd w)
def ziL(h:PE X e (tE cl E f)):PE X e (tH cl E f):=PE.imp h fun _ _ _=>zsH
def zb6(h:PE X e (tN cl E f)):PE X e (tE cl E f):=PE.imp h fun _ _ _=>zsI
noncomputable def OpD(X:Cx)(cl:Cf)(op:Value->Value->Sem Value)(g:D->D->Option D):Prop:=OpR X op fun x y H Q=>∃w d e r,w.H=H/\TopV cl w x d/\TopV cl w y e/\g d e=some r/\∀v w',Grow w w'->Shd cl w' v r->Q v w'.H
noncomputable def UnD(X:Cx)(cl:Cf)(op:Value->Sem Value)(g:D->Option D):Prop:=UnR X op fun x H Q=>∃w d r,w.H=H/\TopV cl w x d/\g d=some r/\∀v w',Grow w w'->Shd cl w' v r->Q v w'.H
noncomputable def zis(X:Cx)(cl:Cf)(fv:Value)(g:List D->Option D):Prop:=zdk X fv fun xs H Q=>∃w ds r,w.H=H/\zks cl w xs ds/\g ds=some r/\∀v w',Grow w w'->Shd cl w' v r->Q v w'.H
noncomputable def zub(X:Cx)(cl:Cf)(fv:Value)(g:List D->Option D):Prop:=zdk X fv fun xs H Q=>∃w ds r,w.H=H/\zks cl w xs ds/\g ds=some r/\∀p o w',Grow w w'->w'.H p=none->Top cl w' o r->Q (.ref p) (upd w'.H p o)
noncomputable def IxD(X:Cx)(cl:Cf)(g:D->D->Option D):Prop:=IxR X fun x y H Q=>∃w d e r,w.H=H/\TopV cl w x d/\TopV cl w y e/\g d e=some r/\∀v w',Grow w w'->Shd cl w' v r->Q v w'.H
def two{gg:D->D->Option D}{r2:R2}(hr:∀x y H Q,(∃w d e r,w.H=H/\TopV cl w x d/\TopV cl w y e/\gg d e=some r/\∀v w',Grow w w'->Shd cl w' v r->Q v w'.H)->r2 x y H Q)(σ:St)(H:Hp)(Q:VK)(q:tE cl E (zai gg f h) σ H Q):tOp r2 (tH cl E f) (tH cl E h) σ H Q:=by
 obtain ⟨B,w,ρ,S,rfl,R,q⟩:=q;refine ⟨B,w,ρ,S,rfl,R,?_⟩;unfold zai at q
 cases hf:f ρ S with
 | bad=>rwa [hf] at q
 | exc c S1=>rwa [hf] at q
 | ok d S1 =>
  rw [hf] at q;intro v w1 R1 F1 h1;refine ⟨B,w1,ρ,S1,rfl,R1,?_⟩;dsimp only [Out.bind] at q
  cases hh:h ρ S1 with
  | bad=>rwa [hh] at q
  | exc c S2=>rw [hh] at q;exact fun w2 R2 F2=>q w2 R2 (F1.trans F2)
  | ok e S2 =>
   rw [hh] at q;intro y w2 R2 F2 h2;dsimp only at q
   cases hg:gg d e with
   | none=>rw [hg] at q;exact q.elim
   | some r =>
    rw [hg] at q;exact hr _ _ _ _ ⟨w2,d,e,r,rfl,(h1.up F2).top R2,h2.top R2,hg,fun v' w' gr sh=>q v' w' (R2.grow gr) (F1.trans (F2.trans gr.fut)) sh⟩
def zmw{op:Operator}{gg:D->D->Option D}(ho:OpD X cl (binaryOp op) gg)(ha:PE X a (tH cl E f))(hb:PE X b (tH cl E h)):PE X (.BinOp a op b pos) (tE cl E (zai gg f h)) :=
 PE.imp (zqq ho ha hb) (two fun _ _ _ _ z=>z)
def zsW{gg:D->D->Option D}(ho:IxD X cl gg)(ha:PE X a (tH cl E f))(hb:PE X b (tH cl E h))(hs:zfq b):PE X (.Subscript a b pos) (tE cl E (zai gg f h)) :=
 PE.imp (zqv ho ha hb hs) (two fun _ _ _ _ z=>z)
def zp4{op:CmpOp}{gg:D->D->Option D}(ho:OpD X cl (compareOp op) gg)(ha:PE X a (tH cl E f))(hb:PE X b (tH cl E h))(hm:behindInMarks op b=false):PE X (.Compare a [op] [b] pos) (tE cl E (zai gg f h)) :=
 PE.imp (zgD ho ha hb hm) (two fun _ _ _ _ z=>z)
def zsU{op:UnaryOp}{gg:D->Option D}(ho:UnD X cl (unaryOp op) gg)(ha:PE X a (tH cl E f)):PE X (.UnaryOp op a pos) (tE cl E (eUn gg f)):=by
 refine PE.imp (zs7 ho ha) ?_;rintro σ H Q ⟨B,w,ρ,S,rfl,R,q⟩;refine ⟨B,w,ρ,S,rfl,R,?_⟩;unfold eUn at q
 cases hf:f ρ S with
 | bad=>rwa [hf] at q
 | exc c S1=>rwa [hf] at q
 | ok d S1 =>
  rw [hf] at q;intro v w1 R1 F1 h1;dsimp only [Out.bind] at q
  cases hg:gg d with
  | none=>rw [hg] at q;exact q.elim
  | some r =>
   rw [hg] at q;exact ⟨w1,d,r,rfl,h1.top R1,hg,fun v' w' gr sh=>q v' w' (R1.grow gr) (F1.trans gr.fut) sh⟩
noncomputable def tTr(cl:Cf)(E:St->XK)(f:Fe):TT:=fun σ H Q=>∃B w ρ S,w.H=H/\Rel cl B σ w ρ S/\match f ρ S with
 | .ok d S'=>match isB d with
  | some b=>∀w',Rel cl B σ w' ρ S'->Fut w w'->Q b w'.H
  | none=>False
 | .exc c S'=>∀w',Rel cl B σ w' ρ S'->Fut w w'->E σ (.ref (cl c)) none w'.H
 | .bad=>False
def zck{d:D}{b:Bool}(h:isB d=some b):d=.bl b:=by
 cases d<;>simp [isB] at h
 subst h;rfl
def zfJ{w:Wd}{v:V}{b:Bool}(h:Shd cl w v (.bl b)):v=.bl b:=by cases h;rfl
def zfB{σ:St}{H:Hp}{Q:Bool->Hp->Prop}(q:tTr cl E f σ H Q):tB (tE cl E f) σ H Q:=by
 obtain ⟨B,w,ρ,S,rfl,R,q⟩:=q;refine ⟨B,w,ρ,S,rfl,R,?_⟩
 cases hf:f ρ S with
 | bad=>rwa [hf] at q
 | exc c S1=>rwa [hf] at q
 | ok d S1 =>
  rw [hf] at q;intro v w1 R1 F1 h1;dsimp only at q
  cases hb:isB d with
  | none=>rw [hb] at q;exact q.elim
  | some b =>
   rw [hb] at q;rw [zck hb] at h1;exact ⟨b,zfJ h1,q w1 R1 F1⟩
def za0(h:PE X e (tE cl E f))(he:∀whole,isTrue e X.env whole=(do let v ← whole;standAt e.pos;holding [v] (truthy v))):PT X e (tTr cl E f) :=
 PT.imp (zqh h he) fun _ _ _ q=>zfB q
def ziz{gg:D->D->Option D}{r2:R2}(hr:∀x y H Q,(∃w d e r,w.H=H/\TopV cl w x d/\TopV cl w y e/\gg d e=some r/\∀v w',Grow w w'->Shd cl w' v r->Q v w'.H)->r2 x y H Q){σ:St}{H:Hp}{Q:Bool->Hp->Prop}(q:tTr cl E (zai gg f h) σ H Q):zm9 (tOp r2 (tH cl E f) (tH cl E h)) σ H Q :=
 two hr σ H _ (zfB q)
def zpD{op:CmpOp}{gg:D->D->Option D}(ho:OpD X cl (compareOp op) gg)(ha:PE X a (tH cl E f))(hb:PE X b (tH cl E h))(hm:behindInMarks op b=false):PT X (.Compare a [op] [b] pos) (tTr cl E (zai gg f h)) :=
 PT.imp (zgz ho ha hb hm) fun _ _ _ q=>ziz (fun _ _ _ _ z=>z) q
def PW.imp{X:Cx}{e:Expr}{t t':TT}(h:PW X e t)(i:∀σ H Q,t' σ H Q->t σ H Q):PW X e t':=fun whole pins s σ H Q I q=>h whole pins s σ H Q I (i _ _ _ q)
def zm8{σ:St}{H:Hp}{Q:Bool->Hp->Prop}(q:tTr cl E (zfu f h) σ H Q):zuZ (tTr cl E f) (tTr cl E h) σ H Q:=by
 obtain ⟨B,w,ρ,S,rfl,R,q⟩:=q;refine ⟨B,w,ρ,S,rfl,R,?_⟩;unfold zfu at q
 cases hf:f ρ S with
 | bad=>rwa [hf] at q
 | exc c S1=>rwa [hf] at q
 | ok d S1 =>
  rw [hf] at q;dsimp only [Out.bind] at q ⊢
  cases hb:isB d with
  | none=>rw [hb] at q;exact q.elim
  | some b =>
   rw [hb] at q;intro w1 R1 F1
   cases b with
   | false=>exact zlP (q w1 R1 F1)
   | true =>
    refine zlO ⟨B,w1,ρ,S1,rfl,R1,?_⟩;dsimp only at q
    cases hh:h ρ S1 with
    | bad=>rwa [hh] at q
    | exc c S2=>rw [hh] at q;exact fun w2 R2 F2=>q w2 R2 (F1.trans F2)
    | ok e S2 =>
     rw [hh] at q;dsimp only at q ⊢
     cases hb2:isB e with
     | none=>rw [hb2] at q;exact q.elim
     | some b2=>rw [hb2] at q;exact fun w2 R2 F2=>q w2 R2 (F1.trans F2)
def zps{σ:St}{H:Hp}{Q:Bool->Hp->Prop}(q:tTr cl E (eOr f h) σ H Q):tOr (tTr cl E f) (tTr cl E h) σ H Q:=by
 obtain ⟨B,w,ρ,S,rfl,R,q⟩:=q;refine ⟨B,w,ρ,S,rfl,R,?_⟩;unfold eOr at q
 cases hf:f ρ S with
 | bad=>rwa [hf] at q
 | exc c S1=>rwa [hf] at q
 | ok d S1 =>
  rw [hf] at q;dsimp only [Out.bind] at q ⊢
  cases hb:isB d with
  | none=>rw [hb] at q;exact q.elim
  | some b =>
   rw [hb] at q;intro w1 R1 F1
   cases b with
   | true=>exact zlO (q w1 R1 F1)
   | false =>
    refine zlP ⟨B,w1,ρ,S1,rfl,R1,?_⟩;dsimp only at q
    cases hh:h ρ S1 with
    | bad=>rwa [hh] at q
    | exc c S2=>rw [hh] at q;exact fun w2 R2 F2=>q w2 R2 (F1.trans F2)
    | ok e S2 =>
     rw [hh] at q;dsimp only at q ⊢
     cases hb2:isB e with
     | none=>rw [hb2] at q;exact q.elim
     | some b2=>rw [hb2] at q;exact fun w2 R2 F2=>q w2 R2 (F1.trans F2)
def zm7{σ:St}{H:Hp}{Q:Bool->Hp->Prop}(q:tTr cl E (eUn zft f) σ H Q):zuX (tTr cl E f) σ H Q:=by
 obtain ⟨B,w,ρ,S,rfl,R,q⟩:=q;refine ⟨B,w,ρ,S,rfl,R,?_⟩;unfold eUn at q
 cases hf:f ρ S with
 | bad=>rwa [hf] at q
 | exc c S1=>rwa [hf] at q
 | ok d S1 =>
  rw [hf] at q;dsimp only [Out.bind] at q ⊢
  cases hb:isB d with
  | none =>
   have:zft d=none:=by cases d<;>simp [isB] at hb<;>rfl
   rw [this] at q;exact q.elim
  | some b =>
   rwa [zck hb] at q
def zpB(ha:PT X a (tTr cl E f)):PT X (.UnaryOp .Not a pos) (tTr cl E (eUn zft f)):=PT.imp (zqi ha) fun _ _ _ q=>zm7 q
def zpz{zbk:List Expr}(ha:PT X a (tTr cl E f))(hb:PW X (.BoolOp .And (b::zbk) pos) (tTr cl E h)):PW X (.BoolOp .And (a::b::zbk) pos) (tTr cl E (zfu f h)):=PW.imp (zqf ha hb) fun _ _ _ q=>zm8 q
def zsP{zbk:List Expr}(ha:PT X a (tTr cl E f))(hb:PW X (.BoolOp .Or (b::zbk) pos) (tTr cl E h)):PW X (.BoolOp .Or (a::b::zbk) pos) (tTr cl E (eOr f h)):=PW.imp (zs3 ha hb) fun _ _ _ q=>zps q
def zp6{zbk:List Expr}(ha:PE X a (tE cl E f))(hb:PE X (.BoolOp .And (b::zbk) pos) (tE cl E h)):PE X (.BoolOp .And (a::b::zbk) pos) (tE cl E (zfu f h)):=by
 refine PE.imp (zqy ha hb) ?_;rintro σ H Q ⟨B,w,ρ,S,rfl,R,q⟩;refine ⟨B,w,ρ,S,rfl,R,?_⟩;unfold zfu at q
 cases hf:f ρ S with
 | bad=>rwa [hf] at q
 | exc c S1=>rwa [hf] at q
 | ok d S1 =>
  rw [hf] at q;intro v w1 R1 F1 h1;dsimp only [Out.bind] at q
  cases hb:isB d with
  | none=>rw [hb] at q;exact q.elim
  | some b =>
   rw [hb] at q;rw [zck hb] at h1;refine ⟨b,zfJ h1,?_⟩
   cases b with
   | false=>exact zlP (q _ w1 R1 F1 (.bl false))
   | true =>
    refine zlO ⟨B,w1,ρ,S1,rfl,R1,?_⟩;dsimp only at q
    cases hh:h ρ S1 with
    | bad=>rwa [hh] at q
    | exc c S2=>rw [hh] at q;exact fun w2 R2 F2=>q w2 R2 (F1.trans F2)
    | ok e S2=>rw [hh] at q;exact fun v w2 R2 F2=>q v w2 R2 (F1.trans F2)
def zsV{zbk:List Expr}(ha:PE X a (tE cl E f))(hb:PE X (.BoolOp .Or (b::zbk) pos) (tE cl E h)):PE X (.BoolOp .Or (a::b::zbk) pos) (tE cl E (eOr f h)):=by
 refine PE.imp (zs8 ha hb) ?_;rintro σ H Q ⟨B,w,ρ,S,rfl,R,q⟩;refine ⟨B,w,ρ,S,rfl,R,?_⟩;unfold eOr at q
 cases hf:f ρ S with
 | bad=>rwa [hf] at q
 | exc c S1=>rwa [hf] at q
 | ok d S1 =>
  rw [hf] at q;intro v w1 R1 F1 h1;dsimp only [Out.bind] at q
  cases hb:isB d with
  | none=>rw [hb] at q;exact q.elim
  | some b =>
   rw [hb] at q;rw [zck hb] at h1;refine ⟨b,zfJ h1,?_⟩
   cases b with
   | true=>exact zlO (q _ w1 R1 F1 (.bl true))
   | false =>
    refine zlP ⟨B,w1,ρ,S1,rfl,R1,?_⟩;dsimp only at q
    cases hh:h ρ S1 with
    | bad=>rwa [hh] at q
    | exc c S2=>rw [hh] at q;exact fun w2 R2 F2=>q w2 R2 (F1.trans F2)
    | ok e S2=>rw [hh] at q;exact fun v w2 R2 F2=>q v w2 R2 (F1.trans F2)
def zpZ(ha:PE X a (tE cl E f)):PE X (.UnaryOp .Not a pos) (tE cl E (eUn zft f)):=by
 refine PE.imp (zqs ha) ?_;rintro σ H Q ⟨B,w,ρ,S,rfl,R,q⟩;refine ⟨B,w,ρ,S,rfl,R,?_⟩;unfold eUn at q
 cases hf:f ρ S with
 | bad=>rwa [hf] at q
 | exc c S1=>rwa [hf] at q
 | ok d S1 =>
  rw [hf] at q;intro v w1 R1 F1 h1;dsimp only [Out.bind] at q
  cases hb:isB d with
  | none =>
   have:zft d=none:=by cases d<;>simp [isB] at hb<;>rfl
   rw [this] at q;exact q.elim
  | some b =>
   rw [zck hb] at q h1;exact ⟨b,zfJ h1,q _ w1 R1 F1 (.bl _)⟩
def zsJ{σ:St}{H:Hp}{Q:VK}(q:tE cl E (eIf g f h) σ H Q):tIf (tTr cl E g) (tE cl E f) (tE cl E h) σ H Q:=by
 obtain ⟨B,w,ρ,S,rfl,R,q⟩:=q;refine ⟨B,w,ρ,S,rfl,R,?_⟩;unfold eIf at q
 cases hg:g ρ S with
 | bad=>rwa [hg] at q
 | exc c S1=>rwa [hg] at q
 | ok d S1 =>
  rw [hg] at q;dsimp only [Out.bind] at q ⊢
  cases hb:isB d with
  | none=>rw [hb] at q;exact q.elim
  | some b =>
   rw [hb] at q;intro w1 R1 F1
   cases b with
   | true =>
    refine zlO ⟨B,w1,ρ,S1,rfl,R1,?_⟩;dsimp only at q
    cases hh:f ρ S1 with
    | bad=>rwa [hh] at q
    | exc c S2=>rw [hh] at q;exact fun w2 R2 F2=>q w2 R2 (F1.trans F2)
    | ok e S2=>rw [hh] at q;exact fun v w2 R2 F2=>q v w2 R2 (F1.trans F2)
   | false =>
    refine zlP ⟨B,w1,ρ,S1,rfl,R1,?_⟩;dsimp only at q
    cases hh:h ρ S1 with
    | bad=>rwa [hh] at q
    | exc c S2=>rw [hh] at q;exact fun w2 R2 F2=>q w2 R2 (F1.trans F2)
    | ok e S2=>rw [hh] at q;exact fun v w2 R2 F2=>q v w2 R2 (F1.trans F2)
def zsX(hc:PT X c (tTr cl E g))(ha:PE X a (tE cl E f))(hb:PE X b (tE cl E h)):PE X (.IfExp c a b pos) (tE cl E (eIf g f h)):=PE.imp (zlg hc ha hb) fun _ _ _ q=>zsJ q
def zhh:PA X [] (tAs cl E []):=by
 refine PA.imp zdo ?_;rintro σ H Q ⟨B,w,ρ,S,rfl,R,q⟩;exact q [] w R (Fut.refl _) .nil
def zc8{es:List Expr}{fs:List Fe}(ha:PE X e (tE cl E f))(hr:PA X es (tAs cl E fs))(hs:starEach (e::es) X.env=(false,eval e X.env)::starEach es X.env):PA X (e::es) (tAs cl E (f::fs)):=by
 refine PA.imp (zbH ha hr hs) ?_;rintro σ H Q ⟨B,w,ρ,S,rfl,R,q⟩;refine ⟨B,w,ρ,S,rfl,R,?_⟩;unfold zag at q
 cases hf:f ρ S with
 | bad=>rwa [hf] at q
 | exc c S1=>rwa [hf] at q
 | ok d S1 =>
  rw [hf] at q;intro v w1 R1 F1 h1;refine ⟨B,w1,ρ,S1,rfl,R1,?_⟩;dsimp only [Out.bind] at q
  cases hh:zag fs ρ S1 with
  | bad=>rwa [hh] at q
  | exc c S2=>rw [hh] at q;exact fun w2 R2 F2=>q w2 R2 (F1.trans F2)
  | ok ds S2 =>
   rw [hh] at q;exact fun vs w2 R2 F2 h2=>q _ w2 R2 (F1.trans F2) (.cons (h1.up F2) h2)
def zmu:PA X [] (tHs cl E []):=by
 refine PA.imp zdo ?_;rintro σ H Q ⟨B,w,ρ,S,rfl,R,q⟩;exact q [] w R (Fut.refl _) .nil
def ziI{es:List Expr}{fs:List Fe}(ha:PE X e (tH cl E f))(hr:PA X es (tHs cl E fs))(hs:starEach (e::es) X.env=(false,eval e X.env)::starEach es X.env):PA X (e::es) (tHs cl E (f::fs)):=by
 refine PA.imp (zbH ha hr hs) ?_;rintro σ H Q ⟨B,w,ρ,S,rfl,R,q⟩;refine ⟨B,w,ρ,S,rfl,R,?_⟩;unfold zag at q
 cases hf:f ρ S with
 | bad=>rwa [hf] at q
 | exc c S1=>rwa [hf] at q
 | ok d S1 =>
  rw [hf] at q;intro v w1 R1 F1 h1;refine ⟨B,w1,ρ,S1,rfl,R1,?_⟩;dsimp only [Out.bind] at q
  cases hh:zag fs ρ S1 with
  | bad=>rwa [hh] at q
  | exc c S2=>rw [hh] at q;exact fun w2 R2 F2=>q w2 R2 (F1.trans F2)
  | ok ds S2 =>
   rw [hh] at q;exact fun vs w2 R2 F2 h2=>q _ w2 R2 (F1.trans F2) (.cons (h1.up F2) h2)
def zpX{es:List Expr}{fs:List Fe}{k:Nat}(h:PA X es (tAs cl E fs)):PE X (.Tuple es k pos) (tE cl E (zem fs)):=by
 refine PE.imp (zqo h) ?_;rintro σ H Q ⟨B,w,ρ,S,rfl,R,q⟩;refine ⟨B,w,ρ,S,rfl,R,?_⟩;unfold zem at q
 cases hf:zag fs ρ S with
 | bad=>rwa [hf] at q
 | exc c S1=>rwa [hf] at q
 | ok ds S1 =>
  rw [hf] at q;intro vs w1 R1 F1 h1;dsimp only [Out.bind] at q
  cases hz:zaM ds.length with
  | false=>rw [hz,if_neg (by decide)] at q;exact q.elim
  | true =>
   rw [hz,if_pos rfl] at q;refine ⟨by rw [h1.length];exact zaH hz,fun p hp=>?_⟩;exact q _ (w1.add p (.tup vs)) (R1.grow (zav hp _)) (F1.trans (zav hp _).fut) (Shd.newT hp h1)
def zp2{es:List Expr}{fs:List Fe}(h:PA X es (tAs cl E fs)):PE X (.List es pos) (tN cl E (zeg fs)):=by
 refine PE.imp (zqu h) ?_;rintro σ H Q ⟨B,w,ρ,S,rfl,R,q⟩;refine ⟨B,w,ρ,S,rfl,R,?_⟩;unfold zeg at q
 cases hf:zag fs ρ S with
 | bad=>rwa [hf] at q
 | exc c S1=>rwa [hf] at q
 | ok ds S1 =>
  rw [hf] at q;intro vs w1 R1 F1 h1;dsimp only [Out.bind] at q
  cases hz:zaM ds.length with
  | false=>rw [hz,if_neg (by decide)] at q;exact q.elim
  | true =>
   rw [hz,if_pos rfl] at q;refine ⟨by rw [h1.length];exact zaH hz,fun p hp=>?_⟩;exact q _ (.lst vs) w1 R1 F1 hp (.lst h1)
def zpw{fs:List Fe}{gg:List D->Option D}{r:List V->Hp->VK->Prop}(hr:∀xs H Q,(∃w ds r,w.H=H/\zks cl w xs ds/\gg ds=some r/\∀v w',Grow w w'->Shd cl w' v r->Q v w'.H)->r xs H Q){σ:St}{H:Hp}{Q:VK}(q:tE cl E (zaO gg fs) σ H Q):tCB r (tHs cl E fs) σ H Q:=by
 obtain ⟨B,w,ρ,S,rfl,R,q⟩:=q;refine ⟨B,w,ρ,S,rfl,R,?_⟩;unfold zaO at q
 cases hf:zag fs ρ S with
 | bad=>rwa [hf] at q
 | exc c S1=>rwa [hf] at q
 | ok ds S1 =>
  rw [hf] at q;intro vs w1 R1 F1 h1;dsimp only [Out.bind] at q
  cases hg:gg ds with
  | none=>rw [hg] at q;exact q.elim
  | some d =>
   rw [hg] at q;exact hr _ _ _ ⟨w1,ds,d,rfl,h1.top R1,hg,fun v w' gr sh=>q v w' (R1.grow gr) (F1.trans gr.fut) sh⟩
def zsN{fs:List Fe}{gg:List D->Option D}{r:List V->Hp->VK->Prop}(hr:∀xs H Q,(∃w ds r,w.H=H/\zks cl w xs ds/\gg ds=some r/\∀p o w',Grow w w'->w'.H p=none->Top cl w' o r->Q (.ref p) (upd w'.H p o))->r xs H Q){σ:St}{H:Hp}{Q:VK}(q:tN cl E (zaO gg fs) σ H Q):tCB r (tHs cl E fs) σ H Q:=by
 obtain ⟨B,w,ρ,S,rfl,R,q⟩:=q;refine ⟨B,w,ρ,S,rfl,R,?_⟩;unfold zaO at q
 cases hf:zag fs ρ S with
 | bad=>rwa [hf] at q
 | exc c S1=>rwa [hf] at q
 | ok ds S1 =>
  rw [hf] at q;intro vs w1 R1 F1 h1;dsimp only [Out.bind] at q
  cases hg:gg ds with
  | none=>rw [hg] at q;exact q.elim
  | some d =>
   rw [hg] at q;exact hr _ _ _ ⟨w1,ds,d,rfl,h1.top R1,hg,fun p o w' gr hp t=>q p o w' (R1.grow gr) (F1.trans gr.fut) hp t⟩
end
end S2
namespace S2
open PySem PySem.Spec PyProof.Rows L2
noncomputable def Root.out:Option Root->Option Root | some (.slot _)=>some .far | o=>o
def Root.out_none{o:Option Root}:Root.out o=none↔o=none:=by
 cases o with
 | none=>exact ⟨fun h=>h,fun h=>h⟩
 | some r=>cases r<;>simp [Root.out]
noncomputable def zc1:Option Root->Bool | some (.fld _ _)=>true | some (.obj _)=>true | _=>false
noncomputable def Wd.inn(w:Wd):Wd:=⟨w.H,fun a=>Root.out (w.ow a),w.mu⟩
noncomputable def Wd.base(w:Wd):Base:=⟨fun a=>if zc1 (w.ow a)=true then none else w.H a,fun a=>Root.out (w.ow a)⟩
noncomputable def Wd.back(w w':Wd):Wd:=⟨w'.H,fun a=>if (w.base.Fr a).isSome=true then w.ow a else Root.out (w'.ow a),w'.mu⟩
def zbJ(w:Wd):Fut w w.inn:=⟨fun a o h k=>⟨h,by show Root.out (w.ow a)=none;rw [k];rfl⟩,fun _ _ h=>h⟩
def zed{w:Wd}{a:Addr}{o:HO}(h:w.H a=some o)(k:zc1 (w.ow a)=false):w.base.Fr a=some o:=by
 show (if zc1 (w.ow a)=true then none else w.H a)=_;rw [k,if_neg (by decide)];exact h
def zn9{w:Wd}{a:Addr}{o:HO}(h:w.base.Fr a=some o):w.H a=some o/\zc1 (w.ow a)=false:=by
 have h':(if zc1 (w.ow a)=true then none else w.H a)=some o:=h;split at h'
 ·cases h'
 ·rename_i z;exact ⟨h',by simpa using z⟩
section
variable{cl:Cf}{B:Base}{σ:St}{w w':Wd}{ρ:Env}{S S':Sto}
def World'.enter(W:World' cl B w S):World' cl w.base w.inn S where
 fr:=fun a o h=>⟨(zn9 h).1,rfl⟩
 own:=fun a r h=>by
  have h':Root.out (w.ow a)=some r:=h
  cases e:w.ow a with
  | none=>rw [e] at h';cases h'
  | some q =>
   cases q with
   | slot i=>rw [e] at h';cases h';exact .inl rfl
   | far=>rw [e] at h';cases h';exact .inl rfl
   | fld n f=>exact .inr (by show (if zc1 (w.ow a)=true then none else w.H a)=none;rw [e];rfl)
   | obj n=>exact .inr (by show (if zc1 (w.ow a)=true then none else w.H a)=none;rw [e];rfl)
 len:=W.len
 obj:=fun n ob h=>by
  obtain ⟨a,e,x⟩:=W.obj n ob h;refine ⟨a,e,x.keep (zbJ w) fun a o ha hn=>⟨ha,?_⟩⟩;show Root.out (w.ow a)=w.ow a
  cases e:w.ow a with
  | none=>rfl
  | some q=>cases q with
   | slot i=>rw [e] at hn;exact hn.elim
   | _=>rfl
def zcK(W:World' cl B w S){a:Addr}{o:HO}(h:B.Fr a=some o):w.base.Fr a=some o:=by
 refine zed (W.fr a o h).1 ?_
 cases e:w.ow a with
 | none=>rfl
 | some q =>
  rcases W.own a q e with rfl | z
  ·rfl
  ·rw [h] at z;cases z
def zcl(W':World' cl w.base w' S'):Fut w' (w.back w') where
 keep:=fun a o h k=>by
  refine ⟨h,?_⟩;show (if (w.base.Fr a).isSome=true then w.ow a else Root.out (w'.ow a))=none;split
  ·rename_i z;obtain ⟨u,hu⟩:=Option.isSome_iff_exists.mp z;have:=(W'.fr a u hu).2;rw [k] at this;exact Root.out_none.mp this.symm
  ·rw [k];rfl
 mu:=fun _ _ h=>h
def Rel.leave(R:Rel cl B σ w ρ S)(W':World' cl w.base w' S')(F:Fut w.inn w'):Rel cl B σ (w.back w') ρ S'/\Fut w (w.back w'):=by
 have fb:=zcl W';have ff:Fut w (w.back w'):=(zbJ w).trans (F.trans fb)
 have in_:∀a o,w.base.Fr a=some o->(w.back w').H a=some o/\(w.back w').ow a=w.ow a:=fun a o h=>by
  refine ⟨(W'.fr a o h).1,?_⟩;show (if (w.base.Fr a).isSome=true then w.ow a else _)=_;rw [h];rfl
 refine ⟨⟨⟨fun a o h=>?_,fun a r h=>?_,W'.len,fun n ob h=>?_⟩,R.len,fun i o d h=>?_⟩,ff⟩
 ·have:=in_ a o (zcK R.wd h);exact ⟨this.1,this.2.trans (R.wd.fr a o h).2⟩
 ·cases hb:B.Fr a with
  | none=>exact .inr rfl
  | some o =>
   have:=(in_ a o (zcK R.wd hb)).2;rw [h] at this
   rcases R.wd.own a r this.symm with z | z
   ·exact .inl z
   ·rw [hb] at z;cases z
 ·obtain ⟨a,e,x⟩:=W'.obj n ob h;refine ⟨a,e,x.keep fb fun a o ha hn=>⟨ha,?_⟩⟩;show (if (w.base.Fr a).isSome=true then w.ow a else Root.out (w'.ow a))=_
  cases e:w'.ow a with
  | none=>rw [e] at hn;exact hn.elim
  | some q =>
   rcases W'.own a q e with rfl | z
   ·rw [e] at hn;exact hn.elim
   ·rw [z]
    cases q with
    | slot i=>rw [e] at hn;exact hn.elim
    | _=>rfl
 ·obtain ⟨v,e,x⟩:=R.slots i o d h;refine ⟨v,e,x.keep ff fun a u ha hr=>?_⟩;have:=in_ a u (zed ha (by rw [hr];rfl));exact ⟨this.1,this.2.trans hr⟩
noncomputable def Wd.del(w:Wd)(a:Addr):Wd:=⟨fun b=>if b=a then none else w.H b,w.ow,w.mu⟩
def zgN{a:Addr}(k:w.ow a≠none):Fut w (w.del a) where
 keep:=fun b o h e=>⟨by
  show (if b=a then none else w.H b)=_
  rw [if_neg (fun z=>k (by rw [<-z];exact e))];exact h,e⟩
 mu:=fun _ _ h=>h
def ziu{a:Addr}{o:HO}(h:w.H a=some o):upd (w.del a).H a o=w.H:=by
 funext b
 by_cases e:b=a
 ·rw [e,zay,h]
 ·rw [zaf e];show (if b=a then none else w.H b)=_;rw [if_neg e]
theorem Rel.del{a:Addr}(R:Rel cl B σ w ρ S)(k:w.ow a=some .far)(hb:B.Fr a=none):Rel cl B σ (w.del a) ρ S:=by
 have fd:Fut w (w.del a):=zgN (by rw [k];exact yaE _)
 have kp:∀b o,w.H b=some o->b≠a->(w.del a).H b=some o:=fun b o h n=>by
  show (if b=a then none else w.H b)=_;rw [if_neg n];exact h
 refine ⟨⟨fun b o h=>⟨kp b o (R.wd.fr b o h).1 (fun z=>by rw [z,hb] at h;cases h),(R.wd.fr b o h).2⟩,R.wd.own,R.wd.len,fun n ob h=>?_⟩,R.len,fun i o d h=>?_⟩
 ·obtain ⟨c,e,x⟩:=R.wd.obj n ob h;exact ⟨c,e,x.keep fd fun b o hb' hn=>⟨kp b o hb' (fun z=>by rw [z,k] at hn;exact hn.elim),rfl⟩⟩
 ·obtain ⟨v,e,x⟩:=R.slots i o d h;exact ⟨v,e,x.keep fd fun b o hb' hr=>⟨kp b o hb' (fun z=>by rw [z,k] at hr;cases hr),hr⟩⟩
end
noncomputable def zwc(cl:Cf)(w:Wd):Bool->V->D->Prop
 | false,v,d=>Shd cl w v d
 | true,v,d=>∃a o i,v=.ref a/\w.ow a=some (.slot i)/\w.H a=some o/\Top cl w o d
noncomputable def zhT(cl:Cf)(n:Nat)(own:Bool)(G:List D->Sto->Out D):Sp:=fun vs H Q E=>vs.length=n/\∃B w ds S,w.H=H/\World' cl B w S/\Shds cl w vs ds/\match G ds S with
 | .ok d S'=>∀v w',World' cl B w' S'->Fut w w'->zwc cl w' own v d->Q v w'.H
 | .exc c S'=>∀w',World' cl B w' S'->Fut w w'->E (.ref (cl c)) none w'.H
 | .bad=>False
noncomputable def zch(CX:CXT)(X:Cx)(E:St->XK):Prop:=∀(pins:Z3) (σ:St) (H:Hp) (s:Shared) (e:Value) (s':Shared),Inv X pins σ H s->CX X.stack H s (E σ) e s'->X.xe e s'
noncomputable def zfD(sp:Sp)(dvs:List V)(E:St->XK)(t:TA):TE:=fun σ H Q=>t σ H fun vs H1=>sp (vs++dvs) H1 Q (E σ)
section
variable{X:Cx}{CX:CXT}{k:Nat}{f C:Addr}{fd:FuncData}{ps:List Str}{sp:Sp}{dvs:List V}{ds:List Value}{E:St->XK}{x m:Str}{p pos apos:Pos}{e o:Expr}{es:List Expr}{ta:TE}{t:TA}
def zeY{pins:Z3}{σ:St}{H:Hp}{s:Shared}{Q:VK}{us:List Value}{vs:List V}(F:FnOk X.prog X.w X.K X.mg X.base CX k f fd ps sp)(hr:Room k X.A)(hb:zcq X.K fd ps ds)(hd:Vals dvs ds)(hx:zch CX X E)
  (I:Inv X pins σ H s) (r:Vals vs us) (h:sp (vs++dvs) H Q (E σ)):wpAny (model X.prog X.w) X.A (call (.ref f) us) (EP X pins σ Q) X.xe s:=by
 have r2:Vals (vs++dvs) (us++ds):=r.append hd
 have hl:(us++ds).length=ps.length:=by rw [<-r2.length];exact F.len _ _ _ _ h
 refine wpAny_call (ycv (F.run X.A X.stack s H ⟨us,[]⟩ (us++ds) (vs++dvs) Q (E σ) hr I.env0 (hb s us I.kIn hl) r2 h) fun r s' hq=>?_)
 cases r with
 | error e=>exact hx pins σ H s e s' I hq
 | ok fl =>
  cases fl with
  | ret u=>exact I.after hq
  | next=>exact False.elim hq
  | brk=>exact False.elim hq
  | cont=>exact False.elim hq
def zlk(F:FnOk X.prog X.w X.K X.mg X.base CX k f fd ps sp)(hr:Room k X.A)(hg:Gl X x)(hm:X.mg x=some (.ref f))(hk:PySem.W.keepIn X.K (.ref f)=true)(hb:zcq X.K fd ps ds)(hd:Vals dvs ds)(hx:zch CX X E)
  (ha:PA X (e::es) t) (hdb:(x == ("__debug__":Str))=false) (he:starEach (e::es) X.env=(false,eval e X.env)::starEach es X.env) (hpl:(backTo pos (starEach es X.env)).any (·.1)=false) :
  PE X (.Call (.Name x p) (e::es) [] pos) (zfD sp dvs E t):=by
 intro pins s σ H Q I h;refine ybL (zde I hg hm ?_ hdb);refine ycy (h₀:=X.base) I.ok.mod.kin hk (thn (ha pos pins s σ H _ I h) fun us s1 ⟨vs,H1,I1,r,q⟩=>⟨I1.kIn,?_⟩) he hpl;exact zeY F hr hb hd hx I1 r q
def zjh(F:FnOk X.prog X.w X.K X.mg X.base CX k f fd ps sp)(hr:Room k X.A)(hg:Gl X x)(hm:X.mg x=some (.ref f))(hk:PySem.W.keepIn X.K (.ref f)=true)(hb:zcq X.K fd ps ds)(hd:Vals dvs ds)(hx:zch CX X E)
  (hdb:(x == ("__debug__":Str))=false):PE X (.Call (.Name x p) [] [] pos) (zfD sp dvs E zsG):=by
 intro pins s σ H Q I h;refine ybL (zde I hg hm ?_ hdb);exact PySem.W.callWith_K0 I.kIn hk (zeY (us:=[]) F hr hb hd hx I .nil h)
end
noncomputable def eFn(G:List D->Sto->Out D)(fs:List Fe):Fe:=fun ρ S=>(zag fs ρ S).bind fun ds S1=>G ds S1
section
variable{cl:Cf}{E:St->XK}{fs:List Fe}{G:List D->Sto->Out D}{σ:St}{H:Hp}{Q:VK}{n:Nat}
def zrI(q:tE cl E (eFn G fs) σ H Q)(hn:fs.length=n):zfD (zhT cl n false G) [] E (tAs cl E fs) σ H Q:=by
 obtain ⟨B,w,ρ,S,rfl,R,q⟩:=q;refine ⟨B,w,ρ,S,rfl,R,?_⟩;unfold eFn at q
 cases hf:zag fs ρ S with
 | bad=>rwa [hf] at q
 | exc c S1=>rwa [hf] at q
 | ok ds S1 =>
  rw [hf] at q;intro vs w1 R1 F1 h1;dsimp only [Out.bind] at q
  have hl:∀(fs:List Fe) (S S1:Sto) (ds:List D),zag fs ρ S=.ok ds S1->ds.length=fs.length:=by
   intro fs
   induction fs with
   | nil=>intro S S1 ds h;cases h;rfl
   | cons f fs ih =>
    intro S S1 ds h;unfold zag at h
    cases h1:f ρ S with
    | bad=>rw [h1] at h;cases h
    | exc c S2=>rw [h1] at h;cases h
    | ok d S2 =>
     rw [h1] at h;dsimp only [Out.bind] at h
     cases h2:zag fs ρ S2 with
     | bad=>rw [h2] at h;cases h
     | exc c S3=>rw [h2] at h;cases h
     | ok es S3=>rw [h2] at h;cases h;rw [yag,yag,ih S2 _ es h2]
  refine ⟨by rw [yaT,h1.length,hl fs S S1 ds hf];exact hn,w1.base,w1.inn,ds,S1,rfl,R1.wd.enter,by rw [yaT];exact h1.up (zbJ w1),?_⟩
  cases hg:G ds S1 with
  | bad=>rwa [hg] at q
  | exc c S2 =>
   rw [hg] at q;intro w2 W2 F2;obtain ⟨R3,F3⟩:=R1.leave W2 F2;exact q (w1.back w2) R3 (F1.trans F3)
  | ok d S2 =>
   rw [hg] at q;intro v w2 W2 F2 r2;obtain ⟨R3,F3⟩:=R1.leave W2 F2;exact q v (w1.back w2) R3 (F1.trans F3) (Shd.up (zcl W2) r2)
def zrH(q:tN cl E (eFn G fs) σ H Q)(hn:fs.length=n):zfD (zhT cl n true G) [] E (tAs cl E fs) σ H Q:=by
 obtain ⟨B,w,ρ,S,rfl,R,q⟩:=q;refine ⟨B,w,ρ,S,rfl,R,?_⟩;unfold eFn at q
 cases hf:zag fs ρ S with
 | bad=>rwa [hf] at q
 | exc c S1=>rwa [hf] at q
 | ok ds S1 =>
  rw [hf] at q;intro vs w1 R1 F1 h1;dsimp only [Out.bind] at q
  have hl:∀(fs:List Fe) (S S1:Sto) (ds:List D),zag fs ρ S=.ok ds S1->ds.length=fs.length:=by
   intro fs
   induction fs with
   | nil=>intro S S1 ds h;cases h;rfl
   | cons f fs ih =>
    intro S S1 ds h;unfold zag at h
    cases h1:f ρ S with
    | bad=>rw [h1] at h;cases h
    | exc c S2=>rw [h1] at h;cases h
    | ok d S2 =>
     rw [h1] at h;dsimp only [Out.bind] at h
     cases h2:zag fs ρ S2 with
     | bad=>rw [h2] at h;cases h
     | exc c S3=>rw [h2] at h;cases h
     | ok es S3=>rw [h2] at h;cases h;rw [yag,yag,ih S2 _ es h2]
  refine ⟨by rw [yaT,h1.length,hl fs S S1 ds hf];exact hn,w1.base,w1.inn,ds,S1,rfl,R1.wd.enter,by rw [yaT];exact h1.up (zbJ w1),?_⟩
  cases hg:G ds S1 with
  | bad=>rwa [hg] at q
  | exc c S2 =>
   rw [hg] at q;intro w2 W2 F2;obtain ⟨R3,F3⟩:=R1.leave W2 F2;exact q (w1.back w2) R3 (F1.trans F3)
  | ok d S2 =>
   rw [hg] at q;intro v w2 W2 F2 r2;obtain ⟨R3,F3⟩:=R1.leave W2 F2;obtain ⟨a,o,i,rfl,k1,k2,t⟩:=r2;have hfr:w1.base.Fr a=none:=(W2.own a _ k1).elim (fun z=>by cases z) fun z=>z
   have k3:(w1.back w2).ow a=some .far:=by
    show (if (w1.base.Fr a).isSome=true then w1.ow a else Root.out (w2.ow a))=_;rw [hfr,k1];rfl
   have hb:B.Fr a=none:=by
    cases z:B.Fr a with
    | none=>rfl
    | some u=>rw [zcK R1.wd z] at hfr;cases hfr
   have hd:=zgN (w:=w1.back w2) (a:=a) (by rw [k3];exact yaE _);have:=q a o ((w1.back w2).del a) (R3.del k3 hb) (F1.trans (F3.trans hd)) (if_pos rfl) ((t.up (zcl W2)).up hd);rwa [ziu (w:=w1.back w2) k2] at this
end
end S2
namespace S2
open PySem PySem.Spec PyProof.Rows L2
noncomputable def frz1(ρ:Env)(i:Nat):Env:=match ρ[i]? with | some (some (true,d))=>ρ.set i (some (false,d)) | _=>ρ
noncomputable def frz(is:List Nat)(ρ:Env):Env:=is.foldl frz1 ρ
noncomputable def sFz(is:List Nat)(f:Fs):Fs:=fun ρ S=>f (frz is ρ) S
noncomputable def sNx:Fs:=fun ρ S=>.nx ρ S
noncomputable def sBk:Fs:=fun ρ S=>.bk ρ S
noncomputable def zak(f g:Fs):Fs:=fun ρ S=>match f ρ S with | .nx ρ' S'=>g ρ' S' | o=>o
noncomputable def zbf(i:Nat)(own:Bool)(f:Fe):Fs:=fun ρ S=>match f ρ S with | .ok d S'=>.nx (ρ.set i (some (own,d))) S' | .exc c S'=>.ex c ρ S' | .bad=>.bad
noncomputable def zmx(f:Fe):Fs:=fun ρ S=>match f ρ S with | .ok _ S'=>.nx ρ S' | .exc c S'=>.ex c ρ S' | .bad=>.bad
noncomputable def zbG(f:Fe):Fs:=fun ρ S=>match f ρ S with | .ok d S'=>.rt d S' | .exc c S'=>.ex c ρ S' | .bad=>.bad
noncomputable def zkX:Fs:=fun _ S=>.rt .non S
noncomputable def ziO(i:Nat):Fs:=fun ρ S=>match ρ[i]? with | some (some (true,d))=>.rt d S | _=>.bad
noncomputable def sIf(c:Fe)(f g:Fs):Fs:=fun ρ S=>match c ρ S with | .ok d S'=>(match isB d with | some true=>f ρ S' | some false=>g ρ S' | none=>.bad) | .exc x S'=>.ex x ρ S' | .bad=>.bad
noncomputable def zfp(cl:Cf)(E:St->XK)(own:Bool)(B:Base)(w:Wd)(De:Ends):Fo->Prop
 | .nx ρ' S'=>∀σ' w',Rel cl B σ' w' ρ' S'->Fut w w'->De.nx σ' w'.H
 | .bk ρ' S'=>∀σ' w',Rel cl B σ' w' ρ' S'->Fut w w'->De.bk σ' w'.H
 | .ct ρ' S'=>∀σ' w',Rel cl B σ' w' ρ' S'->Fut w w'->De.ct σ' w'.H
 | .rt d S'=>∀v w',World' cl B w' S'->Fut w w'->zwc cl w' own v d->De.rt v w'.H
 | .ex c ρ' S'=>∀σ' w',Rel cl B σ' w' ρ' S'->Fut w w'->E σ' (.ref (cl c)) none w'.H
 | .bad=>False
theorem zfp.up{cl:Cf}{E:St->XK}{own:Bool}{B:Base}{w w1:Wd}{De:Ends}(f:Fut w w1):∀{o:Fo},zfp cl E own B w De o->zfp cl E own B w1 De o
 | .nx _ _,h=>fun σ' w' R F=>h σ' w' R (f.trans F)
 | .bk _ _,h=>fun σ' w' R F=>h σ' w' R (f.trans F)
 | .ct _ _,h=>fun σ' w' R F=>h σ' w' R (f.trans F)
 | .rt _ _,h=>fun v w' R F=>h v w' R (f.trans F)
 | .ex _ _ _,h=>fun σ' w' R F=>h σ' w' R (f.trans F)
 | .bad,h=>h
noncomputable def tS(cl:Cf)(E:St->XK)(own:Bool)(f:Fs):TS:=fun De σ H=>∃B w ρ S,w.H=H/\Rel cl B σ w ρ S/\zfp cl E own B w De (f ρ S)
def PS.imp{X:Cx}{st:Stmt}{t t':TS}(h:PS X st t)(i:∀De σ H,t' De σ H->t De σ H):PS X st t':=fun pins s σ H De I q=>h pins s σ H De I (i _ _ _ q)
def PSs.imp{X:Cx}{st:List Stmt}{t t':TS}(h:PSs X st t)(i:∀De σ H,t' De σ H->t De σ H):PSs X st t':=fun pins s σ H De I q=>h pins s σ H De I (i _ _ _ q)
section
variable{cl:Cf}{B:Base}{σ:St}{w:Wd}{ρ:Env}{S:Sto}
def Rel.put{i:Nat}{v:V}{d:D}(R:Rel cl B σ w ρ S)(h:Shd cl w v d):Rel cl B (σ.set i (some v)) w (ρ.set i (some (false,d))) S where
 wd:=R.wd
 len:=by rw [yaz,yaz];exact R.len
 slots:=fun j o e hj=>by
  by_cases hij:i=j
  ·subst hij
   have hlt:i<ρ.length:=by
    have:=(yap.mp hj).1;rwa [yaz] at this
   rw [yaw hlt] at hj;cases hj;exact ⟨v,by rw [yaw (by rw [R.len];exact hlt)],h⟩
  ·rw [yaG hij] at hj ⊢;exact R.slots j o e hj
noncomputable def Wd.addAs(w:Wd)(p:Addr)(o:HO)(r:Root):Wd:=⟨upd w.H p o,fun a=>if a=p then some r else if w.ow a=some r then some .far else w.ow a,w.mu⟩
def zd4{p:Addr}{o:HO}{r:Root}(h:w.H p=none):Fut w (w.addAs p o r) where
 keep:=fun a u ha hk=>by
  have n:a≠p:=zap ha h;refine ⟨?_,?_⟩
  ·show upd w.H p o a=_;rw [zaf n];exact ha
  ·show (if a=p then some r else if w.ow a=some r then some Root.far else w.ow a)=none;rw [if_neg n,if_neg (by rw [hk];exact fun z=>by cases z)];exact hk
 mu:=fun _ _ h=>h
theorem Rel.own{i:Nat}{p:Addr}{o:HO}{d:D}(R:Rel cl B σ w ρ S)(hp:w.H p=none)(t:Top cl w o d):Rel cl B (σ.set i (some (.ref p))) (w.addAs p o (.slot i)) (ρ.set i (some (true,d))) S:=by
 have ff:=zd4 (w:=w) (p:=p) (o:=o) (r:=.slot i) hp
 have kp:∀a u,w.H a=some u->w.ow a≠some (.slot i)->(w.addAs p o (.slot i)).H a=some u/\(w.addAs p o (.slot i)).ow a=w.ow a:=fun a u ha hk=>by
  have n:a≠p:=zap ha hp;refine ⟨?_,?_⟩
  ·show upd w.H p o a=_;rw [zaf n];exact ha
  ·show (if a=p then _ else if w.ow a=some (Root.slot i) then some Root.far else w.ow a)=_;rw [if_neg n,if_neg hk]
 have hBp:B.Fr p=none:=by
  cases z:B.Fr p with
  | none=>rfl
  | some u=>have:=(R.wd.fr p u z).1;rw [hp] at this;cases this
 refine ⟨⟨fun a u h=>?_,fun a r h=>?_,R.wd.len,fun n ob h=>?_⟩,by rw [yaz,yaz];exact R.len,fun j b e hj=>?_⟩
 ·have hne:w.ow a≠some (.slot i):=fun z=>by
   rcases R.wd.own a _ z with y | y
   ·cases y
   ·rw [h] at y;cases y
  have:=kp a u (R.wd.fr a u h).1 hne;exact ⟨this.1,this.2.trans (R.wd.fr a u h).2⟩
 ·have h':(if a=p then some (Root.slot i) else if w.ow a=some (Root.slot i) then some Root.far else w.ow a)=some r:=h;split at h'
  ·rename_i e;rw [e];exact .inr hBp
  ·split at h'
   ·cases h';exact .inl rfl
   ·exact R.wd.own a r h'
 ·obtain ⟨a,e,x⟩:=R.wd.obj n ob h;exact ⟨a,e,x.keep ff fun b u hb hn=>kp b u hb fun z=>by rwa [z] at hn⟩
 ·by_cases hij:i=j
  ·subst hij
   have hlt:i<ρ.length:=by
    have:=(yap.mp hj).1;rwa [yaz] at this
   rw [yaw hlt] at hj;cases hj;exact ⟨.ref p,by rw [yaw (by rw [R.len];exact hlt)],p,o,rfl,if_pos rfl,zay,t.up ff⟩
  ·rw [yaG hij] at hj ⊢;obtain ⟨v,e1,x⟩:=R.slots j b e hj;refine ⟨v,e1,x.keep ff fun a u ha hr=>?_⟩;have:=kp a u ha (by rw [hr];exact fun z=>hij (by cases z;rfl));exact ⟨this.1,this.2.trans hr⟩
noncomputable def Wd.mut(w:Wd)(p:Addr)(o:HO):Wd:=⟨upd w.H p o,w.ow,w.mu⟩
def zcb{p:Addr}{o:HO}(h:w.ow p≠none):Fut w (w.mut p o) where
 keep:=fun a u ha hk=>⟨by
  show upd w.H p o a=_
  rw [zaf (fun z=>h (by rw [<-z];exact hk))];exact ha,hk⟩
 mu:=fun _ _ h=>h
theorem Rel.mut{i:Nat}{p:Addr}{o:HO}{d d0:D}(R:Rel cl B σ w ρ S)(hs:σ[i]?=some (some (.ref p)))(hk:w.ow p=some (.slot i))(t:Top cl w o d):Rel cl B σ (w.mut p o) (ρ.set i (some (true,d))) S:=by
 have ff:=zcb (w:=w) (p:=p) (o:=o) (by rw [hk];exact yaE _)
 have kp:∀a u,w.H a=some u->w.ow a≠some (.slot i)->(w.mut p o).H a=some u/\(w.mut p o).ow a=w.ow a:=fun a u ha hn=>⟨by
  show upd w.H p o a=_
  rw [zaf (fun z=>hn (by rw [z];exact hk))];exact ha,rfl⟩
 have hBp:B.Fr p=none:=(R.wd.own p _ hk).elim (fun z=>by cases z) fun z=>z
 refine ⟨⟨fun a u h=>?_,R.wd.own,R.wd.len,fun n ob h=>?_⟩,by rw [yaz];exact R.len,fun j b e hj=>?_⟩
 ·have hne:w.ow a≠some (.slot i):=fun z=>by
   rcases R.wd.own a _ z with y | y
   ·cases y
   ·rw [h] at y;cases y
  have:=kp a u (R.wd.fr a u h).1 hne;exact ⟨this.1,(R.wd.fr a u h).2⟩
 ·obtain ⟨a,e,x⟩:=R.wd.obj n ob h;exact ⟨a,e,x.keep ff fun b u hb hn=>kp b u hb fun z=>by rwa [z] at hn⟩
 ·by_cases hij:i=j
  ·subst hij
   have hlt:i<ρ.length:=by
    have:=(yap.mp hj).1;rwa [yaz] at this
   rw [yaw hlt] at hj;cases hj;exact ⟨.ref p,hs,p,o,rfl,hk,zay,t.up ff⟩
  ·rw [yaG hij] at hj;obtain ⟨v,e1,x⟩:=R.slots j b e hj;refine ⟨v,e1,x.keep ff fun a u ha hr=>?_⟩;have:=kp a u ha (by rw [hr];exact fun z=>hij (by cases z;rfl));exact ⟨this.1,this.2.trans hr⟩
noncomputable def Wd.free(w:Wd)(r:Root):Wd:=⟨w.H,fun a=>if w.ow a=some r then none else w.ow a,w.mu⟩
def zlV{r:Root}:Fut w (w.free r) where
 keep:=fun a u ha hk=>⟨ha,by
  show (if w.ow a=some r then none else w.ow a)=none
  rw [hk];rfl⟩
 mu:=fun _ _ h=>h
theorem Top.shd{o:HO}{d:D}{a:Addr}(h:w.H a=some o)(k:w.ow a=none):Top cl w o d->Shd cl w (.ref a) d
 | .lst t=>.lst h k t
 | .dicK t=>.dicK h k t
 | .dicT t=>.dicT h k t
 | .dicN=>.dicN h k
 | .dicX x=>.dicX h k x
theorem Rel.frz1(R:Rel cl B σ w ρ S)(i:Nat):∃w',w'.H=w.H/\Fut w w'/\Rel cl B σ w' (frz1 ρ i) S:=by
 unfold S2.frz1;split
 ·rename_i d hd;have ff:=zlV (w:=w) (r:=.slot i);have kp:∀a u,w.H a=some u->w.ow a≠some (.slot i)->(w.free (.slot i)).H a=some u/\(w.free (.slot i)).ow a=w.ow a:=fun a u ha hn=>⟨ha,if_neg hn⟩
  refine ⟨w.free (.slot i),rfl,ff,⟨fun a u h=>?_,fun a r h=>?_,R.wd.len,fun n ob h=>?_⟩,by rw [yaz];exact R.len,fun j b e hj=>?_⟩
  ·have hne:w.ow a≠some (.slot i):=fun z=>by
    rcases R.wd.own a _ z with y | y
    ·cases y
    ·rw [h] at y;cases y
   have:=kp a u (R.wd.fr a u h).1 hne;exact ⟨this.1,this.2.trans (R.wd.fr a u h).2⟩
  ·have h':(if w.ow a=some (Root.slot i) then none else w.ow a)=some r:=h;split at h'
   ·cases h'
   ·exact R.wd.own a r h'
  ·obtain ⟨a,e,x⟩:=R.wd.obj n ob h;exact ⟨a,e,x.keep ff fun b u hb hn=>kp b u hb fun z=>by rwa [z] at hn⟩
  ·by_cases hij:i=j
   ·subst hij;have hlt:i<ρ.length:=(yap.mp hd).1;rw [yaw hlt] at hj;cases hj;obtain ⟨v,e1,a,o,rfl,h1,h2,t⟩:=R.slots i true d hd;refine ⟨.ref a,e1,(t.up ff).shd h2 ?_⟩;show (if w.ow a=some (Root.slot i) then none else w.ow a)=none;rw [if_pos h1]
   ·rw [yaG hij] at hj;obtain ⟨v,e1,x⟩:=R.slots j b e hj;refine ⟨v,e1,x.keep ff fun a u ha hr=>?_⟩;have:=kp a u ha (by rw [hr];exact fun z=>hij (by cases z;rfl));exact ⟨this.1,this.2.trans hr⟩
 ·exact ⟨w,rfl,Fut.refl _,R⟩
theorem Rel.frz:∀(is:List Nat) {w:Wd} {ρ:Env},Rel cl B σ w ρ S->∃w',w'.H=w.H/\Fut w w'/\Rel cl B σ w' (frz is ρ) S
 | [],w,ρ,R=>⟨w,rfl,Fut.refl _,R⟩
 | i::is,w,ρ,R=>by
  obtain ⟨w1,e1,f1,R1⟩:=R.frz1 i;obtain ⟨w2,e2,f2,R2⟩:=Rel.frz is R1;exact ⟨w2,e2.trans e1,f1.trans f2,R2⟩
end
section
variable{X:Cx}{cl:Cf}{E:St->XK}{own:Bool}{st:Stmt}{zbk:List Stmt}{f g:Fs}{e:Expr}{fe:Fe}{pos pos':Pos}
def zsS(is:List Nat)(h:PS X st (tS cl E own f)):PS X st (tS cl E own (sFz is f)):=by
 refine PS.imp h ?_;rintro De σ H ⟨B,w,ρ,S,rfl,R,q⟩;obtain ⟨w',e',f',R'⟩:=R.frz is;exact ⟨B,w',frz is ρ,S,e',R',zfp.up f' q⟩
def zpG:PSs X [] (tS cl E own sNx):=by
 refine PSs.imp znN ?_;rintro De σ H ⟨B,w,ρ,S,rfl,R,q⟩;exact q σ w R (Fut.refl _)
def znn(h1:PS X st (tS cl E own f))(h2:PSs X zbk (tS cl E own g)):PSs X (st::zbk) (tS cl E own (zak f g)):=by
 refine PSs.imp (zk5 h1 h2) ?_;rintro De σ H ⟨B,w,ρ,S,rfl,R,q⟩;refine ⟨B,w,ρ,S,rfl,R,?_⟩;unfold zak at q
 cases hf:f ρ S with
 | nx ρ' S' =>
  rw [hf] at q;intro σ' w' R' F';exact ⟨B,w',ρ',S',rfl,R',zfp.up F' q⟩
 | bk ρ' S'=>rwa [hf] at q
 | ct ρ' S'=>rwa [hf] at q
 | rt d S'=>rwa [hf] at q
 | ex c ρ' S'=>rwa [hf] at q
 | bad=>rwa [hf] at q
def znk:PS X (.Pass pos) (tS cl E own sNx):=by
 refine PS.imp znQ ?_;rintro De σ H ⟨B,w,ρ,S,rfl,R,q⟩;exact q σ w R (Fut.refl _)
def zpJ:PS X (.Break pos) (tS cl E own sBk):=by
 refine PS.imp zk8 ?_;rintro De σ H ⟨B,w,ρ,S,rfl,R,q⟩;exact q σ w R (Fut.refl _)
def zt3{i:Nat}{De:Ends}{σ:St}{H:Hp}(q:tS cl E own (zbf i false fe) De σ H):znb (tE cl E fe) (zid i) De σ H:=by
 obtain ⟨B,w,ρ,S,rfl,R,q⟩:=q;refine ⟨B,w,ρ,S,rfl,R,?_⟩;unfold zbf at q
 cases hf:fe ρ S with
 | bad=>rwa [hf] at q
 | exc c S1=>rw [hf] at q;exact fun w' R' F'=>q σ w' R' F'
 | ok d S1 =>
  rw [hf] at q;intro v w' R' F' h';exact q _ w' (R'.put h') F'
def zrN{i:Nat}{De:Ends}{σ:St}{H:Hp}(q:tS cl E own (zbf i true fe) De σ H):znb (tN cl E fe) (zid i) De σ H:=by
 obtain ⟨B,w,ρ,S,rfl,R,q⟩:=q;refine ⟨B,w,ρ,S,rfl,R,?_⟩;unfold zbf at q
 cases hf:fe ρ S with
 | bad=>rwa [hf] at q
 | exc c S1=>rw [hf] at q;exact fun w' R' F'=>q σ w' R' F'
 | ok d S1 =>
  rw [hf] at q;intro p o w' R' F' hp t;exact q _ (w'.addAs p o (.slot i)) (R'.own hp t) (F'.trans (zd4 hp))
def zpL{i:Nat}{x:Str}(hN:X.N.Nodup)(hi:X.N[i]?=some x)(hx:Loc X.env.scope x)(he:PE X e (tE cl E fe))(hs:swapsWith e (some (.Name x pos')) pos.line X.env=pure false)(hf:X.fn x=true\/X.env.scope.names.lookup x=some .local):PS X (.Assign [.Name x pos'] e pos) (tS cl E own (zbf i false fe)) :=
 PS.imp (zhm hN hi hx he hs hf) fun _ _ _ q=>zt3 q
def ziC{i:Nat}{x:Str}(hN:X.N.Nodup)(hi:X.N[i]?=some x)(hx:Loc X.env.scope x)(he:PE X e (tN cl E fe))(hs:swapsWith e (some (.Name x pos')) pos.line X.env=pure false)(hf:X.fn x=true\/X.env.scope.names.lookup x=some .local):PS X (.Assign [.Name x pos'] e pos) (tS cl E own (zbf i true fe)) :=
 PS.imp (zhm hN hi hx he hs hf) fun _ _ _ q=>zrN q
def zmt(he:PE X e (tE cl E fe))(hs:swapsWith e none pos.line X.env=pure false):PS X (.Expr e pos) (tS cl E own (zmx fe)):=by
 refine PS.imp (zgB he hs) ?_;rintro De σ H ⟨B,w,ρ,S,rfl,R,q⟩;refine ⟨B,w,ρ,S,rfl,R,?_⟩;unfold zmx at q
 cases hf:fe ρ S with
 | bad=>rwa [hf] at q
 | exc c S1=>rw [hf] at q;exact fun w' R' F'=>q σ w' R' F'
 | ok d S1=>rw [hf] at q;exact fun v w' R' F' _=>q σ w' R' F'
def zpE(he:PE X e (tE cl E fe)):PS X (.Return (some e) pos) (tS cl E false (zbG fe)):=by
 refine PS.imp (zi1 he) ?_;rintro De σ H ⟨B,w,ρ,S,rfl,R,q⟩;refine ⟨B,w,ρ,S,rfl,R,?_⟩;unfold zbG at q
 cases hf:fe ρ S with
 | bad=>rwa [hf] at q
 | exc c S1=>rw [hf] at q;exact fun w' R' F'=>q σ w' R' F'
 | ok d S1=>rw [hf] at q;exact fun v w' R' F' h'=>q v w' R'.wd F' h'
def zng(he:PE X e (tN cl E fe)):PS X (.Return (some e) pos) (tS cl E true (zbG fe)):=by
 refine PS.imp (zi1 he) ?_;rintro De σ H ⟨B,w,ρ,S,rfl,R,q⟩;refine ⟨B,w,ρ,S,rfl,R,?_⟩;unfold zbG at q
 cases hf:fe ρ S with
 | bad=>rwa [hf] at q
 | exc c S1=>rw [hf] at q;exact fun w' R' F'=>q σ w' R' F'
 | ok d S1 =>
  rw [hf] at q;intro p o w' R' F' hp t;have ff:=zd4 (w:=w') (p:=p) (o:=o) (r:=.slot 0) hp;exact q (.ref p) (w'.addAs p o (.slot 0)) (Rel.own (i:=0) R' hp t).wd (F'.trans ff) ⟨p,o,0,rfl,if_pos rfl,zay,t.up ff⟩
def znf{i:Nat}{x:Str}(hN:X.N[i]?=some x)(hv:Vis X.env.scope x)(hd:(x == ("__debug__":Str))=false)(hcd:(x == ("__classdict__":Str))=false):PS X (.Return (some (.Name x pos')) pos) (tS cl E true (ziO i)):=by
 refine PS.imp (zi1 (za4 hN hv hd hcd)) ?_;rintro De σ H ⟨B,w,ρ,S,rfl,R,q⟩;unfold ziO at q;split at q
 ·rename_i d hd;obtain ⟨v,e1,a,o,rfl,h1,h2,t⟩:=R.slots i true d hd;exact ⟨_,e1,q _ w R.wd (Fut.refl _) ⟨a,o,i,rfl,h1,h2,t⟩⟩
 ·exact q.elim
def znh:PS X (.Return none pos) (tS cl E false zkX):=by
 refine PS.imp znP ?_;rintro De σ H ⟨B,w,ρ,S,rfl,R,q⟩;exact q .non w R.wd (Fut.refl _) .non
def zsR{c:Expr}{a b:List Stmt}{fc:Fe}(hc:PT X c (tTr cl E fc))(ha:PSs X a (tS cl E own f))(hb:PSs X b (tS cl E own g)):PS X (.If c a b pos) (tS cl E own (sIf fc f g)):=by
 refine PS.imp (zs4 hc ha hb) ?_;rintro De σ H ⟨B,w,ρ,S,rfl,R,q⟩;refine ⟨B,w,ρ,S,rfl,R,?_⟩;unfold sIf at q
 cases hg:fc ρ S with
 | bad=>rwa [hg] at q
 | exc c S1=>rw [hg] at q;exact fun w' R' F'=>q σ w' R' F'
 | ok d S1 =>
  rw [hg] at q;dsimp only at q ⊢
  cases hb:isB d with
  | none=>rw [hb] at q;exact q.elim
  | some b =>
   rw [hb] at q;intro w1 R1 F1
   cases b with
   | true=>exact zlO ⟨B,w1,ρ,S1,rfl,R1,zfp.up F1 q⟩
   | false=>exact zlP ⟨B,w1,ρ,S1,rfl,R1,zfp.up F1 q⟩
end
noncomputable def zkY(i:Nat)(fe:Fe):Fs:=fun ρ S=>match ρ[i]? with
 | some (some (true,.lst l))=>(match fe ρ S with
  | .ok d S'=>if zaM l.length then .nx (ρ.set i (some (true,.lst (l++[d])))) S' else .bad
  | .exc c S'=>.ex c ρ S' | .bad=>.bad)
 | _=>.bad
section
variable{X:Cx}{cl:Cf}{E:St->XK}{own:Bool}{e:Expr}{fe:Fe}{pos pos':Pos}
def zkP{n:Nat}(h:zaM n=true):n<sizeLine:=Nat.lt_of_le_of_lt (yak h) (by decide)
def Rel.list{B:Base}{σ:St}{w:Wd}{ρ:Env}{S:Sto}{i:Nat}{l:List D}(R:Rel cl B σ w ρ S)(h:ρ[i]?=some (some (true,.lst l))):∃a xs,σ[i]?=some (some (.ref a))/\w.ow a=some (.slot i)/\w.H a=some (.lst xs)/\Shds cl w xs l:=by
 obtain ⟨v,e1,a,o,rfl,h1,h2,t⟩:=R.slots i true _ h
 cases t with
 | lst t=>exact ⟨a,_,e1,h1,h2,t⟩
def zpM{i:Nat}{x:Str}{ap cp:Pos}(hN:X.N[i]?=some x)(hv:Vis X.env.scope x)(hd:(x == ("__debug__":Str))=false)(hcd:(x == ("__classdict__":Str))=false)(he:PE X e (tE cl E fe))
  (hpl:zbD e=true) (hln:(ap.endLine == cp.line)=true):PS X (.Expr (.Call (.Attribute (.Name x pos') "append" ap) [e] [] cp) pos) (tS cl E own (zkY i fe)):=by
 refine PS.imp (zgB (zn0 (es:=[]) ybG PySem.F.slot_list_append PySem.F.type_list_append zjv (za4 hN hv hd hcd) (zbH he zdo (za6 hpl)) (hfew:=zj0 (by simp [hpl]) (by simp)) (hline:=hln) (hs:=za6 hpl) (hplain:=rfl))) ?_;rintro De σ H ⟨B,w,ρ,S,rfl,R,q⟩;unfold zkY at q;split at q
 ·rename_i l hl;obtain ⟨a,xs,e1,h1,h2,t⟩:=R.list hl;refine ⟨_,e1,.inl ⟨rfl,_,SqL.of h2⟩,B,w,ρ,S,rfl,R,?_⟩
  cases hf:fe ρ S with
  | bad=>rwa [hf] at q
  | exc c S1=>rw [hf] at q;exact fun w' R' F'=>q σ w' R' F'
  | ok d S1 =>
   rw [hf] at q;intro v w' R' F' h';dsimp only at q
   cases hz:zaM l.length with
   | false=>rw [hz,if_neg (by decide)] at q;exact q.elim
   | true =>
    rw [hz,if_pos rfl] at q;obtain ⟨a',xs',e1',h1',h2',t'⟩:=R'.list hl;rw [e1] at e1';cases e1';refine ⟨a,xs',v,rfl,rfl,h2',by rw [t'.length];exact zkP hz,?_⟩;exact q σ (w'.mut a (.lst (xs'++[v]))) (R'.mut (d0:=.non) e1 h1' (.lst (t'.append (.cons h' .nil)))) (F'.trans (zcb (by rw [h1'];exact yaE _)))
 ·exact q.elim
end
end S2
namespace L2
open PySem PySem.Spec PyProof.Rows
section
variable{prog:Program}{w:World}{A:Around}{E:Z5}{s:Shared}
def zkE{it t:Addr}{j:Nat}{vs:Array Value}{v:Value}{Q:Z5}(st:s.heap.IsTupleIter it t j)(tp:s.heap.IsTuple t vs)(e:vs[j]?=some v)
  (q:∀h',h'.IsTupleIter it t (j+1)->Heap.SameBut it s.heap h'->Q v { s with heap:=h' }):wpAny (model prog w) A (Builtin.SmallTypes.nextOf (.ref it)) Q E s:=by
 obtain ⟨o1,g1,c1,d1⟩:=id st;obtain ⟨o2,g2,_,n2,d2⟩:=tp;unfold Builtin.SmallTypes.nextOf;refine yaa (yaS (name:=Str.ofString "__next__") st.typeIs ybt (yaU ybt st.typeIs F.entry_tuple_iterator_next ?_ (F.args_tuple_iterator_next_1 _)));show wpAny _ _ (field (.ref it) 0 >>= _) _ _ s;refine yaa (ybB g1 d1 (x:=.ref t) rfl ?_);show wpAny _ _ (if (Value.ref t == Value.none)=true then _ else _) _ _ s;rw [if_neg (show ¬ ((Value.ref t == Value.none)=true) from fun z=>yaH z)];show wpAny _ _ (field (.ref it) 1 >>= _) _ _ s;refine yaa (ybB g1 d1 (x:=.int j 0) rfl ?_);show wpAny _ _ (seqItems? (.ref t) >>= _) _ _ s;refine yaa (ybJ g2 d2 ?_);simp only [ya1,e];refine yaa (ycC g1 d1 (by simp) (yac ⟨v,rfl,yac (q _ ?_ (Heap.SameBut.update ..))⟩));refine ⟨_,ybx _ g1 (Obj.isFreed_of_fields (yb5 d1 _)),(Obj.cls_mapFields ..).trans c1,?_⟩;rw [yb5 d1];simp [rawInt]
def zm4{it t:Addr}{j:Nat}{vs:Array Value}{Q:Z5}(hh:A.handled=none)(st:s.heap.IsTupleIter it t j)(tp:s.heap.IsTuple t vs)(e:vs[j]?=none)
  (q:∀h' x,Heap.ExtBut it s.heap h'->(∃o,h'.get? x=some o/\o.cls=.type "StopIteration")->E (.ref x) { s with heap:=h' }):wpAny (model prog w) A (Builtin.SmallTypes.nextOf (.ref it)) Q E s:=by
 obtain ⟨o1,g1,c1,d1⟩:=id st;obtain ⟨o2,g2,_,n2,d2⟩:=tp;unfold Builtin.SmallTypes.nextOf;refine yaa (yaS (name:=Str.ofString "__next__") st.typeIs ybt (yaU ybt st.typeIs F.entry_tuple_iterator_next ?_ (F.args_tuple_iterator_next_1 _)));show wpAny _ _ (field (.ref it) 0 >>= _) _ _ s;refine yaa (ybB g1 d1 (x:=.ref t) rfl ?_);show wpAny _ _ (if (Value.ref t == Value.none)=true then _ else _) _ _ s;rw [if_neg (show ¬ ((Value.ref t == Value.none)=true) from fun z=>yaH z)];show wpAny _ _ (field (.ref it) 1 >>= _) _ _ s;refine yaa (ybB g1 d1 (x:=.int j 0) rfl ?_);show wpAny _ _ (seqItems? (.ref t) >>= _) _ _ s;refine yaa (ybJ g2 d2 ?_);simp only [ya1,e];refine yaa (ycL (yaa (ycC g1 d1 (by simp) ?_)));show wpAny _ _ (newExc (.type "StopIteration") [] >>= _) _ _ _;refine yaa ?_;simp only [newExc,newTuple];refine yaa (yaK ?_ (by size_fits));refine yaa (m:=firstArgMember _ _) (wpAny_of_eq (a:=Value.none) ?_ ?_)
 ·first | rfl | (simp only [firstArgMember];rfl)
 refine yaK ?_ (by size_fits);simp only [raiseNew];refine yaa (wpAny_handled ?_)
 first | rw [show A.in1.handled=none from hh] | rw [hh]
 refine yaa (yac (wpAny_throw (q _ _ (((Heap.SameBut.update ..).extBut.push _).push _) ⟨_,yao _ rfl,rfl⟩)))
def zj5(hh:A.handled=none)(it t:Addr)(ne:t≠it)(vs:Array Value):Draws prog w A it [it,t] vs.size (fun j v=>vs[j]?=some v) (fun j h=>h.IsTupleIter it t j/\h.IsTuple t vs) where
 live:=fun _ _ st=>by obtain ⟨⟨o,ho,_⟩,_⟩:=st;exact ⟨o,ho⟩
 frame:=fun _ _ _ st hk=>⟨st.1.at fun o e=>hk it (by simp) o e,by obtain ⟨o,ho,r⟩:=st.2;exact ⟨o,hk t (by simp) o ho,r⟩⟩
 item:=fun j s Q E hj st hQ=>zkE st.1 st.2 (v:=vs[j]) (by simp [hj]) fun h' st' sb=>hQ _ h' s.toks (by simp [hj]) ⟨st',by obtain ⟨o,ho,r⟩:=st.2;exact ⟨o,(sb.2 t ne).trans ho,r⟩⟩ sb
 done:=fun s Q E st hE=>zm4 hh st.1 st.2 (by simp) hE
end
section
variable{X:Cx}{pins:Z3}{σ:St}{H:Hp}{s:Shared}
def Inv.turnedL{t':Nat}{h':Heap}{ch:List Addr}(I:Inv X pins σ H s)(k:∀b o,b ∉ ch->s.heap.get? b=some o->h'.get? b=some o)(hf:∀b∈ch,zkC X pins H b):Inv X pins σ H { s with heap:=h',toks:=t' }:=by
 have nit:∀b u,H b=some u->b ∉ ch:=fun b u e z=>by rw [(hf b z).1] at e;cases e
 refine I.step (g':=s.gens) (d':=s.drawn) (ch:=ch) (fun b hb=>?_) (fun b o _ _ hc e _=>k b o hc e) (fun b o _ _ hc e _=>⟨o.slots,k b o hc e⟩) (fun _ _ _ _ n=>n) (fun b o hc e=>⟨o,k b o hc e⟩) (fun _ _ e=>e) (fun _ _ _ e=>e) (fun b ps e=>⟨#[],by rw [e];simp⟩) (fun m hm=>?_) (fun b u e=>?_) I.bare
 ·obtain ⟨f0,f1,f2,f3,f4,f5⟩:=hf b hb;exact ⟨f3,f1,f4,f5⟩
 ·obtain ⟨o,es,ep,ho,r⟩:=hm;exact ⟨o,es,ep,k _ o (fun z=>(hf _ z).2.1 rfl) ho,r⟩
 ·refine (I.hok b u e).stay (fun c v hc q=>k c v ?_ q) (fun _ q=>q) fun _ _ q=>q
  rcases hc with z | z
  ·rw [z];exact nit b u e
  ·exact nit c _ z
end
end L2
namespace S2
open PySem PySem.Spec PyProof.Rows L2
structure ItOk(cl:Cf)(w:Wd)(J:It)(ds:List D):Prop where
 go:∀w',Fut w w'->∀i,i<ds.length->J.go i w'.H
 stop:∀w',Fut w w'->J.stop ds.length w'.H
 yld:∀w',Fut w w'->∀i d x H',ds[i]?=some d->J.yld i w'.H x H'->∃w'',w''.H=H'/\Grow w' w''/\Shd cl w'' x d
noncomputable abbrev Fi:=Env->Sto->Out (List D)
noncomputable def tI(cl:Cf)(E:St->XK)(f:Fi):TI:=fun σ H R'=>∃B w ρ S,w.H=H/\Rel cl B σ w ρ S/\match f ρ S with
 | .ok ds S'=>∀J w',Rel cl B σ w' ρ S'->Fut w w'->ItOk cl w' J ds->R' J w'.H
 | .exc c S'=>∀w',Rel cl B σ w' ρ S'->Fut w w'->E σ (.ref (cl c)) none w'.H
 | .bad=>False
def PI.imp{X:Cx}{tg it:Expr}{t t':TI}(h:PI X tg it t)(i:∀σ H Q,t' σ H Q->t σ H Q):PI X tg it t':=fun pins s σ H Q I q=>h pins s σ H Q I (i _ _ _ q)
inductive Tg where | one (i:Nat) | tup (is:List Nat)
noncomputable def zdn:List Nat->List D->Env->Option Env
 | [],[],ρ=>some ρ
 | i::is,d::ds,ρ=>zdn is ds (ρ.set i (some (false,d)))
 | _,_,_=>none
noncomputable def Tg.put:Tg->Env->D->Option Env
 | .one i,ρ,d=>some (ρ.set i (some (false,d)))
 | .tup is,ρ,.tup ds=>zdn is ds ρ
 | .tup _,_,_=>none
noncomputable def tG(cl:Cf)(n:Nat)(tg:Tg):TG:=fun v σ H Q=>∃B w ρ S d ρ',w.H=H/\Rel cl B σ w ρ S/\Shd cl w v d/\tg.put ρ d=some ρ'/\∀σ',σ'.length=σ.length->σ'.drop n=σ.drop n->Rel cl B σ' w ρ' S->Q σ' w.H
def PG.imp{X:Cx}{tg:Expr}{t t':TG}(h:PG X tg t)(i:∀v σ H Q,t' v σ H Q->t v σ H Q):PG X tg t':=fun pins s σ H v u Q I r q=>h pins s σ H v u Q I r (i _ _ _ _ q)
noncomputable def zcC(tg:Tg)(body:Fs):List D->Env->Sto->Fo
 | [],ρ,S=>.nx ρ S
 | d::ds,ρ,S=>match tg.put ρ d with
  | none=>.bad
  | some ρ1=>match body ρ1 S with
   | .nx ρ' S'=>zcC tg body ds ρ' S'
   | .ct ρ' S'=>zcC tg body ds ρ' S'
   | .bk ρ' S'=>.nx ρ' S'
   | o=>o
noncomputable def zhi(tg:Tg)(it:Fi)(body:Fs):Fs:=fun ρ S=>match it ρ S with
 | .ok ds S'=>zcC tg body ds ρ S'
 | .exc c S'=>.ex c ρ S'
 | .bad=>.bad
noncomputable def zbN(c:Fe)(body:Fs):Nat->Env->Sto->Fo
 | 0,_,_=>.bad
 | n+1,ρ,S=>match c ρ S with
  | .ok d S'=>(match isB d with
   | some true=>(match body ρ S' with
    | .nx ρ' S'=>zbN c body n ρ' S'
    | .ct ρ' S'=>zbN c body n ρ' S'
    | .bk ρ' S'=>.nx ρ' S'
    | o=>o)
   | some false=>.nx ρ S'
   | none=>.bad)
  | .exc x S'=>.ex x ρ S'
  | .bad=>.bad
section
variable{X:Cx}{cl:Cf}{E:St->XK}{own:Bool}{e iter tg:Expr}{body:List Stmt}{fb:Fs}{fi:Fi}{fc:Fe}{t:Tg}{pos:Pos}
def zhD{α:Type}{n i:Nat}{l:List α}{a:α}(h:i<n):(l.set i a).drop n=l.drop n:=by
 refine ycc fun k=>?_
 rw [yb6,yb6,yaG (by omega)]
def zpU{n i:Nat}{x:Str}(hin:i<n)(hN:X.N.Nodup)(hi:X.N[i]?=some x)(hx:Loc X.env.scope x)(hf:X.fn x=true\/X.env.scope.names.lookup x=some .local):PG X (.Name x pos) (tG cl n (.one i)):=by
 refine PG.imp (zje hN hi hx hf) ?_;rintro v σ H Q ⟨B,w,ρ,S,d,ρ',rfl,R,h,hp,q⟩;cases hp;exact q _ (yaz ..) (zhD hin) (R.put h)
noncomputable def tGs(cl:Cf)(n:Nat)(is:List Nat):TGs:=fun vs σ H Q=>∃B w ρ S ds ρ',w.H=H/\Rel cl B σ w ρ S/\Shds cl w vs ds/\zdn is ds ρ=some ρ'/\∀σ',σ'.length=σ.length->σ'.drop n=σ.drop n->Rel cl B σ' w ρ' S->Q σ' w.H
def znt{n:Nat}:PGs X [] (tGs cl n []):=by
 intro pins s σ H vs us Q I r h;obtain ⟨B,w,ρ,S,ds,ρ',rfl,R,hs,hp,q⟩:=h
 cases hs with
 | nil =>
  cases hp;exact znY pins s σ w.H [] us Q I r ⟨rfl,q σ rfl rfl R⟩
 | cons _ _=>cases hp
def zkR{n i:Nat}{is:List Nat}{x:Str}{es:List Expr}(hin:i<n)(hN:X.N.Nodup)(hi:X.N[i]?=some x)(hx:Loc X.env.scope x)(hf:X.fn x=true\/X.env.scope.names.lookup x=some .local)(h2:PGs X es (tGs cl n is)):PGs X (.Name x pos::es) (tGs cl n (i::is)):=by
 intro pins s σ H vs us Q I r h;obtain ⟨B,w,ρ,S,ds,ρ',rfl,R,hs,hp,q⟩:=h;refine zld (zje hN hi hx hf) h2 rfl pins s σ w.H vs us Q I r ?_
 cases hs with
 | nil=>cases hp
 | cons h t =>
  rename_i v d vs ds;exact ⟨v,vs,rfl,B,w,_,S,ds,ρ',rfl,R.put h,t,hp,fun σ' e1 e2=>q σ' (e1.trans (yaz ..)) (e2.trans (zhD hin))⟩
def zpT{es:List Expr}{n k:Nat}{is:List Nat}(hc:X.calm=true)(h:PGs X es (tGs cl n is))(hn:(assignEach es X.env).length=is.length)(hst:(assignEach es X.env).findIdx? (·.1)=none):PG X (.Tuple es k pos) (tG cl n (.tup is)):=by
 refine PG.imp (zqn hc h hn hst) ?_;rintro v σ H Q ⟨B,w,ρ,S,d,ρ',rfl,R,h,hp,q⟩
 cases h with
 | tup e k r =>
  have hl:∀(is:List Nat) (ds:List D) (ρ ρ':Env),zdn is ds ρ=some ρ'->ds.length=is.length:=by
   intro is
   induction is with
   | nil=>intro ds ρ ρ' h;cases ds with
    | nil=>rfl
    | cons _ _=>cases h
   | cons i is ih=>intro ds ρ ρ' h;cases ds with
    | nil=>cases h
    | cons d ds=>rw [yag,yag,ih ds _ _ h]
  rename_i a xs ds;refine ⟨a,xs,rfl,SqT.of e,by rw [r.length];exact hl is ds ρ ρ' hp,B,w,ρ,S,ds,ρ',rfl,R,r,hp,q⟩
 | _=>cases hp
def zpH{n:Nat}(hp:PassesOwn (model X.prog X.w) X.A X.env X.xe)(hc:X.calm=true)(hi:PI X tg iter (tI cl E fi))(hg:PG X tg (tG cl n t))(hb:PSs X body (tS cl E own fb))(hs:∀x,foldedSetIterable iter X.env x=pure x):PS X (.For tg iter body [] pos) (tS cl E own (zhi t fi fb)):=by
 refine PS.imp (zqk hp hc hi hg hb hs) ?_;rintro De σ H ⟨B,w,ρ,S,rfl,R,q⟩;refine ⟨B,w,ρ,S,rfl,R,?_⟩;unfold zhi at q
 cases hf:fi ρ S with
 | bad=>rwa [hf] at q
 | exc c S1=>rw [hf] at q;exact fun w' R' F'=>q σ w' R' F'
 | ok ds S1 =>
  rw [hf] at q;intro J w0 R0 F0 hJ;dsimp only at q;refine ⟨fun i m σ' H'=>m=ds.length-i/\i<=ds.length/\∃w1 ρ1 S2,w1.H=H'/\Fut w0 w1/\Rel cl B σ' w1 ρ1 S2/\zfp cl E own B w1 De (zcC t fb (ds.drop i) ρ1 S2),⟨ds.length,by simp,yaM _,w0,ρ,S1,rfl,Fut.refl _,R0,by rw [List.drop_zero];exact zfp.up F0 q⟩,?_⟩;rintro i m σ1 H1 ⟨rfl,hi,w1,ρ1,S2,rfl,F1,R1,q1⟩
  by_cases hlt:i<ds.length
  ·obtain ⟨d,hd⟩:∃d,ds[i]?=some d:=⟨ds[i],yaj hlt⟩
   have hdr:ds.drop i=d::ds.drop (i+1):=by
    rw [List.drop_eq_getElem_cons hlt];rw [yaj hlt] at hd;cases hd;rfl
   rw [hdr] at q1;unfold zcC at q1
   cases hp1:t.put ρ1 d with
   | none=>rw [hp1] at q1;exact q1.elim
   | some ρ2 =>
    rw [hp1] at q1;dsimp only at q1;refine .inr ⟨hJ.go w1 F1 i hlt,fun σ' H'=>i+1<=ds.length/\∃w1 ρ1 S2,w1.H=H'/\Fut w0 w1/\Rel cl B σ' w1 ρ1 S2/\zfp cl E own B w1 De (zcC t fb (ds.drop (i+1)) ρ1 S2),fun σ' H' h'=>⟨ds.length-(i+1),by omega,rfl,h'.1,h'.2⟩,fun x H' y=>?_⟩;obtain ⟨w2,rfl,g2,s2⟩:=hJ.yld w1 F1 i d x H' hd y;refine ⟨B,w2,ρ1,S2,d,ρ2,rfl,R1.grow g2,s2,hp1,fun σ2 _ _ R2=>⟨B,w2,ρ2,S2,rfl,R2,?_⟩⟩;have q2:=zfp.up g2.fut q1
    cases hb:fb ρ2 S2 with
    | bad=>rwa [hb] at q2
    | rt d S3=>rwa [hb] at q2
    | ex c ρ3 S3=>rwa [hb] at q2
    | bk ρ3 S3=>rw [hb] at q2;exact fun σ3 w3 R3 F3=>q2 σ3 w3 R3 F3
    | nx ρ3 S3=>rw [hb] at q2;exact fun σ3 w3 R3 F3=>⟨hlt,w3,ρ3,S3,rfl,F1.trans (g2.fut.trans F3),R3,zfp.up F3 q2⟩
    | ct ρ3 S3=>rw [hb] at q2;exact fun σ3 w3 R3 F3=>⟨hlt,w3,ρ3,S3,rfl,F1.trans (g2.fut.trans F3),R3,zfp.up F3 q2⟩
  ·have e:i=ds.length:=by omega
   subst e;rw [List.drop_length] at q1;exact .inl ⟨hJ.stop w1 F1,q1 σ1 w1 R1 (Fut.refl _)⟩
noncomputable def zdN(n:Nat)(c:Fe)(body:Fs):Fs:=zbN c body n
def zkK{c:Expr}(n:Nat)(hp:PassesOwn (model X.prog X.w) X.A X.env X.xe)(hc:PT X c (tTr cl E fc))(hb:PSs X body (tS cl E own fb)):PS X (.While c body [] pos) (tS cl E own (zdN n fc fb)):=by
 refine PS.imp (zk6 hp hc hb) ?_;rintro De σ H ⟨B,w,ρ,S,rfl,R,q⟩;refine ⟨fun m σ' H'=>∃w1 ρ1 S2,w1.H=H'/\Fut w w1/\Rel cl B σ' w1 ρ1 S2/\zfp cl E own B w1 De (zbN fc fb m ρ1 S2),⟨n,w,ρ,S,rfl,Fut.refl _,R,q⟩,?_⟩;rintro m σ1 H1 ⟨w1,ρ1,S1,rfl,F1,R1,q1⟩
 cases m with
 | zero=>exact q1.elim
 | succ m =>
  unfold zbN at q1;refine ⟨B,w1,ρ1,S1,rfl,R1,?_⟩
  cases hg:fc ρ1 S1 with
  | bad=>rwa [hg] at q1
  | exc c S2=>rw [hg] at q1;exact fun w' R' F'=>q1 σ1 w' R' F'
  | ok d S2 =>
   rw [hg] at q1;dsimp only at q1 ⊢
   cases hb:isB d with
   | none=>rw [hb] at q1;exact q1.elim
   | some b =>
    rw [hb] at q1;intro w2 R2 F2
    cases b with
    | false=>exact zlP (q1 σ1 w2 R2 F2)
    | true =>
     refine zlO ⟨fun σ' H'=>∃w1 ρ1 S2,w1.H=H'/\Fut w w1/\Rel cl B σ' w1 ρ1 S2/\zfp cl E own B w1 De (zbN fc fb m ρ1 S2),fun σ' H' h'=>⟨m,ycj _,h'⟩,B,w2,ρ1,S2,rfl,R2,?_⟩;have q2:=zfp.up F2 q1;dsimp only at q2
     cases hx:fb ρ1 S2 with
     | bad=>rwa [hx] at q2
     | rt d S3=>rwa [hx] at q2
     | ex c ρ3 S3=>rwa [hx] at q2
     | bk ρ3 S3=>rw [hx] at q2;exact fun σ3 w3 R3 F3=>q2 σ3 w3 R3 F3
     | nx ρ3 S3=>rw [hx] at q2;exact fun σ3 w3 R3 F3=>⟨w3,ρ3,S3,rfl,F1.trans (F2.trans F3),R3,zfp.up F3 q2⟩
     | ct ρ3 S3=>rw [hx] at q2;exact fun σ3 w3 R3 F3=>⟨w3,ρ3,S3,rfl,F1.trans (F2.trans F3),R3,zfp.up F3 q2⟩
noncomputable def zhB(f:Fe):Fi:=fun ρ S=>(f ρ S).bind fun d S1=>match d with | .lst l=>.ok l S1 | _=>.bad
noncomputable def zgR(f:Fe):Fi:=fun ρ S=>(f ρ S).bind fun d S1=>match d with | .tup l=>.ok l S1 | _=>.bad
def ziH(he:PE X e (tE cl E fc)):PI X tg e (tI cl E (zhB fc)):=by
 refine PI.imp (zjc he) ?_;rintro σ H Q ⟨B,w,ρ,S,rfl,R,q⟩;refine ⟨B,w,ρ,S,rfl,R,?_⟩;unfold zhB at q
 cases hf:fc ρ S with
 | bad=>rwa [hf] at q
 | exc c S1=>rwa [hf] at q
 | ok d S1 =>
  rw [hf] at q;intro v w' R' F' h';dsimp only [Out.bind] at q
  cases h' with
  | lst e k r =>
   rename_i a xs ds;refine ⟨a,rfl,⟨xs,SqL.of e⟩,q _ w' R' F' ?_⟩;have hl:=r.length;refine ⟨fun w1 F1 i hi=>⟨xs,xs[i]'(by omega),SqL.of (F1.keep _ _ e k).1,yaj (by omega)⟩,fun w1 F1=>⟨xs,SqL.of (F1.keep _ _ e k).1,by omega⟩,fun w1 F1 i d x H1 hd y=>?_⟩;obtain ⟨rfl,hy⟩:=y;have hx:=hy xs (SqL.of (F1.keep _ _ e k).1);obtain ⟨d',e1,e2⟩:=r.get hx;rw [hd] at e1;cases e1;exact ⟨w1,rfl,Grow.refl _,e2.up F1⟩
  | _=>exact q.elim
def zpQ(he:PE X e (tE cl E fc)):PI X tg e (tI cl E (zgR fc)):=by
 refine PI.imp (zqm he) ?_;rintro σ H Q ⟨B,w,ρ,S,rfl,R,q⟩;refine ⟨B,w,ρ,S,rfl,R,?_⟩;unfold zgR at q
 cases hf:fc ρ S with
 | bad=>rwa [hf] at q
 | exc c S1=>rwa [hf] at q
 | ok d S1 =>
  rw [hf] at q;intro v w' R' F' h';dsimp only [Out.bind] at q
  cases h' with
  | tup e k r =>
   rename_i a xs ds;refine ⟨a,rfl,⟨xs,SqT.of e⟩,q _ w' R' F' ?_⟩;have hl:=r.length;refine ⟨fun w1 F1 i hi=>⟨xs,xs[i]'(by omega),SqT.of (F1.keep _ _ e k).1,yaj (by omega)⟩,fun w1 F1=>⟨xs,SqT.of (F1.keep _ _ e k).1,by omega⟩,fun w1 F1 i d x H1 hd y=>?_⟩;obtain ⟨rfl,hy⟩:=y;have hx:=hy xs (SqT.of (F1.keep _ _ e k).1);obtain ⟨d',e1,e2⟩:=r.get hx;rw [hd] at e1;cases e1;exact ⟨w1,rfl,Grow.refl _,e2.up F1⟩
  | _=>exact q.elim
noncomputable def zaW(lo hi:Int):List D:=(List.range (hi-lo).toNat).map fun (i:Nat)=>.int (lo+i)
noncomputable def zfk(f:Fe):Fi:=fun ρ S=>(zag [f] ρ S).bind fun ds S1=>match ds with | [.int j]=>if -1000000<=j/\j<=1000000 then .ok (zaW 0 j) S1 else .bad | _=>.bad
noncomputable def zj3(f g:Fe):Fi:=fun ρ S=>(zag [f,g] ρ S).bind fun ds S1=>match ds with | [.int i,.int j]=>if (-1000000<=i/\i<=1000000)/\-1000000<=j/\j<=1000000 then .ok (zaW i j) S1 else .bad | _=>.bad
def zmN{w:Wd}{lo hi:Int}{n:Nat}(hn:n=(hi-lo).toNat):ItOk cl w (Itr lo n) (zaW lo hi):=by
 subst hn
 have hl:(zaW lo hi).length=(hi-lo).toNat:=by unfold zaW;rw [yad,ycG]
 refine ⟨fun w1 F1 i h=>by rw [hl] at h;exact h,fun w1 F1=>by rw [hl];exact yah _,fun w1 F1 i d x H1 hd y=>?_⟩;obtain ⟨rfl,rfl⟩:=y;unfold zaW at hd;rw [yaF] at hd
 cases hr:(List.range (hi-lo).toNat)[i]? with
 | none=>rw [hr] at hd;cases hd
 | some j =>
  rw [hr] at hd;have:=(yap.mp hr).2;rw [List.getElem_range] at this;subst this;cases hd;exact ⟨w1,rfl,Grow.refl _,.int _⟩
def zns{p:Pos}(hg:Gl X "range")(hm:X.mg "range" = none)(ha:PA X [e] (tAs cl E [fc]))(hs:starEach [e] X.env=[(false,eval e X.env)]):PI X tg (.Call (.Name "range" p) [e] [] pos) (tI cl E (zfk fc)):=by
 refine PI.imp (zjb hg hm ha hs) ?_;rintro σ H Q ⟨B,w,ρ,S,rfl,R,q⟩;refine ⟨B,w,ρ,S,rfl,R,?_⟩;unfold zfk at q
 cases hf:zag [fc] ρ S with
 | bad=>rwa [hf] at q
 | exc c S1=>rwa [hf] at q
 | ok ds S1 =>
  rw [hf] at q;intro vs w' R' F' h';dsimp only [Out.bind] at q;split at q
  ·rename_i ds' S' hm';split at hm'
   ·rename_i j;split at hm'
    ·rename_i hb;cases hm'
     cases h' with
     | cons h1 h2 =>
      cases h1;cases h2;exact ⟨j,rfl,by omega,by omega,q _ w' R' F' (zmN (by omega))⟩
    ·cases hm'
   ·cases hm'
  ·rename_i hm';split at hm'<;>first | (split at hm'<;>cases hm') | cases hm'
  ·exact q.elim
def znr{a:Expr}{fa:Fe}{p:Pos}(hg:Gl X "range")(hm:X.mg "range" = none)(ha:PA X [a,e] (tAs cl E [fa,fc]))(hs:starEach [a,e] X.env=[(false,eval a X.env),(false,eval e X.env)])(hs2:starEach [e] X.env=[(false,eval e X.env)]):PI X tg (.Call (.Name "range" p) [a,e] [] pos) (tI cl E (zj3 fa fc)):=by
 refine PI.imp (zja hg hm ha hs hs2) ?_;rintro σ H Q ⟨B,w,ρ,S,rfl,R,q⟩;refine ⟨B,w,ρ,S,rfl,R,?_⟩;unfold zj3 at q
 cases hf:zag [fa,fc] ρ S with
 | bad=>rwa [hf] at q
 | exc c S1=>rwa [hf] at q
 | ok ds S1 =>
  rw [hf] at q;intro vs w' R' F' h';dsimp only [Out.bind] at q;split at q
  ·rename_i ds' S' hm';split at hm'
   ·rename_i i j;split at hm'
    ·rename_i hb;cases hm'
     cases h' with
     | cons h1 h2 =>
      cases h1
      cases h2 with
      | cons h2 h3 =>
       cases h2;cases h3;exact ⟨i,j,rfl,by omega,q _ w' R' F' (zmN rfl)⟩
    ·cases hm'
   ·cases hm'
  ·rename_i hm';split at hm'<;>first | (split at hm'<;>cases hm') | cases hm'
  ·exact q.elim
end
end S2
namespace S2
open PySem PySem.Spec PyProof.Rows L2
noncomputable def zrG(ρ:Env)(i:Nat):Option (Bool×D):=match ρ[i]? with | some (some (false,d))=>some (false,d) | _=>none
noncomputable def zbh(n:Nat)(caps:List Nat)(ρ:Env):Env:=List.replicate n none++caps.map (zrG ρ)
noncomputable def zj2:Fe:=zae (.bl true)
noncomputable def zbi(tg:Tg)(c elt:Fe)(ρ0:Env):List D->Sto->Out (List D)
 | [],S=>.ok [] S
 | d::ds,S=>match tg.put ρ0 d with
  | none=>.bad
  | some ρ1=>(c ρ1 S).bind fun b S1=>match isB b with
   | some true=>(elt ρ1 S1).bind fun y S2=>(zbi tg c elt ρ0 ds S2).bind fun ys S3=>.ok (y::ys) S3
   | some false=>zbi tg c elt ρ0 ds S1
   | none=>.bad
noncomputable def zdi(n:Nat)(tg:Tg)(it:Fi)(c elt:Fe)(caps:List Nat):Fe:=fun ρ S=>(it ρ S).bind fun ds S1=>match zbi tg c elt (zbh n caps ρ) ds S1 with
 | .ok ys S2=>if zaM ys.length then .ok (.lst ys) S2 else .bad
 | _=>.bad
noncomputable abbrev noE:St->XK:=fun _ _ _ _=>False
section
variable{cl:Cf}
def zjS{B:Base}{σ:St}{w w1:Wd}{ρ:Env}{S S1:Sto}{n:Nat}{caps:List (Str×Nat)}(R:Rel cl B σ w ρ S){B1:Base}(W1:World' cl B1 w1 S1)(F1:Fut w w1){σ':St}(hσ:σ'.length=n+caps.length)(hc:σ'.drop n=caps.map fun p=>(σ[p.2]?).join) :
  Rel cl B1 σ' w1 (zbh n (caps.map (·.2)) ρ) S1 where
 wd:=W1
 len:=by unfold zbh;rw [hσ,yal,yaL,yad,yad]
 slots:=fun i o d h=>by
  unfold zbh at h
  by_cases hi:i<n
  ·rw [yaW (by rw [yaL];exact hi),ybF] at h
   split at h<;>cases h
  ·rw [yaJ (by rw [yaL];omega),yaL,ybk,yaF] at h
   cases hp:caps[i-n]? with
   | none=>rw [hp] at h;cases h
   | some p =>
    rw [hp] at h;have h':zrG ρ p.2=some (o,d):=Option.some.inj h;unfold zrG at h';split at h'
    ·rename_i d' hd;cases h';obtain ⟨v,e,x⟩:=R.slots p.2 false d hd;refine ⟨v,?_,Shd.up F1 x⟩;have:=congrArg (fun l=>l[i-n]?) hc;rw [yb6,yaF,hp] at this;rw [show n+(i-n)=i by omega] at this;rw [this];show some ((σ[p.2]?).join)=_;rw [e];rfl
    ·cases h'
end
section
variable{X:Cx}{cl:Cf}{E:St->XK}
end
end S2
namespace L2
open PySem PySem.Spec PyProof.Rows
section
variable{X:Cx}
end
end L2
namespace L2
open PySem PySem.Spec PyProof.Rows
noncomputable def CXE(P:Program)(w:World):CXT:=fun outer H s E e s'=>∃(a:Addr) (cls a0:Value) (H':Hp) (B:Heap),e=.ref a/\Heap.FlyingW B outer a cls a0 s'.heap ∧
 (∀b o,s'.heap.get? b=some o->H' b≠none->B.get? b=some o)/\(∀b o,s.heap.get? b=some o->H b=none->b ∉ frs outer->B.get? b=some o) ∧
 (∀b o,s.heap.get? b=some o->b ∉ frs outer->∃o',B.get? b=some o') ∧
 s'.os=s.os/\AllBare s'.gens/\Un (frs outer) [] H H' s.heap s'.heap/\HOk P w H' s'.heap/\E cls none H'
def zbj.has{P:Program}{w:World}{H:Hp}{h:Heap}{a:Addr}{o:HO}(x:zbj P w H h a o):∃ob,h.get? a=some ob:=by
 cases o with
 | lst xs=>obtain ⟨_,_,_,_,e⟩:=x;exact ⟨_,e⟩
 | tup xs=>obtain ⟨_,_,_,ob,e,_⟩:=x;exact ⟨_,e⟩
 | dK kvs=>obtain ⟨_,_,_,_,o,_,_,e,_⟩:=x;exact ⟨_,e⟩
 | dT kvs=>obtain ⟨_,_,_,_,o,_,_,e,_⟩:=x;exact ⟨_,e⟩
 | set S n=>obtain ⟨o,_,_,_,e,_⟩:=x;exact ⟨_,e⟩
 | ins C dx fs=>obtain ⟨_,_,_,e,_⟩:=x;exact ⟨_,e⟩
 | own y=>exact x
 | xd fs=>obtain ⟨_,⟨_,_,_,e,_⟩,_⟩:=x;exact ⟨_,e⟩
 | rng lo hi=>obtain ⟨_,_,_,e⟩:=x;exact ⟨_,e⟩
 | frz ob u=>obtain ⟨e,_⟩:=x;exact ⟨_,e⟩
 | tbl ps=>exact ⟨_,(show h.get? a=some _ from x)⟩
 | met f y=>exact ⟨_,(show h.get? a=some _ from x)⟩
 | ext φ=>obtain ⟨_,e,_⟩:=x;exact e
def HOk.same{P:Program}{w:World}{H:Hp}{h h':Heap}(x:HOk P w H h)(k:∀b u,h.get? b=some u->H b≠none->h'.get? b=some u):HOk P w H h':=fun a o e =>
 (x a o e).stay (fun b u hb q=>k b u q (hb.elim (fun z=>by rw [z,e];exact yaE _) (fun z=>by rw [z];exact yaE _))) (fun _ q=>q) fun _ _ q=>q
section
variable{X:Cx}{pins:Z3}{σ:St}{H:Hp}{s:Shared}{M:Model}
def zlY(l:List Env):∀env∈l,∀b,env.frame=some b->b∈frs l:=fun env he b hb=>yb2.mpr ⟨env,he,hb⟩
def zh7{h':Heap}{e:Addr}{cls:Value}{vs:List Value}{E:XK}{Er:Z5}(I:Inv X pins σ H s)(hx:X.ex=[])(hs:X.stack=X.env::X.outer)(hf:X.env.frame=some X.env.locals)(mk:Heap.MadeExcOf s.heap h' e cls vs)(q:E cls none H) :
  wpAny M X.A (leaving X.env (.ref e)) (fun _ s''=>CXE X.prog X.w X.outer X.H₀ X.s₀ E (.ref e) s'') Er { s with heap:=h' }:=by
 have hfr:X.A.frames=some (X.env::X.outer):=by rw [<-hs];exact I.ok.frames
 have hst:s.heap.FunFrames X.base (X.env::X.outer):=by rw [<-hs];exact I.stack
 refine wpAny_leaves_madeW (base:=PySem.W.hideAll s.heap (frs (X.env::X.outer))) hfr hf (fun b o z=>PySem.W.of_hideAll _ z) (PySem.W.funFrames_hide hst (zlY _)) mk fun h2 t fl tup _ up=>?_
 have inB:∀b o,s.heap.get? b=some o->b ∉ frs (X.env::X.outer)->(PySem.W.hideAll s.heap (frs (X.env::X.outer))).get? b=some o:=fun b o z n=>PySem.W.hideAll_get _ z n
 have sub:∀b,b∈frs (X.env::X.outer)->b=X.env.locals\/b∈X.fs:=fun b hb=>by
  rw [<-hs] at hb;exact yas.mp (I.stkSub b hb)
 have fre:∀b,b∈frs (X.env::X.outer)->H b=none:=fun b hb=>by rw [<-hs] at hb;exact I.stkFree b hb
 have old:∀b o,X.s₀.heap.get? b=some o->b ∉ frs X.outer->b ∉ frs (X.env::X.outer):=fun b o z n hb=>by
  rcases sub b hb with r | r
  ·exact absurd (yai (yam z) I.ok.above) (by rw [r];exact yaR _)
  ·exact n r
 have nx:∀b:Addr,b ∉ X.ex:=fun b z=>by rw [hx] at z;cases z
 have trk:∀b o,s.heap.get? b=some o->H b≠none->h2.get? b=some o:=fun b o z n=>fl.1 b o (inB b o z fun hb=>n (fre b hb))
 have hok2:HOk X.prog X.w H h2:=I.hok.same trk
 have slt:∀b o,s.heap.get? b=some o->b∈frs X.stack->∃sl,h2.get? b=some { o with slots:=sl }:=fun b o z hb=>by
  obtain ⟨_,o',z',hd⟩:=I.stack.mem hb;rw [z] at z';cases z';exact up b o (mk.keeps b o z) hd
 have un2:Un (frs X.stack) [] H H s.heap h2:=⟨fun b o z n hb _=>fl.1 b o (inB b o z (by rw [<-hs];exact hb)),fun b o z n hb _=>slt b o z hb,fun b o z n _=>n,
  fun b o z _=>by
   by_cases hb:b∈frs X.stack
   ·obtain ⟨sl,r⟩:=slt b o z hb;exact ⟨_,r⟩
   ·exact ⟨o,fl.1 b o (inB b o z (by rw [<-hs];exact hb))⟩,
  fun _ _ z=>z,fun _ _ _ z=>z,fun _ ps z=>⟨#[],by rw [z,Array.append_empty]⟩⟩
 have J:=I.call (g':=s.gens) (t':=s.toks) (d':=s.drawn) (ch:=[]) un2 hok2 I.bare (fun b z=>absurd z (by simp));refine ⟨e,cls,.ref t,H,_,rfl,fl,fun b o z n=>?_,fun b o z n hb=>?_,fun b o z hb=>?_,J.os,J.bare,?_,J.hok,q⟩
 ·cases k:H b with
  | none=>exact absurd k n
  | some u =>
   obtain ⟨o',z'⟩:=(I.hok b u k).has;have:=trk b o' z' n;rw [show h2.get? b=some o from z] at this;cases this;exact inB b o z' fun hb=>n (fre b hb)
 ·exact inB b o (I.base.keep b o z n hb (nx b)) (old b o z hb)
 ·obtain ⟨o',z'⟩:=I.base.there b o z (nx b);exact ⟨o',inB b o' z' (old b o z hb)⟩
 ·have:=J.base;rwa [hx] at this
def zlG{e:Value}{s':Shared}{E:XK}{Er:Z5}(I:Inv X pins σ H s)(hx:X.ex=[])(hs:X.stack=X.env::X.outer)(hf:X.env.frame=some X.env.locals)(q:CXE X.prog X.w X.stack H s E e s') :
  wpAny M X.A (leaving X.env e) (fun _ s''=>CXE X.prog X.w X.outer X.H₀ X.s₀ E e s'') Er s':=by
 have hfr:X.A.frames=some (X.env::X.outer):=by rw [<-hs];exact I.ok.frames
 obtain ⟨a,cls,a0,H',B,rfl,fl,c1,c2,c3,os,bare,un,hok,q⟩:=q
 have fl':Heap.FlyingW B (X.env::X.outer) a cls a0 s'.heap:=by rw [<-hs];exact fl
 refine wpAny_leaves_onW hfr hf fl' fun h2 fl2 up=>?_
 have sub:∀b,b∈frs X.stack->b=X.env.locals\/b∈X.fs:=fun b hb=>yas.mp (I.stkSub b hb)
 have old:∀b o,X.s₀.heap.get? b=some o->b ∉ frs X.outer->b ∉ frs X.stack:=fun b o z n hb=>by
  rcases sub b hb with r | r
  ·exact absurd (yai (yam z) I.ok.above) (by rw [r];exact yaR _)
  ·exact n r
 have nx:∀b:Addr,b ∉ X.ex:=fun b z=>by rw [hx] at z;cases z
 have trk:∀b o,s'.heap.get? b=some o->H' b≠none->h2.get? b=some o:=fun b o z n=>fl2.1 b o (c1 b o z n)
 have hok2:HOk X.prog X.w H' h2:=hok.same trk
 have slt:∀b o,s.heap.get? b=some o->H b=none->b∈frs X.stack->∃sl,h2.get? b=some { o with slots:=sl }:=fun b o z n hb=>by
  obtain ⟨_,o',z',hd⟩:=I.stack.mem hb;rw [z] at z';cases z';obtain ⟨sl,r⟩:=un.slot b o z n hb (by simp);obtain ⟨sl',r'⟩:=up b ({ o with slots:=sl }:Obj) r hd;exact ⟨sl',r'⟩
 have un2:Un (frs X.stack) [] H H' s.heap h2:=⟨fun b o z n hb _=>fl2.1 b o (c2 b o z n hb),fun b o z n hb _=>slt b o z n hb,un.free,
  fun b o z _=>by
   by_cases hb:b∈frs X.stack
   ·obtain ⟨sl,r⟩:=slt b o z (I.stkFree b hb) hb;exact ⟨_,r⟩
   ·obtain ⟨o',r⟩:=c3 b o z hb
    exact ⟨o',fl2.1 b o' r⟩,
  un.tups,un.frzs,un.tbls⟩
 have J:=I.call (g':=s'.gens) (t':=s'.toks) (d':=s'.drawn) (ch:=[]) un2 hok2 bare (fun b z=>absurd z (by simp));refine ⟨a,cls,a0,H',B,rfl,fl2,fun b o z n=>?_,fun b o z n hb=>?_,fun b o z hb=>?_,os.trans I.os,bare,?_,J.hok,q⟩
 ·cases k:H' b with
  | none=>exact absurd k n
  | some u =>
   obtain ⟨o',z'⟩:=(hok b u k).has;have:=trk b o' z' n;rw [show h2.get? b=some o from z] at this;cases this;exact c1 b o z' n
 ·exact c2 b o (I.base.keep b o z n hb (nx b)) (I.base.free b o z n (nx b)) (old b o z hb)
 ·obtain ⟨o',z'⟩:=I.base.there b o z (nx b);exact c3 b o' z' (old b o z hb)
 ·have:=J.base;rwa [hx] at this
end
def zs9{P:Program}{w:World}{K:PySem.W.Frag}{mg:Z6}{base:Heap}{N:List Str}{qual:Str}{scope:Scope}{f:Addr}{cd:Value}{A:Around}{outer:List Env}{s:Shared}{H:Hp}{E:XK} :
  zrQ (CXE P w) (zky (CXE P w) P w K mg base N qual scope f cd A outer s H E) E:=fun pins σ H1 s1 e s' I q =>
 zlG (X:=zky (CXE P w) P w K mg base N qual scope f cd A outer s H E) I rfl rfl rfl q
def zgP{K:PySem.W.Frag}{h:Heap}{C:Addr}{bmB:List Value}{nid:String}(k:K.In h)(z:PySem.W.excIn K C bmB nid=true) :
  ∃bm N nm qn bs hd sn sub ab col dd c0 c1 c2 c3 c5 mN,h.get? C=some (excClassObj nm qn C N bs bm hd sn sub ab col dd c0 c1 c2 c3 c5 nid)/\h.Ns N mN/\mN "__init__" = none/\OwnTail h bmB bm:=by
 unfold PySem.W.excIn at z;split at z
 case h_2=>cases z
 case h_1 dd cd sl ho =>
  split at z
  case h_2=>cases z
  case h_1 D bm c0 c1 c2 c3 n c5 e1 e2 =>
   simp only [yab,ybR,ya7] at z;obtain ⟨⟨⟨⟨⟨z1,z2⟩,z3⟩,z4⟩,z5⟩,z6⟩:=z;subst z1 z2
   have hsl:sl=#[c0,c1,c2,c3,some (.builtin n),c5]:=by
    cases sl with
    | mk l=>exact congrArg Array.mk e2
   have hcd:cd={ cd with mro:=.ref D::bm,hasDel:=false }:=by
    cases cd;simp only at e1 z3;simp only [e1,z3]
   rw [hsl,hcd] at ho;exact ⟨bm,cd.ns,cd.name,_,cd.bases,_,_,_,_,_,dd,c0,c1,c2,c3,c5,_,k _ _ ho,.of_isNs (PySem.W.isNs_of_in k z5),PySem.W.nsMap_none_of_in k z5 z6,PySem.W.tail_of_in k z4⟩
noncomputable def zrP(X:Cx)(E:XK):Prop:=∀(C:Addr) (pins:Z3) (σ:St) (H:Hp) (s:Shared) (e:Addr) (h':Heap) (vs:List Value),Inv X pins σ H s->Heap.MadeExcOf s.heap h' e (.ref C) vs->E (.ref C) none H->X.xe (.ref e) { s with heap:=h' }
def znH{P:Program}{w:World}{K:PySem.W.Frag}{mg:Z6}{base:Heap}{N:List Str}{qual:Str}{scope:Scope}{f:Addr}{cd:Value}{A:Around}{outer:List Env}{s:Shared}{H:Hp}{E:XK} :
  zrP (zky (CXE P w) P w K mg base N qual scope f cd A outer s H E) E:=fun C pins σ H1 s1 e h' vs I mk q =>
 zh7 (X:=zky (CXE P w) P w K mg base N qual scope f cd A outer s H E) I rfl rfl rfl mk q
end L2
namespace L2
open PySem PySem.Spec PyProof.Rows
noncomputable def XP(X:Cx)(pins:Z3)(σ:St)(E:XK)(e:Value)(s':Shared):Prop:=∃H1 s1,Inv X pins σ H1 s1/\CXE X.prog X.w X.stack H1 s1 E e s'
section
variable{X:Cx}{k:Nat}{f C:Addr}{fd:FuncData}{ps:List Str}{sp:Sp}{dvs:List V}{ds:List Value}{x m:Str}{p pos apos:Pos}{e o:Expr}{es:List Expr}{ta:TE}{t:TA}
end
def zfc{M:Model}{A:Around}{E:Z5}{K:PySem.W.Frag}{s:Shared}{C D e:Addr}{oe:Obj}{bC bD:List Value}{iC iD:String}{Q:Bool->Shared->Prop}(k:K.In s.heap)(zC:PySem.W.excIn K C bC iC=true)(zD:PySem.W.excIn K D bD iD=true)
  (he:s.heap.get? e=some oe) (hc:oe.cls=.ref C) (hb:bD.contains (.type "BaseException")=true) (up:∃cd d cl sl,K.lookup C=some ⟨cl,d,.cls cd,sl⟩/\cd.mro.contains (.ref D)=true) (q:Q true s):wpAny M A (excMatches (.ref e) (.ref D)) Q E s:=by
 obtain ⟨bm,N,nm,qn,bs,hd,sn,sub,ab,col,dd,c0,c1,c2,c3,c5,mN,o1,o2,o3,o4⟩:=zgP k zC;obtain ⟨bm',N',nm',qn',bs',hd',sn',sub',ab',col',dd',d0,d1,d2,d3,d5,mN',p1,p2,p3,p4⟩:=zgP k zD;obtain ⟨cd,d,cl,sl,lk,ct⟩:=up;have o1':=k _ _ lk;rw [o1] at o1';have hcd:=congrArg Obj.data (Option.some.inj o1')
 have hcC:(Value.ref C::bm).contains (.ref D)=true:=by
  injection hcd with h
  rwa [<-h] at ct
 have hcB:(Value.ref D::bm').contains (.type "BaseException")=true:=by rw [yb7,p4.hasType hb,Bool.or_true]
 have f:=tc_notTuple;obtain ⟨h,g,dr,t,os⟩:=s;unfold excMatches
 repeat (first | (with_reducible refine ybq he ?_;rw [hc]) | with_reducible refine ybq p1 ?_ | (with_reducible refine wpAny_isSubtype_exc p1 ?_;rw [hcB]) | (with_reducible refine wpAny_isSubtype_exc o1 ?_;rw [hcC]) | wp_step)
 exact q
end L2
namespace L2
open PySem PySem.Spec PyProof.Rows
section
variable{X:Cx}{pins:Z3}{σ:St}{H:Hp}{s:Shared}
def zoA{M:Model}{A:Around}{E:Z5}{i:Nat}{x:Str}{Q:Unit->Shared->Prop}(I:Inv X pins σ H s)(hN:X.N.Nodup)(hi:X.N[i]?=some x)(hk:X.env.scope.names.lookup x=some .local)(hv:∃v,σ[i]?=some (some v))
  (h:∀s',Inv X pins (σ.set i none) H s'->Q () s'):wpAny M A (unbindName X.env x) Q E s:=by
 obtain ⟨m,hn,hl⟩:=id I.loc
 have hcls:(X.env.scope.kind == .class||(X.env.scope.kind == .module&&X.env.locals != X.env.globals))=false:=by rw [I.ok.kind];rfl
 obtain ⟨v,hv⟩:=hv;obtain ⟨u,r,lk⟩:=hl i x v hi hv (.inl hk)
 have hm:m x=some u:=by
  rcases lk with ⟨_,z⟩ | ⟨z,_⟩
  ·exact z
  ·have z:X.env.scope.names.lookup x=some .cell\/X.env.scope.names.lookup x=some .free:=z;rw [hk] at z
   rcases z with z | z<;>cases z
 refine wpAny_unbindName_local hk hn hm hcls fun h' u' hn' hs=>h _ ?_
 have far:∀b o,X.s₀.heap.get? b=some o->b≠X.env.locals:=fun b o z=>yay (yai (yam z) I.ok.above)
 refine ⟨I.ok,I.os,I.bare,⟨?_,?_,I.base.free,?_,I.base.tups,I.base.frzs,I.base.tbls⟩,⟨_,hn',?_⟩,?_,I.free,I.freeC,?_,?_,by simpa using I.len⟩
 ·exact fun b o z n hb hx=>(hs.2 b (far b o z)).trans (I.base.keep b o z n hb hx)
 ·exact fun b o z n hb hx=>let ⟨sl,z1⟩:=I.base.slot b o z n hb hx;⟨sl,(hs.2 b (far b o z)).trans z1⟩
 ·exact fun b o z hx=>let ⟨o',z1⟩:=I.base.there b o z hx;⟨o',(hs.2 b (far b o z)).trans z1⟩
 ·intro j y w e1 e2 e3
  have hj:j≠i:=fun z=>by
   subst z;have l1:j<σ.length:=(yap.mp hv).1;rw [yaw l1] at e2;cases e2
  rw [yaG (Ne.symm hj)] at e2;obtain ⟨u1,r1,q⟩:=hl j y w e1 e2 e3;refine ⟨u1,r1,?_⟩
  rcases q with ⟨k1,z⟩ | ⟨k1,c,z,z1⟩
  ·have ny:y≠x:=fun e=>hj (zfa hN e1 (e ▸ hi))
   exact .inl ⟨k1,by simp [ny,z]⟩
  ·exact .inr ⟨k1,c,z,z1.sameBut hs (I.cne y c z)⟩
 ·exact fun y c z=>let ⟨w,z1⟩:=I.cell y c z;⟨w,z1.sameBut hs (I.cne y c z)⟩
 ·exact fun p hp=>let ⟨z,n,ne,nf,d⟩:=I.pin p hp;⟨(hs.2 p.1 ne).trans z,n,ne,nf,d⟩
 ·exact I.hok.same fun b o z n=>(hs.2 b fun e=>n (by rw [e];exact I.free)).trans z
def zfh{M:Model}{A:Around}{E:Z5}{i:Nat}{x:Str}{pos:Pos}{Q:Unit->Shared->Prop}(I:Inv X pins σ H s)(hN:X.N.Nodup)(hi:X.N[i]?=some x)(hk:X.env.scope.names.lookup x=some .local)
  (h:∀s',Inv X pins (σ.set i none) H s'->Q () s'):wpAny M A (do bindName X.env x .none;unbindBehindTheSuite X.env x pos) Q E s:=by
 refine yaa (wpAny_bindName (zcO (v:=.non) I hN hi (.inl hk) rfl (fun s2 I2=>?_) (.inr hk)));unfold unbindBehindTheSuite;refine wpAny_onRaise ?_
 have l1:i<σ.length:=by rw [I.len];exact (yap.mp hi).1
 refine zoA I2 hN hi hk ⟨.non,yaw l1⟩ fun s3 I3=>h s3 ?_
 rwa [List.set_set] at I3
end
end L2
namespace L2
open PySem PySem.Spec PyProof.Rows
section
variable{X:Cx}{pins:Z3}{σ:St}{H H':Hp}{s s':Shared}{B h2:Heap}{a:Addr}{cls a0:Value}
noncomputable abbrev Cx.inH(X:Cx)(a:Addr):Cx:={ X with A:=X.A.mark (some (.ref a)),calm:=false,xe:=fun _ _=>False }
theorem Inv.inH(I:Inv X pins σ H s)(a:Addr):Inv (X.inH a) pins σ H s :=
 ⟨⟨I.ok.mod,I.ok.kind,I.ok.glob,I.ok.blt,I.ok.above,I.ok.inj,I.ok.has,I.ok.cab,(fun z=>nomatch z),I.ok.frames,I.ok.stk,I.ok.exf,I.ok.bs,I.ok.bsz,I.ok.noex,I.ok.exfs,I.ok.funs,I.ok.frf⟩,I.os,I.bare,I.base,I.loc,I.cell,I.free,I.freeC,I.pin,I.hok,I.len⟩
def Inv.outH(J:X.Ok)(I:Inv (X.inH a) pins σ H s):Inv X pins σ H s:=⟨J,I.os,I.bare,I.base,I.loc,I.cell,I.free,I.freeC,I.pin,I.hok,I.len⟩
def zeC(I:Inv X pins σ H s)(fl:Heap.FlyingW B X.stack a cls a0 h2)(up:s'.heap.UpToSlots h2)(c1:∀b o,s'.heap.get? b=some o->H' b≠none->B.get? b=some o)
  (c2:∀b o,s.heap.get? b=some o->H b=none->b ∉ frs X.stack->B.get? b=some o) (c3:∀b o,s.heap.get? b=some o->b ∉ frs X.stack->∃o',B.get? b=some o')
  (os:s'.os=s.os) (bare:AllBare s'.gens) (un:Un (frs X.stack) [] H H' s.heap s'.heap) (hok:HOk X.prog X.w H' s'.heap) :
  Inv X pins σ H' { s' with heap:=h2 }/\∃ob,ob.cls=cls/\h2.get? a=some ob/\H' a=none/\Inv X pins σ (upd H' a (.frz ob (.own a))) { s' with heap:=h2 }:=by
 have trk:∀b o,s'.heap.get? b=some o->H' b≠none->h2.get? b=some o:=fun b o z n=>fl.1 b o (c1 b o z n)
 have hok2:HOk X.prog X.w H' h2:=hok.same trk
 have slt:∀b o,s.heap.get? b=some o->H b=none->b∈frs X.stack->∃sl,h2.get? b=some { o with slots:=sl }:=fun b o z n hb=>by
  obtain ⟨_,o',z',hd⟩:=I.stack.mem hb;rw [z] at z';cases z';obtain ⟨sl,r⟩:=un.slot b o z n hb (by simp);obtain ⟨sl',r'⟩:=up b ({ o with slots:=sl }:Obj) r hd;exact ⟨sl',r'⟩
 have th:∀b o,s.heap.get? b=some o->b ∉ ([]:List Addr)->∃o',h2.get? b=some o':=fun b o z _=>by
  by_cases hb:b∈frs X.stack
  ·obtain ⟨sl,r⟩:=slt b o z (I.stkFree b hb) hb;exact ⟨_,r⟩
  ·obtain ⟨o',r⟩:=c3 b o z hb;exact ⟨o',fl.1 b o' r⟩
 have un2:Un (frs X.stack) [] H H' s.heap h2:=⟨fun b o z n hb _=>fl.1 b o (c2 b o z n hb),fun b o z n hb _=>slt b o z n hb,un.free,th,un.tups,un.frzs,un.tbls⟩;refine ⟨I.call' (s':={ s' with heap:=h2 }) (ch:=[]) os un2 hok2 bare (fun b z=>absurd z (by simp)),?_⟩;obtain ⟨oe,vs,he,hc,hd,_⟩:=fl.first
 have na:H' a=none:=by
  cases k:H' a with
  | none=>rfl
  | some u =>
   obtain ⟨o',z'⟩:=(hok a u k).has;have:=c1 a o' z' (by rw [k];exact yaE _);rw [fl.2.1] at this;cases this
 have ns:∀o,s.heap.get? a=some o->False:=fun o z=>by
  by_cases hb:a∈frs X.stack
  ·obtain ⟨_,o',z',hd'⟩:=fl.2.2.1.mem hb;rw [he] at z';cases z';exact hd' _ hd
  ·obtain ⟨o',r⟩:=c3 a o z hb;rw [fl.2.1] at r;cases r
 have ne:∀{b:Addr} {u:HO},H' b=some u->b≠a:=fun {b u} z e=>by rw [e,na] at z;cases z
 refine ⟨oe,hc,he,na,I.call' (s':={ s' with heap:=h2 }) (ch:=[]) os ⟨un2.keep,un2.slot,fun b o z n hx=>?_,th,fun b xs z=>?_,fun b o u z=>?_,fun b ps z=>?_⟩ (fun b u z=>?_) bare (fun b z=>absurd z (by simp))⟩
 ·rw [zaf (a:=a) (b:=b) fun e=>ns o (by rw [<-e];exact z)];exact un.free b o z n hx
 ·have:=un.tups b xs z;rw [zaf (ne this)];exact this
 ·have:=un.frzs b o u z;rw [zaf (ne this)];exact this
 ·obtain ⟨more,this⟩:=un.tbls b ps z;exact ⟨more,by rw [zaf (ne this)];exact this⟩
 ·by_cases e:b=a
  ·subst e;unfold upd at z;rw [if_pos rfl] at z;cases z;exact ⟨he,oe,he⟩
  ·rw [zaf e] at z;exact (hok2 b u z).stay (fun _ _ _ q=>q) (fun c q=>by rw [zaf (ne q)];exact q) (fun c xs q=>by rw [zaf (ne q)];exact q)
end
noncomputable def zmk(K:PySem.W.Frag)(C D:Addr):Prop:=(∃bC iC,PySem.W.excIn K C bC iC=true)/\∃cd d cl sl,K.lookup C=some ⟨cl,d,.cls cd,sl⟩/\cd.mro.contains (.ref D)=true
noncomputable def Ends.goes(D:Ends)(i:Nat):Ends:={ nx:=fun σ H=>D.nx (σ.set i none) H,rt:=D.rt,bk:=fun σ H=>D.bk (σ.set i none) H,ct:=fun σ H=>D.ct (σ.set i none) H }
def zno{X:Cx}{a:Addr}{pins:Z3}{D:Ends}{i:Nat}{n:Str}{pos:Pos}{f:Flow}{s:Shared}{E:Z5}(J:X.Ok)(hN:X.N.Nodup)(hi:X.N[i]?=some n)(hk:X.env.scope.names.lookup n=some .local)(h:SP (X.inH a) pins (D.goes i) f s) :
  wpAny (model X.prog X.w) X.A (do bindName X.env n .none;unbindBehindTheSuite X.env n pos) (fun _ s3=>SP X pins D f s3) E s:=by
 cases f with
 | next =>
  obtain ⟨σ',H',I,q⟩:=h;exact zfh (I.outH J) hN hi hk fun s' I'=>⟨_,H',I',q⟩
 | brk =>
  obtain ⟨σ',H',I,q⟩:=h;exact zfh (I.outH J) hN hi hk fun s' I'=>⟨_,H',I',q⟩
 | cont =>
  obtain ⟨σ',H',I,q⟩:=h;exact zfh (I.outH J) hN hi hk fun s' I'=>⟨_,H',I',q⟩
 | ret u =>
  obtain ⟨v,σ',H',I,r,q⟩:=h;exact zfh (I.outH J) hN hi hk fun s' I'=>⟨v,_,H',I',r,q⟩
end L2
namespace PySem.W
open PySem
structure ExcCls(K:Frag)(C:Addr):Prop where
 ga:findIn K (.ref C) "__getattribute__" = some (some (.builtin "BaseException.__getattribute__"))
 gt:findIn K (.ref C) "__getattr__" = some none
 cl:findIn K (.ref C) "__class__" = some (some (.builtin "object.__class__"))
 ob:subIn K (.ref C) (.type "object")=some true
 be:subIn K (.ref C) (.type "BaseException")=some true
 is:∃c d cd sl,K.lookup C=some ⟨c,d,.cls cd,sl⟩
section
variable{prog:Program}{w:World}{A:Around}{E:Z5}{h:Heap}{g:Array GenState}{d:Drawn}{t:Nat}{os:OsState}{a C:Addr}{o:Obj}{K:Frag}
def zfj{R:Result->Shared->Prop}(k:K.In h)(X:ExcCls K C)(hx:h.get? a=some o)(hc:o.cls=.ref C)(hq:R (.ok (.ret (.ref C))) ⟨h,g,d,t,os⟩) :
  codeAny (model prog w) A (.call (.builtin "getset_descriptor.__get__") ⟨[.builtin "object.__class__",.ref a,.ref C],[]⟩) R ⟨h,g,d,t,os⟩:=by
 have isGs:Shared.TypeIs ⟨h,g,d,t,os⟩ (.builtin "object.__class__") "getset_descriptor":=ych
 have f8:subIn K (.ref C) (.type (".".intercalate ("object.__class__".cutAt '.').dropLast))=some true:=by rw [F.owner_object_class];exact X.ob
 refine codeAny_call_builtin F.slot_gs_get.plain F.entry_gs_get ?_;refine F.slot_gs_get.check _ _ _ _ _ _ _ _ isGs (F.args_gs_get _ _ _) ?_
 repeat (any_goals (first | assumption | (with_reducible refine ybq hx ?_;rw [hc]) | with_reducible refine Looks.at (looks_subIn k f8) ?_ | wp_step))
 refine And.intro (Code.quiet_builtin _ (by decide +kernel)) ?_;refine codeAny_builtin F.entry_object_class ?_
 repeat (any_goals (first | assumption | (with_reducible refine ybq hx ?_;rw [hc]) | wp_step))
def zd9{tk:Tok}{Q:Fin->Shared->Prop}(k:K.In h)(X:ExcCls K C)(hx:h.get? a=some o)(hc:o.cls=.ref C)(hq:Q (.done (.ret (.ref C))) ⟨h,g,d,t,os⟩) :
  wpAny (model prog w) A (Builtin.«object.__getattribute__» { pos:=[.ref a,.str "__class__" tk],kw:=[] }) Q E ⟨h,g,d,t,os⟩:=by
 have isGs:Shared.TypeIs ⟨h,g,d,t,os⟩ (.builtin "object.__class__") "getset_descriptor":=ych;have known:=And.intro ych (And.intro F.slot_gs_get.lookup F.slot_gs_set.lookup);obtain ⟨p5,p6,p7⟩:=known
 repeat (any_goals (first | assumption | (with_reducible refine ybq hx ?_;rw [hc]) | with_reducible refine Looks.at (looks_findIn k X.cl) ?_ | wp_step))
 refine zfj k X hx hc ?_
 repeat any_goals first | assumption | wp_step
end
end PySem.W
namespace PySem.W
open PySem
section
variable{prog:Program}{w:World}{A:Around}{E:Z5}{h:Heap}{g:Array GenState}{d:Drawn}{t:Nat}{os:OsState}{a C:Addr}{o:Obj}{K:Frag}
def zea{M:Model}{nameV:Value}{Q:Unit->Shared->Prop}(k:K.In h)(X:ExcCls K C)(hx:h.get? a=some o)(hc:o.cls=.ref C)(hq:Q () ⟨h,g,d,t,os⟩) :
  wpAny M A (checkBuiltinCall "BaseException.__getattribute__" ⟨[.ref a,nameV],[]⟩) Q E ⟨h,g,d,t,os⟩:=by
 have k1:builtinKind "BaseException.__getattribute__" = some .slot:=by decide +kernel
 have k2:splitId "BaseException.__getattribute__" = some ("BaseException","__getattribute__"):=by decide +kernel
 have fits:=F.args_bexc_ga (.ref a) nameV;simp only [checkBuiltinCall,k1,k2];refine yaa ?_;unfold isInstance
 repeat (first | (with_reducible refine ybq hx ?_;rw [hc]) | with_reducible refine Looks.at (looks_subIn k X.be) ?_ | wp_step)
 exact hq
def zek{tk:Tok}{R:Result->Shared->Prop}(k:K.In h)(X:ExcCls K C)(hx:h.get? a=some o)(hc:o.cls=.ref C)(hq:R (.ok (.ret (.ref C))) ⟨h,g,d,t,os⟩) :
  codeAny (model prog w) A (.call (.builtin "BaseException.__getattribute__") ⟨[.ref a,.str "__class__" tk],[]⟩) R ⟨h,g,d,t,os⟩ :=
 codeAny_call_builtin F.attr_ValueError.ga.plain F.entry_bexc_ga (zea k X hx hc (zd9 k X hx hc hq))
def zf6{tk:Tok}{fill expr:Bool}{Q:Z5}(k:K.In h)(X:ExcCls K C)(hx:h.get? a=some o)(hc:o.cls=.ref C)(hq:Q (.ref C) ⟨h,g,d,t,os⟩) :
  wpAny (model prog w) A (getAttrBy (.ref a) (.str "__class__" tk) fill expr) Q E ⟨h,g,d,t,os⟩:=by
 have f3:=F.attr_ValueError.ga.bind (.ref a)
 have n0:(expr&&onTheHeap (Value.builtin "BaseException.__getattribute__"))=false:=by cases expr<;>rfl
 have n2:(Value.builtin "BaseException.__getattribute__" == Value.builtin "object.__getattribute__")=false:=by decide +kernel
 have n1:(onTheHeap (Value.ref C)&&Value.builtin "BaseException.__getattribute__" == Value.builtin "object.__getattribute__")=false:=by rw [n2];rfl
 repeat (any_goals (first | assumption | (with_reducible refine ybq hx ?_;rw [hc]) | with_reducible refine Looks.at (looks_findIn k X.ga) ?_ | with_reducible refine Looks.at (looks_findIn k X.gt) ?_ | wp_step))
 refine zek k X hx hc ?_
 repeat any_goals first | assumption | wp_step
def zel{Q:Option Value->Shared->Prop}(k:K.In h)(X:ExcCls K C)(hx:h.get? a=some o)(hc:o.cls=.ref C)(hq:Q (some (.ref C)) ⟨h,g,d,t+1,os⟩):wpAny (model prog w) A (getAttr? (.ref a) "__class__") Q E ⟨h,g,d,t,os⟩:=by
 unfold getAttr? getAttrBy?
 repeat (any_goals (first | assumption | with_reducible apply zf6 k X hx hc | wp_step))
end
def zlJ{K:Frag}{a C:Addr}(X:ExcCls K C):KitX K (.ref a) (.ref C) (fun h=>∃o,h.get? a=some o/\o.cls=.ref C) where
 ty:=fun M h _ p=>by
  obtain ⟨o,h1,h2⟩:=p;rw [<-h2];exact Looks.andThen (Looks.ld h1) .now
 it:=fun _ _ k _=>by
  obtain ⟨c,d,cd,sl,lk⟩:=X.is;intro A' Q' E' s' kk q;unfold isType loadHead;exact yaa (wpAny_loadPart (kk _ _ (k _ _ lk)) (yac q))
 ne:=fun h tp dd its n sl k htp=>by
  obtain ⟨c,d,cd,sl',lk⟩:=X.is;refine Bool.eq_false_iff.mpr fun q=>?_
  have e:C=tp:=Value.ref.inj (ybR.mp q);have z:=k _ _ lk;rw [e,htp] at z;cases z
 ca:=fun {_ _ _ _ _ s} k p q=>by
  obtain ⟨o,h1,h2⟩:=p;obtain ⟨h,g,d,t,os⟩:=s;exact zel k X h1 h2 q
end PySem.W
namespace L2
open PySem PySem.Spec PyProof.Rows
def zim{X:Cx}:zdk X (.builtin "isinstance") (fun xs H Q=>∃(a C:Addr) (ob:Obj) (c:V) (cv:Value) (k:Bool),xs=[.ref a,c]/\H a=some (.frz ob (.own a))/\ob.cls=.ref C/\PySem.W.ExcCls X.K C/\(∀u,zaV c u->u=cv)/\PySem.W.kitOne X.K (.ref C) cv=some k/\Q (.bl k) H):=by
 intro pins s σ H xs us Q I r h;obtain ⟨a,C,ob,c,cv,k,rfl,ha,hc,Z,hv,e,q⟩:=h
 cases r with
 | cons r1 rr =>
  cases rr with
  | cons r2 r3 =>
   cases r3;cases (show _=Value.ref a from r1);rw [hv _ r2];obtain ⟨h1,_⟩:=(show zbj X.prog X.w H s.heap a (.frz ob (.own a)) from I.hok a _ ha);exact ya0 (PySem.W.zlJ Z) I.kIn ⟨ob,h1,hc⟩ e (fun z=>nomatch z) fun tk=>⟨.bl k,H,I.tok tk,rfl,q⟩
end L2
namespace L2
open PySem PySem.Spec PyProof.Rows PySem.SeqAt
section
variable{X:Cx}
end
end L2
namespace L2
open PySem PySem.Spec PyProof.Rows
section
variable{X:Cx}
end
end L2
namespace S2
open PySem PySem.Spec PyProof.Rows L2
mutual
noncomputable def D.py:D->PyData
 | .non=>.none
 | .bl b=>.bool b
 | .int i=>.int i
 | .str x=>.str x
 | .tup l=>.tuple (D.pys l)
 | .lst l=>.list (D.pys l)
 | .scr l=>.list (l.map PyData.int)
 | .dic _=>.none
 | .ref _=>.none
 | .exc _=>.none
noncomputable def D.pys:List D->List PyData
 | []=>[]
 | d::l=>d.py::D.pys l
end
mutual
noncomputable def D.fit:Nat->D->Bool
 | _,.non=>true
 | _,.bl _=>true
 | _,.int _=>true
 | _,.str x=>PyData.strOk x
 | 0,.tup _=>false
 | n+1,.tup l=>D.fits n l
 | 0,.lst _=>false
 | n+1,.lst l=>D.fits n l
 | 0,.scr _=>false
 | _+1,.scr _=>true
 | _,.dic _=>false
 | _,.ref _=>false
 | _,.exc _=>false
noncomputable def D.fits:Nat->List D->Bool
 | _,[]=>true
 | n,d::l=>d.fit n&&D.fits n l
end
theorem D.fits_iff{n:Nat}:∀{l:List D},D.fits n l=true↔∀d∈l,d.fit n=true
 | []=>by simp [D.fits]
 | d::l=>by simp [D.fits,D.fits_iff (l:=l)]
theorem zhy:∀(l:List Int),PyData.canLayAll0 (l.map PyData.int)=true/\PyData.depthAll (l.map PyData.int)=0
 | []=>⟨rfl,rfl⟩
 | i::l=>by
  obtain ⟨a,b⟩:=zhy l;exact ⟨by simp [PyData.canLayAll0,PyData.canLay0,a],by simp [PyData.depthAll,PyData.depth,b]⟩
mutual
theorem D.lay:∀{n:Nat} {d:D},d.fit n=true->d.py.canLay0=true/\d.py.depth<=n
 | _,.non,_=>⟨rfl,yaM _⟩
 | _,.bl _,h=>⟨rfl,yaM _⟩
 | _,.int _,_=>⟨rfl,yaM _⟩
 | _,.str x,h=>⟨by simpa [D.fit,D.py,PyData.canLay0] using h,yaM _⟩
 | 0,.tup _,h=>by simp [D.fit] at h
 | 0,.lst _,h=>by simp [D.fit] at h
 | 0,.scr _,h=>by simp [D.fit] at h
 | n+1,.scr l,h=>by
  obtain ⟨a,b⟩:=zhy l;exact ⟨by simpa [D.py,PyData.canLay0] using a,by simp only [D.py,PyData.depth];omega⟩
 | _,.dic _,h=>by simp [D.fit] at h
 | _,.ref _,h=>by simp [D.fit] at h
 | _,.exc _,h=>by simp [D.fit] at h
 | n+1,.tup l,h=>by
  have h':D.fits n l=true:=by simpa [D.fit] using h
  obtain ⟨a,b⟩:=D.lays h';exact ⟨by simpa [D.py,PyData.canLay0] using a,by simp only [D.py,PyData.depth];omega⟩
 | n+1,.lst l,h=>by
  have h':D.fits n l=true:=by simpa [D.fit] using h
  obtain ⟨a,b⟩:=D.lays h';exact ⟨by simpa [D.py,PyData.canLay0] using a,by simp only [D.py,PyData.depth];omega⟩
theorem D.lays:∀{n:Nat} {l:List D},D.fits n l=true->PyData.canLayAll0 (D.pys l)=true/\PyData.depthAll (D.pys l)<=n
 | _,[],_=>⟨rfl,yaM _⟩
 | n,d::l,h=>by
  simp only [D.fits,yab] at h;obtain ⟨a,b⟩:=D.lay h.1;obtain ⟨c,e⟩:=D.lays h.2;exact ⟨by simp [D.pys,PyData.canLayAll0,a,c],by simp only [D.pys,PyData.depthAll];omega⟩
end
section
variable{X:Cx}{cl:Cf}{w:Wd}
def TopV.lstI{v:V}{ds:List D}(h:TopV cl w v (.lst ds)):∃a xs,v=.ref a/\w.H a=some (.lst xs)/\Shds cl w xs ds:=by
 cases h with
 | sh h=>cases h with
  | lst e k r=>exact ⟨_,_,rfl,e,r⟩
 | ow e t=>cases t with
  | lst r=>exact ⟨_,_,rfl,e,r⟩
def TopV.tupI{v:V}{ds:List D}(h:TopV cl w v (.tup ds)):∃a xs,v=.ref a/\w.H a=some (.tup xs)/\w.ow a=none/\Shds cl w xs ds:=by
 cases h with
 | sh h=>cases h with
  | tup e k r=>exact ⟨_,_,rfl,e,k,r⟩
 | ow e t=>cases t
def TopV.intI{v:V}{i:Int}(h:TopV cl w v (.int i)):v=.int i:=by
 cases h with
 | sh h=>cases h;rfl
 | ow e t=>cases t
def TopV.strI{v:V}{i:Str}(h:TopV cl w v (.str i)):v=.str i:=by
 cases h with
 | sh h=>cases h;rfl
 | ow e t=>cases t
def TopV.blI{v:V}{i:Bool}(h:TopV cl w v (.bl i)):v=.bl i:=by
 cases h with
 | sh h=>cases h;rfl
 | ow e t=>cases t
def TopV.nonI{v:V}(h:TopV cl w v .non):v=.non:=by
 cases h with
 | sh h=>cases h;rfl
 | ow e t=>cases t
def Shd.scrI{v:V}{l:List Int}(hK:X.K=cl.K)(h:Shd cl w v (.scr l)):∃a,v=.ref a/\SqL X.K w.H a (l.map V.int):=by
 cases h with
 | scr e k=>exact ⟨_,rfl,.inl (.inr ⟨_,e⟩)⟩
 | scrK h=>exact ⟨_,rfl,by rw [hK];exact h _⟩
theorem TopV.scrI{v:V}{l:List Int}(hK:X.K=cl.K)(h:TopV cl w v (.scr l)):∃a,v=.ref a/\SqL X.K w.H a (l.map V.int):=by
 cases h with
 | sh h=>exact h.scrI hK
 | ow e t=>cases t
def zhk{pins:Z3}{σ:St}{s:Shared}(I:Inv X pins σ w.H s)(hK:X.K=cl.K){v:V}{l:List Int}(h:Shd cl w v (.scr l)){u:Value}(r:zaV v u):∃as,Reads s.heap u (D.scr l).py as:=by
  obtain ⟨a,rfl,hq⟩:=h.scrI hK;cases r;obtain ⟨its,rv,p,_⟩:=I.list hq;obtain ⟨o,ho,hc,n,hd⟩:=id p.isList
  have go:∀{l:List Int} {us:List Value},Vals (l.map V.int) us->∃as,ReadsAll s.heap us (l.map PyData.int) as:=by
   intro l
   induction l with
   | nil=>intro us h;cases h;exact ⟨_,.nil⟩
   | cons i l ih =>
    intro us h
    cases h with
    | cons h1 h2 =>
     obtain ⟨t,rfl⟩:=h1;obtain ⟨as,ra⟩:=ih h2;exact ⟨_,.cons (.int i t) ra⟩
  obtain ⟨as,ra⟩:=go rv;exact ⟨_,.list ho hc hd (by simpa using ra)⟩
mutual
theorem zqb{pins:Z3}{σ:St}{s:Shared}(I:Inv X pins σ w.H s)(hK:X.K=cl.K):∀{v:V} {d:D} {n:Nat},Shd cl w v d->d.fit n=true->∀{u:Value},zaV v u->∃as,Reads s.heap u d.py as
 | _,_,_,.non,_,_,r=>by cases r;exact ⟨_,.none⟩
 | _,_,_,.bl b,_,_,r=>by cases r;exact ⟨_,.bool b⟩
 | _,_,_,.int i,_,_,r=>by obtain ⟨t,rfl⟩:=r;exact ⟨_,.int i t⟩
 | _,_,_,.str x,_,_,r=>by obtain ⟨t,rfl⟩:=r;exact ⟨_,.str x t⟩
 | _,_,0,.tup _ _ _,h,_,_=>by simp [D.fit] at h
 | _,_,0,.lst _ _ _,h,_,_=>by simp [D.fit] at h
 | _,_,n+1,.tup (a:=a) e _ rs,h,_,r=>by
  cases r;obtain ⟨its,rv,p,_⟩:=I.tuple (SqT.of (K:=X.K) e);obtain ⟨o,ho,hc,n,hd⟩:=id p;obtain ⟨as,ra⟩:=zcr I hK rs (by simpa [D.fit] using h) rv;exact ⟨_,.tuple ho hc hd (by simpa using ra)⟩
 | _,_,n+1,.lst (a:=a) e _ rs,h,_,r=>by
  cases r;obtain ⟨its,rv,p,_⟩:=I.list (SqL.of (K:=X.K) e);obtain ⟨o,ho,hc,n,hd⟩:=id p.isList;obtain ⟨as,ra⟩:=zcr I hK rs (by simpa [D.fit] using h) rv;exact ⟨_,.list ho hc hd (by simpa using ra)⟩
 | _,_,n,.scr e k,h,_,r=>zhk I hK (.scr e k) r
 | _,_,n,.scrK e,h,_,r=>zhk I hK (.scrK e) r
 | _,_,n,.dicK _ _ _,h,_,_=>by simp [D.fit] at h
 | _,_,n,.dicT _ _ _,h,_,_=>by simp [D.fit] at h
 | _,_,n,.dicN _ _,h,_,_=>by simp [D.fit] at h
 | _,_,n,.dicX _ _ _,h,_,_=>by simp [D.fit] at h
 | _,_,n,.ref _,h,_,_=>by simp [D.fit] at h
 | _,_,n,.exc _ _ _,h,_,_=>by simp [D.fit] at h
theorem zcr{pins:Z3}{σ:St}{s:Shared}(I:Inv X pins σ w.H s)(hK:X.K=cl.K):∀{vs:List V} {ds:List D} {n:Nat},Shds cl w vs ds->D.fits n ds=true->∀{us:List Value},Vals vs us->∃as,ReadsAll s.heap us (D.pys ds) as
 | _,_,_,.nil,_,_,r=>by cases r;exact ⟨_,.nil⟩
 | _,_,n,.cons h t,f,_,r=>by
  simp only [D.fits,yab] at f
  cases r with
  | cons r1 r2 =>
   obtain ⟨as,a⟩:=zqb I hK h f.1 r1;obtain ⟨bs,b⟩:=zcr I hK t f.2 r2;exact ⟨_,.cons a b⟩
end
def zfO{pins:Z3}{σ:St}{s:Shared}(I:Inv X pins σ w.H s)(hK:X.K=cl.K){v:V}{d:D}{n:Nat}(h:TopV cl w v d)(f:d.fit n=true){u:Value}(r:zaV v u):∃as,Reads s.heap u d.py as:=by
 cases h with
 | sh h=>exact zqb I hK h f r
 | ow e t =>
  cases t with
  | lst rs =>
   cases n with
   | zero=>simp [D.fit] at f
   | succ n =>
    cases r;obtain ⟨its,rv,p,_⟩:=I.list (SqL.of (K:=X.K) e);obtain ⟨o,ho,hc,n,hd⟩:=id p.isList;obtain ⟨as,ra⟩:=zcr I hK rs (by simpa [D.fit] using f) rv;exact ⟨_,.list ho hc hd (by simpa using ra)⟩
  | dicK _=>simp [D.fit] at f
  | dicT _=>simp [D.fit] at f
  | dicN=>simp [D.fit] at f
  | dicX _=>simp [D.fit] at f
noncomputable def zef(d e:D):Bool:=d.py.eqv e.py
noncomputable def eqD(d e:D):Option D:=if d.fit 9&&e.fit 9 then some (.bl (zef d e)) else none
noncomputable def neD(d e:D):Option D:=if d.fit 9&&e.fit 9 then some (.bl (!zef d e)) else none
def zth(hK:X.K=cl.K)(hu:X.A.units+64<cLine):OpD X cl (compareOp .Eq) eqD:=by
 intro pins s σ H x y v u Q I rx ry h;obtain ⟨w,d,e,r,rfl,hx,hy,hg,q⟩:=h;unfold eqD at hg;split at hg
 ·rename_i hf;cases hg;rw [yab] at hf;obtain ⟨as,ra⟩:=zfO I hK hx hf.1 rx;obtain ⟨bs,rb⟩:=zfO I hK hy hf.2 ry;obtain ⟨l1,d1⟩:=D.lay hf.1;obtain ⟨l2,d2⟩:=D.lay hf.2;exact SeqAt.compareEq_reads ra rb l1 l2 (by omega) ⟨.bl _,w.H,I,rfl,q _ w (Grow.refl _) (.bl _)⟩
 ·cases hg
def ztf(hK:X.K=cl.K)(hu:X.A.units+64<cLine):OpD X cl (compareOp .NotEq) neD:=by
 intro pins s σ H x y v u Q I rx ry h;obtain ⟨w,d,e,r,rfl,hx,hy,hg,q⟩:=h;unfold neD at hg;split at hg
 ·rename_i hf;cases hg;rw [yab] at hf;obtain ⟨as,ra⟩:=zfO I hK hx hf.1 rx;obtain ⟨bs,rb⟩:=zfO I hK hy hf.2 ry;obtain ⟨l1,d1⟩:=D.lay hf.1;obtain ⟨l2,d2⟩:=D.lay hf.2;exact SeqAt.compareNe_reads ra rb l1 l2 (by omega) ⟨.bl _,w.H,I,rfl,q _ w (Grow.refl _) (.bl _)⟩
 ·cases hg
noncomputable def zkU:D->Option (List D) | .lst l=>some l | .tup l=>some l | _=>none
noncomputable def zlB(d:D)(l:List D):Bool:=l.any fun e=>zef e d
noncomputable def inD(d e:D):Option D:=match zkU e with | some l=>if d.fit 8&&D.fits 8 l then some (.bl (zlB d l)) else none | none=>none
noncomputable def zoe(d e:D):Option D:=match zkU e with | some l=>if d.fit 8&&D.fits 8 l then some (.bl (!zlB d l)) else none | none=>none
def zco{s:Shared}{its:List Value}{ds:List D}{as:List Addr}{d:D}(ra:ReadsAll s.heap its (D.pys ds) as)(f:D.fits 8 ds=true):(its.toArray.any fun y=>(SeqAt.readOf s.heap y).eqv d.py)=zlB d ds:=by
 rw [SeqAt.any_by_data (vs:=its.toArray) (xs:=D.pys ds) (as:=as) (by simpa using ra) (D.lays f).1]
 have:∀{l:List D},((D.pys l).any fun y=>y.eqv d.py)=zlB d l:=by
  intro l
  induction l with
  | nil=>rfl
  | cons e l ih =>
   show (e.py.eqv d.py||(D.pys l).any fun y=>y.eqv d.py)=(zef e d||zlB d l);rw [ih];rfl
 exact this
theorem zby{A:Around}{s:Shared}{x:Value}{d:D}{bs:List Addr}(hu:A.units+64<cLine)(rx:Reads s.heap x d.py bs)(fd:d.fit 8=true):∀{its:List Value} {ds:List D} {as:List Addr},ReadsAll s.heap its (D.pys ds) as->D.fits 8 ds=true->∀y,y∈its.toArray->SeqAt.EqAt A.in1 s y x ((SeqAt.readOf s.heap y).eqv d.py)
 | [],[],_,_,_,y,hy=>by simp at hy
 | [],_::_,_,h,_,_,_=>by cases h
 | _::_,[],_,h,_,_,_=>by cases h
 | v::its,e::ds,_,h,f,y,hy=>by
  simp only [D.fits,yab] at f
  cases h with
  | cons h1 h2 =>
   simp at hy
   rcases hy with rfl | hy
   ·rw [zgx (D.lay f.1).1 h1];refine SeqAt.eqAt_reads _ _ _ _ _ _ _ _ h1 rx (D.lay f.1).1 (D.lay fd).1 ?_;have:=(D.lay f.1).2;show A.units+1+_<cLine;omega
   ·exact zby hu rx fd h2 f.2 y (by simpa using hy)
def ziJ{e:D}{l:List D}(h:zkU e=some l):e=.lst l\/e=.tup l:=by
 cases e<;>simp [zkU] at h
 ·exact .inr (by rw [h])
 ·exact .inl (by rw [h])
def ztg(hK:X.K=cl.K)(hu:X.A.units+64<cLine):OpD X cl (compareOp .In) inD:=by
 intro pins s σ H x y v u Q I rx ry h;obtain ⟨w,d,e,r,rfl,hx,hy,hg,q⟩:=h;unfold inD at hg;split at hg
 ·rename_i l hl;split at hg
  ·rename_i hf;cases hg;rw [yab] at hf;obtain ⟨bs,rb⟩:=zfO I hK hx hf.1 rx
   rcases ziJ hl with rfl | rfl
   ·obtain ⟨a,xs,rfl,e,rs⟩:=hy.lstI;cases ry;obtain ⟨its,rv,p,_⟩:=I.list (SqL.of (K:=X.K) e);obtain ⟨as,ra⟩:=zcr I hK rs hf.2 rv;refine SeqAt.in_listAt _ p.isList (zby hu rb hf.1 ra hf.2) ?_;rw [zco ra hf.2];exact ⟨.bl _,w.H,I,rfl,q _ w (Grow.refl _) (.bl _)⟩
   ·obtain ⟨a,xs,rfl,e,_,rs⟩:=hy.tupI;cases ry;obtain ⟨its,rv,p,_⟩:=I.tuple (SqT.of (K:=X.K) e);obtain ⟨as,ra⟩:=zcr I hK rs hf.2 rv;refine SeqAt.in_tupleAt _ p (zby hu rb hf.1 ra hf.2) ?_;rw [zco ra hf.2];exact ⟨.bl _,w.H,I,rfl,q _ w (Grow.refl _) (.bl _)⟩
  ·cases hg
 ·cases hg
def zqI(hK:X.K=cl.K)(hu:X.A.units+64<cLine):OpD X cl (compareOp .NotIn) zoe:=by
 intro pins s σ H x y v u Q I rx ry h;obtain ⟨w,d,e,r,rfl,hx,hy,hg,q⟩:=h;unfold zoe at hg;split at hg
 ·rename_i l hl;split at hg
  ·rename_i hf;cases hg;rw [yab] at hf;obtain ⟨bs,rb⟩:=zfO I hK hx hf.1 rx
   rcases ziJ hl with rfl | rfl
   ·obtain ⟨a,xs,rfl,e,rs⟩:=hy.lstI;cases ry;obtain ⟨its,rv,p,_⟩:=I.list (SqL.of (K:=X.K) e);obtain ⟨as,ra⟩:=zcr I hK rs hf.2 rv;refine SeqAt.notIn_listAt _ p.isList (zby hu rb hf.1 ra hf.2) ?_;rw [zco ra hf.2];exact ⟨.bl _,w.H,I,rfl,q _ w (Grow.refl _) (.bl _)⟩
   ·obtain ⟨a,xs,rfl,e,_,rs⟩:=hy.tupI;cases ry;obtain ⟨its,rv,p,_⟩:=I.tuple (SqT.of (K:=X.K) e);obtain ⟨as,ra⟩:=zcr I hK rs hf.2 rv;refine SeqAt.notIn_tupleAt _ p (zby hu rb hf.1 ra hf.2) ?_;rw [zco ra hf.2];exact ⟨.bl _,w.H,I,rfl,q _ w (Grow.refl _) (.bl _)⟩
  ·cases hg
 ·cases hg
noncomputable def zdG:D->D->Option D
 | .int i,.int j=>some (.int (i+j))
 | .tup a,.tup b=>if zaM (a.length+b.length) then some (.tup (a++b)) else none
 | .lst a,.lst b=>if zaM (a.length+b.length) then some (.lst (a++b)) else none
 | .str a,.str b=>if zaM (a.length+b.length) then some (.str (a++b)) else none
 | _,_=>none
def zqO:OpD X cl (binaryOp .Add) zdG:=by
 intro pins s σ H x y v u Q I rx ry h;obtain ⟨w,d,e,r,rfl,hx,hy,hg,q⟩:=h;unfold zdG at hg;split at hg
 ·cases hg;rename_i i j;obtain rfl:=hx.intI;obtain rfl:=hy.intI;exact zqE pins s σ w.H _ _ v u Q I rx ry ⟨i,j,rfl,rfl,q _ w (Grow.refl _) (.int _)⟩
 ·rename_i a b;split at hg
  ·rename_i hz;cases hg;obtain ⟨p,xs,rfl,ep,kp,rs⟩:=hx.tupI;obtain ⟨p2,ys,rfl,ep2,kp2,rs2⟩:=hy.tupI
   by_cases hxe:xs=[]
   ·subst hxe;cases rs;exact zlo pins s σ w.H _ _ v u Q I rx ry ⟨p,p2,ys,rfl,rfl,SqT.of ep,SqT.of ep2,q _ w (Grow.refl _) (.tup ep2 kp2 rs2)⟩
   ·refine zn5 pins s σ w.H _ _ v u Q I rx ry ⟨p,p2,xs,ys,rfl,rfl,SqT.of ep,SqT.of ep2,hxe,by rw [rs.length,rs2.length];exact zaH hz,fun z=>?_,fun z l hl=>?_⟩
    ·subst z;cases rs2;rw [yaT] at q;exact q _ w (Grow.refl _) (.tup ep kp rs)
    ·exact q _ (w.add l _) (zav hl _) (Shd.newT hl (rs.append rs2))
  ·cases hg
 ·rename_i a b;split at hg
  ·rename_i hz;cases hg;obtain ⟨p,xs,rfl,ep,rs⟩:=hx.lstI;obtain ⟨p2,ys,rfl,ep2,rs2⟩:=hy.lstI;exact zqD pins s σ w.H _ _ v u Q I rx ry ⟨p,p2,xs,ys,rfl,rfl,ep,ep2,by rw [rs.length,rs2.length];exact zaH hz,fun l hl=>q _ (w.add l _) (zav hl _) (Shd.newL hl (rs.append rs2))⟩
  ·cases hg
 ·rename_i a b;split at hg
  ·rename_i hz;cases hg;obtain rfl:=hx.strI;obtain rfl:=hy.strI;exact zh2 pins s σ w.H _ _ v u Q I rx ry ⟨a,b,rfl,rfl,zaH hz,q _ w (Grow.refl _) (.str _)⟩
  ·cases hg
 ·cases hg
noncomputable def zkv:D->D->Option D | .int i,.int j=>some (.int (i-j)) | _,_=>none
def zqH:OpD X cl (binaryOp .Sub) zkv:=by
 intro pins s σ H x y v u Q I rx ry h;obtain ⟨w,d,e,r,rfl,hx,hy,hg,q⟩:=h;unfold zkv at hg;split at hg
 ·cases hg;rename_i i j;obtain rfl:=hx.intI;obtain rfl:=hy.intI;exact zqz pins s σ w.H _ _ v u Q I rx ry ⟨i,j,rfl,rfl,q _ w (Grow.refl _) (.int _)⟩
 ·cases hg
noncomputable def zbE(i:Int):Bool:=decide (-(2 ^ 64)<i/\i<2 ^ 64)
noncomputable def zkx:D->D->Option D
 | .int i,.int j=>if zbE i||zbE j then some (.int (i*j)) else none
 | .tup a,.int j=>if decide (1<=j/\j<=1000/\a≠[]/\a.length<=1000) then some (.tup (List.replicate j.toNat a).flatten) else none
 | .lst a,.int j=>if decide (0<=j/\j<=1000/\a.length<=1000) then some (.lst (List.replicate j.toNat a).flatten) else none
 | _,_=>none
def zqJ:OpD X cl (binaryOp .Mult) zkx:=by
 intro pins s σ H x y v u Q I rx ry h;obtain ⟨w,d,e,r,rfl,hx,hy,hg,q⟩:=h;unfold zkx at hg;split at hg
 ·rename_i i j;split at hg
  ·rename_i hz;cases hg;obtain rfl:=hx.intI;obtain rfl:=hy.intI;refine zqA pins s σ w.H _ _ v u Q I rx ry ⟨i,j,rfl,rfl,?_,q _ w (Grow.refl _) (.int _)⟩;rw [Bool.or_eq_true] at hz;exact hz.imp (fun z=>yak z) fun z=>yak z
  ·cases hg
 ·rename_i a j;split at hg
  ·rename_i hz;cases hg;have hz':=yak hz;obtain ⟨p,xs,rfl,ep,kp,rs⟩:=hx.tupI;obtain rfl:=hy.intI;have hl:=rs.length;obtain ⟨k,rfl⟩:∃k:Nat,j=(k:Int):=⟨j.toNat,by omega⟩;have hne:xs≠[]:=fun z=>hz'.2.2.1 (by cases a with | nil=>rfl | cons _ _=>rw [z] at hl;cases hl)
   by_cases hk:k=1
   ·subst hk;cases rx;obtain ⟨t,rfl⟩:=ry;obtain ⟨its,rv,⟨o,ho,hc,n,hd⟩,_⟩:=I.tuple (SqT.of (K:=X.K) ep);refine PySem.zlx ho hc hd ⟨.ref p,w.H,I,rfl,q _ w (Grow.refl _) (.tup ep kp ?_)⟩;simpa using rs
   ·refine zn2 pins s σ w.H _ _ v u Q I rx ry ⟨p,k,xs,rfl,rfl,SqT.of ep,hne,by omega,by omega,by omega,fun l hl=>q _ (w.add l _) (zav hl _) (Shd.newT hl (rs.flat _))⟩
  ·cases hg
 ·rename_i a j;split at hg
  ·rename_i hz;cases hg;have hz':=yak hz;obtain ⟨p,xs,rfl,ep,rs⟩:=hx.lstI;obtain rfl:=hy.intI;have hl:=rs.length;refine zmE pins s σ w.H _ _ v u Q I rx ry ⟨p,j,xs,rfl,rfl,ep,by omega,by omega,?_,fun l hl=>q _ (w.add l _) (zav hl _) (Shd.newL hl (rs.flat _))⟩;refine yar (yce (show xs.length<=1000 by omega) (show j.toNat<=1000 by omega)) (by decide)
  ·cases hg
 ·cases hg
noncomputable def zly:D->D->Option D | .int i,.int j=>if 0<j then some (.int (i % j)) else none | _,_=>none
noncomputable def zry:D->D->Option D | .int i,.int j=>if 0<j/\j<1073741824 then some (.int (i / j)) else none | _,_=>none
def zqK:OpD X cl (binaryOp .Mod) zly:=by
 intro pins s σ H x y v u Q I rx ry h;obtain ⟨w,d,e,r,rfl,hx,hy,hg,q⟩:=h;unfold zly at hg;split at hg
 ·rename_i i j;split at hg
  ·rename_i hz;cases hg;obtain rfl:=hx.intI;obtain rfl:=hy.intI;exact zqB pins s σ w.H _ _ v u Q I rx ry ⟨i,j,rfl,rfl,hz,q _ w (Grow.refl _) (.int _)⟩
  ·cases hg
 ·cases hg
def zqN:OpD X cl (binaryOp .FloorDiv) zry:=by
 intro pins s σ H x y v u Q I rx ry h;obtain ⟨w,d,e,r,rfl,hx,hy,hg,q⟩:=h;unfold zry at hg;split at hg
 ·rename_i i j;split at hg
  ·rename_i hz;cases hg;obtain rfl:=hx.intI;obtain rfl:=hy.intI;exact zn4 pins s σ w.H _ _ v u Q I rx ry ⟨i,j,rfl,rfl,hz,q _ w (Grow.refl _) (.int _)⟩
  ·cases hg
 ·cases hg
noncomputable def zog:D->Option D | .int i=>some (.int (-i)) | _=>none
def zph:UnD X cl (unaryOp .USub) zog:=by
 intro pins s σ H x v Q I rx h;obtain ⟨w,d,r,rfl,hx,hg,q⟩:=h;unfold zog at hg;split at hg
 ·cases hg;rename_i i;obtain rfl:=hx.intI;exact zpg pins s σ w.H _ v Q I rx ⟨i,rfl,q _ w (Grow.refl _) (.int _)⟩
 ·cases hg
noncomputable def zpb(p:Int->Int->Bool):D->D->Option D | .int i,.int j=>some (.bl (p i j)) | _,_=>none
def ze9{op:CmpOp}{p:Int->Int->Bool}(ho:OpR X (compareOp op) (rI0 fun i j=>.bl (p i j))):OpD X cl (compareOp op) (zpb p):=by
 intro pins s σ H x y v u Q I rx ry h;obtain ⟨w,d,e,r,rfl,hx,hy,hg,q⟩:=h;unfold zpb at hg;split at hg
 ·cases hg;rename_i i j;obtain rfl:=hx.intI;obtain rfl:=hy.intI;exact ho pins s σ w.H _ _ v u Q I rx ry ⟨i,j,rfl,rfl,q _ w (Grow.refl _) (.bl _)⟩
 ·cases hg
noncomputable def zb9:D->Bool | .non=>true | _=>false
noncomputable def zo8(d e:D):Option D:=if zb9 e then some (.bl (zb9 d)) else none
noncomputable def zls(d e:D):Option D:=if zb9 e then some (.bl (!zb9 d)) else none
def TopV.non_iff{v:V}{d:D}(h:TopV cl w v d):decide (v=.non)=zb9 d:=by
 cases h with
 | sh h=>cases h<;>simp [zb9]
 | ow e t=>cases t<;>simp [zb9]
def zf4{d:D}(h:zb9 d=true):d=.non:=by cases d<;>simp [zb9] at h;rfl
def zqL:OpD X cl (compareOp .Is) zo8:=by
 intro pins s σ H x y v u Q I rx ry h;obtain ⟨w,d,e,r,rfl,hx,hy,hg,q⟩:=h;unfold zo8 at hg;split at hg
 ·rename_i hz;cases hg;rw [zf4 hz] at hy;obtain rfl:=hy.nonI;refine zqC pins s σ w.H _ _ v u Q I rx ry ⟨rfl,?_⟩;rw [hx.non_iff];exact q _ w (Grow.refl _) (.bl _)
 ·cases hg
def zoa:OpD X cl (compareOp .IsNot) zls:=by
 intro pins s σ H x y v u Q I rx ry h;obtain ⟨w,d,e,r,rfl,hx,hy,hg,q⟩:=h;unfold zls at hg;split at hg
 ·rename_i hz;cases hg;rw [zf4 hz] at hy;obtain rfl:=hy.nonI;refine zn3 pins s σ w.H _ _ v u Q I rx ry ⟨rfl,?_⟩;rw [hx.non_iff];exact q _ w (Grow.refl _) (.bl _)
 ·cases hg
noncomputable def zlt:D->D->Option D | .bl a,.bl b=>some (.bl (!decide (a=b))) | _,_=>none
def zob:OpD X cl (compareOp .IsNot) zlt:=by
 intro pins s σ H x y v u Q I rx ry h;obtain ⟨w,d,e,r,rfl,hx,hy,hg,q⟩:=h;unfold zlt at hg;split at hg
 ·cases hg;obtain rfl:=hx.blI;obtain rfl:=hy.blI;exact zgE pins s σ w.H _ _ v u Q I rx ry ⟨_,_,rfl,rfl,q _ w (Grow.refl _) (.bl _)⟩
 ·cases hg
noncomputable def ixD:D->D->Option D
 | .lst l,.int i=>atI l i
 | .tup l,.int i=>atI l i
 | .scr l,.int i=>(atI l i).map D.int
 | _,_=>none
def zhe{xs:List V}{ds:List D}(r:Shds cl w xs ds){i:Int}{d:D}(h:atI ds i=some d):∃v,atI xs i=some v/\Shd cl w v d:=by
 unfold atI at h ⊢;rw [r.length]
 cases e:ixN ds.length i with
 | none=>rw [e] at h;cases h
 | some j =>
  rw [e] at h;exact r.at h
def ztG(hK:X.K=cl.K):IxD X cl ixD:=by
 intro value slice pins s σ H x y v u Q I rx ry h hsub;obtain ⟨w,d,e,r,rfl,hx,hy,hg,q⟩:=h;unfold ixD at hg;split at hg
 ·rename_i l i;obtain ⟨p,xs,rfl,ep,rs⟩:=hx.lstI;obtain rfl:=hy.intI;obtain ⟨z,e1,e2⟩:=zhe rs hg;exact zjJ value slice pins s σ w.H _ _ v u Q I rx ry ⟨p,xs,i,z,rfl,rfl,SqL.of ep,e1,q _ w (Grow.refl _) e2⟩ hsub
 ·rename_i l i;obtain ⟨p,xs,rfl,ep,_,rs⟩:=hx.tupI;obtain rfl:=hy.intI;obtain ⟨z,e1,e2⟩:=zhe rs hg;exact zrd value slice pins s σ w.H _ _ v u Q I rx ry ⟨p,xs,i,z,rfl,rfl,SqT.of ep,e1,q _ w (Grow.refl _) e2⟩ hsub
 ·rename_i l i;obtain ⟨p,rfl,ep⟩:=hx.scrI hK;obtain rfl:=hy.intI
  cases hl:atI l i with
  | none=>rw [hl] at hg;cases hg
  | some k =>
   rw [hl] at hg;cases hg
   have e1:atI (l.map V.int) i=some (.int k):=by
    unfold atI at hl ⊢;rw [yad]
    cases e:ixN l.length i with
    | none=>rw [e] at hl;cases hl
    | some j =>
     rw [e] at hl;have hl':l[j]?=some k:=hl;show (l.map V.int)[j]?=_;rw [yaF,hl'];rfl
   exact zjJ value slice pins s σ w.H _ _ v u Q I rx ry ⟨p,_,i,_,rfl,rfl,ep,e1,q _ w (Grow.refl _) (.int _)⟩ hsub
 ·cases hg
noncomputable def zeu:List D->Option D
 | [.lst l]=>some (.int l.length)
 | [.tup l]=>some (.int l.length)
 | [.scr l]=>some (.int l.length)
 | [.str x]=>if zaM x.length then some (.int x.length) else none
 | _=>none
def zrD(hK:X.K=cl.K):zis X cl (.builtin "len") zeu:=by
 intro pins s σ H xs us Q I r h;obtain ⟨w,ds,d,rfl,hx,hg,q⟩:=h;unfold zeu at hg;split at hg
 ·rename_i l;cases hg
  cases hx with
  | cons h1 h2 =>
   cases h2;obtain ⟨p,ys,rfl,ep,rs⟩:=h1.lstI;refine zcg pins s σ w.H _ us Q I r ⟨p,ys,rfl,.inl (SqL.of ep),?_⟩;rw [rs.length];exact q _ w (Grow.refl _) (.int _)
 ·rename_i l;cases hg
  cases hx with
  | cons h1 h2 =>
   cases h2;obtain ⟨p,ys,rfl,ep,_,rs⟩:=h1.tupI;refine zcg pins s σ w.H _ us Q I r ⟨p,ys,rfl,.inr (SqT.of ep),?_⟩;rw [rs.length];exact q _ w (Grow.refl _) (.int _)
 ·rename_i l;cases hg
  cases hx with
  | cons h1 h2 =>
   cases h2;obtain ⟨p,rfl,ep⟩:=h1.scrI hK;refine zcg pins s σ w.H _ us Q I r ⟨p,l.map V.int,rfl,.inl ep,?_⟩;rw [yad];exact q _ w (Grow.refl _) (.int _)
 ·rename_i x;split at hg
  ·rename_i hz;cases hg
   cases hx with
   | cons h1 h2 =>
    cases h2;obtain rfl:=h1.strI;exact zge pins s σ w.H _ us Q I r ⟨x,rfl,zaH hz,q _ w (Grow.refl _) (.int _)⟩
  ·cases hg
 ·cases hg
noncomputable def zdJ:List D->Option D
 | [.lst l]=>some (.tup l)
 | [.tup l]=>some (.tup l)
 | _=>none
def zl9:zis X cl (.type "tuple") zdJ:=by
 intro pins s σ H xs us Q I r h;obtain ⟨w,ds,d,rfl,hx,hg,q⟩:=h;unfold zdJ at hg;split at hg
 ·rename_i l;cases hg
  cases hx with
  | cons h1 h2 =>
   cases h2;obtain ⟨p,ys,rfl,ep,rs⟩:=h1.lstI;exact zc6 pins s σ w.H _ us Q I r ⟨p,ys,rfl,.inl ⟨SqL.of ep,fun l hl=>q _ (w.add l _) (zav hl _) (Shd.newT hl rs)⟩⟩
 ·rename_i l;cases hg
  cases hx with
  | cons h1 h2 =>
   cases h2;obtain ⟨p,ys,rfl,ep,kp,rs⟩:=h1.tupI;exact zc6 pins s σ w.H _ us Q I r ⟨p,ys,rfl,.inr ⟨SqT.of ep,q _ w (Grow.refl _) (.tup ep kp rs)⟩⟩
 ·cases hg
noncomputable def ziq:List D->Option (List Bool)
 | []=>some []
 | .bl b::l=>(ziq l).map (b::·)
 | _=>none
def zmi{bs:List Bool}{ds:List D}:∀{xs:List V},Shds cl w xs ds->ziq ds=some bs->xs=bs.map V.bl:=by
 induction ds generalizing bs with
 | nil=>intro xs r h;cases r;cases h;rfl
 | cons d ds ih =>
  intro xs r e
  cases r with
  | cons h t =>
   cases d with
   | bl b =>
    cases h;unfold ziq at e
    cases hr:ziq ds with
    | none=>rw [hr] at e;cases e
    | some cs=>rw [hr] at e;cases e;rw [ih t hr];rfl
   | _=>cases e
noncomputable def zua:List D->Option D
 | [.lst l]=>(ziq l).map fun bs=>.bl (bs.all id)
 | _=>none
def zrE(hc:X.calm=true):zis X cl (.builtin "all") zua:=by
 intro pins s σ H xs us Q I r h;obtain ⟨w,ds,d,rfl,hx,hg,q⟩:=h;unfold zua at hg;split at hg
 ·rename_i l
  cases hb:ziq l with
  | none=>rw [hb] at hg;cases hg
  | some bs =>
   rw [hb] at hg;cases hg
   cases hx with
   | cons h1 h2 =>
    cases h2;obtain ⟨p,ys,rfl,ep,rs⟩:=h1.lstI;obtain rfl:=zmi rs hb;exact zgU hc pins s σ w.H _ us Q I r ⟨p,bs,rfl,SqL.of ep,q _ w (Grow.refl _) (.bl _)⟩
 ·cases hg
noncomputable def zmP:List D->Option (List Int)
 | []=>some []
 | .int b::l=>(zmP l).map (b::·)
 | _=>none
end
end S2
namespace L2
open PySem PySem.Spec PyProof.Rows
section
variable{X:Cx}{e st:Expr}{te ts:TE}{pos p2:Pos}
end
end L2
namespace S2
open PySem PySem.Spec PyProof.Rows L2
noncomputable def zb7(g g':D->D->Option D)(f h k:Fe):Fe:=fun ρ S=>(f ρ S).bind fun a S1=>(h ρ S1).bind fun b S2=>match (g a b).bind isB with
 | some true=>(k ρ S2).bind fun c S3=>Out.of (g' b c) S3
 | some false=>.ok (.bl false) S2
 | none=>.bad
section
variable{X:Cx}{cl:Cf}{E:St->XK}{a b c e:Expr}{f h k:Fe}{pos:Pos}
def zhc{g g':D->D->Option D}{r r':R2}(hr:∀x y H Q,(∃w d e r,w.H=H/\TopV cl w x d/\TopV cl w y e/\g d e=some r/\∀v w',Grow w w'->Shd cl w' v r->Q v w'.H)->r x y H Q)
  (hr':∀x y H Q,(∃w d e r,w.H=H/\TopV cl w x d/\TopV cl w y e/\g' d e=some r/\∀v w',Grow w w'->Shd cl w' v r->Q v w'.H)->r' x y H Q) {σ:St} {H:Hp} {Q:VK} (q:tE cl E (zb7 g g' f h k) σ H Q):ziB r r' (tH cl E f) (tH cl E h) (tH cl E k) σ H Q:=by
 obtain ⟨B,w,ρ,S,rfl,R,q⟩:=q;refine ⟨B,w,ρ,S,rfl,R,?_⟩;unfold zb7 at q
 cases hf:f ρ S with
 | bad=>rwa [hf] at q
 | exc c S1=>rwa [hf] at q
 | ok d S1 =>
  rw [hf] at q;intro v w1 R1 F1 h1;refine ⟨B,w1,ρ,S1,rfl,R1,?_⟩;dsimp only [Out.bind] at q
  cases hh:h ρ S1 with
  | bad=>rwa [hh] at q
  | exc c S2=>rw [hh] at q;exact fun w2 R2 F2=>q w2 R2 (F1.trans F2)
  | ok e S2 =>
   rw [hh] at q;intro y w2 R2 F2 h2;dsimp only at q
   cases hg:g d e with
   | none=>rw [hg] at q;exact q.elim
   | some z =>
    rw [hg] at q;dsimp only [Option.bind] at q
    cases hb:isB z with
    | none=>rw [hb] at q;exact q.elim
    | some bb =>
     rw [hb] at q;rw [zck hb] at hg;refine hr _ _ _ _ ⟨w2,d,e,_,rfl,(h1.up F2).top R2,h2.top R2,hg,fun v' w3 gr sh=>⟨bb,zfJ sh,?_⟩⟩;have R3:=R2.grow gr
     cases bb with
     | false=>exact zlP (q _ w3 R3 (F1.trans (F2.trans gr.fut)) (.bl _))
     | true =>
      refine zlO ⟨B,w3,ρ,S2,rfl,R3,?_⟩;dsimp only at q
      cases hk:k ρ S2 with
      | bad=>rwa [hk] at q
      | exc c S3=>rw [hk] at q;exact fun w4 R4 F4=>q w4 R4 (F1.trans (F2.trans (gr.fut.trans F4)))
      | ok c S3 =>
       rw [hk] at q;intro z' w4 R4 F4 h4;dsimp only at q
       cases hg':g' e c with
       | none=>rw [hg'] at q;exact q.elim
       | some r2 =>
        rw [hg'] at q;exact hr' _ _ _ _ ⟨w4,e,c,r2,rfl,(h2.up (gr.fut.trans F4)).top R4,h4.top R4,hg',fun v' w5 gr5 sh5=>q v' w5 (R4.grow gr5) (F1.trans (F2.trans (gr.fut.trans (F4.trans gr5.fut)))) sh5⟩
def zkW{op op':CmpOp}{g g':D->D->Option D}(ho:OpD X cl (compareOp op) g)(ho':OpD X cl (compareOp op') g')(ha:PE X a (tH cl E f))(hb:PE X b (tH cl E h))(hc:PE X c (tH cl E k))(hm:lastMarks [op,op'] [b,c]=false):PE X (.Compare a [op,op'] [b,c] pos) (tE cl E (zb7 g g' f h k)) :=
 PE.imp (zlj ho ho' ha hb hc hm) fun _ _ _ q=>zhc (fun _ _ _ _ z=>z) (fun _ _ _ _ z=>z) q
def zkJ{op op':CmpOp}{g g':D->D->Option D}(ho:OpD X cl (compareOp op) g)(ho':OpD X cl (compareOp op') g')(ha:PE X a (tH cl E f))(hb:PE X b (tH cl E h))(hc:PE X c (tH cl E k))(hm:lastMarks [op,op'] [b,c]=false):PT X (.Compare a [op,op'] [b,c] pos) (tTr cl E (zb7 g g' f h k)) :=
 PT.imp (zk4 ho ho' ha hb hc hm) fun _ _ _ q=>zhc (fun _ _ _ _ z=>z) (fun _ _ _ _ z=>z) (zfB q)
noncomputable def zeh{α:Type}(l:List α)(lo hi:Option Int):List α:=(l.drop (HT.sIx l.length 0 lo)).take (HT.sIx l.length l.length hi-HT.sIx l.length 0 lo)
noncomputable def slD(d:D)(lo hi:Option Int):Option D:=match d with
 | .lst l=>some (.lst (zeh l lo hi))
 | .tup l=>some (.tup (zeh l lo hi))
 | _=>none
noncomputable def zb8(o:Option Fe)(ρ:Env)(S:Sto):Out (Option Int):=match o with
 | none=>.ok none S
 | some f=>(f ρ S).bind fun d S1=>match d with | .int i=>.ok (some i) S1 | _=>.bad
noncomputable def eSl(f:Fe)(lo hi:Option Fe):Fe:=fun ρ S=>(f ρ S).bind fun d S1=>(zb8 lo ρ S1).bind fun l S2=>(zb8 hi ρ S2).bind fun u S3=>Out.of (slD d l u) S3
def zga{w:Wd}{xs:List V}{ds:List D}(r:Shds cl w xs ds)(lo hi:Option Int):Shds cl w (zmV xs lo hi) (zeh ds lo hi):=by
 unfold zmV zeh;rw [r.length];exact (r.drop _).take _
noncomputable def SlD(X:Cx)(cl:Cf):Prop:=SlR X fun x lo hi H Q=>∃w d r,w.H=H/\TopV cl w x d/\slD d lo hi=some r/\∀v w',Grow w w'->Shd cl w' v r->Q v w'.H
def zsY:SlD X cl:=by
 intro pins s σ H x v vl vu lo hi sl Q I rx hs pl pu h;obtain ⟨w,d,r,rfl,hx,hg,q⟩:=h;unfold slD at hg;split at hg
 ·rename_i l;cases hg;obtain ⟨p,xs,rfl,ep,rs⟩:=hx.lstI;exact znp pins s σ w.H _ v vl vu lo hi sl Q I rx hs pl pu ⟨p,xs,rfl,SqL.of ep,fun p' hp=>q _ (w.add p' _) (zav hp _) (Shd.newL hp (zga rs lo hi))⟩
 ·rename_i l;cases hg;obtain ⟨p,xs,rfl,ep,kp,rs⟩:=hx.tupI
  by_cases hw:HT.sIx xs.length 0 lo=0/\HT.sIx xs.length xs.length hi=xs.length
  ·refine zhU pins s σ w.H _ v vl vu lo hi sl Q I rx hs pl pu ⟨p,xs,rfl,SqT.of ep,hw.1,hw.2,q _ w (Grow.refl _) (.tup ep kp ?_)⟩
   have:zeh l lo hi=l:=by
    unfold zeh;rw [<-rs.length,hw.1,hw.2,List.drop_zero,Nat.sub_zero,ycb (by rw [rs.length];exact yah _)]
   rw [this];exact rs
  ·exact zpO pins s σ w.H _ v vl vu lo hi sl Q I rx hs pl pu ⟨p,xs,rfl,SqT.of ep,hw,fun p' hp=>q _ (w.add p' _) (zav hp _) (Shd.newT hp (zga rs lo hi))⟩
 ·cases hg
noncomputable def zrX(cl:Cf)(E:St->XK)(o:Option Fe):TO:=match o with | none=>ziA | some f=>zpt (tH cl E f)
def zpY{lo hi:Option Expr}{fl fh:Option Fe}{p2:Pos}(he:PE X e (tH cl E f))(hl:PO X lo (zrX cl E fl))(hu:PO X hi (zrX cl E fh)):PE X (.Subscript e (.Slice lo hi none p2) pos) (tE cl E (eSl f fl fh)):=by
 refine PE.imp (zle (zsY (cl:=cl)) he hl hu) ?_;rintro σ H Q ⟨B,w,ρ,S,rfl,R,q⟩;refine ⟨B,w,ρ,S,rfl,R,?_⟩;unfold eSl at q
 cases hf:f ρ S with
 | bad=>rwa [hf] at q
 | exc c S1=>rwa [hf] at q
 | ok d S1 =>
  rw [hf] at q;intro v w1 R1 F1 h1;dsimp only [Out.bind] at q
  have last:∀(l u:Option Int) (w3:Wd) (S3:Sto),Rel cl B σ w3 ρ S3->Fut w1 w3->(match Out.of (slD d l u) S3 with
    | .ok d S'=>∀v w',Rel cl B σ w' ρ S'->Fut w w'->Shd cl w' v d->Q v w'.H
    | .exc c S'=>∀w',Rel cl B σ w' ρ S'->Fut w w'->E σ (.ref (cl c)) none w'.H
    | .bad=>False)->∃w d r,w.H=w3.H/\TopV cl w v d/\slD d l u=some r/\∀v w',Grow w w'->Shd cl w' v r->Q v w'.H:=by
   intro l u w3 S3 R3 F3 q3
   cases hg:slD d l u with
   | none=>rw [hg] at q3;exact q3.elim
   | some r =>
    rw [hg] at q3;exact ⟨w3,d,r,rfl,(h1.up F3).top R3,hg,fun v' w' gr sh=>q3 v' w' (R3.grow gr) (F1.trans (F3.trans gr.fut)) sh⟩
  have second:∀(l:Option Int) (w2:Wd) (S2:Sto),Rel cl B σ w2 ρ S2->Fut w1 w2->(match (zb8 fh ρ S2).bind fun u S3=>Out.of (slD d l u) S3 with
    | .ok d S'=>∀v w',Rel cl B σ w' ρ S'->Fut w w'->Shd cl w' v d->Q v w'.H
    | .exc c S'=>∀w',Rel cl B σ w' ρ S'->Fut w w'->E σ (.ref (cl c)) none w'.H
    | .bad=>False)->zrX cl E fh σ w2.H fun u H3=>∃w d r,w.H=H3/\TopV cl w v d/\slD d l u=some r/\∀v w',Grow w w'->Shd cl w' v r->Q v w'.H:=by
   intro l w2 S2 R2 F2 q2
   cases fh with
   | none=>exact last l none w2 S2 R2 F2 q2
   | some fh =>
    refine ⟨B,w2,ρ,S2,rfl,R2,?_⟩;unfold zb8 at q2;dsimp only at q2
    cases hh:fh ρ S2 with
    | bad=>rwa [hh] at q2
    | exc c S3=>rw [hh] at q2;exact fun w3 R3 F3=>q2 w3 R3 (F1.trans (F2.trans F3))
    | ok dh S3 =>
     rw [hh] at q2;intro y w3 R3 F3 h3;dsimp only [Out.bind] at q2
     cases dh with
     | int i =>
      refine ⟨i,(h3.top R3).intI,?_⟩;exact last l (some i) w3 S3 R3 (F2.trans F3) q2
     | _=>exact q2.elim
  cases fl with
  | none=>exact second none w1 S1 R1 (Fut.refl _) q
  | some fl =>
   refine ⟨B,w1,ρ,S1,rfl,R1,?_⟩;unfold zb8 at q;dsimp only at q
   cases hh:fl ρ S1 with
   | bad=>rwa [hh] at q
   | exc c S3=>rw [hh] at q;exact fun w3 R3 F3=>q w3 R3 (F1.trans F3)
   | ok dl S2 =>
    rw [hh] at q;intro y w2 R2 F2 h2;dsimp only [Out.bind] at q
    cases dl with
    | int i =>
     refine ⟨i,(h2.top R2).intI,?_⟩;exact second (some i) w2 S2 R2 F2 q
    | _=>exact q.elim
noncomputable def zdA(T:String)(d:D):Option D :=
 if T = "int" then (match d with | .int _=>some (.bl true) | .bl _=>some (.bl true) | .non=>some (.bl false) | .str _=>some (.bl false) | .tup _=>some (.bl false) | .lst _=>some (.bl false) | _=>none)
 else if T = "bool" then (match d with | .int _=>some (.bl false) | .bl _=>some (.bl true) | .non=>some (.bl false) | .str _=>some (.bl false) | .tup _=>some (.bl false) | .lst _=>some (.bl false) | _=>none)
 else if T = "tuple" then (match d with | .int _=>some (.bl false) | .bl _=>some (.bl false) | .non=>some (.bl false) | .str _=>some (.bl false) | .tup _=>some (.bl true) | .lst _=>some (.bl false) | _=>none)
 else if T = "str" then (match d with | .int _=>some (.bl false) | .bl _=>some (.bl false) | .non=>some (.bl false) | .str _=>some (.bl true) | .tup _=>some (.bl false) | .lst _=>some (.bl false) | _=>none)
 else if T = "list" then (match d with | .int _=>some (.bl false) | .bl _=>some (.bl false) | .non=>some (.bl false) | .str _=>some (.bl false) | .tup _=>some (.bl false) | .lst _=>some (.bl true) | _=>none)
 else none
def zoz{K:PySem.W.Frag}{w:Wd}{v:V}{d r:D}{T:String}(h:TopV cl w v d)(hg:zdA T d=some r):∃t b,TyOf K w.H v t/\PySem.W.kitOne K t (.type T)=some b/\r=.bl b:=by
 unfold zdA at hg;split at hg
 ·rename_i hT;subst hT
  split at hg<;>cases hg
  ·obtain rfl:=h.intI;exact ⟨_,_,.int _,by with_unfolding_all rfl,rfl⟩
  ·obtain rfl:=h.blI;exact ⟨_,_,.bl _,by with_unfolding_all rfl,rfl⟩
  ·obtain rfl:=h.nonI;exact ⟨_,_,.non,by with_unfolding_all rfl,rfl⟩
  ·obtain rfl:=h.strI;exact ⟨_,_,.str _,by with_unfolding_all rfl,rfl⟩
  ·obtain ⟨_,_,rfl,e,_⟩:=h.tupI;exact ⟨_,_,.tup e,by with_unfolding_all rfl,rfl⟩
  ·obtain ⟨_,_,rfl,e,_⟩:=h.lstI;exact ⟨_,_,.lst e,by with_unfolding_all rfl,rfl⟩
 split at hg
 ·rename_i hT;subst hT
  split at hg<;>cases hg
  ·obtain rfl:=h.intI;exact ⟨_,_,.int _,by with_unfolding_all rfl,rfl⟩
  ·obtain rfl:=h.blI;exact ⟨_,_,.bl _,by with_unfolding_all rfl,rfl⟩
  ·obtain rfl:=h.nonI;exact ⟨_,_,.non,by with_unfolding_all rfl,rfl⟩
  ·obtain rfl:=h.strI;exact ⟨_,_,.str _,by with_unfolding_all rfl,rfl⟩
  ·obtain ⟨_,_,rfl,e,_⟩:=h.tupI;exact ⟨_,_,.tup e,by with_unfolding_all rfl,rfl⟩
  ·obtain ⟨_,_,rfl,e,_⟩:=h.lstI;exact ⟨_,_,.lst e,by with_unfolding_all rfl,rfl⟩
 split at hg
 ·rename_i hT;subst hT
  split at hg<;>cases hg
  ·obtain rfl:=h.intI;exact ⟨_,_,.int _,by with_unfolding_all rfl,rfl⟩
  ·obtain rfl:=h.blI;exact ⟨_,_,.bl _,by with_unfolding_all rfl,rfl⟩
  ·obtain rfl:=h.nonI;exact ⟨_,_,.non,by with_unfolding_all rfl,rfl⟩
  ·obtain rfl:=h.strI;exact ⟨_,_,.str _,by with_unfolding_all rfl,rfl⟩
  ·obtain ⟨_,_,rfl,e,_⟩:=h.tupI;exact ⟨_,_,.tup e,by with_unfolding_all rfl,rfl⟩
  ·obtain ⟨_,_,rfl,e,_⟩:=h.lstI;exact ⟨_,_,.lst e,by with_unfolding_all rfl,rfl⟩
 split at hg
 ·rename_i hT;subst hT
  split at hg<;>cases hg
  ·obtain rfl:=h.intI;exact ⟨_,_,.int _,by with_unfolding_all rfl,rfl⟩
  ·obtain rfl:=h.blI;exact ⟨_,_,.bl _,by with_unfolding_all rfl,rfl⟩
  ·obtain rfl:=h.nonI;exact ⟨_,_,.non,by with_unfolding_all rfl,rfl⟩
  ·obtain rfl:=h.strI;exact ⟨_,_,.str _,by with_unfolding_all rfl,rfl⟩
  ·obtain ⟨_,_,rfl,e,_⟩:=h.tupI;exact ⟨_,_,.tup e,by with_unfolding_all rfl,rfl⟩
  ·obtain ⟨_,_,rfl,e,_⟩:=h.lstI;exact ⟨_,_,.lst e,by with_unfolding_all rfl,rfl⟩
 split at hg
 ·rename_i hT;subst hT
  split at hg<;>cases hg
  ·obtain rfl:=h.intI;exact ⟨_,_,.int _,by with_unfolding_all rfl,rfl⟩
  ·obtain rfl:=h.blI;exact ⟨_,_,.bl _,by with_unfolding_all rfl,rfl⟩
  ·obtain rfl:=h.nonI;exact ⟨_,_,.non,by with_unfolding_all rfl,rfl⟩
  ·obtain rfl:=h.strI;exact ⟨_,_,.str _,by with_unfolding_all rfl,rfl⟩
  ·obtain ⟨_,_,rfl,e,_⟩:=h.tupI;exact ⟨_,_,.tup e,by with_unfolding_all rfl,rfl⟩
  ·obtain ⟨_,_,rfl,e,_⟩:=h.lstI;exact ⟨_,_,.lst e,by with_unfolding_all rfl,rfl⟩
 ·cases hg
def zgf:bootBuiltins "isinstance" = some (.builtin "isinstance"):=by decide +kernel
def znA{T:String}{x:Str}{p p2:Pos}(hg:Gl X "isinstance")(hm:X.mg "isinstance" = none)(hgT:Gl X x)(hmT:X.mg x=none)(hvT:bootBuiltins x=some (.type T))(hn:x ≠ "__name__")(hdb:(x == ("__debug__":Str))=false)(hp:zbD e=true)(he:PE X e (tH cl E f)) :
  PE X (.Call (.Name "isinstance" p) [e,.Name x p2] [] pos) (tE cl E (eUn (zdA T) f)):=by
 refine PE.imp (zcW zgT hg hm zgf (zbH he (zbH (zji (v:=.ty T) hgT hmT hvT rfl hn hdb) zdo rfl) (za6 hp)) (he:=za6 hp) (hpl:=rfl)) ?_;rintro σ H Q ⟨B,w,ρ,S,rfl,R,q⟩;refine ⟨B,w,ρ,S,rfl,R,?_⟩;unfold eUn at q
 cases hf:f ρ S with
 | bad=>rwa [hf] at q
 | exc c S1=>rwa [hf] at q
 | ok d S1 =>
  rw [hf] at q;intro v w1 R1 F1 h1;dsimp only [Out.bind] at q
  cases hg:zdA T d with
  | none=>rw [hg] at q;exact q.elim
  | some r =>
   rw [hg] at q;obtain ⟨t,b,h2,h3,rfl⟩:=zoz (K:=X.K) (h1.top R1) hg;exact ⟨v,t,T,b,rfl,h2,h3,q _ w1 R1 F1 (.bl _)⟩
noncomputable def za5(f:Fe):Fi:=fun ρ S=>(f ρ S).bind fun d S1=>match d with | .lst l=>.ok l S1 | .tup l=>.ok l S1 | _=>.bad
def zpS{tg:Expr}(hK:X.K=cl.K)(he:PE X e (tE cl E f)):PI X tg e (tI cl E (za5 f)):=by
 intro pins s σ H R' I q;obtain ⟨B,w,ρ,S,rfl,R,q⟩:=q;unfold za5 at q
 cases hf:f ρ S with
 | bad=>rw [hf] at q;exact q.elim
 | exc c S1 =>
  refine ziH he pins s σ w.H R' I ⟨B,w,ρ,S,rfl,R,?_⟩;unfold zhB;rw [hf] at q ⊢;exact q
 | ok d S1 =>
  rw [hf] at q;dsimp only [Out.bind] at q
  cases d with
  | lst l =>
   refine ziH he pins s σ w.H R' I ⟨B,w,ρ,S,rfl,R,?_⟩;unfold zhB;rw [hf];exact q
  | tup l =>
   refine zpQ he pins s σ w.H R' I ⟨B,w,ρ,S,rfl,R,?_⟩;unfold zgR;rw [hf];exact q
  | _=>exact q.elim
end
end S2
namespace PySem.F
end PySem.F
namespace L2
open PySem PySem.Spec PyProof.Rows
noncomputable def zcM(b:Bool)(h:Heap)(a:Addr)(vs:Array Value):Prop:=match b with | true=>h.IsList a vs | false=>h.IsTuple a vs
noncomputable def zkB(b:Bool)(h:Heap)(it a:Addr)(j:Nat):Prop:=match b with | true=>h.IsListIter it a j | false=>h.IsTupleIter it a j
noncomputable def itN(b:Bool):String:=match b with | true=>"list_iterator" | false=>"tuple_iterator"
def zcM.keep{b:Bool}{h h':Heap}{a:Addr}{vs:Array Value}(p:zcM b h a vs)(k:∀o,h.get? a=some o->h'.get? a=some o):zcM b h' a vs:=by
 cases b with
 | true=>exact Heap.IsList.at p k
 | false=>obtain ⟨o,ho,r⟩:=p;exact ⟨o,k o ho,r⟩
def zcM.inj{b:Bool}{h:Heap}{a:Addr}{vs ws:Array Value}(p:zcM b h a vs)(q:zcM b h a ws):vs=ws:=by
 cases b with
 | true=>obtain ⟨o,ho,_,n,e⟩:=p;obtain ⟨o',ho',_,n',e'⟩:=q;rw [ho] at ho';cases ho';rw [e] at e';cases e';rfl
 | false=>obtain ⟨o,ho,_,n,e⟩:=p;obtain ⟨o',ho',_,n',e'⟩:=q;rw [ho] at ho';cases ho';rw [e] at e';cases e';rfl
def zkB.keep{b:Bool}{h h':Heap}{it a:Addr}{j:Nat}(p:zkB b h it a j)(k:∀o,h.get? it=some o->h'.get? it=some o):zkB b h' it a j:=by
 cases b with
 | true=>exact Heap.IsListIter.at p k
 | false=>exact Heap.IsTupleIter.at p k
def zkB.live{b:Bool}{h:Heap}{it a:Addr}{j:Nat}(p:zkB b h it a j):∃o,h.get? it=some o/\∀v,o.data≠.cell v:=by
 cases b with
 | true=>obtain ⟨o,ho,c,d⟩:=p;exact ⟨o,ho,fun v z=>by rw [d] at z;cases z⟩
 | false=>obtain ⟨o,ho,c,d⟩:=p;exact ⟨o,ho,fun v z=>by rw [d] at z;cases z⟩
section
variable{prog:Program}{w:World}{A:Around}{E:Z5}{s:Shared}
def zl1(hh:A.handled=none)(b:Bool)(it t:Addr)(ne:t≠it)(vs:Array Value):Draws prog w A it [it,t] vs.size (fun j v=>vs[j]?=some v) (fun j h=>zkB b h it t j/\zcM b h t vs):=by
 cases b with
 | false=>exact zj5 hh it t ne vs
 | true =>
  exact {
   live:=fun _ _ st=>by obtain ⟨⟨o,ho,_⟩,_⟩:=st;exact ⟨o,ho⟩
   frame:=fun _ _ _ st hk=>⟨st.1.keep fun o e=>hk it (by simp) o e,st.2.keep fun o e=>hk t (by simp) o e⟩
   item:=fun j s Q E hj st hQ=>wpAny_nextOf_list_item (x:=vs[j]) st.1 st.2 (by simp [hj]) fun h' st' sb=>hQ _ h' s.toks (by simp [hj]) ⟨st',st.2.keep fun o e=>(sb.2 t ne).trans e⟩ sb
   done:=fun s Q E st hE=>wpAny_nextOf_list_end hh st.1 st.2 (by simp) fun h' e sb he=>hE h' e sb he }
def zi0{b:Bool}{l:Addr}{vs:Array Value}{Q:Z5}(p:zcM b s.heap l vs)(h:Q (.ref s.heap.objs.size) { s with heap:=s.heap.push { cls:=.type (itN b),data:=.fields #[.ref l,.int 0 0] } }):wpAny (model prog w) A (pyIter (.ref l)) Q E s:=by
 cases b with
 | true=>exact ycD p h
 | false=>exact wpAny_pyIter_tuple p h
noncomputable abbrev IsT(h:Heap)(T:Addr)(os:List Value):Prop:=h.get? T=some { cls:=.type "tuple",data:=.seq os.toArray }
noncomputable abbrev Stops(h:Heap)(e:Addr):Prop:=∃o,h.get? e=some o/\o.cls=.type "StopIteration"
noncomputable def zgm:Nat->List (Bool×Nat)->List Value | _,[]=>[] | a,_::L=>.ref a::zgm (a+1) L
noncomputable def ZAt(k:Nat)(h:Heap):Nat->List (Bool×Nat)->Prop | _,[]=>True | a,p::L=>zkB p.1 h a p.2 k/\ZAt k h (a+1) L
noncomputable def ZGv(k:Nat)(h:Heap):List (Bool×Nat)->List Value->Prop
 | [],[]=>True
 | p::L,x::xs=>(∃vs,zcM p.1 h p.2 vs/\vs[k]?=some x)/\ZGv k h L xs
 | _,_=>False
theorem ZGv.len{k:Nat}{h:Heap}:∀{L:List (Bool×Nat)} {xs:List Value},ZGv k h L xs->xs.length=L.length
 | [],[],_=>rfl
 | _::_,_::_,g=>congrArg Nat.succ (ZGv.len g.2)
theorem ZAt.keep{k:Nat}{h h':Heap}:∀{L:List (Bool×Nat)} {a:Nat},ZAt k h a L->(∀(c:Nat) (o:Obj),a<=c->c<a+L.length->h.get? c=some o->h'.get? c=some o)->ZAt k h' a L
 | [],_,_,_=>trivial
 | p::L,a,z,f=>⟨z.1.keep fun o e=>f _ o (yah _) (by simp) e,ZAt.keep z.2 fun c o h1 h2 e=>f c o (by omega) (by simp only [yag];omega) e⟩
theorem zg5:∀(a:Nat) (L:List (Bool×Nat)),(zgm a L).length=L.length
 | _,[]=>rfl
 | a,_::L=>congrArg Nat.succ (zg5 (a+1) L)
theorem zg2{β:Type}{z TI TO k:Nat}{f:Value×Nat->β->Sem (ForInStep β)}{b:β}(hTO:TO<z)
  (hf:∀(p:Bool×Nat) (vs:Array Value) (a n:Nat) (os:List Value) (s:Shared) (Q:ForInStep β->Shared->Prop),p.2<a->a<TO->os.length<=9->IsZip s.heap z TI TO .ellipsis->IsT s.heap TO os->zkB p.1 s.heap a p.2 k->zcM p.1 s.heap p.2 vs →
   (∀x h' tk,vs[k]?=some x->IsT h' TO (os.set n x)->zkB p.1 h' a p.2 (k+1)->h'.objs.size=s.heap.objs.size->(∀(c:Nat) (o:Obj),c≠TO->c≠a->s.heap.get? c=some o->h'.get? c=some o)->Q (.yield b) { s with heap:=h',toks:=tk }) →
   (k=vs.size->∀h' e tk,(∀(c:Nat) (o:Obj),c≠z->c≠a->s.heap.get? c=some o->h'.get? c=some o)->Stops h' e->E (.ref e) { s with heap:=h',toks:=tk }) →
   k<=vs.size->wpAny (model prog w) A (f (.ref a,n) b) Q E s) :
  ∀(L:List (Bool×Nat)) (a n:Nat) (os:List Value) (s:Shared) (Q:β->Shared->Prop),(∀p∈L,p.2<a/\∃vs,zcM p.1 s.heap p.2 vs/\k<=vs.size)->a+L.length<=TO->os.length=n+L.length->os.length<=9->IsZip s.heap z TI TO .ellipsis->IsT s.heap TO os->ZAt k s.heap a L →
   (∀xs h' tk,ZGv k s.heap L xs->IsT h' TO (os.take n++xs)->ZAt (k+1) h' a L->h'.objs.size=s.heap.objs.size->(∀(c:Nat) (o:Obj),(c<a\/a+L.length<=c)->c≠TO->s.heap.get? c=some o->h'.get? c=some o)->Q b { s with heap:=h',toks:=tk }) →
   ((∃p∈L,∃vs,zcM p.1 s.heap p.2 vs/\k=vs.size)->∀h' e tk,(∀(c:Nat) (o:Obj),(c<a\/z<c)->s.heap.get? c=some o->h'.get? c=some o)->Stops h' e->E (.ref e) { s with heap:=h',toks:=tk }) →
   wpAny (model prog w) A (forIn ((zgm a L).zipIdx n) b f) Q E s
 | [],a,n,os,s,Q,_,_,hn,_,_,hO,_,hQ,_=>by
  refine yac (hQ [] s.heap s.toks trivial ?_ trivial rfl fun c o _ _ e=>e);rw [yaT,ycb (by simp at hn;omega)];exact hO
 | p::L,a,n,os,s,Q,hL,hT,hn,h9,hz,hO,hA,hQ,hE=>by
  rw [yag] at hT hn;obtain ⟨hp,vs,hv,hk⟩:=hL p (.head _);show wpAny _ _ (forIn ((.ref a,n)::(zgm (a+1) L).zipIdx (n+1)) b f) _ _ _;rw [yb4];refine yaa (hf p vs a n os s _ hp (by omega) h9 hz hO hA.1 hv (fun x h1 tk hx hO1 hI1 hs1 k1=>?_) (fun hx h' e tk k1=>hE ⟨p,.head _,vs,hv,hx⟩ h' e tk fun c o hc q=>k1 c o (by omega) (by omega) q) hk);have kq:∀q∈L,∀vs,zcM q.1 s.heap q.2 vs->zcM q.1 h1 q.2 vs:=fun q hq vs e=>e.keep fun o e=>k1 _ o (by have:=(hL q (.tail _ hq)).1;omega) (by have:=(hL q (.tail _ hq)).1;omega) e
  refine zg2 hTO hf L (a+1) (n+1) (os.set n x) _ Q (fun q hq=>?_) (by omega) (by rw [yaz];omega) (by rw [yaz];exact h9) (k1 _ _ (by omega) (by omega) hz) hO1 (hA.2.keep fun c o c1 c2 e=>k1 c o (by omega) (by omega) e) (fun xs h' tk' gv hO' hA' hs' k'=>?_) (fun ⟨q,hq,ws,hw,hx⟩ h' e tk' k'=>?_)
  ·obtain ⟨h2,ws,hw,hk2⟩:=hL q (.tail _ hq);exact ⟨by omega,ws,kq q hq ws hw,hk2⟩
  ·refine hQ (x::xs) h' tk' ⟨⟨vs,hv,hx⟩,?_⟩ ?_ ⟨hI1.keep fun o e=>k' _ o (.inl (by omega)) (by omega) e,hA'⟩ (hs'.trans hs1) fun c o hc c2 e=>k' c o (by rw [yag] at hc;omega) c2 (k1 c o c2 (by rw [yag] at hc;omega) e)
   ·clear hQ hE hO' hA' k'
    have aux:∀(M:List (Bool×Nat)) (ys:List Value),(∀q∈M,q∈L)->ZGv k h1 M ys->ZGv k s.heap M ys:=by
     intro M
     induction M with
     | nil=>intro ys _ g;cases ys<;>exact g
     | cons q M ih =>
      intro ys hM g
      cases ys with
      | nil=>exact g
      | cons y ys =>
       obtain ⟨⟨ws,e1,e2⟩,g2⟩:=g;obtain ⟨_,ws',e3,_⟩:=hL q (.tail _ (hM q (.head _)));have e4:=kq q (hM q (.head _)) ws' e3;refine ⟨⟨ws',e3,?_⟩,ih ys (fun r hr=>hM r (.tail _ hr)) g2⟩;rw [zcM.inj e4 e1];exact e2
    exact aux L xs (fun _ h=>h) gv
   ·have:os.take n++x::xs=(os.set n x).take (n+1)++xs:=by
     rw [List.take_succ,yaw (by omega),List.take_set_of_le (yah _)];simp
    rw [this];exact hO'
  ·obtain ⟨_,ws',e3,_⟩:=hL q (.tail _ hq);exact hE ⟨q,.tail _ hq,ws',e3,by rw [hx,zcM.inj hw (kq q hq ws' e3)]⟩ h' e tk' fun c o hc e=>k' c o (by omega) (k1 c o (by omega) (by omega) e)
def zg1{z TI TO k a:Nat}{L:List (Bool×Nat)}{os:List Value}{Q:Z5}(hh:A.handled=none)(h0:L≠[])(h9:L.length<=9)(e1:TI=a+L.length)(e2:TO=TI+1)(e3:z=TO+1)
  (hL:∀p∈L,p.2<a/\∃vs,zcM p.1 s.heap p.2 vs/\k<=vs.size) (hz:IsZip s.heap z TI TO .none) (hI:IsT s.heap TI (zgm a L)) (hO:IsT s.heap TO os) (ho:os.length=L.length) (hA:ZAt k s.heap a L)
  (hQ:∀xs h' tk,ZGv k s.heap L xs->IsZip h' z TI TO (rawInt s.heap.objs.size)->IsT h' TO xs->ZAt (k+1) h' a L->IsT h' s.heap.objs.size xs->(∀(c:Nat) (o:Obj),(c<a\/c=TI\/z<c)->s.heap.get? c=some o->h'.get? c=some o)->Q (.ref s.heap.objs.size) { s with heap:=h',toks:=tk })
  (hE:(∃p∈L,∃vs,zcM p.1 s.heap p.2 vs/\k=vs.size)->∀h' e tk,(∀(c:Nat) (o:Obj),(c<a\/z<c)->s.heap.get? c=some o->h'.get? c=some o)->Stops h' e->E (.ref e) { s with heap:=h',toks:=tk }) :
  wpAny (model prog w) A (Builtin.«zip.__next__» ⟨[.ref z],[]⟩) (fun fin s'=>∃v,fin=.done (.ret v)/\Q v s') E s:=by
 have hne:((zgm a L).toArray.isEmpty)=false:=by
  cases L with
  | nil=>exact absurd rfl h0
  | cons p L=>rfl
 show wpAny _ _ (field (.ref z) 2 >>= _) _ _ _;refine yaa (ybB hz rfl (x:=.bool false) rfl ?_);show wpAny _ _ (field (.ref z) 3 >>= _) _ _ _;refine yaa (ybB hz rfl (x:=.ref TI) rfl ?_);refine yaa (ybJ hI rfl ?_);simp only [hne,yaC,ybl];show wpAny _ _ (Builtin.SmallTypes.ownedTupleIsFree (.ref z) >>= _) _ _ _;refine yaa ?_;unfold Builtin.SmallTypes.ownedTupleIsFree;refine yaa (ybB hz rfl (x:=.none) rfl (yac ?_));simp only [ycB];refine yaa (ycL ?_);refine yaa (ybB hz rfl (x:=.ref TO) rfl ?_);refine yaa (yb8 hz (by simp) fun h₁ hz₁ hs₁=>?_);replace hz₁:IsZip h₁ z TI TO .ellipsis:=hz₁;have k₁:∀(c:Nat) (o:Obj),c≠z->s.heap.get? c=some o->h₁.get? c=some o:=fun c o hc e=>hs₁.extBut _ _ hc e
 have kq:∀p∈L,∀vs,zcM p.1 h₁ p.2 vs↔zcM p.1 s.heap p.2 vs:=fun p hp vs=>by
  have hc:p.2≠z:=by have:=(hL p hp).1;omega
  exact ⟨fun q=>q.keep fun o e=>((hs₁.2 p.2 hc).symm.trans e),fun q=>q.keep fun o e=>k₁ _ o hc e⟩
 refine yaa (zg2 (z:=z) (TI:=TI) (TO:=TO) (k:=k) (by omega) (fun p vs b n os s Q hp hb h9 hz hO hI hv hx he hk=>?_) L a 0 os _ _ (fun p hp=>?_) (by omega) (by omega) (by omega) hz₁ (k₁ _ _ (by omega) hO) (hA.keep fun c o c1 c2 e=>k₁ c o (by omega) e) (fun xs h₂ tk gv hO₂ hA₂ hs₂ k₂=>?_) (fun ⟨p,hp,vs,hv,hx⟩ h' e tk k'=>hE ⟨p,hp,vs,(kq p hp vs).1 hv,hx⟩ h' e tk fun c o hc q=>k' c o hc (k₁ c o (by omega) q)))
 ·have D:=zl1 (prog:=prog) (w:=w) hh p.1 b p.2 (yay hp) vs;refine yaa (wpAny_onRaise ?_);show wpAny _ _ (Builtin.SmallTypes.nextOf (.ref b) >>= _) _ _ _
  rcases Nat.lt_or_eq_of_le hk with hlt | rfl
  ·refine yaa (D.item k _ _ _ hlt ⟨hI,hv⟩ fun x h₂ tk₂ px hI₂ hs₂=>yac ?_);have hO₂:IsT h₂ TO os:=hs₂.extBut _ _ (ya3 hb) hO;refine yaa (ybJ hO₂ rfl ?_);refine yaa (wpAny_updateSeq hO₂ rfl ?_ (by simp;exact yar h9 (by decide)) (by simp;exact yar h9 (by decide)));have hs₃:=Heap.SameBut.update h₂ TO (Obj.mapSeq (·.setIfInBounds n x));refine yaa (wpAny_letGo (yac (hx x _ tk₂ px ?_ (hI₂.1.keep fun o e=>hs₃.extBut _ _ (show b≠TO by omega) e) (hs₃.1.trans hs₂.1) fun c o c1 c2 e=>hs₃.extBut _ _ c1 (hs₂.extBut _ _ c2 e))));show Heap.get? _ TO=_;rw [ybx _ hO₂ rfl];simp [Obj.mapSeq]
  ·refine yaa (D.done _ _ _ ⟨hI,hv⟩ fun h₂ e hs₂ hs=>?_);obtain ⟨oe,hoe,hce⟩:=hs;have hz₂:IsZip h₂ z TI TO .ellipsis:=hs₂ _ _ (show z≠b by omega) hz
   have hez:e≠z:=fun x=>by subst x;rw [hz₂] at hoe;cases hoe;simp at hce
   exact yb8 hz₂ (by simp) fun h₃ _ hs₃=>he rfl h₃ e _ (fun c o c1 c2 q=>hs₃.extBut _ _ c1 (hs₂ _ _ c2 q)) ⟨oe,hs₃.extBut _ _ hez hoe,hce⟩
 ·obtain ⟨h1,vs,hv,hk⟩:=hL p hp;exact ⟨h1,vs,(kq p hp vs).2 hv,hk⟩
 ·replace hO₂:IsT h₂ TO xs:=hO₂;refine yaa (ybJ hO₂ rfl ?_);refine yaa (ycf ?_ (hsz:=by rw [show xs.toArray.toList=xs from rfl,gv.len];exact yar h9 (by decide)));have hz₂:IsZip h₂ z TI TO .ellipsis:=k₂ _ _ (.inr (by omega)) (by omega) hz₁;have hsz:h₂.objs.size=s.heap.objs.size:=hs₂.trans hs₁.1;have hzlt:z<h₂.objs.size:=yam hz₂;show wpAny _ _ (Builtin.SmallTypes.ownedTupleHandOut (.ref z) (.ref h₂.objs.size) >>= _) _ _ _;refine yaa ?_;unfold Builtin.SmallTypes.ownedTupleHandOut;have hz₃:IsZip (h₂.push { cls:=.type "tuple",data:=.seq xs.toArray }) z TI TO .ellipsis:=yae _ hz₂;refine yaa (yb8 hz₃ (by simp) fun h₄ hz₄ hs₄=>?_);replace hz₄:IsZip h₄ z TI TO (rawInt h₂.objs.size):=hz₄;refine yb8 hz₄ (by simp) fun h₅ hz₅ hs₅=>?_
  replace hz₅:IsZip h₅ z TI TO (rawInt h₂.objs.size):=hz₅;have up:∀(c:Nat) (o:Obj),c≠z->h₂.get? c=some o->h₅.get? c=some o:=fun c o c1 e=>hs₅.extBut _ _ c1 (hs₄.extBut _ _ c1 (yae _ e))
  have hT:IsT h₅ h₂.objs.size xs:=hs₅.extBut _ _ (ya3 hzlt) (hs₄.extBut _ _ (ya3 hzlt) (yao _ rfl));rw [hsz] at hz₅ hT;refine yac ⟨_,rfl,?_⟩;show Q (.ref h₂.objs.size) _;rw [hsz]
  have gv':∀(M:List (Bool×Nat)) (ys:List Value),(∀q∈M,q∈L)->ZGv k h₁ M ys->ZGv k s.heap M ys:=by
   intro M
   induction M with
   | nil=>intro ys _ g;cases ys<;>exact g
   | cons q M ih =>
    intro ys hM g
    cases ys with
    | nil=>exact g
    | cons y ys=>obtain ⟨⟨ws,q1,q2⟩,g2⟩:=g;exact ⟨⟨ws,(kq q (hM q (.head _)) ws).1 q1,q2⟩,ih ys (fun r hr=>hM r (.tail _ hr)) g2⟩
  exact hQ xs h₅ tk (gv' L xs (fun _ h=>h) gv) hz₅ (up _ _ (by omega) hO₂) (hA₂.keep fun c o c1 c2 e=>up c o (by omega) e) hT fun c o hc e=>up c o (by omega) (k₂ c o (by omega) (by omega) (k₁ c o (by omega) e))
def zrg{b:Bool}{h:Heap}{it a:Addr}(g:h.get? it=some { cls:=.type (itN b),data:=.fields #[.ref a,.int 0 0] }):zkB b h it a 0:=by
 cases b with
 | true=>exact ⟨_,g,rfl,rfl⟩
 | false=>exact ⟨_,g,rfl,rfl⟩
def zh9{L:List (Bool×Nat)}{Q:List Value->Shared->Prop}(hL:∀p∈L,∃vs,zcM p.1 s.heap p.2 vs)
  (h:∀h',(∀(c:Nat) (o:Obj),s.heap.get? c=some o->h'.get? c=some o)->ZAt 0 h' s.heap.objs.size L->h'.objs.size=s.heap.objs.size+L.length->Q (zgm s.heap.objs.size L) { s with heap:=h' }) :
  wpAny (model prog w) A (Builtin.SmallTypes.iterAll (L.map fun p=>.ref p.2)) Q E s:=by
 have go:∀(L:List (Bool×Nat)) (acc:Array Value) (s:Shared) (Q:Array Value->Shared->Prop),(∀p∈L,∃vs,zcM p.1 s.heap p.2 vs)->(∀h' r,r.toList=acc.toList++zgm s.heap.objs.size L->(∀(c:Nat) (o:Obj),s.heap.get? c=some o->h'.get? c=some o)->ZAt 0 h' s.heap.objs.size L->h'.objs.size=s.heap.objs.size+L.length->Q r { s with heap:=h' }) →
   wpAny (model prog w) A (forIn (L.map fun p=>Value.ref p.2) acc fun x r=>do let y ← holding r.toList (pyIter x);pure (ForInStep.yield (r.push y))) Q E s:=by
  intro L
  induction L with
  | nil=>intro acc s Q _ h;exact yac (h s.heap acc (by simp [zgm]) (fun _ _ e=>e) trivial rfl)
  | cons p L ih =>
   intro acc s Q hL h;obtain ⟨vs,hv⟩:=hL p (.head _);rw [yat,yb4];refine yaa (yaa (ybh (zi0 hv (yac ?_))));have sz:(s.heap.push { cls:=.type (itN p.1),data:=.fields #[.ref p.2,.int 0 0] }).objs.size=s.heap.objs.size+1:=ybo ..;refine ih _ _ Q (fun q hq=>?_) (fun h' r hr k za hz=>h h' r ?_ (fun c o e=>k c o (yae _ e)) ⟨zrg (k _ _ (yao _ rfl)),?_⟩ ?_)
   ·obtain ⟨ws,hw⟩:=hL q (.tail _ hq);exact ⟨ws,hw.keep fun o e=>yae _ e⟩
   ·rw [hr,sz];simp [zgm]
   ·rwa [sz] at za
   ·rw [hz,sz,yag];omega
 unfold Builtin.SmallTypes.iterAll;refine yaa (go L #[] s _ hL fun h' r hr k za hz=>yac ?_);rw [show r.toList=zgm s.heap.objs.size L from hr];exact h h' k za hz
def zjA{L:List (Bool×Nat)}(h9:L.length<=9) :
  Meets (Builtin.«zip.__new__» ⟨.type "zip" :: (L.map fun p=>.ref p.2),[]⟩) (fun _ R s=>(∀p∈L,∃vs,zcM p.1 s.heap p.2 vs) ∧
   ∀h' n,n=s.heap.objs.size->(∀(c:Nat) (o:Obj),s.heap.get? c=some o->h'.get? c=some o)->ZAt 0 h' n L->IsT h' (n+L.length) (zgm n L)->(∃os,os.length=L.length/\IsT h' (n+L.length+1) os)->IsZip h' (n+L.length+2) (n+L.length) (n+L.length+1) .none →
    R (.ok (.ret (.ref (n+L.length+2)))) { s with heap:=h' }) :=
 .of_wp fun prog w A R s h=>by
  obtain ⟨hp,g,d,tk,os⟩:=s;obtain ⟨hl,h⟩:=h;have hsub:=sub_zip;have hl':∀p∈L,∃vs,zcM p.1 (Shared.heap ⟨hp,g,d,tk,os⟩) p.2 vs:=hl
  wp_walk using zh9 hl'
  intro h1 k za hz;have zl:=zg5 hp.objs.size L;refine yaa (ycf ?_ (hsz:=by rw [zl];exact yar h9 (by decide)));refine yaa (ycf ?_ (hsz:=by rw [yad,zl];exact yar h9 (by decide)));refine yaa ?_;unfold Builtin.SmallTypes.newRecord;refine yaK ?_ (hd:=by first | exact trivial | (show (5:Nat)<=_;decide));have z1:∀o,(h1.push o).objs.size=hp.objs.size+L.length+1:=fun o=>(ybo ..).trans (congrArg (·+1) hz)
  have z2:∀o o',((h1.push o).push o').objs.size=hp.objs.size+L.length+2:=fun o o'=>(ybo ..).trans (congrArg (·+1) (z1 o))
  have p {h:Heap} {o':Obj} {a:Addr} {o:Obj} (e:h.get? a=some o):(h.push o').get? a=some o:=yae _ e
  have u:∀{h:Heap} {o:Obj} {a:Addr},a=h.objs.size->o.isFreed=false->(h.push o).get? a=some o:=fun e ho=>by rw [e];exact yao _ ho
  refine yac ⟨_,rfl,?_⟩;have r:=h (((h1.push { cls:=.type "tuple",data:=.seq (zgm hp.objs.size L).toArray }).push { cls:=.type "tuple",data:=.seq ((zgm hp.objs.size L).map fun _=>Value.none).toArray }).push { cls:=.type "zip",data:=.fields #[.none,.bool false,.bool false,.ref (hp.objs.size+L.length),.ref (hp.objs.size+L.length+1)] }) _ rfl (fun c o e=>p (p (p (k c o e)))) (za.keep fun c o _ _ e=>p (p (p e))) (p (p (u hz.symm rfl))) ⟨_,by rw [yad,zl],p (u (z1 _).symm rfl)⟩ (u (z2 _ _).symm rfl);simp only [hz,z1,z2];exact r
end
theorem ZAt.live{k:Nat}{h:Heap}:∀{L:List (Bool×Nat)} {a b:Nat},ZAt k h a L->a<=b->b<a+L.length->∃o,h.get? b=some o/\∀v,o.data≠.cell v
 | [],a,b,_,h1,h2=>absurd h2 (Nat.not_lt.mpr h1)
 | p::L,a,b,z,h1,h2=>by
  rcases Nat.eq_or_lt_of_le h1 with rfl | h3
  ·exact z.1.live
  ·exact ZAt.live z.2 h3 (by rw [yag] at h2;omega)
theorem ZGv.at{k:Nat}{h:Heap}:∀{L:List (Bool×Nat)} {xs:List Value},ZGv k h L xs->∀p∈L,∃vs,zcM p.1 h p.2 vs/\k<vs.size
 | p::L,x::xs,g,q,hq=>by
  cases hq with
  | head=>obtain ⟨vs,e1,e2⟩:=g.1;exact ⟨vs,e1,(ybS.mp e2).1⟩
  | tail _ hq=>exact ZGv.at g.2 q hq
noncomputable def zFp(a n:Nat):List Addr:=(List.range (n+3)).map (a+·)
def zbT{a n b:Nat}:b∈zFp a n↔a<=b/\b<a+n+3:=by
 unfold zFp;rw [yaq];exact ⟨fun ⟨j,hj,e⟩=>by rw [ybA] at hj;have e:a+j=b:=e;omega,fun ⟨h1,h2⟩=>⟨b-a,ybA.mpr (by omega),by show a+(b-a)=b;omega⟩⟩
def zgn{a n b:Nat}(h:b ∉ zFp a n):b<a\/a+n+2<b:=by rw [zbT] at h;omega
def zsl{a n b:Nat}(h:b<a+n+3)(h':¬ b<a+n):b=a+n\/b=a+n+1\/b=a+n+2:=by omega
def zpe{a n b:Nat}(h:b<a\/a+n+2<b):b≠a+n+2:=by omega
section
variable{X:Cx}{pins:Z3}{σ:St}{H:Hp}{s:Shared}
noncomputable def SqB(b:Bool)(H:Hp)(a:Addr)(xs:List V):Prop:=match b with | true=>H a=some (.lst xs) | false=>H a=some (.tup xs)
def Inv.sq{b:Bool}{a:Addr}{xs:List V}(I:Inv X pins σ H s)(h:SqB b H a xs):∃its:List Value,Vals xs its/\zcM b s.heap a its.toArray:=by
 cases b with
 | true=>obtain ⟨its,rv,p,_⟩:=I.list (SqL.of h);exact ⟨its,rv,p.isList⟩
 | false=>obtain ⟨its,rv,p,_⟩:=I.tuple (SqT.of h);exact ⟨its,rv,p⟩
def SqB.inj{b:Bool}{a:Addr}{xs ys:List V}(h:SqB b H a xs)(g:SqB b H a ys):xs=ys:=by
 cases b with
 | true=>have e:=(show H a=_ from h).symm.trans (show H a=_ from g);cases e;rfl
 | false=>have e:=(show H a=_ from h).symm.trans (show H a=_ from g);cases e;rfl
noncomputable def ZGd(i:Nat)(H:Hp):List (Bool×Nat)->List V->Prop
 | [],[]=>True
 | p::L,y::ys=>(∃xs,SqB p.1 H p.2 xs/\xs[i]?=some y)/\ZGd i H L ys
 | _,_=>False
noncomputable def ItZ(L:List (Bool×Nat)):It :=
 ⟨fun i H=>∃ys,ZGd i H L ys,fun i H v H'=>∃t ys,v=.ref t/\H t=none/\H'=upd H t (.tup ys)/\ZGd i H L ys,
  fun i H=>(∀p∈L,∃xs,SqB p.1 H p.2 xs/\i<=xs.length)/\∃p∈L,∃xs,SqB p.1 H p.2 xs/\i=xs.length⟩
theorem ZGd.at{i:Nat}(I:Inv X pins σ H s):∀{L:List (Bool×Nat)} {ys:List V},ZGd i H L ys->∀p∈L,∃vs,zcM p.1 s.heap p.2 vs/\i<vs.size
 | p::L,x::xs,g,q,hq=>by
  cases hq with
  | head =>
   obtain ⟨vs,e1,e2⟩:=g.1;obtain ⟨its,rv,p1⟩:=I.sq e1;exact ⟨_,p1,by rw [yaf,<-rv.length];exact (yap.mp e2).1⟩
  | tail _ hq=>exact ZGd.at I g.2 q hq
theorem ZGd.vals{i:Nat}(I:Inv X pins σ H s):∀{L:List (Bool×Nat)} {ys:List V} {us:List Value},ZGd i H L ys->ZGv i s.heap L us->Vals ys us
 | [],[],[],_,_=>.nil
 | p::L,y::ys,u::us,g,v=>by
  refine .cons ?_ (ZGd.vals I g.2 v.2);obtain ⟨xs,e1,e2⟩:=g.1;obtain ⟨vs,e3,e4⟩:=v.1;obtain ⟨its,rv,p1⟩:=I.sq e1;rw [zcM.inj e3 p1] at e4;obtain ⟨u',hu,ru⟩:=rv.get e2;rw [List.getElem?_toArray,hu] at e4;cases e4;exact ru
def zm2{fp:List Addr}{T:Addr}{h2:Heap}{tk:Nat}{us:List Value}{ys:List V}(I:Inv X pins σ H s)(hf:∀b∈fp,zkC X pins H b)(hT:T=s.heap.objs.size)(te:IsT h2 T us)
  (k:∀b o,b ∉ fp->s.heap.get? b=some o->h2.get? b=some o) (r:Vals ys us) (h9:us.length<=9):Inv X pins σ (upd H T (.tup ys)) { s with heap:=h2,toks:=tk }/\H T=none:=by
 have fr:H T=none:=by rw [hT];exact I.hok.fresh (yah _)
 refine ⟨?_,fr⟩;have I1:Inv X pins σ H { s with heap:=h2,toks:=tk }:=I.turnedL (ch:=fp) (fun b o hb q=>k b o hb q) hf;refine I1.track fr (by rw [hT];exact I.sz) (by rw [hT];exact ya3 I.lt) (fun z c q=>?_) (fun p hp=>?_) ?_
 ·obtain ⟨v,cq⟩:=I.cell z c q;rw [hT];exact yay cq.lt
 ·rw [hT];exact yay (yam (I.pin p hp).1)
 ·exact ⟨yar (r.length ▸ h9) (by decide),us,r,_,te,rfl,_,rfl⟩
def zkD{P:Program}{w:World}{K:PySem.W.Frag}{elts:List Expr}{x1:Nat}{pos:Pos}(L:List (Bool×Nat))(a:Nat)(h0:L≠[])(h9:L.length<=9)(hL:∀p∈L,p.2<a) :
  Turn P w K (.Tuple elts x1 pos) (ItZ L) (zFp a L.length) (a+L.length+2) (fun i h=>IsZip h (a+L.length+2) (a+L.length) (a+L.length+1) .none/\IsT h (a+L.length) (zgm a L)/\(∃os,os.length=L.length/\IsT h (a+L.length+1) os)/\ZAt i h a L) where
 mem:=zbT.mpr (by omega)
 obj:=fun i h st b hb=>by
  obtain ⟨hz,hI,⟨os,ho,hO⟩,hA⟩:=st;obtain ⟨h1,h2⟩:=zbT.mp hb
  by_cases e:b<a+L.length
  ·exact hA.live h1 e
  ·rcases zsl h2 e with rfl | rfl | rfl
   ·exact ⟨_,hI,fun v e=>by cases e⟩
   ·exact ⟨_,hO,fun v e=>by cases e⟩
   ·exact ⟨_,hz,fun v e=>by cases e⟩
 keep:=fun i h h' st k=>by
  obtain ⟨hz,hI,⟨os,ho,hO⟩,hA⟩:=st;exact ⟨k _ (zbT.mpr (by omega)) _ hz,k _ (zbT.mpr (by omega)) _ hI,⟨os,ho,k _ (zbT.mpr (by omega)) _ hO⟩,hA.keep fun c o c1 c2 e=>k _ (zbT.mpr (by omega)) _ e⟩
 item:=by
  intro X hP hw hK hc i pins s σ H E I hf st hg;subst hP hw hK;obtain ⟨ys,gd⟩:=hg;obtain ⟨hz,hI,⟨os,ho,hO⟩,hA⟩:=st;have hT:s.TypeIs (.ref (a+L.length+2)) "zip":=⟨_,hz,rfl⟩;unfold pyNext
  refine yaa (ycJ (yaS (name:=Str.ofString "__next__") hT ycr (yaU ycr hT F.entry_zip_next
   (zg1 (A:=X.A.in1) (I.ok.hd hc) h0 h9 rfl rfl rfl (fun p hp=>by obtain ⟨vs,e1,e2⟩:=gd.at I p hp;exact ⟨hL p hp,vs,e1,ycu e2⟩) hz hI hO ho hA (fun us h' tk gv a1 a2 a3 a4 a5=>yac ?_)
    (fun ⟨p,hp,vs,e1,e2⟩=>by obtain ⟨ws,e3,e4⟩:=gd.at I p hp;rw [zcM.inj e1 e3] at e2;omega)) (F.args_zip_next_1 _))))
  have neT:s.heap.objs.size≠a+L.length+2:=ya3 (yam hz);have ltz:a+L.length+2<s.heap.objs.size:=yam hz;refine ⟨_,rfl,wpAny_letOwnedTupleGo_zip a1 fun h2' hz2 sb=>?_⟩;have kb:∀(c:Nat) (o:Obj),c≠a+L.length+2->h'.get? c=some o->h2'.get? c=some o:=fun c o hc e=>(sb.2 c hc).trans e
  obtain ⟨I2,fr⟩:=zm2 (tk:=tk) (h2:=h2') I hf rfl (kb _ _ neT a4) (fun b o hb q=>kb b o (zpe (zgn hb)) (a5 b o ((zgn hb).elim .inl fun e=>.inr (.inr e)) q)) (gd.vals I gv) (by rw [gv.len];exact h9);refine ⟨.ref s.heap.objs.size,_,I2,rfl,⟨_,ys,rfl,fr,rfl,gd⟩,⟨hz2,kb _ _ (by omega) (a5 _ _ (.inr (.inl rfl)) hI),⟨us,gv.len,kb _ _ (by omega) a2⟩,a3.keep fun c o c1 c2 e=>kb c o (by omega) e⟩,fun b hb=>?_⟩;rw [zaf (fun e=>by have:=(zbT.mp (e ▸ hb)).2;omega)];exact (hf b hb).1
 done:=by
  intro X hP hw hK hc i pins s σ H E I hf st hg;subst hP hw hK;obtain ⟨g1,p,hp,xs,e1,e2⟩:=hg;obtain ⟨hz,hI,⟨os,ho,hO⟩,hA⟩:=st;have hT:s.TypeIs (.ref (a+L.length+2)) "zip":=⟨_,hz,rfl⟩;obtain ⟨its,rv,p1⟩:=I.sq e1;unfold pyNext
  refine yaa (ycJ (yaS (name:=Str.ofString "__next__") hT ycr (yaU ycr hT F.entry_zip_next
   (zg1 (A:=X.A.in1) (I.ok.hd hc) h0 h9 rfl rfl rfl (fun p hp=>by
     obtain ⟨xs,e1,e2⟩:=g1 p hp;obtain ⟨its,rv,p1⟩:=I.sq e1
     exact ⟨hL p hp,_,p1,by rw [yaf,<-rv.length];exact e2⟩) hz hI hO ho hA
    (fun us h' tk gv=>by
     obtain ⟨vs,e3,e4⟩:=gv.at p hp;rw [zcM.inj e3 p1,yaf,<-rv.length,<-e2] at e4
     exact absurd e4 (yaR _)) (fun _ h' e tk hk he'=>?_)) (F.args_zip_next_1 _))))
  obtain ⟨o,ho,hcl⟩:=he';refine yaa (ycl (T:="StopIteration") (b:=true) ⟨o,ho,hcl⟩ isSubtype_stop ?_);refine yac ⟨rfl,I.turnedL (ch:=zFp a L.length) (fun b o hb q=>?_) hf⟩;exact hk b o (zgn hb) q
 self:=fun _ _ _ _ _ st h=>wpAny_pyIter_zip st.1 h
def zmc:bootBuiltins "zip" = some (.type "zip"):=by decide +kernel
def zpd{elts:List Expr}{x1:Nat}{tp:Pos}{s1:Shared}{H1:Hp}{L:List (Bool×Nat)}{R:It->Hp->Prop}{vs:List Value}(I1:Inv X pins σ H1 s1)(hv:vs=L.map fun p=>.ref p.2)(h0:L≠[])(h9:L.length<=9)(c1:checkTypeCall "zip" ⟨vs,[]⟩=pure ())(c2:checkBuiltinCall "zip.__new__" ⟨.type "zip" :: vs,[]⟩=pure ())(c3:∀obj,argsOk "object.__init__" ⟨obj::vs,[]⟩)
  (hq:∀p∈L,∃xs,SqB p.1 H1 p.2 xs) (q:R (ItZ L) H1) :
  wpAny (model X.prog X.w) X.A (call (.type "zip") vs) (fun v s2=>wpAny (model X.prog X.w) X.A (pyIter v) (PIE X pins σ (.Tuple elts x1 tp) R) X.xe s2) X.xe s1:=by
 subst hv
 have hs:∀p∈L,∃vs,zcM p.1 s1.heap p.2 vs:=fun p hp=>by
  obtain ⟨xs,e⟩:=hq p hp;obtain ⟨its,_,p1⟩:=I1.sq e;exact ⟨_,p1⟩
 refine callType_new F.called_zip (by decide) c1 c2 c3 F.entry_zip_new (zjA h9) ⟨hs,fun h' n hn hk za hI hO hz=>?_⟩;refine ⟨⟨_,hz,rfl⟩,wpAny_pyIter_zip hz ?_⟩;refine ⟨n+L.length+2,zFp n L.length,_,_,H1,rfl,I1.kept (t':=s1.toks) hk,zkD L n h0 h9 (fun p hp=>?_),⟨hz,hI,hO,za⟩,fun c hb=>?_,q⟩
 ·obtain ⟨vs,e⟩:=hs p hp;rw [hn]
  revert e
  cases p.1 with
  | true=>intro e;obtain ⟨o,ho,_⟩:=e;exact yam ho
  | false=>intro e;obtain ⟨o,ho,_⟩:=e;exact yam ho
 ·have hc:s1.heap.objs.size<=c:=hn ▸ (zbT.mp hb).1;exact I1.fpOk hc (I1.hok.fresh hc)
end
end L2
namespace S2
open PySem PySem.Spec PyProof.Rows L2
section
variable{X:Cx}{cl:Cf}{E:St->XK}{e tg:Expr}{f:Fe}{own:Bool}{pos pos':Pos}
noncomputable def zw6:List D->Option D | [.int i,.int j]=>some (.int (if j<i then j else i)) | _=>none
noncomputable def zmZ:List D->Option D | [.int i]=>some (.int (if i<0 then -i else i)) | _=>none
def zrF:zis X cl (.builtin "abs") zmZ:=by
 intro pins s σ H xs us Q I r h;obtain ⟨w,ds,d,rfl,hx,hg,q⟩:=h;unfold zmZ at hg;split at hg
 ·rename_i i;cases hg
  cases hx with
  | cons h1 h2 =>
   cases h2;obtain rfl:=h1.intI;exact zmb pins s σ w.H _ us Q I r ⟨i,rfl,q _ w (Grow.refl _) (.int _)⟩
 ·cases hg
noncomputable def zfr:List D->List D->List D
 | x::xs,y::ys=>.tup [x,y]::zfr xs ys
 | _,_=>[]
theorem zg3:∀(xs ys:List D),(zfr xs ys).length=min xs.length ys.length
 | [],_=>by simp [zfr]
 | _::_,[]=>by simp [zfr]
 | _::xs,_::ys=>by simp [zfr,zg3 xs ys]
theorem zg4:∀{xs ys:List D} {i:Nat} {d:D},(zfr xs ys)[i]?=some d->∃x y,xs[i]?=some x/\ys[i]?=some y/\d=.tup [x,y]
 | [],_,_,_,h=>by simp [zfr] at h
 | _::_,[],_,_,h=>by simp [zfr] at h
 | x::xs,y::ys,0,d,h=>by
  simp only [zfr,List.getElem?_cons_zero,Option.some.injEq] at h;exact ⟨x,y,rfl,rfl,h.symm⟩
 | x::xs,y::ys,i+1,d,h=>by
  simp only [zfr,List.getElem?_cons_succ] at h ⊢;exact zg4 h
noncomputable def zpV:D->Option (List D) | .lst l=>some l | .tup l=>some l | _=>none
noncomputable def zrx(f g:Fe):Fi:=fun ρ S=>(zag [f,g] ρ S).bind fun ds S1=>match ds with | [x,y]=>(match zpV x,zpV y with | some l,some k=>.ok (zfr l k) S1 | _,_=>.bad) | _=>.bad
def zrf{b1 b2:Bool}{w:Wd}{l1 l2:Addr}{xs ys:List V}{ds es:List D}(h1:∀w',Fut w w'->SqB b1 w'.H l1 xs)(h2:∀w',Fut w w'->SqB b2 w'.H l2 ys)(r1:Shds cl w xs ds)(r2:Shds cl w ys es):ItOk cl w (ItZ [(b1,l1),(b2,l2)]) (zfr ds es):=by
 have e1:=r1.length;have e2:=r2.length;have el:=zg3 ds es;refine ⟨fun w1 F1 i hi=>⟨[xs[i]'(by omega),ys[i]'(by omega)],⟨xs,h1 w1 F1,yaj (by omega)⟩,⟨ys,h2 w1 F1,yaj (by omega)⟩,trivial⟩,fun w1 F1=>⟨fun p hp=>?_,?_⟩,fun w1 F1 i d x H1 hd y=>?_⟩
 ·simp only [yas,List.not_mem_nil,or_false] at hp
  rcases hp with rfl | rfl
  ·exact ⟨xs,h1 w1 F1,by omega⟩
  ·exact ⟨ys,h2 w1 F1,by omega⟩
 ·by_cases h:ds.length<=es.length
  ·exact ⟨_,.head _,xs,h1 w1 F1,by omega⟩
  ·exact ⟨_,.tail _ (.head _),ys,h2 w1 F1,by omega⟩
 obtain ⟨t,vs,rfl,ht,rfl,gd⟩:=y;obtain ⟨z1,z2,hz1,hz2,rfl⟩:=zg4 hd
 match vs,gd with
 | [v1,v2],⟨⟨xs',g1,hx⟩,⟨ys',g2,hy⟩,_⟩ =>
  cases SqB.inj g1 (h1 w1 F1);cases SqB.inj g2 (h2 w1 F1);obtain ⟨d1,q1,s1⟩:=r1.get hx;obtain ⟨d2,q2,s2⟩:=r2.get hy;rw [hz1] at q1;cases q1;rw [hz2] at q2;cases q2;exact ⟨w1.add t _,rfl,zav ht _,Shd.newT ht (.cons (s1.up F1) (.cons (s2.up F1) .nil))⟩
def zhg{w:Wd}{v:V}{d:D}{l:List D}(h:Shd cl w v d)(e:zpV d=some l):∃(b:Bool) (a:Addr) (xs:List V),v=.ref a/\(∀w',Fut w w'->SqB b w'.H a xs)/\Shds cl w xs l:=by
 cases h with
 | lst ep k r=>cases e;exact ⟨true,_,_,rfl,fun w1 F1=>(F1.keep _ _ ep k).1,r⟩
 | tup ep k r=>cases e;exact ⟨false,_,_,rfl,fun w1 F1=>(F1.keep _ _ ep k).1,r⟩
 | _=>cases e
theorem zbO:∀{L:List (Bool×Nat)} {us:List Value},Vals (L.map fun p=>V.ref p.2) us->us=L.map fun p=>.ref p.2
 | [],_,r=>by cases r;rfl
 | p::L,_,r=>by
  rw [yat] at r
  cases r with
  | cons h t=>cases h;rw [zbO t];rfl
def znq{a:Expr}{as:List Expr}{fs:List Fe}{F:List D->Sto->Out (List D)}{n:Nat}{es:List Expr}{kk:Nat}{tp p:Pos}(hg:Gl X "zip")(hm:X.mg "zip" = none)(ha:PA X (a::as) (tAs cl E fs))(hs:starEach (a::as) X.env=(false,eval a X.env)::starEach as X.env)(hs2:(backTo pos (starEach as X.env)).any (·.1)=false)
  (hc:∀us:List Value,us.length=n->checkTypeCall "zip" ⟨us,[]⟩=pure ()/\checkBuiltinCall "zip.__new__" ⟨.type "zip" :: us,[]⟩=pure ()/\∀obj,argsOk "object.__init__" ⟨obj::us,[]⟩) (hn:0<n/\n<=9)
  (hF:∀ds S1 (w:Wd) vs,Shds cl w vs ds->F ds S1=.bad\/∃l L,F ds S1=.ok l S1/\L.length=n/\vs=L.map (fun p=>V.ref p.2)/\(∀p∈L,∃xs,SqB p.1 w.H p.2 xs)/\ItOk cl w (ItZ L) l) :
  PI X (.Tuple es kk tp) (.Call (.Name "zip" p) (a::as) [] pos) (tI cl E (fun ρ S=>(zag fs ρ S).bind F)):=by
 intro pins s σ H R' I q;refine Call_ (zev I hg hm L2.zmc (ybs (thn (ha pos pins s σ H (fun vs H1=>∃L,L.length=n/\vs=L.map (fun p=>V.ref p.2)/\(∀p∈L,∃xs,SqB p.1 H1 p.2 xs)/\R' (ItZ L) H1) I ?_) fun us s1 ⟨vs,H1,I1,r1,q1⟩=>?_) hs hs2))
 ·obtain ⟨B,w,ρ,S,rfl,R,q⟩:=q;refine ⟨B,w,ρ,S,rfl,R,?_⟩;dsimp only at q
  cases hf:zag fs ρ S with
  | bad=>rw [hf] at q;exact q.elim
  | exc c S1=>rwa [hf] at q
  | ok ds S1 =>
   rw [hf] at q;dsimp only [Out.bind] at q;intro vs w' R2 F2 sh
   rcases hF ds S1 w' vs sh with e | ⟨l,L,e,e1,e2,e3,e4⟩
   ·rw [e] at q;exact q.elim
   ·rw [e] at q;exact ⟨L,e1,e2,e3,q _ w' R2 F2 e4⟩
 ·obtain ⟨L,e1,rfl,e3,q⟩:=q1;have e:=zbO r1;have c:=hc us (by rw [e,yad,e1]);exact zpd I1 e (fun z=>by rw [z] at e1;exact absurd hn.1 (by rw [<-e1];exact yaR _)) (e1 ▸ hn.2) c.1 c.2.1 c.2.2 e3 q
def zpP{a:Expr}{fa:Fe}{es:List Expr}{kk:Nat}{tp p:Pos}(hg:Gl X "zip")(hm:X.mg "zip" = none)(ha:PA X [a,e] (tAs cl E [fa,f]))(hs:starEach [a,e] X.env=(false,eval a X.env)::starEach [e] X.env)(hs2:(backTo pos (starEach [e] X.env)).any (·.1)=false):PI X (.Tuple es kk tp) (.Call (.Name "zip" p) [a,e] [] pos) (tI cl E (zrx fa f)) :=
 znq (n:=2) hg hm ha hs hs2 (fun us hu=>match us,hu with | [a,b],_=>⟨F.typeCall_zip_2 a b,F.newCall_zip_2 a b,fun o=>F.args_object_init_3 o a b⟩) (by decide) fun ds S1 w vs sh=>by
  split
  ·rename_i x y;split
   ·rename_i l k hl hk
    cases sh with
    | cons h1 h2 =>
     cases h2 with
     | cons h2 h3 =>
      cases h3;obtain ⟨b1,a1,xs,rfl,p1,r1⟩:=zhg h1 hl;obtain ⟨b2,a2,ys,rfl,p2,r2⟩:=zhg h2 hk;refine .inr ⟨_,[(b1,a1),(b2,a2)],rfl,rfl,rfl,fun p hp=>?_,zrf p1 p2 r1 r2⟩;simp only [yas,List.not_mem_nil,or_false] at hp
      rcases hp with rfl | rfl
      ·exact ⟨xs,p1 _ (Fut.refl _)⟩
      ·exact ⟨ys,p2 _ (Fut.refl _)⟩
   ·exact .inl rfl
  ·exact .inl rfl
noncomputable def zo7(i:Nat)(fe:Fe):Fs:=fun ρ S=>match ρ[i]? with
 | some (some (true,.lst l))=>(match fe ρ S with
  | .ok (.lst k) S'=>if zaM (l.length+k.length) then .nx (ρ.set i (some (true,.lst (l++k)))) S' else .bad
  | .ok _ _=>.bad
  | .exc c S'=>.ex c ρ S' | .bad=>.bad)
 | _=>.bad
def zpI{i:Nat}{x:Str}{ap cp:Pos}(hN:X.N[i]?=some x)(hv:Vis X.env.scope x)(hd:(x == ("__debug__":Str))=false)(hcd:(x == ("__classdict__":Str))=false)(he:PE X e (tH cl E f))
  (hpl:zbD e=true) (hln:(ap.endLine == cp.line)=true):PS X (.Expr (.Call (.Attribute (.Name x pos') "extend" ap) [e] [] cp) pos) (tS cl E own (zo7 i f)):=by
 refine PS.imp (zgB (zn0 (es:=[]) ybG PySem.F.slot_list_extend PySem.F.type_list_extend zju (za4 hN hv hd hcd) (zbH he zdo (za6 hpl)) (hfew:=zj0 (by simp [hpl]) (by simp)) (hline:=hln) (hs:=za6 hpl) (hplain:=rfl))) ?_;rintro De σ H ⟨B,w,ρ,S,rfl,R,q⟩;unfold zo7 at q;split at q
 ·rename_i l hl;obtain ⟨a,xs,e1,h1,h2,t⟩:=R.list hl;refine ⟨_,e1,.inl ⟨rfl,_,SqL.of h2⟩,B,w,ρ,S,rfl,R,?_⟩
  cases hf:f ρ S with
  | bad=>rwa [hf] at q
  | exc c S1=>rw [hf] at q;exact fun w' R' F'=>q σ w' R' F'
  | ok d S1 =>
   rw [hf] at q;intro v w' R' F' h'
   cases d with
   | lst k =>
    dsimp only at q
    cases hz:zaM (l.length+k.length) with
    | false=>rw [hz,if_neg (by decide)] at q;exact q.elim
    | true =>
     rw [hz,if_pos rfl] at q;obtain ⟨a',xs',e1',h1',h2',t'⟩:=R'.list hl;rw [e1] at e1';cases e1';obtain ⟨b,zs,rfl,eb,rb⟩:=(h'.top R').lstI;refine ⟨a,b,xs',zs,rfl,rfl,h2',eb,by rw [t'.length,rb.length];exact zaH hz,?_⟩;exact q σ (w'.mut a (.lst (xs'++zs))) (R'.mut (d0:=.non) e1 h1' (.lst (t'.append rb))) (F'.trans (zcb (by rw [h1'];exact yaE _)))
   | _=>exact q.elim
 ·exact q.elim
end
end S2
namespace S2
open PySem PySem.Spec PyProof.Rows L2
section
variable{X:Cx}{cl:Cf}{E:St->XK}{e:Expr}{f:Fe}{pos':Pos}
noncomputable def eMt(g:List D->D->Option D)(i:Nat)(f:Fe):Fe:=fun ρ S=>match ρ[i]? with | some (some (_,.lst l))=>(f ρ S).bind fun d S1=>Out.of (g l d) S1 | _=>.bad
noncomputable def zdv(l:List D)(d:D):Option D:=if d.fit 8&&D.fits 8 l then some (.int ((l.countP (zef · d):Nat):Int)) else none
noncomputable def zdr(l:List D)(d:D):Option D:=if d.fit 8&&D.fits 8 l&&decide (l.length<=1000000)&&zlB d l then some (.int ((l.findIdx (zef · d):Nat):Int)) else none
def Rel.lstAny{B:Base}{σ:St}{w:Wd}{ρ:Env}{S:Sto}{i:Nat}{o:Bool}{l:List D}(R:Rel cl B σ w ρ S)(h:ρ[i]?=some (some (o,.lst l))):∃a xs,σ[i]?=some (some (.ref a))/\w.H a=some (.lst xs)/\Shds cl w xs l:=by
 cases o with
 | true=>obtain ⟨a,xs,e1,_,h2,t⟩:=R.list h;exact ⟨a,xs,e1,h2,t⟩
 | false =>
  obtain ⟨v,e1,sh⟩:=R.slots i false _ h
  cases sh with
  | lst ep k r=>exact ⟨_,_,e1,ep,r⟩
noncomputable def MtB(X:Cx)(cl:Cf)(id:String)(g:List D->D->Option D):Prop:=MtM X id fun x vs H Q=>∃(a:Addr) (xs:List V) (l:List D) (w:Wd) (d:D) (v:V) (r:Int),w.H=H/\x=.ref a/\vs=[v]/\w.H a=some (.lst xs)/\Shds cl w xs l/\TopV cl w v d/\g l d=some (.int r)/\Q (.int r) H
theorem zdu{s:Shared}{d:D}:∀{its:List Value} {ds:List D} {as:List Addr},ReadsAll s.heap its (D.pys ds) as->D.fits 8 ds=true->its.countP (fun y=>(SeqAt.readOf s.heap y).eqv d.py)=ds.countP (zef · d)
 | [],[],_,_,_=>rfl
 | [],_::_,_,h,_=>by cases h
 | _::_,[],_,h,_=>by cases h
 | v::its,e::ds,_,h,f=>by
  simp only [D.fits,yab] at f
  cases h with
  | cons h1 h2 =>
   rw [List.countP_cons,List.countP_cons,zdu h2 f.2,zgx (D.lay f.1).1 h1];rfl
theorem zdf{s:Shared}{d:D}:∀{its:List Value} {ds:List D} {as:List Addr},ReadsAll s.heap its (D.pys ds) as->D.fits 8 ds=true->∀(m:Nat) (hm:m<its.length),∃e,ds[m]?=some e/\(SeqAt.readOf s.heap its[m]).eqv d.py=zef e d
 | [],_,_,_,_,m,hm=>by simp at hm
 | _::_,[],_,h,_,_,_=>by cases h
 | v::its,e::ds,_,h,f,m,hm=>by
  simp only [D.fits,yab] at f
  cases h with
  | cons h1 h2 =>
   cases m with
   | zero=>exact ⟨e,rfl,by show (SeqAt.readOf s.heap v).eqv d.py=_;rw [zgx (D.lay f.1).1 h1];rfl⟩
   | succ m =>
    obtain ⟨e',h3,h4⟩:=zdf h2 f.2 m (by simpa using hm);exact ⟨e',by simpa using h3,by simpa using h4⟩
theorem zer{s:Shared}:∀{its:List Value} {ds:List D} {as:List Addr},ReadsAll s.heap its (D.pys ds) as->its.length=ds.length
 | [],[],_,_=>rfl
 | [],_::_,_,h=>by cases h
 | _::_,[],_,h=>by cases h
 | _::its,_::ds,_,h=>by
  cases h with
  | cons _ h2=>rw [yag,yag,zer h2]
def zlD(hK:X.K=cl.K)(hu:X.A.units+64<cLine):MtB X cl "list.count" zdv:=by
 intro pins s σ H x vs v us Q I rx rv h;obtain ⟨a,xs,l,w,d,v',r,rfl,rfl,rfl,hH,sh,tv,hg,q⟩:=h;unfold zdv at hg;split at hg
 ·rename_i hf;cases hg;rw [yab] at hf;cases rx;obtain ⟨u,rfl,ru⟩:=rv.one;obtain ⟨bs,rb⟩:=zfO I hK tv hf.1 ru;obtain ⟨z,its,n,r,hl,e⟩:=I.lstM hH;obtain ⟨as,ra⟩:=zcr I hK sh hf.2 r;refine yb0 F.slot_list_count ⟨_,e,rfl⟩ F.entry_list_count (F.args_list_count_2 _ _) (SeqAt.list_countAt a _ n none #[] u (fun y=>(SeqAt.readOf s.heap y).eqv d.py)) ⟨e,fun y hy=>zby hu rb hf.1 ra hf.2 y hy,?_⟩;rw [zdu ra hf.2];exact ⟨.int _,w.H,I.tok _,⟨_,rfl⟩,q⟩
 ·cases hg
def zlC(hK:X.K=cl.K)(hu:X.A.units+64<cLine):MtB X cl "list.index" zdr:=by
 intro pins s σ H x vs v us Q I rx rv h;obtain ⟨a,xs,l,w,d,v',r,rfl,rfl,rfl,hH,sh,tv,hg,q⟩:=h;unfold zdr at hg;split at hg
 ·rename_i hf;cases hg;simp only [yab,ya8] at hf;obtain ⟨⟨⟨f1,f2⟩,f3⟩,f4⟩:=hf;cases rx;obtain ⟨u,rfl,ru⟩:=rv.one;obtain ⟨bs,rb⟩:=zfO I hK tv f1 ru;obtain ⟨z,its,n,r,hl,e⟩:=I.lstM hH;obtain ⟨as,ra⟩:=zcr I hK sh f2 r;have hlen:=zer ra
  have hlt:l.findIdx (zef · d)<l.length:=by
   rw [List.findIdx_lt_length];unfold zlB at f4;rwa [List.any_eq_true] at f4
  refine yb0 F.slot_list_index ⟨_,e,rfl⟩ F.entry_list_index (F.args_list_index_2 _ _) (SeqAt.list_indexAt a _ n none #[] u (fun y=>(SeqAt.readOf s.heap y).eqv d.py) (l.findIdx (zef · d)) (by rw [yaf];omega) (by omega) ?_ ?_) ⟨e,fun y hy=>zby hu rb f1 ra f2 y hy,?_⟩
  ·obtain ⟨e',h1,h2⟩:=zdf (d:=d) ra f2 (l.findIdx (zef · d)) (by omega);simp only [List.getElem_toArray];rw [h2];rw [yaj hlt] at h1;cases h1;exact List.findIdx_getElem (w:=hlt)
  ·intro m hm hmj
   have lm:m<its.length:=by rwa [yaf] at hm
   obtain ⟨e',h1,h2⟩:=zdf (d:=d) ra f2 m lm;simp only [List.getElem_toArray];rw [h2];rw [yaj (by omega)] at h1;cases h1;exact List.not_of_lt_findIdx hmj
  ·exact ⟨.int _,w.H,I.tok _,⟨_,rfl⟩,q⟩
 ·cases hg
def zp1{i:Nat}{x name:Str}{id:String}{g:List D->D->Option D}{ap cp:Pos}(slot:Slot "list" name id)(hty:typeOf (.builtin id)=pure (.type "method_descriptor"))(hm:MtB X cl id g)(hgb:∀l d r,g l d=some r->∃n,r=.int n)
  (hN:X.N[i]?=some x) (hv:Vis X.env.scope x) (hd:(x == ("__debug__":Str))=false) (hcd:(x == ("__classdict__":Str))=false) (he:PE X e (tH cl E f)) (hpl:zbD e=true) (hln:(ap.endLine == cp.line)=true) :
  PE X (.Call (.Attribute (.Name x pos') name ap) [e] [] cp) (tE cl E (eMt g i f)):=by
 refine PE.imp (zn0 (es:=[]) ybG slot hty hm (za4 hN hv hd hcd) (ziI he zmu (za6 hpl)) (hfew:=zj0 (by simp [hpl]) (by simp)) (hline:=hln) (hs:=za6 hpl) (hplain:=rfl)) ?_;rintro σ H Q ⟨B,w,ρ,S,rfl,R,q⟩
 have key:(∃o l,ρ[i]?=some (some (o,.lst l)))\/eMt g i f ρ S=.bad:=by
  unfold eMt;split
  ·rename_i o l hl;exact .inl ⟨o,l,hl⟩
  ·exact .inr rfl
 rcases key with ⟨o,l,hl⟩ | hb
 ·have e':eMt g i f ρ S=(f ρ S).bind fun d S1=>Out.of (g l d) S1:=by unfold eMt;rw [hl]
  rw [e'] at q;obtain ⟨a,xs,e1,h2,t⟩:=R.lstAny hl;refine ⟨_,e1,.inl ⟨rfl,_,SqL.of h2⟩,B,w,ρ,S,rfl,R,?_⟩
  cases hf:f ρ S with
  | bad=>rw [hf] at q;exact q.elim
  | exc c S1 =>
   rw [hf] at q;simp only [zag,hf,Out.bind];exact q
  | ok d S1 =>
   rw [hf] at q;simp only [zag,hf,Out.bind];intro vs w' R' F' sh;dsimp only [Out.bind] at q
   cases hg:g l d with
   | none=>rw [hg] at q;exact q.elim
   | some r =>
    rw [hg] at q;obtain ⟨n,rfl⟩:=hgb l d r hg;obtain ⟨a',xs',e1',h2',t'⟩:=R'.lstAny hl;rw [e1] at e1';cases e1'
    cases sh with
    | cons h1 hn =>
     cases hn;exact ⟨a,xs',l,w',d,_,n,rfl,rfl,rfl,h2',t',h1.top R',hg,q _ w' R' F' (.int _)⟩
 ·rw [hb] at q;exact q.elim
end
end S2
namespace S2
open PySem PySem.Spec PyProof.Rows L2
noncomputable def zjN(g:Str->Str->Option Bool)(C:Str):D->Option D
 | .exc c=>(g c C).map .bl
 | _=>none
noncomputable def zrC(cl:Cf)(C:Str):Value:=if C = "ValueError" then .type "ValueError" else .ref (cl C)
section
variable{X:Cx}{cl:Cf}{E:St->XK}{own:Bool}{e:Expr}{f fe:Fe}{pos pos':Pos}
def Shd.excI{w:Wd}{v:V}{c:Str}(h:Shd cl w v (.exc c)):∃a ob,v=.ref a/\w.H a=some (.frz ob (.own a))/\ob.cls=.ref (cl c):=by
 cases h with
 | exc h1 _ h2=>exact ⟨_,_,rfl,h1,h2⟩
theorem TopV.excI{w:Wd}{v:V}{c:Str}(h:TopV cl w v (.exc c)):∃a ob,v=.ref a/\w.H a=some (.frz ob (.own a))/\ob.cls=.ref (cl c):=by
 cases h with
 | sh h=>exact h.excI
 | ow _ t=>cases t
def zin:bootBuiltins "ValueError" = some (.type "ValueError"):=by decide +kernel
def zmv{g:Str->Str->Option Bool}{C:Str}{vC:V}{p p2:Pos}(hg:Gl X "isinstance")(hm:X.mg "isinstance" = none)(hC:PE X (.Name C p2) (tC vC))(hv:∀u,zaV vC u->u=zrC cl C)
  (hk:∀c b,g c C=some b->PySem.W.ExcCls X.K (cl c)/\PySem.W.kitOne X.K (.ref (cl c)) (zrC cl C)=some b) (hp:zbD e=true) (he:PE X e (tH cl E f)) :
  PE X (.Call (.Name "isinstance" p) [e,.Name C p2] [] pos) (tE cl E (eUn (zjN g C) f)):=by
 refine PE.imp (zcW zim hg hm zgf (zbH he (zbH hC zdo rfl) (za6 hp)) (he:=za6 hp) (hpl:=rfl)) ?_;rintro σ H Q ⟨B,w,ρ,S,rfl,R,q⟩;refine ⟨B,w,ρ,S,rfl,R,?_⟩;unfold eUn at q
 cases hf:f ρ S with
 | bad=>rwa [hf] at q
 | exc c S1=>rwa [hf] at q
 | ok d S1 =>
  rw [hf] at q;intro v w1 R1 F1 h1;dsimp only [Out.bind] at q
  cases d with
  | exc c =>
   dsimp only [zjN] at q
   cases hb:g c C with
   | none=>rw [hb] at q;exact q.elim
   | some b =>
    rw [hb] at q;obtain ⟨k1,k2⟩:=hk c b hb;obtain ⟨a,ob,rfl,h2,h3⟩:=(h1.top R1).excI;exact ⟨a,_,ob,vC,_,b,rfl,h2,h3,k1,hv,k2,q _ w1 R1 F1 (.bl _)⟩
  | _=>exact q.elim
noncomputable def OpN(X:Cx)(cl:Cf)(op:Value->Value->Sem Value)(g:D->D->Option D):Prop:=OpR X op fun x y H Q=>∃w d e r,w.H=H/\TopV cl w x d/\TopV cl w y e/\g d e=some r/\∀p o w',Grow w w'->w'.H p=none->Top cl w' o r->Q (.ref p) (upd w'.H p o)
def zwL{a b:Expr}{h:Fe}{gg:D->D->Option D}{r2:R2}(hr:∀x y H Q,(∃w d e r,w.H=H/\TopV cl w x d/\TopV cl w y e/\gg d e=some r/\∀p o w',Grow w w'->w'.H p=none->Top cl w' o r->Q (.ref p) (upd w'.H p o))->r2 x y H Q)(σ:St)(H:Hp)(Q:VK)(q:tN cl E (zai gg f h) σ H Q):tOp r2 (tH cl E f) (tH cl E h) σ H Q:=by
 obtain ⟨B,w,ρ,S,rfl,R,q⟩:=q;refine ⟨B,w,ρ,S,rfl,R,?_⟩;unfold zai at q
 cases hf:f ρ S with
 | bad=>rwa [hf] at q
 | exc c S1=>rwa [hf] at q
 | ok d S1 =>
  rw [hf] at q;intro v w1 R1 F1 h1;refine ⟨B,w1,ρ,S1,rfl,R1,?_⟩;dsimp only [Out.bind] at q
  cases hh:h ρ S1 with
  | bad=>rwa [hh] at q
  | exc c S2=>rw [hh] at q;exact fun w2 R2 F2=>q w2 R2 (F1.trans F2)
  | ok e S2 =>
   rw [hh] at q;intro y w2 R2 F2 h2;dsimp only at q
   cases hg:gg d e with
   | none=>rw [hg] at q;exact q.elim
   | some r =>
    rw [hg] at q;exact hr _ _ _ _ ⟨w2,d,e,r,rfl,(h1.up F2).top R2,h2.top R2,hg,fun p o w' gr hp t=>q p o w' (R2.grow gr) (F1.trans (F2.trans gr.fut)) hp t⟩
noncomputable def zh3:D->D->Option D
 | .lst a,.int j=>if decide (0<=j/\j<=1000/\a.length<=1000) then some (.lst (List.replicate j.toNat a).flatten) else none
 | _,_=>none
def zn7:OpN X cl (binaryOp .Mult) zh3:=by
 intro pins s σ H x y v u Q I rx ry h;obtain ⟨w,d,e,r,rfl,hx,hy,hg,q⟩:=h;unfold zh3 at hg;split at hg
 ·rename_i a j;split at hg
  ·rename_i hz;cases hg;have hz':=yak hz;obtain ⟨p,xs,rfl,ep,rs⟩:=hx.lstI;obtain rfl:=hy.intI;have hl:=rs.length;refine zmE pins s σ w.H _ _ v u Q I rx ry ⟨p,j,xs,rfl,rfl,ep,by omega,by omega,?_,fun l hl=>q l _ w (Grow.refl _) hl (.lst (rs.flat _))⟩;refine yar (yce (show xs.length<=1000 by omega) (show j.toNat<=1000 by omega)) (by decide)
  ·cases hg
 ·cases hg
def znz{a b:Expr}{h:Fe}(ha:PE X a (tH cl E f))(hb:PE X b (tH cl E h)):PE X (.BinOp a .Mult b pos) (tN cl E (zai zh3 f h)) :=
 PE.imp (zqq zn7 ha hb) (zwL (a:=a) (b:=b) fun _ _ _ _ z=>z)
noncomputable def zox:Expr->Bool | .List _ _=>true | _=>false
noncomputable def zri:Operator->Bool | .Mult=>true | _=>false
noncomputable def ziN(i:Nat)(fi fe:Fe):Fs:=fun ρ S=>match ρ[i]? with
 | some (some (true,.lst l))=>(match fe ρ S with
  | .ok d S1=>(match fi ρ S1 with
   | .ok (.int n) S2=>(match ixN l.length n with | some k=>.nx (ρ.set i (some (true,.lst (l.set k d)))) S2 | none=>.bad)
   | .ok _ _=>.bad
   | .exc c S2=>.ex c ρ S2 | .bad=>.bad)
  | .exc c S1=>.ex c ρ S1 | .bad=>.bad)
 | _=>.bad
def zne{i:Nat}{x:Str}{ix:Expr}{fi:Fe}{p2 p3:Pos}(hN:X.N[i]?=some x)(hv:Vis X.env.scope x)(hd:(x == ("__debug__":Str))=false)(hcd:(x == ("__classdict__":Str))=false)
  (he:PE X e (tE cl E fe)) (hi:PE X ix (tH cl E fi)) (sw1:swapsWithSole [.Subscript (.Name x p2) ix p3] e pos.line X.env=pure false) (sw2:swappedStores [.Subscript (.Name x p2) ix p3] e X.env=pure none)
  (ha:∀v,assign (.Subscript (.Name x p2) ix p3) X.env v=(do
   let ov ← holding [v] (eval (.Name x p2) X.env)
   let iv ← holding [v,ov] (eval ix X.env)
   standAt p3
   holding [v,ov,iv] (setItem ov iv v)
   release [v,ov,iv] [])):PS X (.Assign [.Subscript (.Name x p2) ix p3] e pos) (tS cl E own (ziN i fi fe)):=by
 refine PS.imp (zhn he (zjd (za4 hN hv hd hcd) hi zkT ha) sw1 sw2 rfl) ?_;rintro De σ H ⟨B,w,ρ,S,rfl,R,q⟩;refine ⟨B,w,ρ,S,rfl,R,?_⟩;unfold ziN at q;split at q
 ·rename_i l hl
  cases hf:fe ρ S with
  | bad=>rwa [hf] at q
  | exc c S1=>rw [hf] at q;exact fun w' R' F'=>q σ w' R' F'
  | ok d S1 =>
   rw [hf] at q;intro v w1 R1 F1 h1;dsimp only at q;obtain ⟨a,xs,e1,h1',h2',t'⟩:=R1.list hl;refine ⟨_,e1,B,w1,ρ,S1,rfl,R1,?_⟩
   cases hfi:fi ρ S1 with
   | bad=>rwa [hfi] at q
   | exc c S2=>rw [hfi] at q;exact fun w' R' F'=>q σ w' R' (F1.trans F')
   | ok di S2 =>
    rw [hfi] at q;intro vi w2 R2 F2 h2
    cases di with
    | int n =>
     dsimp only at q;split at q
     ·rename_i k hk;obtain rfl:=(h2.top R2).intI;obtain ⟨a',xs',e1',g1,g2,t2⟩:=R2.list hl;rw [e1] at e1';cases e1';refine ⟨a,xs',n,k,rfl,rfl,g2,by rw [t2.length];exact hk,?_⟩;exact q σ (w2.mut a (.lst (xs'.set k v))) (R2.mut (d0:=.non) e1 g1 (.lst (t2.set (h1.up F2) k))) (F1.trans (F2.trans (zcb (by rw [g1];exact yaE _))))
     ·exact q.elim
    | _=>exact q.elim
 ·exact q.elim
end
end S2
namespace PySem.F
end PySem.F
namespace PySem.F
end PySem.F
namespace L2
open PySem PySem.Spec PyProof.Rows
section
variable{prog:Program}{w:World}{A:Around}{E:Z5}{s:Shared}
end
end L2
namespace L2
open PySem PySem.Spec PyProof.Rows
section
variable{X:Cx}
end
end L2
namespace PySem.F
end PySem.F
namespace L2
open PySem PySem.Spec PyProof.Rows
section
variable{prog:Program}{w:World}{A:Around}{E:Z5}{s:Shared}
end
end L2
namespace L2
open PySem PySem.Spec PyProof.Rows
section
variable{X:Cx}
end
end L2
namespace S2
open PySem PySem.Spec PyProof.Rows L2
section
variable{X:Cx}{cl:Cf}{E:St->XK}{e tg:Expr}{f:Fe}{pos pos':Pos}
end
end S2
namespace S2
open PySem PySem.Spec PyProof.Rows L2
section
variable{X:Cx}{cl:Cf}{E:St->XK}{e:Expr}{f:Fe}{pos:Pos}
end
end S2
namespace S2
open PySem PySem.Spec PyProof.Rows L2
noncomputable def zhY(f:Str)(o:Bool)(d:D):List (Str×Bool×D)->List (Str×Bool×D)
 | []=>[(f,o,d)]
 | (g,x)::r=>if g=f then (g,o,d)::r else (g,x)::zhY f o d r
noncomputable def Ob.put(ob:Ob)(f:Str)(o:Bool)(d:D):Ob:=⟨ob.cls,zhY f o d ob.fs⟩
section
variable{cl:Cf}{w:Wd}{n:Nat}
def zcp.len{fs:List (Str×V)}{gs:List (Str×Bool×D)}(h:zcp cl w n fs gs):fs.length=gs.length:=Paired.length h
def zcp.look{fs:List (Str×V)}{gs:List (Str×Bool×D)}(h:zcp cl w n fs gs){f:Str}{o:Bool}{d:D}(e:gs.lookup f=some (o,d)):∃v,fs.lookup f=some v/\zg0 cl w (.fld n f) o v d:=by
 induction h with
 | nil=>cases e
 | @cons p q l1 l2 h t ih =>
  obtain ⟨h1,h2⟩:=h;obtain ⟨g,v⟩:=p;obtain ⟨g',o',d'⟩:=q;have h1':g=g':=h1;subst h1';rw [yax] at e ⊢
  cases hb:f == g with
  | true =>
   rw [hb] at e;cases e;have:=eq_of_beq hb;subst this;exact ⟨v,rfl,h2⟩
  | false =>
   rw [hb] at e;exact ih e
def zcp.miss{fs:List (Str×V)}{gs:List (Str×Bool×D)}(h:zcp cl w n fs gs){f:Str}(e:gs.lookup f=none):fs.lookup f=none:=by
 induction h with
 | nil=>rfl
 | @cons p q l1 l2 h t ih =>
  obtain ⟨h1,h2⟩:=h;obtain ⟨g,v⟩:=p;obtain ⟨g',o',d'⟩:=q;have h1':g=g':=h1;subst h1';rw [yax] at e ⊢
  cases hb:f == g with
  | true=>rw [hb] at e;cases e
  | false=>rw [hb] at e;exact ih e
def zcp.put{fs:List (Str×V)}{gs:List (Str×Bool×D)}{f:Str}{o:Bool}{d:D}{y:V}(h:zcp cl w n fs gs)(hy:zg0 cl w (.fld n f) o y d):zcp cl w n (zcx f y fs) (zhY f o d gs):=by
 induction h with
 | nil=>exact .cons ⟨rfl,hy⟩ .nil
 | @cons p q l1 l2 h t ih =>
  obtain ⟨h1,h2⟩:=h;obtain ⟨g,v⟩:=p;obtain ⟨g',o',d'⟩:=q;have h1':g=g':=h1;subst h1';show zcp cl w n (if g=f then (g,y)::l1 else (g,v)::zcx f y l1) (if g=f then (g,o,d)::l2 else (g,o',d')::zhY f o d l2)
  by_cases hg:g=f
  ·subst hg;rw [if_pos rfl,if_pos rfl];exact .cons ⟨rfl,hy⟩ t
  ·rw [if_neg hg,if_neg hg];exact .cons ⟨rfl,h2⟩ ih
def zcp.keepBut{w':Wd}(f:Fut w w'){x:Str}(k:∀a o g,g≠x->w.H a=some o->w.ow a=some (.fld n g)->w'.H a=some o/\w'.ow a=some (.fld n g)){fs:List (Str×V)}{gs:List (Str×Bool×D)}(h:zcp cl w n fs gs)(hn:∀q∈gs,q.1=x->q.2.1=false):zcp cl w' n fs gs:=by
 induction h with
 | nil=>exact .nil
 | @cons p q l1 l2 h t ih =>
  obtain ⟨h1,h2⟩:=h;refine .cons ⟨h1,?_⟩ (ih fun q hq=>hn q (yaA _ hq))
  by_cases hx:q.1=x
  ·have ho:=hn q yaB hx;rw [ho] at h2 ⊢
   rcases h2 with ⟨_,h2⟩ | ⟨e,_⟩
   ·exact .inl ⟨rfl,Shd.up f h2⟩
   ·cases e
  ·exact h2.keep f fun a o ha hr=>k a o q.1 hx ha hr
def zcp.keepF{w':Wd}(f:Fut w w')(k:∀a o g,w.H a=some o->w.ow a=some (.fld n g)->w'.H a=some o/\w'.ow a=some (.fld n g)){fs:List (Str×V)}{gs:List (Str×Bool×D)}(h:zcp cl w n fs gs):zcp cl w' n fs gs:=by
 induction h with
 | nil=>exact .nil
 | @cons p q l1 l2 h t ih=>exact .cons ⟨h.1,h.2.keep f fun a o ha hr=>k a o q.1 ha hr⟩ ih
variable{B:Base}{σ:St}{ρ:Env}{S:Sto}
def World'.atObj(W:World' cl B w S){ob:Ob}(h:S[n]?=some ob){a:Addr}(e:w.mu[n]?=some a):zrR cl w n a ob:=by
 obtain ⟨a',e',x⟩:=W.obj n ob h;rw [e] at e';cases e';exact x
def zgM{S:Sto}{n m:Nat}{ob ob':Ob}(h:(S.set n ob)[m]?=some ob'):(m=n/\ob'=ob)\/(m≠n/\S[m]?=some ob'):=by
 by_cases e:n=m
 ·subst e
  have hlt:n<S.length:=by
   have:=(yap.mp h).1;rwa [yaz] at this
  rw [yaw hlt] at h;cases h;exact .inl ⟨rfl,rfl⟩
 ·rw [yaG e] at h;exact .inr ⟨fun z=>e z.symm,h⟩
def Rel.setf{a dx:Addr}{ob:Ob}{fs:List (Str×V)}{f:Str}{y:V}{d:D}(R:Rel cl B σ w ρ S)(hn:S[n]?=some ob)(hmu:w.mu[n]?=some a)(how:w.ow a=some (.obj n))(hH:w.H a=some (.ins (cl ob.cls) dx fs))(hF:zcp cl w n fs ob.fs)(hy:Shd cl w y d) :
  Rel cl B σ (w.mut a (.ins (cl ob.cls) dx (zcx f y fs))) ρ (S.set n (ob.put f false d))/\Fut w (w.mut a (.ins (cl ob.cls) dx (zcx f y fs))):=by
 have ff:=zcb (w:=w) (p:=a) (o:=.ins (cl ob.cls) dx (zcx f y fs)) (by rw [how];exact yaE _)
 have kp:∀b u,w.H b=some u->w.ow b≠some (.obj n)->(w.mut a (.ins (cl ob.cls) dx (zcx f y fs))).H b=some u/\(w.mut a (.ins (cl ob.cls) dx (zcx f y fs))).ow b=w.ow b:=fun b u hb hne=>⟨by
  show upd w.H a _ b=_
  rw [zaf (fun z=>hne (by rw [z];exact how))];exact hb,rfl⟩
 have hB:B.Fr a=none:=(R.wd.own a _ how).elim (fun z=>by cases z) fun z=>z
 refine ⟨⟨⟨fun b u h=>?_,R.wd.own,by rw [yaz];exact R.wd.len,fun m ob' h=>?_⟩,R.len,fun i o e h=>?_⟩,ff⟩
 ·refine ⟨?_,(R.wd.fr b u h).2⟩;show upd w.H a _ b=_;rw [zaf (fun z=>by rw [z,hB] at h;cases h)];exact (R.wd.fr b u h).1
 ·rcases zgM h with ⟨rfl,rfl⟩ | ⟨hne,h⟩
  ·refine ⟨a,hmu,how,dx,_,zay,?_⟩;exact zcp.put (hF.keepF ff fun b u g hb hg=>⟨(kp b u hb (by rw [hg];exact fun z=>by cases z)).1,hg⟩) (.inl ⟨rfl,hy.up ff⟩)
  ·obtain ⟨b,e,x⟩:=R.wd.obj m ob' h;exact ⟨b,e,x.keep ff fun b u hb hm=>kp b u hb fun z=>by rw [z] at hm;exact hne hm.symm⟩
 ·obtain ⟨v,e1,x⟩:=R.slots i o e h;exact ⟨v,e1,x.keep ff fun b u hb hr=>⟨(kp b u hb (by rw [hr];exact fun z=>by cases z)).1,hr⟩⟩
noncomputable def Wd.addF(w:Wd)(p:Addr)(o:HO)(n:Nat)(f:Str):Wd:=⟨upd w.H p o,fun b=>if b=p then some (.fld n f) else w.ow b,w.mu⟩
def Rel.newf{a dx p:Addr}{ob:Ob}{fs:List (Str×V)}{f:Str}(R:Rel cl B σ w ρ S)(hn:S[n]?=some ob)(hmu:w.mu[n]?=some a)(how:w.ow a=some (.obj n))(hH:w.H a=some (.ins (cl ob.cls) dx fs))(hF:zcp cl w n fs ob.fs)(hp:w.H p=none) :
  Rel cl B σ ((w.addF p (.ext (DN cl.P cl.wo p [])) n f).mut a (.ins (cl ob.cls) dx (zcx f (.ref p) fs))) ρ (S.set n (ob.put f true (.dic [])))/\Fut w ((w.addF p (.ext (DN cl.P cl.wo p [])) n f).mut a (.ins (cl ob.cls) dx (zcx f (.ref p) fs))):=by
 have hap:a≠p:=zap hH hp
 have kp:∀b u,w.H b=some u->w.ow b≠some (.obj n)->((w.addF p (.ext (DN cl.P cl.wo p [])) n f).mut a (.ins (cl ob.cls) dx (zcx f (.ref p) fs))).H b=some u/\((w.addF p (.ext (DN cl.P cl.wo p [])) n f).mut a (.ins (cl ob.cls) dx (zcx f (.ref p) fs))).ow b=w.ow b:=fun b u hb hne=>by
  have hbp:b≠p:=zap hb hp;refine ⟨?_,?_⟩
  ·show upd (upd w.H p _) a _ b=_;rw [zaf (fun z=>hne (by rw [z];exact how)),zaf hbp];exact hb
  ·show (if b=p then _ else w.ow b)=_;rw [if_neg hbp]
 have ff:Fut w ((w.addF p (.ext (DN cl.P cl.wo p [])) n f).mut a (.ins (cl ob.cls) dx (zcx f (.ref p) fs))):=⟨fun b u hb hk=>by
  have:=kp b u hb (by rw [hk];exact fun z=>by cases z)
  exact ⟨this.1,this.2.trans hk⟩,fun _ _ h=>h⟩
 have hB:B.Fr a=none:=(R.wd.own a _ how).elim (fun z=>by cases z) fun z=>z
 have hBp:B.Fr p=none:=by
  cases z:B.Fr p with
  | none=>rfl
  | some u=>have:=(R.wd.fr p u z).1;rw [hp] at this;cases this
 have Hp:((w.addF p (.ext (DN cl.P cl.wo p [])) n f).mut a (.ins (cl ob.cls) dx (zcx f (.ref p) fs))).H p=some (.ext (DN cl.P cl.wo p [])):=by
  show upd (upd w.H p _) a _ p=_;rw [zaf hap.symm,zay]
 have owp:((w.addF p (.ext (DN cl.P cl.wo p [])) n f).mut a (.ins (cl ob.cls) dx (zcx f (.ref p) fs))).ow p=some (.fld n f):=if_pos rfl
 have owa:((w.addF p (.ext (DN cl.P cl.wo p [])) n f).mut a (.ins (cl ob.cls) dx (zcx f (.ref p) fs))).ow a=some (.obj n):=by
  show (if a=p then _ else w.ow a)=_;rw [if_neg hap];exact how
 refine ⟨⟨⟨fun b u h=>?_,fun b r h=>?_,by rw [yaz];exact R.wd.len,fun m ob' h=>?_⟩,R.len,fun i o e h=>?_⟩,ff⟩
 ·have:=kp b u (R.wd.fr b u h).1 fun z=>by
   rcases R.wd.own b _ z with y | y
   ·cases y
   ·rw [h] at y;cases y
  exact ⟨this.1,this.2.trans (R.wd.fr b u h).2⟩
 ·have h':(if b=p then some (Root.fld n f) else w.ow b)=some r:=h;split at h'
  ·rename_i z;rw [z];exact .inr hBp
  ·exact R.wd.own b r h'
 ·rcases zgM h with ⟨rfl,rfl⟩ | ⟨hne,h⟩
  ·refine ⟨a,hmu,owa,dx,_,zay,?_⟩;refine zcp.put (hF.keepF ff fun b u g hb hg=>?_) (.inr ⟨rfl,p,[],[],[],rfl,owp,Hp,.nil,.nil,rfl⟩);have:=kp b u hb (by rw [hg];exact fun z=>by cases z);exact ⟨this.1,this.2.trans hg⟩
  ·obtain ⟨b,e,x⟩:=R.wd.obj m ob' h;exact ⟨b,e,x.keep ff fun b u hb hm=>kp b u hb fun z=>by rw [z] at hm;exact hne hm.symm⟩
 ·obtain ⟨v,e1,x⟩:=R.slots i o e h
  exact ⟨v,e1,x.keep ff fun b u hb hr=>by
   have:=kp b u hb (by rw [hr];exact fun z=>by cases z)
   exact ⟨this.1,this.2.trans hr⟩⟩
noncomputable def zjr(ob:Ob):Bool:=decide (ob.fs.map (·.1)).Nodup
def zcp.dic{w':Wd}{a:Addr}{f:Str}{d:D}(ff:Fut w w')(k:∀b o g,g≠f->w.H b=some o->w.ow b=some (.fld n g)->w'.H b=some o/\w'.ow b=some (.fld n g))(hy:zg0 cl w' (.fld n f) true (.ref a) d):∀{fs:List (Str×V)} {gs:List (Str×Bool×D)},zcp cl w n fs gs->(gs.map (·.1)).Nodup->fs.lookup f=some (.ref a)->zcp cl w' n fs (zhY f true d gs):=by
 intro fs gs h
 induction h with
 | nil=>intro _ e;cases e
 | @cons p q l1 l2 h t ih =>
  intro nd e;obtain ⟨h1,h2⟩:=h;obtain ⟨g,v⟩:=p;obtain ⟨g',o',d'⟩:=q;have h1':g=g':=h1;subst h1';rw [yat,ybj] at nd;show zcp cl w' n ((g,v)::l1) (if g=f then (g,true,d)::l2 else (g,o',d')::zhY f true d l2);rw [yax] at e
  by_cases hg:g=f
  ·subst hg;rw [if_pos rfl];simp only [ybe] at e;cases e;refine .cons ⟨rfl,hy⟩ ?_;have t':zcp cl w n l1 l2:=t;exact t'.keepBut ff k fun q hq hx=>absurd (yaq.mpr ⟨q,hq,hx⟩) nd.1
  ·rw [if_neg hg];have hb:(f == g)=false:=yaY.mpr fun z=>hg z.symm
   rw [hb] at e;exact .cons ⟨rfl,h2.keep ff fun b o hb hr=>k b o g hg hb hr⟩ (ih nd.2 e)
def Rel.setd{a dx c:Addr}{ob:Ob}{fs:List (Str×V)}{f:Str}{xs:List (NK×Addr×Value)}{m:List (NK×V)}{ds:List (D×D)}{k:NK}{kb:Addr}{u:Value}{v:V}{d:D}(R:Rel cl B σ w ρ S)(hn:S[n]?=some ob)(hmu:w.mu[n]?=some a)(how:w.ow a=some (.obj n))(hH:w.H a=some (.ins (cl ob.cls) dx fs))(hF:zcp cl w n fs ob.fs)
  (hl:fs.lookup f=some (.ref c)) (hc:w.ow c=some (.fld n f)) (hcH:w.H c=some (.ext (DN cl.P cl.wo c xs))) (he:zhP w xs m) (hs:ShdN cl w m ds) (hk:zkA w kb k) (rv:zaV v u) (hv:Shd cl w v d) (nd:zjr ob=true) :
  Rel cl B σ (w.mut c (.ext (DN cl.P cl.wo c (xs++[(k,kb,u)])))) ρ (S.set n (ob.put f true (.dic (ds++[(nkD k,d)]))))/\Fut w (w.mut c (.ext (DN cl.P cl.wo c (xs++[(k,kb,u)])))):=by
 have ff:=zcb (w:=w) (p:=c) (o:=.ext (DN cl.P cl.wo c (xs++[(k,kb,u)]))) (by rw [hc];exact yaE _)
 have kp:∀b o,w.H b=some o->w.ow b≠some (.fld n f)->(w.mut c (.ext (DN cl.P cl.wo c (xs++[(k,kb,u)])))).H b=some o/\(w.mut c (.ext (DN cl.P cl.wo c (xs++[(k,kb,u)])))).ow b=w.ow b:=fun b o hb hne=>⟨by
  show upd w.H c _ b=_
  rw [zaf (fun z=>hne (by rw [z];exact hc))];exact hb,rfl⟩
 have hB:B.Fr c=none:=(R.wd.own c _ hc).elim (fun z=>by cases z) fun z=>z
 refine ⟨⟨⟨fun b o h=>?_,R.wd.own,by rw [yaz];exact R.wd.len,fun m' ob' h=>?_⟩,R.len,fun i o e h=>?_⟩,ff⟩
 ·refine ⟨?_,(R.wd.fr b o h).2⟩;show upd w.H c _ b=_;rw [zaf (fun z=>by rw [z,hB] at h;cases h)];exact (R.wd.fr b o h).1
 ·rcases zgM h with ⟨rfl,rfl⟩ | ⟨hne,h⟩
  ·refine ⟨a,hmu,how,dx,fs,?_,?_⟩
   ·exact (kp a _ hH (by rw [how];exact fun z=>by cases z)).1
   ·refine zcp.dic (a:=c) ff (fun b o g hg hb hr=>?_) (.inr ⟨rfl,c,_,m++[(k,v)],ds++[(nkD k,d)],rfl,hc,zay,?_,?_,rfl⟩) hF (yak nd) hl
    ·exact ⟨(kp b o hb (by rw [hr];exact fun z=>hg (by cases z;rfl))).1,hr⟩
    ·exact (he.up ff).snoc ⟨rfl,hk.up ff,rv⟩
    ·exact (hs.up ff).snoc (hv.up ff)
  ·obtain ⟨b,e,x⟩:=R.wd.obj m' ob' h;exact ⟨b,e,x.keep ff fun b o hb hm=>kp b o hb fun z=>by rw [z] at hm;exact hne hm.symm⟩
 ·obtain ⟨v',e1,x⟩:=R.slots i o e h;exact ⟨v',e1,x.keep ff fun b o hb hr=>⟨(kp b o hb (by rw [hr];exact fun z=>by cases z)).1,hr⟩⟩
noncomputable def Wd.addO(w:Wd)(x dx C:Addr)(n:Nat):Wd:=⟨upd (upd w.H dx (.own x)) x (.ins C dx []),fun b=>if b=x then some (.obj n) else if b=dx then none else w.ow b,w.mu++[x]⟩
def Rel.made{x dx:Addr}{c:Str}(R:Rel cl B σ w ρ S)(hx:w.H x=none)(hdx:w.H dx=none)(ne:dx≠x):Rel cl B σ (w.addO x dx (cl c) S.length) ρ (S++[⟨c,[]⟩])/\Fut w (w.addO x dx (cl c) S.length):=by
 have kp:∀b o,w.H b=some o->(w.addO x dx (cl c) S.length).H b=some o/\(w.addO x dx (cl c) S.length).ow b=w.ow b:=fun b o hb=>by
  have n1:b≠x:=zap hb hx;have n2:b≠dx:=zap hb hdx;refine ⟨?_,?_⟩
  ·show upd (upd w.H dx _) x _ b=_;rw [zaf n1,zaf n2];exact hb
  ·show (if b=x then _ else if b=dx then _ else w.ow b)=_;rw [if_neg n1,if_neg n2]
 have ff:Fut w (w.addO x dx (cl c) S.length):=⟨fun b o hb hk=>⟨(kp b o hb).1,(kp b o hb).2.trans hk⟩,fun n a h=>by
  show (w.mu++[x])[n]?=some a
  rw [yaW (yap.mp h).1];exact h⟩
 have hBx:B.Fr x=none:=by
  cases z:B.Fr x with
  | none=>rfl
  | some u=>have:=(R.wd.fr x u z).1;rw [hx] at this;cases this
 refine ⟨⟨⟨fun b o h=>?_,fun b r h=>?_,by show (w.mu++[x]).length=_;rw [yal,yal,R.wd.len];rfl,fun m ob h=>?_⟩,R.len,fun i o e h=>?_⟩,ff⟩
 ·have:=kp b o (R.wd.fr b o h).1;exact ⟨this.1,this.2.trans (R.wd.fr b o h).2⟩
 ·have h':(if b=x then some (Root.obj S.length) else if b=dx then none else w.ow b)=some r:=h;split at h'
  ·rename_i z;rw [z];exact .inr hBx
  ·split at h'
   ·cases h'
   ·exact R.wd.own b r h'
 ·by_cases hm:m<S.length
  ·rw [yaW hm] at h;obtain ⟨b,e,y⟩:=R.wd.obj m ob h;exact ⟨b,ff.mu _ _ e,y.keep ff fun b o hb _=>kp b o hb⟩
  ·have hm':m=S.length:=by
    have:=(yap.mp h).1;rw [yal,ya6] at this;omega
   subst hm';rw [yaJ (yah _),Nat.sub_self] at h;cases h;refine ⟨x,?_,if_pos rfl,dx,[],zay,.nil⟩;show (w.mu++[x])[S.length]?=some x;rw [yaJ (by rw [R.wd.len];exact yah _),R.wd.len,Nat.sub_self];rfl
 ·obtain ⟨v,e1,y⟩:=R.slots i o e h;exact ⟨v,e1,y.keep ff fun b o hb hr=>⟨(kp b o hb).1,(kp b o hb).2.trans hr⟩⟩
end
end S2
namespace S2
open PySem PySem.Spec PyProof.Rows L2
noncomputable def zlm:D->Option (Option Int) | .non=>some none | .int i=>some (some i) | _=>none
noncomputable def zcY:List D->Option (List (Option Int))
 | []=>some []
 | d::r=>(zlm d).bind fun o=>(zcY r).map (o::·)
noncomputable def zkw:D->Option NK
 | .tup [.int i,.tup l]=>(zcY l).map fun os=>(i,os)
 | _=>none
noncomputable def zcJ(k:NK):List (D×D)->Option D
 | []=>none
 | (q,d)::r=>if zkw q=some k then some d else zcJ k r
def zjl(o:Option Int):zlm (oDn o)=some o:=by cases o<;>rfl
theorem zes:∀l:List (Option Int),zcY (l.map oDn)=some l
 | []=>rfl
 | o::l=>by rw [yat];unfold zcY;rw [zjl,zes l];rfl
def zlu(k:NK):zkw (nkD k)=some k:=by
 show (zcY (k.2.map oDn)).map (fun os=>(k.1,os))=some k;rw [zes];rfl
section
variable{cl:Cf}{w:Wd}
theorem zjk:∀{xs:List V} {ds:List D} {os:Z4},Shds cl w xs ds->zcY ds=some os->xs=os.map oV
 | _,_,os,.nil,h=>by cases h;rfl
 | _,_,os,.cons (v:=v) (d:=d) (ds:=ds) r t,h=>by
  unfold zcY at h
  cases h1:zlm d with
  | none=>rw [h1] at h;cases h
  | some o =>
   rw [h1] at h
   cases h2:zcY ds with
   | none=>rw [h2] at h;cases h
   | some os' =>
    rw [h2] at h;cases h;rw [yat,<-zjk t h2]
    cases d<;>simp [zlm] at h1<;>subst h1<;>cases r<;>rfl
def zmK{v:V}{d:D}{k:NK}(h:Shd cl w v d)(hk:zkw d=some k):∃kb,v=.ref kb/\zkA w kb k:=by
 unfold zkw at hk;split at hk
 ·rename_i i l
  cases ho:zcY l with
  | none=>rw [ho] at hk;cases hk
  | some os =>
   rw [ho] at hk;cases hk
   cases h with
   | tup e o r =>
    cases r with
    | cons r1 t =>
     cases t with
     | cons r2 t =>
      cases t;cases r1
      cases r2 with
      | tup e2 o2 r2=>exact ⟨_,rfl,_,⟨e,o⟩,by rw [<-zjk r2 ho];exact e2,o2⟩
 ·cases hk
theorem zl2:∀{m:List (NK×V)} {ds:List (D×D)},ShdN cl w m ds->∀k:NK,(m.lookup k=none/\zcJ k ds=none)\/∃v d,m.lookup k=some v/\zcJ k ds=some d/\Shd cl w v d
 | _,_,.nil,k=>.inl ⟨rfl,rfl⟩
 | _,_,.cons (k:=k') (v:=v) (d:=d) r t,k=>by
  rw [yax];unfold zcJ;rw [zlu]
  by_cases e:k'=k
  ·subst e;rw [if_pos rfl,ybe];exact .inr ⟨v,d,rfl,rfl,r⟩
  ·rw [if_neg (fun z=>e (by cases z;rfl)),yaY.mpr (fun z=>e z.symm)];exact zl2 t k
theorem zmT:∀{m:List (NK×V)} {ds:List (D×D)},ShdN cl w m ds->m.length=ds.length
 | _,_,.nil=>rfl
 | _,_,.cons r t=>by rw [yag,yag,zmT t]
end
noncomputable def zpa(cn f:Str)(d:D)(S:Sto):Option D:=match d with
 | .ref n=>(match S[n]? with
  | some ob=>if ob.cls=cn then (match ob.fs.lookup f with | some (false,d)=>some d | _=>none) else none
  | none=>none)
 | _=>none
noncomputable def zoK(cn f:Str)(fe:Fe):Fe:=fun ρ S=>(fe ρ S).bind fun d S1=>match zpa cn f d S1 with | some r=>.ok r S1 | none=>.bad
noncomputable def zku(cl:Cf)(cn f:Str):Prop:=Cls cl.K (cl cn)/\zct cl.K (cl cn) f
noncomputable def zhF(cn f:Str)(d:D)(S:Sto):Option (Nat×Ob×List (D×D)):=match d with
 | .ref n=>(match S[n]? with
  | some ob=>if ob.cls=cn then (match ob.fs.lookup f with | some (true,.dic ds)=>some (n,ob,ds) | _=>none) else none
  | none=>none)
 | _=>none
section
variable{cl:Cf}{cn:Str}{X:Cx}{E:St->XK}{e:Expr}{fe:Fe}{f:Str}{pos:Pos}{B:Base}{σ:St}{w:Wd}{ρ:Env}{S:Sto}
def zgk{v:V}{n:Nat}{ob:Ob}(R:Rel cl B σ w ρ S)(hv:Shd cl w v (.ref n))(hn:S[n]?=some ob):∃a dx fs,v=.ref a/\w.mu[n]?=some a/\w.ow a=some (.obj n)/\w.H a=some (.ins (cl ob.cls) dx fs)/\zcp cl w n fs ob.fs:=by
 cases hv with
 | ref e =>
  obtain ⟨h1,dx,fs,h2,h3⟩:=R.wd.atObj hn e;exact ⟨_,dx,fs,rfl,e,h1,h2,h3⟩
def zrK{v:V}{d r:D}(hk:zku cl cn f)(R:Rel cl B σ w ρ S)(hv:Shd cl w v d)(hd:zpa cn f d S=some r):∃a C dx fs y,v=.ref a/\w.H a=some (.ins C dx fs)/\Cls cl.K C/\zct cl.K C f/\fs.lookup f=some y/\Shd cl w y r:=by
 unfold zpa at hd
 cases d with
 | ref n =>
  dsimp only at hd
  cases hS:S[n]? with
  | none=>rw [hS] at hd;cases hd
  | some ob =>
   rw [hS] at hd;dsimp only at hd;split at hd
   ·rename_i hfk;split at hd
    ·rename_i d hl;cases hd;obtain ⟨a,dx,fs,rfl,_,_,hH,hF⟩:=zgk R hv hS;obtain ⟨v,lv,fr⟩:=hF.look hl
     rcases fr with ⟨_,fr⟩ | ⟨z,_⟩
     ·exact ⟨a,_,dx,fs,v,rfl,hH,hfk ▸ hk.1,hfk ▸ hk.2,lv,fr⟩
     ·cases z
    ·cases hd
   ·cases hd
 | _=>cases hd
def zp3(hk:zku cl cn f)(kk:X.K=cl.K)(he:PE X e (tE cl E fe))(hb:attributeBase e f X.env (eval e X.env)=eval e X.env):PE X (.Attribute e f pos) (tE cl E (zoK cn f fe)):=by
 refine PE.imp (zfT he hb) ?_;rintro σ H Q ⟨B,w,ρ,S,rfl,R,q⟩;refine ⟨B,w,ρ,S,rfl,R,?_⟩;unfold zoK at q
 cases hf:fe ρ S with
 | bad=>rwa [hf] at q
 | exc c S1=>rwa [hf] at q
 | ok d S1 =>
  rw [hf] at q;intro v w1 R1 F1 h1;dsimp only [Out.bind] at q
  cases hd:zpa cn f d S1 with
  | none=>rw [hd] at q;exact q.elim
  | some r =>
   rw [hd] at q;obtain ⟨a,C,dx,fs,y,rfl,e1,e2,e3,e4,e5⟩:=zrK hk R1 h1 hd;rw [kk];exact ⟨a,C,dx,fs,y,rfl,e1,e2,e3,e4,q y w1 R1 F1 e5⟩
def zkm{v:V}{d:D}{n:Nat}{ob:Ob}{ds:List (D×D)}(hk:zku cl cn f)(R:Rel cl B σ w ρ S)(hv:Shd cl w v d)(hd:zhF cn f d S=some (n,ob,ds)) :
  ∃a dx fs c xs m,v=.ref a/\S[n]?=some ob/\w.mu[n]?=some a/\w.ow a=some (.obj n)/\w.H a=some (.ins (cl ob.cls) dx fs)/\zcp cl w n fs ob.fs/\Cls cl.K (cl ob.cls)/\zct cl.K (cl ob.cls) f/\fs.lookup f=some (.ref c)/\w.ow c=some (.fld n f)/\w.H c=some (.ext (DN cl.P cl.wo c xs))/\zhP w xs m/\ShdN cl w m ds:=by
 unfold zhF at hd
 cases d with
 | ref n' =>
  dsimp only at hd
  cases hS:S[n']? with
  | none=>rw [hS] at hd;cases hd
  | some ob' =>
   rw [hS] at hd;dsimp only at hd;split at hd
   ·rename_i hfk;split at hd
    ·rename_i ds' hl;cases hd;obtain ⟨a,dx,fs,rfl,hmu,how,hH,hF⟩:=zgk R hv hS;obtain ⟨v,lv,fr⟩:=hF.look hl
     rcases fr with ⟨z,_⟩ | ⟨_,c,xs,m,ds2,rfl,c1,c2,c3,c4,e⟩
     ·cases z
     ·cases e;exact ⟨a,dx,fs,c,xs,m,rfl,hS,hmu,how,hH,hF,hfk ▸ hk.1,hfk ▸ hk.2,lv,c1,c2,c3,c4⟩
    ·cases hd
   ·cases hd
 | _=>cases hd
end
end S2
namespace L2
open PySem PySem.Spec PyProof.Rows
section
variable{X:Cx}
end
end L2
namespace S2
open PySem PySem.Spec PyProof.Rows L2
noncomputable def zoJ(cn f:Str)(fa fo:Fe):Fe:=fun ρ S=>(fa ρ S).bind fun dk S1=>(fo ρ S1).bind fun d S2=>match zkw dk,zhF cn f d S2 with
 | some k,some (_,_,ds)=>.ok (.bl (zcJ k ds).isNone) S2
 | _,_=>.bad
noncomputable def zmL(ρ:Env)(i:Nat):Option NK:=match ρ[i]? with | some (some (false,dk))=>zkw dk | _=>none
noncomputable def zj4(cn f:Str)(fo:Fe)(i:Nat):Fe:=fun ρ S=>(fo ρ S).bind fun d S1=>match zmL ρ i,zhF cn f d S1 with
 | some k,some (_,_,ds)=>(match zcJ k ds with | some r=>.ok r S1 | none=>.bad)
 | _,_=>.bad
noncomputable def ziP(cn f:Str)(fo:Fe)(i:Nat)(fe:Fe):Fs:=fun ρ S=>match fe ρ S with
 | .bad=>.bad
 | .exc c S1=>.ex c ρ S1
 | .ok r S1=>(match fo ρ S1 with
  | .bad=>.bad
  | .exc c S2=>.ex c ρ S2
  | .ok d S2=>(match zmL ρ i,zhF cn f d S2 with
   | some k,some (n,ob,ds)=>if (zcJ k ds).isNone&&decide (ds.length<=1000000)&&zjr ob then .nx ρ (S2.set n (ob.put f true (.dic (ds++[(nkD k,r)])))) else .bad
   | _,_=>.bad))
noncomputable def ziR(cn f:Str)(fo fe:Fe):Fs:=fun ρ S=>match fe ρ S with
 | .bad=>.bad
 | .exc c S1=>.ex c ρ S1
 | .ok r S1=>(match fo ρ S1 with
  | .bad=>.bad
  | .exc c S2=>.ex c ρ S2
  | .ok (.ref n) S2=>(match S2[n]? with
   | some ob=>if decide (ob.cls=cn)&&decide (ob.fs.length<1000) then .nx ρ (S2.set n (ob.put f false r)) else .bad
   | none=>.bad)
  | .ok _ _=>.bad)
noncomputable def znC(cn f:Str)(i:Nat):Fs:=fun ρ S=>match ρ[i]? with
 | some (some (false,.ref n))=>(match S[n]? with
   | some ob=>if decide (ob.cls=cn)&&decide (ob.fs.length<1000) then .nx ρ (S.set n (ob.put f true (.dic []))) else .bad
   | none=>.bad)
 | _=>.bad
noncomputable def zc0(c m:Str)(d:D)(S:Sto):Bool:=match d with
 | .ref n=>(match S[n]? with | some ob=>decide (ob.cls=c)&&(ob.fs.lookup m).isNone | none=>false)
 | _=>false
noncomputable def zf9(c m:Str)(G:List D->Sto->Out D)(fo:Fe)(fs:List Fe):Fe:=fun ρ S=>(fo ρ S).bind fun d S1=>if zc0 c m d S1 then (zag fs ρ S1).bind fun ds S2=>G (d::ds) S2 else .bad
noncomputable def eMk(c:Str)(dds:List D)(G:List D->Sto->Out D)(fs:List Fe):Fe:=fun ρ S=>(zag fs ρ S).bind fun ds S1=>(G (.ref S1.length::(ds++dds)) (S1++[⟨c,[]⟩])).bind fun r S2=>match r with | .non=>.ok (.ref S1.length) S2 | _=>.bad
structure Same'(cl:Cf)(X:Cx):Prop where
 kk:X.K=cl.K
 pp:X.prog=cl.P
 ww:X.w=cl.wo
section
variable{cl:Cf}{cn:Str}{X:Cx}{E:St->XK}{a o e:Expr}{fa fo fe:Fe}{f:Str}{pos apos:Pos}{own:Bool}
def zqR(sm:Same' cl X)(hk:zku cl cn f)(σ:St)(H:Hp)(Q:VK)(q:tE cl E (zoJ cn f fa fo) σ H Q) :
  tOp (fun x y H Q=>∃kb a k xs m,x=.ref kb/\y=.ref a/\zgZ H kb k/\H a=some (.ext (DN X.prog X.w a xs))/\zml H xs m/\Q (.bl (m.lookup k).isNone) H) (tE cl E fa) (zuY X.K (tE cl E fo) f) σ H Q:=by
 obtain ⟨B,w,ρ,S,rfl,R,q⟩:=q;refine ⟨B,w,ρ,S,rfl,R,?_⟩;unfold zoJ at q
 cases hf:fa ρ S with
 | bad=>rwa [hf] at q
 | exc c S1=>rwa [hf] at q
 | ok dk S1 =>
  rw [hf] at q;intro v w1 R1 F1 h1;refine ⟨B,w1,ρ,S1,rfl,R1,?_⟩;dsimp only [Out.bind] at q
  cases hh:fo ρ S1 with
  | bad=>rwa [hh] at q
  | exc c S2=>rw [hh] at q;exact fun w2 R2 F2=>q w2 R2 (F1.trans F2)
  | ok d S2 =>
   rw [hh] at q;intro y w2 R2 F2 h2;dsimp only at q
   cases hn:zkw dk with
   | none=>rw [hn] at q;exact q.elim
   | some k =>
    cases hd:zhF cn f d S2 with
    | none=>rw [hn,hd] at q;exact q.elim
    | some t =>
     obtain ⟨n,ob,ds⟩:=t;rw [hn,hd] at q;dsimp only at q;obtain ⟨a,dx,fs,c,xs,m,rfl,_,_,_,hH,_,c1,c2,lv,_,hc,he,hs⟩:=zkm hk R2 h2 hd;obtain ⟨kb,rfl,ks⟩:=zmK (h1.up F2) hn;rw [sm.kk];refine ⟨a,_,dx,fs,_,rfl,hH,c1,c2,lv,kb,c,k,xs,m,rfl,rfl,ks.at,by rw [sm.pp,sm.ww];exact hc,he.ents,?_⟩
     have:(m.lookup k).isNone=(zcJ k ds).isNone:=by
      rcases zl2 hs k with ⟨e1,e2⟩ | ⟨_,_,e1,e2,_⟩<;>rw [e1,e2]<;>rfl
     rw [this];exact q _ w2 R2 (F1.trans F2) (.bl _)
def zp0(hu:X.A.units+16<cLine)(sm:Same' cl X)(hk:zku cl cn f)(ha:PE X a (tE cl E fa))(ho:PE X o (tE cl E fo))(hb:attributeBase o f X.env (eval o X.env)=eval o X.env)(hm:behindInMarks .NotIn (.Attribute o f apos)=false):PE X (.Compare a [.NotIn] [.Attribute o f apos] pos) (tE cl E (zoJ cn f fa fo)) :=
 PE.imp (zgD (zmF hu) ha (zfT ho hb) hm) (zqR sm hk)
def zpC(hu:X.A.units+16<cLine)(sm:Same' cl X)(hk:zku cl cn f)(ha:PE X a (tE cl E fa))(ho:PE X o (tE cl E fo))(hb:attributeBase o f X.env (eval o X.env)=eval o X.env)(hm:behindInMarks .NotIn (.Attribute o f apos)=false):PT X (.Compare a [.NotIn] [.Attribute o f apos] pos) (tTr cl E (zoJ cn f fa fo)) :=
 PT.imp (zgz (zmF hu) ha (zfT ho hb) hm) fun _ _ _ q=>zqR sm hk _ _ _ (zfB q)
def zjE{B:Base}{σ:St}{w:Wd}{ρ:Env}{S:Sto}{i:Nat}{k:NK}(R:Rel cl B σ w ρ S)(h:zmL ρ i=some k):∃kb,σ[i]?=some (some (.ref kb))/\zkA w kb k:=by
 unfold zmL at h;split at h
 ·rename_i dk hi;obtain ⟨v,e,r⟩:=R.slots i false dk hi;obtain ⟨kb,rfl,ks⟩:=zmK r h;exact ⟨kb,e,ks⟩
 ·cases h
def znB{i:Nat}{x:Str}{p:Pos}(hN:X.N[i]?=some x)(hv:Vis X.env.scope x)(hd:(x == ("__debug__":Str))=false)(hcd:(x == ("__classdict__":Str))=false)(hu:X.A.units+16<cLine)(sm:Same' cl X)(hk:zku cl cn f)(ho:PE X o (tE cl E fo))(hb:attributeBase o f X.env (eval o X.env)=eval o X.env)(hs:zfq (.Name x p)):PE X (.Subscript (.Attribute o f apos) (.Name x p) pos) (tE cl E (zj4 cn f fo i)):=by
 refine PE.imp (zqv (zre hu) (zfT ho hb) (za4 hN hv hd hcd) hs) ?_;rintro σ H Q ⟨B,w,ρ,S,rfl,R,q⟩;refine ⟨B,w,ρ,S,rfl,R,?_⟩;unfold zj4 at q
 cases hf:fo ρ S with
 | bad=>rwa [hf] at q
 | exc c S1=>rwa [hf] at q
 | ok d S1 =>
  rw [hf] at q;intro v w1 R1 F1 h1;dsimp only [Out.bind] at q
  cases hn:zmL ρ i with
  | none=>rw [hn] at q;exact q.elim
  | some k =>
   cases hd:zhF cn f d S1 with
   | none=>rw [hn,hd] at q;exact q.elim
   | some t =>
    obtain ⟨n,ob,ds⟩:=t;rw [hn,hd] at q;dsimp only at q;obtain ⟨a,dx,fs,c,xs,m,rfl,_,_,_,hH,_,c1,c2,lv,_,hc,he,hs⟩:=zkm hk R1 h1 hd;obtain ⟨kb,eσ,ks⟩:=zjE R1 hn
    cases hl:zcJ k ds with
    | none=>rw [hl] at q;exact q.elim
    | some r =>
     rw [hl] at q
     rcases zl2 hs k with ⟨_,e2⟩ | ⟨y,r',e1,e2,sh⟩
     ·rw [hl] at e2;cases e2
     ·rw [hl] at e2;cases e2;rw [sm.kk];exact ⟨a,_,dx,fs,_,rfl,hH,c1,c2,lv,_,eσ,c,kb,k,xs,m,y,rfl,rfl,ks.at,by rw [sm.pp,sm.ww];exact hc,he.ents,e1,q _ w1 R1 F1 sh⟩
def znj{i:Nat}{x:Str}{p p3:Pos}(hN:X.N[i]?=some x)(hv:Vis X.env.scope x)(hd:(x == ("__debug__":Str))=false)(hcd:(x == ("__classdict__":Str))=false)(hu:X.A.units+16<cLine)(sm:Same' cl X)(hk:zku cl cn f)(ho:PE X o (tE cl E fo))(hb:attributeBase o f X.env (eval o X.env)=eval o X.env)(he:PE X e (tE cl E fe))
  (sw1:swapsWithSole [.Subscript (.Attribute o f apos) (.Name x p) p3] e pos.line X.env=pure false) (sw2:swappedStores [.Subscript (.Attribute o f apos) (.Name x p) p3] e X.env=pure none)
  (ha:∀v,assign (.Subscript (.Attribute o f apos) (.Name x p) p3) X.env v=(do
   let ov ← holding [v] (eval (.Attribute o f apos) X.env)
   let iv ← holding [v,ov] (eval (.Name x p) X.env)
   standAt p3
   holding [v,ov,iv] (setItem ov iv v)
   release [v,ov,iv] [])):PS X (.Assign [.Subscript (.Attribute o f apos) (.Name x p) p3] e pos) (tS cl E own (ziP cn f fo i fe)):=by
 refine PS.imp (zhn he (zjd (zfT ho hb) (za4 hN hv hd hcd) (znu hu) ha) sw1 sw2 rfl) ?_;rintro De σ H ⟨B,w,ρ,S,rfl,R,q⟩;refine ⟨B,w,ρ,S,rfl,R,?_⟩;unfold ziP at q
 cases hf:fe ρ S with
 | bad=>rwa [hf] at q
 | exc c S1=>rw [hf] at q;exact fun w' R' F'=>q σ w' R' F'
 | ok r S1 =>
  rw [hf] at q;intro v w1 R1 F1 h1;dsimp only at q;refine ⟨B,w1,ρ,S1,rfl,R1,?_⟩
  cases hfo:fo ρ S1 with
  | bad=>rwa [hfo] at q
  | exc c S2=>rw [hfo] at q;exact fun w' R' F'=>q σ w' R' (F1.trans F')
  | ok d S2 =>
   rw [hfo] at q;intro y w2 R2 F2 h2;dsimp only at q
   cases hn:zmL ρ i with
   | none=>rw [hn] at q;exact q.elim
   | some k =>
    cases hd:zhF cn f d S2 with
    | none=>rw [hn,hd] at q;exact q.elim
    | some t =>
     obtain ⟨n,ob,ds⟩:=t;rw [hn,hd] at q;dsimp only at q;split at q
     ·rename_i hc0;rw [yab,yab] at hc0;obtain ⟨⟨z1,z2⟩,z3⟩:=hc0;obtain ⟨a,dx,fs,c,xs,m,rfl,hS,hmu,how,hH,hF,c1,c2,lv,oc,hc,he,hs⟩:=zkm hk R2 h2 hd;obtain ⟨kb,eσ,ks⟩:=zjE R2 hn
      have hno:m.lookup k=none:=by
       rcases zl2 hs k with ⟨e1,_⟩ | ⟨_,_,_,e2,_⟩
       ·exact e1
       ·rw [e2] at z1;cases z1
      rw [sm.kk];refine ⟨a,_,dx,fs,_,rfl,hH,c1,c2,lv,_,eσ,c,kb,k,xs,m,rfl,rfl,ks.at,by rw [sm.pp,sm.ww];exact hc,he.ents,hno,by rw [zmT hs];exact yak z2,fun u ru=>?_⟩;obtain ⟨R3,F3⟩:=R2.setd hS hmu how hH hF lv oc hc he hs ks ru (h1.up F2) z3;rw [sm.pp,sm.ww];exact q σ _ R3 (F1.trans (F2.trans F3))
     ·exact q.elim
def znl(sm:Same' cl X)(hk:zku cl cn f)(ho:PE X o (tE cl E fo))(he:PE X e (tE cl E fe))(hs:swapsWith e (some (.Attribute o f apos)) pos.line X.env=pure false):PS X (.Assign [.Attribute o f apos] e pos) (tS cl E own (ziR cn f fo fe)):=by
 refine PS.imp (zmz ho he hs) ?_;rintro De σ H ⟨B,w,ρ,S,rfl,R,q⟩;refine ⟨B,w,ρ,S,rfl,R,?_⟩;unfold ziR at q
 cases hf:fe ρ S with
 | bad=>rwa [hf] at q
 | exc c S1=>rw [hf] at q;exact fun w' R' F'=>q σ w' R' F'
 | ok r S1 =>
  rw [hf] at q;intro v w1 R1 F1 h1;dsimp only at q;refine ⟨B,w1,ρ,S1,rfl,R1,?_⟩
  cases hfo:fo ρ S1 with
  | bad=>rwa [hfo] at q
  | exc c S2=>rw [hfo] at q;exact fun w' R' F'=>q σ w' R' (F1.trans F')
  | ok d S2 =>
   rw [hfo] at q;intro y w2 R2 F2 h2
   cases d with
   | ref n =>
    dsimp only at q
    cases hS:S2[n]? with
    | none=>rw [hS] at q;exact q.elim
    | some ob =>
     rw [hS] at q;dsimp only at q;split at q
     ·rename_i hc0;rw [yab] at hc0;obtain ⟨a,dx,fs,rfl,hmu,how,hH,hF⟩:=zgk R2 h2 hS;rw [sm.kk];refine ⟨a,_,dx,fs,rfl,hH,yak hc0.1 ▸ hk.1,yak hc0.1 ▸ hk.2,by rw [hF.len];exact yak hc0.2,?_⟩;obtain ⟨R3,F3⟩:=R2.setf (f:=f) hS hmu how hH hF (h1.up F2);exact q σ _ R3 (F1.trans (F2.trans F3))
     ·exact q.elim
   | _=>exact q.elim
def znm{i:Nat}{x:Str}{p p2:Pos}(hN:X.N[i]?=some x)(hv:Vis X.env.scope x)(hd:(x == ("__debug__":Str))=false)(hcd:(x == ("__classdict__":Str))=false)(sm:Same' cl X)(hk:zku cl cn f)(hs:swapsWith (.Dict [] [] p) (some (.Attribute (.Name x p2) f apos)) pos.line X.env=pure false):PS X (.Assign [.Attribute (.Name x p2) f apos] (.Dict [] [] p) pos) (tS cl E own (znC cn f i)):=by
 refine PS.imp (zmz (za4 hN hv hd hcd) znZ hs) ?_;rintro De σ H ⟨B,w,ρ,S,rfl,R,q⟩;intro pd hpd;unfold znC at q;split at q
 ·rename_i n hi;obtain ⟨v,ev,rv⟩:=R.slots i false _ hi
  cases hS:S[n]? with
  | none=>rw [hS] at q;exact q.elim
  | some ob =>
   rw [hS] at q;dsimp only at q;split at q
   ·rename_i hc0;rw [yab] at hc0;obtain ⟨a,dx,fs,rfl,hmu,how,hH,hF⟩:=zgk R rv hS;rw [sm.kk];refine ⟨_,ev,a,_,dx,fs,rfl,?_,yak hc0.1 ▸ hk.1,yak hc0.1 ▸ hk.2,by rw [hF.len];exact yak hc0.2,?_⟩
    ·rw [zaf (zap hH hpd)];exact hH
    ·obtain ⟨R3,F3⟩:=R.newf (f:=f) hS hmu how hH hF hpd;rw [sm.pp,sm.ww];exact q σ _ R3 F3
   ·exact q.elim
 ·exact q.elim
end
noncomputable def zfC(C:Addr)(m:Str)(sp:Sp)(dvs:List V)(E:St->XK)(ta:TE)(t:TA):TE:=fun σ H Q=>ta σ H fun x H1=>∃a dx fs,x=.ref a/\H1 a=some (.ins C dx fs)/\fs.lookup m=none ∧
 t σ H1 fun vs H2=>sp (x::(vs++dvs)) H2 Q (E σ)
noncomputable def zmp(C:Addr)(sp:Sp)(dvs:List V)(E:St->XK)(t:TA):TE:=fun σ H Q=>t σ H fun vs H1=>∀x dx,H1 x=none->H1 dx=none->dx≠x →
 sp (.ref x::(vs++dvs)) (upd (upd H1 dx (.own x)) x (.ins C dx [])) (fun v H2=>v=.non/\Q (.ref x) H2) (E σ)
section
variable{X:Cx}{CX:CXT}{k:Nat}{f C:Addr}{fd:FuncData}{ps:List Str}{sp:Sp}{dvs:List V}{ds:List Value}{E:St->XK}{x m:Str}{p pos apos:Pos}{e o:Expr}{es:List Expr}{ta:TE}{t:TA}
def zlf{pl:Sem Bool}(he:PE X o ta)(c:Cls X.K C)(hm:Meth X.K C m f)(F:FnOk X.prog X.w X.K X.mg X.base CX k f fd ps sp)(hr:Room k X.A)(hb:zcq X.K fd ps ds)(hd:Vals dvs ds)(hx:zch CX X E)(ha:PA X (e::es) t)
  (hst:starEach (e::es) X.env=(false,eval e X.env)::starEach es X.env) (hpl:(backTo pos (starEach es X.env)).any (·.1)=false)
  (ht:eval (.Call (.Attribute o m apos) (e::es) [] pos) X.env=(do
   let ov ← eval o X.env
   standAt apos.atName
   let (f,first) ← holding [ov] (getMethod ov m pl)
   callWith pos f first (backTo pos (starEach (e::es) X.env)) (backToKw pos (keywordEach [] X.env)))) :
  PE X (.Call (.Attribute o m apos) (e::es) [] pos) (zfC C m sp dvs E ta t):=by
 intro pins s σ H Q I h;refine PySem.W.methodCall_KW (pl:=pl) (thn (he pins s σ H _ I h) fun u s1 ⟨x,H1,I1,rx,a,dx,fs,ex,ea,l,q⟩=>?_) ht;subst ex;obtain rfl:u=Value.ref a:=rx;refine zex I1 ea c hm l ?_;refine ycy (first:=[.ref a]) (h₀:=X.base) I.ok.mod.kin hm.kp (thn (ha pos pins s1 σ H1 _ I1 q) fun us s2 ⟨vs,H2,I2,r,q2⟩=>⟨I2.kIn,?_⟩) hst hpl;exact zeY (us:=.ref a::us) (vs:=.ref a::vs) F hr hb hd hx I2 (.cons rfl r) q2
def zjf{pl:Sem Bool}(he:PE X o ta)(c:Cls X.K C)(hm:Meth X.K C m f)(F:FnOk X.prog X.w X.K X.mg X.base CX k f fd ps sp)(hr:Room k X.A)(hb:zcq X.K fd ps ds)(hd:Vals dvs ds)(hx:zch CX X E)
  (ht:eval (.Call (.Attribute o m apos) [] [] pos) X.env=(do
   let ov ← eval o X.env
   standAt apos.atName
   let (f,first) ← holding [ov] (getMethod ov m pl)
   callWith pos f first (backTo pos (starEach [] X.env)) (backToKw pos (keywordEach [] X.env)))) :
  PE X (.Call (.Attribute o m apos) [] [] pos) (zfC C m sp dvs E ta zsG):=by
 intro pins s σ H Q I h;refine PySem.W.methodCall_KW (pl:=pl) (thn (he pins s σ H _ I h) fun u s1 ⟨x,H1,I1,rx,a,dx,fs,ex,ea,l,q⟩=>?_) ht;subst ex;obtain rfl:u=Value.ref a:=rx;refine zex I1 ea c hm l ?_;exact PySem.W.callWith_K0 (first:=[.ref a]) I1.kIn hm.kp (zeY (us:=[.ref a]) (vs:=[.ref a]) F hr hb hd hx I1 (.cons rfl .nil) q)
def ziS{pins:Z3}{σ:St}{H:Hp}{s:Shared}{Q:VK}{us:List Value}{vs:List V}(M:Mk X.K C f)(F:FnOk X.prog X.w X.K X.mg X.base CX k f fd ps sp)(hr:Room (k+1) X.A)(hb:zcq X.K fd ps ds)(hd:Vals dvs ds)
  (hx:zch CX X E) (I:Inv X pins σ H s) (r:Vals vs us)
  (h:∀x dx,H x=none->H dx=none->dx≠x->sp (.ref x::(vs++dvs)) (upd (upd H dx (.own x)) x (.ins C dx [])) (fun v H2=>v=.non/\Q (.ref x) H2) (E σ)) :
  wpAny (model X.prog X.w) X.A (call (.ref C) us) (EP X pins σ Q) X.xe s:=by
 have hq:=h (s.heap.objs.size+1) s.heap.objs.size (I.hok.fresh (ycI _)) (I.hok.fresh (yah _)) (yay (ycj _));have I2:=Inv.made (C:=C) I;have r2:Vals (V.ref (s.heap.objs.size+1)::(vs++dvs)) (Value.ref (s.heap.objs.size+1)::(us++ds)):=.cons rfl (r.append hd)
 have hl:(Value.ref (s.heap.objs.size+1)::us++ds).length=ps.length:=by
  have e:=r2.length;rw [F.len _ _ _ _ hq] at e;exact e.symm
 refine wpAny_call (zlE (f:=f) I.kIn M.makes M.init (ybR.mp M.fn) (ycv (F.run _ X.stack _ _ ⟨Value.ref (s.heap.objs.size+1)::us,[]⟩ (Value.ref (s.heap.objs.size+1)::(us++ds)) _ _ (E σ) (hr.make C us [])
  (I2.env0.make C us []) (hb _ (Value.ref (s.heap.objs.size+1)::us) I2.kIn hl) r2 hq) fun r s' hq'=>?_))
 cases r with
 | error e=>exact hx pins σ _ _ e s' I2 hq'
 | ok fl =>
  cases fl with
  | ret u =>
   obtain ⟨v,H',I3,rv,ev,q3⟩:=I2.after hq';subst ev;exact ⟨rv,⟨V.ref (s.heap.objs.size+1),H',I3,rfl,q3⟩⟩
  | next=>exact False.elim hq'
  | brk=>exact False.elim hq'
  | cont=>exact False.elim hq'
def zhq(M:Mk X.K C f)(F:FnOk X.prog X.w X.K X.mg X.base CX k f fd ps sp)(hr:Room (k+1) X.A)(hg:Gl X x)(hm:X.mg x=some (.ref C))(hb:zcq X.K fd ps ds)(hd:Vals dvs ds)(hx:zch CX X E)
  (ha:PA X (e::es) t) (hdb:(x == ("__debug__":Str))=false) (he:starEach (e::es) X.env=(false,eval e X.env)::starEach es X.env) (hpl:(backTo pos (starEach es X.env)).any (·.1)=false) :
  PE X (.Call (.Name x p) (e::es) [] pos) (zmp C sp dvs E t):=by
 intro pins s σ H Q I h;refine ybL (zde I hg hm ?_ hdb);refine ycy (h₀:=X.base) I.ok.mod.kin M.kp (thn (ha pos pins s σ H _ I h) fun us s1 ⟨vs,H1,I1,r,q⟩=>⟨I1.kIn,?_⟩) he hpl;exact ziS M F hr hb hd hx I1 r q
end
section
variable{cl:Cf}{E:St->XK}{fs:List Fe}{fo:Fe}{G:List D->Sto->Out D}{σ:St}{H:Hp}{Q:VK}{n:Nat}{c m:Str}{ρ:Env}
theorem zc5:∀{fs:List Fe} {S S1:Sto} {ds:List D},zag fs ρ S=.ok ds S1->ds.length=fs.length
 | [],S,S1,ds,h=>by cases h;rfl
 | f::fs,S,S1,ds,h=>by
  unfold zag at h
  cases h1:f ρ S with
  | bad=>rw [h1] at h;cases h
  | exc c S2=>rw [h1] at h;cases h
  | ok d S2 =>
   rw [h1] at h;dsimp only [Out.bind] at h
   cases h2:zag fs ρ S2 with
   | bad=>rw [h2] at h;cases h
   | exc c S3=>rw [h2] at h;cases h
   | ok es S3=>rw [h2] at h;cases h;rw [yag,yag,zc5 h2]
def zjy{B:Base}{w:Wd}{S:Sto}{v:V}{d:D}(R:Rel cl B σ w ρ S)(hv:Shd cl w v d)(h:zc0 c m d S=true):∃a dx fs,v=.ref a/\w.H a=some (.ins (cl c) dx fs)/\fs.lookup m=none:=by
 unfold zc0 at h
 cases d with
 | ref n =>
  dsimp only at h
  cases hS:S[n]? with
  | none=>rw [hS] at h;cases h
  | some ob =>
   rw [hS] at h;dsimp only at h;rw [yab] at h;obtain ⟨a,dx,fs,rfl,_,_,hH,hF⟩:=zgk R hv hS;have e:=yak h.1;subst e;exact ⟨a,dx,fs,rfl,hH,hF.miss (by simpa using h.2)⟩
 | _=>cases h
def zqX(q:tE cl E (zf9 c m G fo fs) σ H Q)(hn:fs.length+1=n):zfC (cl c) m (zhT cl n false G) [] E (tE cl E fo) (tAs cl E fs) σ H Q:=by
 obtain ⟨B,w,ρ,S,rfl,R,q⟩:=q;refine ⟨B,w,ρ,S,rfl,R,?_⟩;unfold zf9 at q
 cases hfo:fo ρ S with
 | bad=>rwa [hfo] at q
 | exc c S1=>rwa [hfo] at q
 | ok d S0 =>
 rw [hfo] at q;intro v w0 R0 F0 h0;dsimp only [Out.bind] at q
 cases hok:zc0 c m d S0 with
 | false=>rw [hok] at q;exact q.elim
 | true =>
 rw [hok,if_pos rfl] at q;obtain ⟨a,dx,fs',rfl,hH,hm⟩:=zjy R0 h0 hok;refine ⟨a,dx,fs',rfl,hH,hm,B,w0,ρ,S0,rfl,R0,?_⟩
 cases hf:zag fs ρ S0 with
 | bad=>rwa [hf] at q
 | exc c S1=>rw [hf] at q;exact fun w1 R1 F1=>q w1 R1 (F0.trans F1)
 | ok ds S1 =>
  rw [hf] at q;intro vs w1 R1 F1 h1;dsimp only at q;refine ⟨?_,w1.base,w1.inn,d::ds,S1,rfl,R1.wd.enter,?_,?_⟩
  ·rw [yaT,yag,h1.length,zc5 hf];exact hn
  ·rw [yaT];exact .cons ((h0.up F1).up (zbJ w1)) (h1.up (zbJ w1))
  cases hg:G (d::ds) S1 with
  | bad=>rwa [hg] at q
  | exc c S2 =>
   rw [hg] at q;intro w2 W2 F2;obtain ⟨R3,F3⟩:=R1.leave W2 F2;exact q (w1.back w2) R3 (F0.trans (F1.trans F3))
  | ok r S2 =>
   rw [hg] at q;intro v w2 W2 F2 r2;obtain ⟨R3,F3⟩:=R1.leave W2 F2;exact q v (w1.back w2) R3 (F0.trans (F1.trans F3)) (Shd.up (zcl W2) r2)
def zqW(q:tN cl E (zf9 c m G fo fs) σ H Q)(hn:fs.length+1=n):zfC (cl c) m (zhT cl n true G) [] E (tE cl E fo) (tAs cl E fs) σ H Q:=by
 obtain ⟨B,w,ρ,S,rfl,R,q⟩:=q;refine ⟨B,w,ρ,S,rfl,R,?_⟩;unfold zf9 at q
 cases hfo:fo ρ S with
 | bad=>rwa [hfo] at q
 | exc c S1=>rwa [hfo] at q
 | ok d S0 =>
 rw [hfo] at q;intro v w0 R0 F0 h0;dsimp only [Out.bind] at q
 cases hok:zc0 c m d S0 with
 | false=>rw [hok] at q;exact q.elim
 | true =>
 rw [hok,if_pos rfl] at q;obtain ⟨a,dx,fs',rfl,hH,hm⟩:=zjy R0 h0 hok;refine ⟨a,dx,fs',rfl,hH,hm,B,w0,ρ,S0,rfl,R0,?_⟩
 cases hf:zag fs ρ S0 with
 | bad=>rwa [hf] at q
 | exc c S1=>rw [hf] at q;exact fun w1 R1 F1=>q w1 R1 (F0.trans F1)
 | ok ds S1 =>
  rw [hf] at q;intro vs w1 R1 F1 h1;dsimp only at q;refine ⟨?_,w1.base,w1.inn,d::ds,S1,rfl,R1.wd.enter,?_,?_⟩
  ·rw [yaT,yag,h1.length,zc5 hf];exact hn
  ·rw [yaT];exact .cons ((h0.up F1).up (zbJ w1)) (h1.up (zbJ w1))
  cases hg:G (d::ds) S1 with
  | bad=>rwa [hg] at q
  | exc c S2 =>
   rw [hg] at q;intro w2 W2 F2;obtain ⟨R3,F3⟩:=R1.leave W2 F2;exact q (w1.back w2) R3 (F0.trans (F1.trans F3))
  | ok r S2 =>
   rw [hg] at q;intro v w2 W2 F2 r2;obtain ⟨R3,F3⟩:=R1.leave W2 F2;obtain ⟨a,o,i,rfl,k1,k2,t⟩:=r2;have hfr:w1.base.Fr a=none:=(W2.own a _ k1).elim (fun z=>by cases z) fun z=>z
   have k3:(w1.back w2).ow a=some .far:=by
    show (if (w1.base.Fr a).isSome=true then w1.ow a else Root.out (w2.ow a))=_;rw [hfr,k1];rfl
   have hb:B.Fr a=none:=by
    cases z:B.Fr a with
    | none=>rfl
    | some u=>rw [zcK R1.wd z] at hfr;cases hfr
   have hd:=zgN (w:=w1.back w2) (a:=a) (by rw [k3];exact yaE _);have:=q a o ((w1.back w2).del a) (R3.del k3 hb) (F0.trans (F1.trans (F3.trans hd))) (if_pos rfl) ((t.up (zcl W2)).up hd);rwa [ziu (w:=w1.back w2) k2] at this
def zu9{dds:List D}{dvs:List V}(hdv:∀w,Shds cl w dvs dds)(q:tE cl E (eMk c dds G fs) σ H Q)(hn:fs.length+dds.length+1=n):zmp (cl c) (zhT cl n false G) dvs E (tAs cl E fs) σ H Q:=by
 obtain ⟨B,w,ρ,S,rfl,R,q⟩:=q;refine ⟨B,w,ρ,S,rfl,R,?_⟩;unfold eMk at q
 cases hf:zag fs ρ S with
 | bad=>rwa [hf] at q
 | exc c S1=>rwa [hf] at q
 | ok ds S1 =>
  rw [hf] at q;intro vs w1 R1 F1 h1;dsimp only [Out.bind] at q;intro x dx hx hdx ne;obtain ⟨R2,F2⟩:=R1.made (c:=c) hx hdx ne
  have hmu:(w1.addO x dx (cl c) S1.length).mu[S1.length]?=some x:=by
   show (w1.mu++[x])[S1.length]?=some x;rw [yaJ (by rw [R1.wd.len];exact yah _),R1.wd.len,Nat.sub_self];rfl
  refine ⟨?_,(w1.addO x dx (cl c) S1.length).base,(w1.addO x dx (cl c) S1.length).inn,.ref S1.length::(ds++dds),S1++[⟨c,[]⟩],rfl,R2.wd.enter,?_,?_⟩
  ·rw [yag,yal,h1.length,zc5 hf,(hdv w1).length];exact hn
  ·exact .cons (.ref hmu) (((h1.up F2).up (zbJ _)).append (hdv _))
  cases hg:G (.ref S1.length::(ds++dds)) (S1++[⟨c,[]⟩]) with
  | bad=>rwa [hg] at q
  | exc c S2 =>
   rw [hg] at q;intro w2 W2 F3;obtain ⟨R3,F4⟩:=R2.leave W2 F3;exact q ((w1.addO x dx _ S1.length).back w2) R3 (F1.trans (F2.trans F4))
  | ok r S2 =>
   rw [hg] at q;intro v w2 W2 F3 r2
   cases r with
   | non =>
    obtain ⟨R3,F4⟩:=R2.leave W2 F3;refine ⟨by cases r2;rfl,q (.ref x) ((w1.addO x dx _ S1.length).back w2) R3 (F1.trans (F2.trans F4)) (.ref (F4.mu _ _ hmu))⟩
   | _=>exact q.elim
end
end S2
namespace L2
open PySem PySem.Spec PyProof.Rows
section
variable{X:Cx}
noncomputable def ztY(ns:List Int):Nat:=argBest (fun i j=>decide (ns.getD i 0<ns.getD j 0)) (ns.length-1)
noncomputable def zw5(ns:List Int):Int:=ns.getD (ztY ns) 0
end
end L2
namespace S2
open PySem PySem.Spec PyProof.Rows L2
noncomputable def zsf:Operator->Option (Int->Int->Int) | .Add=>some (·+·) | .Sub=>some (· - ·) | _=>none
noncomputable def zp9(i:Nat)(g:Int->Int->Int)(fe:Fe):Fs:=fun ρ S=>match ρ[i]? with
 | some (some (false,.int a))=>(match fe ρ S with
  | .ok (.int b) S1=>.nx (ρ.set i (some (false,.int (g a b)))) S1
  | .ok _ _=>.bad
  | .exc c S1=>.ex c ρ S1
  | .bad=>.bad)
 | _=>.bad
section
variable{cl:Cf}{X:Cx}{E:St->XK}{e:Expr}{fe f:Fe}{pos:Pos}{own:Bool}
def zpK{i:Nat}{x:Str}{op:Operator}{g:Int->Int->Int}{p:Pos}(hop:zsf op=some g)(hN:X.N.Nodup)(hi:X.N[i]?=some x)(hx:Loc X.env.scope x)(he:PE X e (tE cl E fe))(hf:X.fn x=true\/X.env.scope.names.lookup x=some .local):PS X (.AugAssign (.Name x p) op e pos) (tS cl E own (zp9 i g fe)):=by
 have main:∀ti:TIp,PIp X op ti->(∀a b H Q,Q (.int (g a b)) H->ti (.int a) (.int b) H Q)->PS X (.AugAssign (.Name x p) op e pos) (tS cl E own (zp9 i g fe)):=by
  intro ti ho hti;refine PS.imp (zql hN hi hx he ho hf) ?_;rintro De σ H ⟨B,w,ρ,S,rfl,R,q⟩;unfold zp9 at q;split at q
  ·rename_i a ha;obtain ⟨v,ev,rv⟩:=R.slots i false _ ha;have rv':Shd cl w v (.int a):=rv;cases rv';refine ⟨_,ev,B,w,ρ,S,rfl,R,?_⟩
   cases hfe:fe ρ S with
   | bad=>rwa [hfe] at q
   | exc c S1=>rw [hfe] at q;exact fun w' R' F'=>q σ w' R' F'
   | ok d S1 =>
    rw [hfe] at q;intro y w1 R1 F1 h1
    cases d with
    | int b =>
     cases h1;exact hti a b _ _ (q _ w1 (R1.put (.int _)) F1)
    | _=>exact q.elim
  ·exact q.elim
 cases op<;>simp [zsf] at hop<;>subst hop
 ·exact main zu3 zrk fun a b H Q q=>⟨a,b,rfl,rfl,q⟩
 ·exact main zu2 zrj fun a b H Q q=>⟨a,b,rfl,rfl,q⟩
def zln:OpR X (compareOp .Is) (fun x y H Q=>∃i j,x=.bl i/\y=.bl j/\Q (.bl (decide (i=j))) H):=by
 intro pins s σ H x y v u Q I rx ry h;obtain ⟨i,j,rfl,rfl,q⟩:=h;cases rx;cases ry;refine wpAny_is_plain (by rfl) ?_;refine ⟨.bl (decide (i=j)),H,I,?_,q⟩;show _=Value.bool _;congr 1
 cases i<;>cases j<;>rfl
noncomputable def zr9:D->D->Option D | .bl a,.bl b=>some (.bl (decide (a=b))) | _,_=>none
def zqM:OpD X cl (compareOp .Is) zr9:=by
 intro pins s σ H x y v u Q I rx ry h;obtain ⟨w,d,e,r,rfl,hx,hy,hg,q⟩:=h;unfold zr9 at hg;split at hg
 ·cases hg;obtain rfl:=hx.blI;obtain rfl:=hy.blI;exact zln pins s σ w.H _ _ v u Q I rx ry ⟨_,_,rfl,rfl,q _ w (Grow.refl _) (.bl _)⟩
 ·cases hg
noncomputable def ztl:List D->Option D
 | [.lst l]=>(zmP l).bind fun ns=>if ns.isEmpty then none else some (.int (zw5 ns))
 | ds=>zw6 ds
end
end S2
namespace ST
open PySem PySem.Spec PySem.W PyProof.Rows
section
variable{prog:Program}{w:World}{A:Around}{E:Z5}{s:Shared}
theorem zdy{h h':Heap}(k:∀b o,h.get? b=some o->o.cls=.type "tuple" -> h'.get? b=some o):∀{vs fs:List Value},KatTups h vs fs->KatTups h' vs fs
 | [],[],_=>trivial
 | _::_,_::_,t=>by
  obtain ⟨⟨a,o,xs,n,e,ho,hc,hd,hf⟩,t⟩:=t;exact ⟨⟨a,o,xs,n,e,k a o ho hc,hc,hd,hf⟩,zdy k t⟩
def ziE{a:Addr}{vs fs:List Value}{n:Nat}{p:Array Nat}{P:PySem.Fin->Shared->Prop}(ho:s.heap.get? a=some (seqObj "list" vs.toArray n))(h2:2<=vs.length)(h64:vs.length<64)(t:KatTups s.heap vs fs)(hn:0<fs.length)(hf:∀v∈fs,∃i t,v=.int i t)
  (h:∀(s':Shared) (G:Array Nat->Shared->Prop),(∀b o,s.heap.get? b=some o->o.cls=.type "tuple" -> s'.heap.get? b=some o)->G p s'->(kas_sort vs.length).kasWp (kas_ask prog w A (tuples' true) vs) G s')
  (hP:P (.done (.ret .none)) { s with heap:=sortedHeap s.heap a vs (List.toArray (p.toList.map fun i=>vs.getD i Value.none)) }) :
  wpAny (model prog w) A (Builtin.«list.sort» ⟨[.ref a],[]⟩) P E s:=by
 rw [list_sort_plain];have ha:a<s.heap.objs.size:=yam ho;refine yaa (listItems_at ho rfl ?_);refine yaa (ycK ho rfl ?_ (by rw [yaf,ybm];omega) (yaM _));obtain ⟨e1,ho1⟩:∃e1,(s.heap.update a (Obj.mapSeq fun _=>#[])).get? a=some (seqObj "list" #[] e1):=⟨_,get?_update_seq ho (fun _=>#[])⟩;refine yaa (seqEpoch_at ho1 rfl ?_);refine yaa (ycf ?_ (by show vs.length<=_;rw [ybm];omega));refine yaa (wpAny_newList ?_ (yaM _));refine ybh ?_;have ho6:(((s.heap.update a (Obj.mapSeq fun _=>#[])).push (seqObj "tuple" vs.toArray 0)).push (seqObj "list" #[] 0)).get? a=some (seqObj "list" #[] e1):=yae _ (yae _ ho1)
 have kp:∀b o,s.heap.get? b=some o->o.cls=.type "tuple" -> (((s.heap.update a (Obj.mapSeq fun _=>#[])).push (seqObj "tuple" vs.toArray 0)).push (seqObj "list" #[] 0)).get? b=some o:=by
  intro b o hb hc
  have hne:b≠a:=fun z=>by
   subst z;rw [ho] at hb;cases hb;exact absurd (Value.type.inj hc) (by decide)
  exact yae _ (yae _ ((Heap.SameBut.update s.heap a _).2 b hne |>.trans hb))
 show wpAny (model prog w) A _ P E { s with heap:=((s.heap.update a (Obj.mapSeq fun _=>#[])).push (seqObj "tuple" vs.toArray 0)).push (seqObj "list" #[] 0) };dsimp only
 have hn2:¬ vs.toArray.size<2:=by rw [yaf];omega
 rw [if_neg hn2,if_neg hn2];refine yaa (kat_kind (fs:=fs) (T:=.type "int") (zdy kp t) hn (fun v hv=>?_) (by decide) ?_)
 ·obtain ⟨i,tk,rfl⟩:=hf v hv;exact .now
 refine yaa (ybd (kat_run (Q:=fun st' s'=>s'={ s with heap:=((s.heap.update a (Obj.mapSeq fun _=>#[])).push (seqObj "tuple" vs.toArray 0)).push (seqObj "list" #[] 0) }/\p.size=vs.length/\arrOf st'=p.map (kas_item (vs.toArray.zip vs.toArray))/\failedOf st'=none)
  (G:=fun q s'=>q=p/\s'={ s with heap:=((s.heap.update a (Obj.mapSeq fun _=>#[])).push (seqObj "tuple" vs.toArray 0)).push (seqObj "list" #[] 0) }) rfl h2 h64 (fun p' st' s' a1 a2 a3 a4=>?_) (h _ _ kp ⟨rfl,rfl⟩)) ?_ fun _ _ e=>e)
 ·obtain ⟨rfl,rfl⟩:=a4;exact ⟨rfl,a1,a2,a3⟩
 rintro ⟨⟨⟩,st'⟩ s' ⟨rfl,hp,har,hfl⟩;dsimp only;have hout:=kat_snds rfl har
 have hsz:(List.toArray (p.toList.map fun i=>vs.getD i Value.none)).size=vs.length:=by rw [yaf,yad,yaZ,hp]
 rw [hout];refine yaa (seqEpoch_at ho6 rfl ?_);refine yaa (ycK ho6 rfl ?_ (yaM _) (yar (Nat.le_of_eq hsz) (by rw [ybm];omega)));rw [hfl];simp only [bne_self_eq_false,yaC,ybl];exact yac hP
noncomputable def lxL(a1 a2 b1 b2:Int):Bool:=decide (a1<b1\/(a1=b1/\a2<b2))
def zmj{vs:List Value}{i j:Nat}{x y:Addr}{a1 a2 b1 b2:Int}{t1 t2 u1 u2:Tok}{C:Bool->Shared->Prop}(hi:vs.getD i Value.none=.ref x)(hj:vs.getD j Value.none=.ref y)(hx:s.heap.IsTuple x #[.int a1 t1,.int a2 t2])(hy:s.heap.IsTuple y #[.int b1 u1,.int b2 u2])
  (h:C (lxL a1 a2 b1 b2) s):kas_ask prog w A (tuples' true) vs i j C s:=by
 unfold kas_ask;rw [hi,hj];obtain ⟨ox,ex,_,nx,dx⟩:=hx;obtain ⟨oy,ey,_,ny,dy⟩:=hy;refine kat_lt ex dx ey dy ?_;refine kat_cons (wpAny_eqBool_int ?_)
 by_cases e1:a1=b1
 ·subst e1;rw [ybe];refine kat_yes (kat_cons (wpAny_eqBool_int ?_))
  by_cases e2:a2=b2
  ·subst e2;rw [ybe];refine kat_yes (kat_nil ?_)
   have:lxL a1 a2 a1 a2=decide ((#[Value.int a1 t1,Value.int a2 t2]:Array Value).size<(#[Value.int a1 u1,Value.int a2 u2]:Array Value).size):=by simp [lxL]
   rw [<-this];exact h
  ·rw [beq_false_of_ne e2];refine kat_no (kat_one _ _ (lt_int ?_))
   have:lxL a1 a2 a1 b2=decide (a2<b2):=by simp [lxL]
   rwa [this] at h
 ·rw [beq_false_of_ne e1];refine kat_no (oneLt_int ?_)
  have:lxL a1 a2 b1 b2=decide (a1<b1):=by simp [lxL,e1]
  rwa [this] at h
end
end ST
namespace L2
open PySem PySem.Spec PySem.W PyProof.Rows ST
section
variable{X:Cx}
end
end L2
namespace S2
open PySem PySem.Spec PyProof.Rows L2 ST
noncomputable def zbC:D->Option (Int×Int) | .tup [.int a,.int b]=>some (a,b) | _=>none
section
variable{X:Cx}{cl:Cf}{E:St->XK}{a b:Expr}{f g:Fe}
def zcX{w:Wd}{v:V}{d:D}{x:Int×Int}(h:Shd cl w v d)(e:zbC d=some x):∃q,v=.ref q/\w.H q=some (.tup [.int x.1,.int x.2]):=by
 unfold zbC at e;split at e
 ·cases e
  cases h with
  | tup ep k r =>
   cases r with
   | cons r1 r2 =>
    cases r2 with
    | cons r2 r3=>cases r3;cases r1;cases r2;exact ⟨_,rfl,ep⟩
 ·cases e
end
end S2
namespace ST
open PySem PySem.Spec PySem.W PyProof.Rows
noncomputable def Okk{α:Type}(n:Nat)(ans:Nat->Nat->Bool):KasT α->(α->Prop)->Prop
 | .ret a,Q=>Q a
 | .ask i j k,Q=>i<n/\j<n/\Okk n ans (k (ans i j)) Q
theorem Okk.bind{α β:Type}{n:Nat}{ans:Nat->Nat->Bool}{f:α->KasT β}{Q:β->Prop}:∀{t:KasT α},Okk n ans t (fun a=>Okk n ans (f a) Q)->Okk n ans (t.bind f) Q
 | .ret a,h=>h
 | .ask i j k,h=>⟨h.1,h.2.1,Okk.bind (t:=k (ans i j)) h.2.2⟩
theorem Okk.mono{α:Type}{n:Nat}{ans:Nat->Nat->Bool}{Q Q':α->Prop}(hq:∀a,Q a->Q' a):∀{t:KasT α},Okk n ans t Q->Okk n ans t Q'
 | .ret a,h=>hq a h
 | .ask i j k,h=>⟨h.1,h.2.1,Okk.mono hq (t:=k (ans i j)) h.2.2⟩
section
variable{n:Nat}{key:Nat->Int}
noncomputable abbrev ansK(key:Nat->Int)(i j:Nat):Bool:=decide (key i<key j)
noncomputable abbrev KP(key:Nat->Int)(p:Array Nat)(i:Nat):Int:=key (p.getD i 0)
structure Ps(n:Nat)(p:Array Nat):Prop where
 perm:p.toList.Perm (List.range n)
theorem Ps.size{p:Array Nat}(h:Ps n p):p.size=n:=by
 have:=h.perm.length_eq;rwa [ycG,yaZ] at this
def Ps.get{p:Array Nat}(h:Ps n p){i:Nat}(hi:i<n):p.getD i 0=p[i]'(by rw [h.size];exact hi):=by
 rw [yaI,ya4 (by rw [h.size];exact hi)];rfl
def Ps.lt{p:Array Nat}(h:Ps n p){i:Nat}(hn:0<n):p.getD i 0<n:=by
 by_cases hi:i<n
 ·rw [h.get hi]
  have:p[i]'(by rw [h.size];exact hi)∈p.toList:=by simp
  exact ybA.mp (h.perm.mem_iff.mp this)
 ·rw [yaI,ybK (by rw [h.size];omega)];exact hn
def Ps.ne{p:Array Nat}(h:Ps n p)(inj:∀i j,i<n->j<n->key i=key j->i=j){i j:Nat}(hi:i<n)(hj:j<n)(hij:i≠j):KP key p i≠KP key p j:=by
 intro z
 have hn:0<n:=by omega
 have e:=inj _ _ (h.lt hn) (h.lt hn) z;rw [h.get hi,h.get hj] at e;have nd:p.toList.Nodup:=h.perm.nodup_iff.mpr List.nodup_range;have:=(List.getElem_inj (i:=i) (j:=j) (h₀:=by rw [yaZ,h.size];exact hi) (h₁:=by rw [yaZ,h.size];exact hj) nd).mp (by rw [ybV,ybV];exact e);exact hij this
def Ps.of{p q:Array Nat}(h:Ps n p)(hp:q.Perm p):Ps n q:=⟨(Array.perm_iff_toList_perm.mp hp).trans h.perm⟩
noncomputable def Srt(key:Nat->Int)(p:Array Nat)(m:Nat):Prop:=∀i j,i<j->j<m->KP key p i<KP key p j
noncomputable def Dsc(key:Nat->Int)(p:Array Nat)(m:Nat):Prop:=∀i j,i<j->j<m->KP key p j<KP key p i
def Srt.next{p:Array Nat}{m:Nat}(h:Srt key p m)(hl:1<=m)(hk:KP key p (m-1)<KP key p m):Srt key p (m+1):=by
 intro i j hij hj
 by_cases e:j=m
 ·subst e
  by_cases e2:i=j-1
  ·rw [e2];exact hk
  ·exact yci (h i (j-1) (by omega) (by omega)) hk
 ·exact h i j hij (by omega)
def Dsc.next{p:Array Nat}{m:Nat}(h:Dsc key p m)(hl:1<=m)(hk:KP key p m<KP key p (m-1)):Dsc key p (m+1):=by
 intro i j hij hj
 by_cases e:j=m
 ·subst e
  by_cases e2:i=j-1
  ·rw [e2];exact hk
  ·exact yci hk (h i (j-1) (by omega) (by omega))
 ·exact h i j hij (by omega)
theorem zjp{p:Array Nat}(h:Ps n p)(inj:∀i j,i<n->j<n->key i=key j->i=j):∀(f m:Nat),1<=m->m+f<=n->Srt key p m->Okk n (ansK key) (kas_asc p f m) fun r=>m<=r/\r<=m+f/\Srt key p r/\(r<m+f->KP key p r<KP key p (r-1))
 | 0,m,h1,hn,hs=>⟨yah _,yah _,hs,fun z=>absurd z (yaR _)⟩
 | f+1,m,h1,hn,hs=>by
  have hn0:0<n:=by omega
  refine ⟨h.lt hn0,h.lt hn0,?_⟩;dsimp only [ansK]
  by_cases c:key (p.getD m 0)<key (p.getD (m-1) 0)
  ·rw [yan c,if_pos rfl];exact ⟨yah _,by omega,hs,fun _=>c⟩
  ·rw [yau c,if_neg (by decide)];have hne:=h.ne inj (i:=m) (j:=m-1) (by omega) (by omega) (by omega)
   have hk:KP key p (m-1)<KP key p m:=by
    have c':¬ KP key p m<KP key p (m-1):=c;omega
   refine Okk.mono ?_ (zjp h inj f (m+1) (by omega) (by omega) (hs.next h1 hk));rintro r ⟨a,b,c,d⟩;exact ⟨by omega,by omega,c,fun z=>d (by omega)⟩
theorem zjo{p:Array Nat}(h:Ps n p)(inj:∀i j,i<n->j<n->key i=key j->i=j):∀(f m:Nat),1<=m->m+f<=n->Dsc key p m->Okk n (ansK key) (kas_desc f p m 0) fun r=>r.1=p/\m<=r.2.1/\r.2.1<=m+f/\r.2.2=0/\Dsc key p r.2.1
 | 0,m,h1,hn,hs=>⟨rfl,yah _,yah _,rfl,hs⟩
 | f+1,m,h1,hn,hs=>by
  have hn0:0<n:=by omega
  refine ⟨h.lt hn0,h.lt hn0,?_⟩;dsimp only [ansK]
  by_cases c:key (p.getD m 0)<key (p.getD (m-1) 0)
  ·rw [yan c,if_pos rfl,if_neg (by decide)];refine Okk.mono ?_ (zjo h inj f (m+1) (by omega) (by omega) (hs.next h1 c));rintro r ⟨a,b,c,d,e⟩;exact ⟨a,by omega,by omega,d,e⟩
  ·rw [yau c,if_neg (by decide)];have hne:=h.ne inj (i:=m) (j:=m-1) (by omega) (by omega) (by omega)
   have hk:key (p.getD (m-1) 0)<key (p.getD m 0):=by
    have hne':key (p.getD m 0)≠key (p.getD (m-1) 0):=hne;omega
   refine ⟨h.lt hn0,h.lt hn0,?_⟩;dsimp only [ansK];rw [yan hk,if_pos rfl];exact ⟨rfl,yah _,Nat.le_add_right m (f+1),rfl,hs⟩
def zoD{p q:Array Nat}{i j:Nat}(h:p[i]?=q[j]?):p.getD i 0=q.getD j 0:=by
 rw [yaI,yaI,h]
def znE{p:Array Nat}{m:Nat}(hm:m<=p.size)(h:Dsc key p m):Srt key (kas_rev p 0 m) m:=by
 intro i j hij hj
 have e:∀k,k<m->(kas_rev p 0 m).getD k 0=p.getD (m-1-k) 0:=fun k hk=>by
  apply zoD;unfold kas_rev;rw [getElem?_mirror_all hm,if_pos ⟨yaM _,hk⟩,Nat.zero_add]
 show key _<key _;rw [e i (by omega),e j hj];exact h (m-1-j) (m-1-i) (by omega) (by omega)
def zlq{p:Array Nat}(h:Ps n p)(h2:2<=n)(inj:∀i j,i<n->j<n->key i=key j->i=j):Okk n (ansK key) (kas_count n p) fun r=>Ps n r.2/\1<=r.1/\r.1<=n/\Srt key r.2 r.1:=by
 have hn0:0<n:=by omega
 unfold kas_count;refine Okk.bind (Okk.mono ?_ (zjp h inj (n-1) 1 (by omega) (by omega) (fun i j hij hj=>by omega)));rintro m ⟨a,b,c,d⟩
 by_cases e:m=n
 ·subst e;rw [if_pos (by simp)];exact ⟨h,by omega,yah _,c⟩
 ·rw [if_neg (by simpa using e)]
  by_cases e1:m > 1
  ·rw [if_pos e1];refine ⟨h.lt hn0,h.lt hn0,?_⟩;dsimp only [ansK];rw [yan (c 0 (m-1) (by omega) (by omega)),if_pos rfl];exact ⟨h,by omega,by omega,c⟩
  ·rw [if_neg e1]
   have em:m=1:=by omega
   subst em;have hk:=d (by omega);unfold kas_descPart
   refine Okk.bind (Okk.mono ?_ (zjo h inj (n-(1+1)) (1+1) (by omega) (by omega) (fun i j hij hj=>by
    have e1:i=0:=by omega
    have e2:j=1:=by omega
    subst e1;subst e2;exact hk)))
   rintro ⟨q,m,z⟩ ⟨a1,a2,a3,a4,a5⟩;dsimp only at a1 a2 a3 a4 a5 ⊢;subst a1 a4;rw [if_neg (by decide)];unfold kas_tail3;have hr:Ps n (kas_rev q 0 m):=h.of (mirror_perm _ _ _ _);refine Okk.bind (Okk.mono ?_ (zjp hr inj (n-m) m (by omega) (by omega) (znE (by rw [h.size];omega) a5)));rintro r ⟨b1,b2,b3,_⟩;exact ⟨hr,by show 1<=r;omega,by show r<=n;omega,b3⟩
theorem ze7{p:Array Nat}(h:Ps n p)(inj:∀i j,i<n->j<n->key i=key j->i=j){k:Nat}(hk:k<n)(hs:Srt key p k):∀(f l r:Nat),l<=r->r<=k->r-l<=f->(∀i,i<l->KP key p i<KP key p k)->(∀i,r<=i->i<k->KP key p k<KP key p i)->Okk n (ansK key) (kas_place p k f l r) fun m=>m<=k/\(∀i,i<m->KP key p i<KP key p k)/\∀i,m<=i->i<k->KP key p k<KP key p i
 | 0,l,r,hl,hr,hf,h1,h2=>by
  have:l=r:=by omega
  subst this;exact ⟨hr,h1,h2⟩
 | f+1,l,r,hl,hr,hf,h1,h2=>by
  have hn0:0<n:=by omega
  unfold kas_place
  by_cases e:l ≥ r
  ·rw [if_pos e]
   have:l=r:=by omega
   subst this;exact ⟨hr,h1,h2⟩
  ·rw [if_neg e];refine ⟨h.lt hn0,h.lt hn0,?_⟩;dsimp only [ansK]
   by_cases c:key (p.getD k 0)<key (p.getD ((l+r) / 2) 0)
   ·rw [yan c,if_pos rfl];refine ze7 h inj hk hs f l ((l+r) / 2) (by omega) (by omega) (by omega) h1 fun i hi hik=>?_
    by_cases e2:i=(l+r) / 2
    ·rw [e2];exact c
    ·exact yci c (hs ((l+r) / 2) i (by omega) hik)
   ·rw [yau c,if_neg (by decide)];have hne:=h.ne inj (i:=k) (j:=(l+r) / 2) hk (by omega) (by omega)
    have c2:KP key p ((l+r) / 2)<KP key p k:=by
     have c':¬ KP key p k<KP key p ((l+r) / 2):=c;omega
    refine ze7 h inj hk hs f ((l+r) / 2+1) r (by omega) hr (by omega) (fun i hi=>?_) h2
    by_cases e2:i=(l+r) / 2
    ·rw [e2];exact c2
    ·exact yci (hs i ((l+r) / 2) (by omega) (by omega)) c2
theorem zmI(inj:∀i j,i<n->j<n->key i=key j->i=j):∀(f:Nat) (p:Array Nat) (k:Nat),Ps n p->k+f=n->Srt key p k->Okk n (ansK key) (kas_bin f p k) fun q=>Ps n q/\Srt key q n
 | 0,p,k,h,hk,hs=>⟨h,by rw [<-hk];exact hs⟩
 | f+1,p,k,h,hk,hs=>by
  unfold kas_bin;refine Okk.bind (Okk.mono ?_ (ze7 h inj (by omega) hs k 0 k (yaM _) (yah _) (by omega) (fun i hi=>by omega) (fun i hi hik=>by omega)));rintro l ⟨a,b,c⟩;refine zmI inj f _ (k+1) (h.of (bubble_perm _ _ _)) (by omega) ?_
  have hks:k<p.size:=by rw [h.size];omega
  have e:∀i,i<k+1->(bubble p k (k-l)).getD i 0=if i=l then p.getD k 0 else if l<i then p.getD (i-1) 0 else p.getD i 0:=fun i hi=>by
   rw [yaI,getElem?_bubble hks (k-l) (by omega)];rw [show k-(k-l)=l by omega]
   by_cases e1:i=l
   ·rw [if_pos e1,if_pos e1,yaI]
   ·rw [if_neg e1,if_neg e1]
    by_cases e2:l<i
    ·rw [if_pos ⟨e2,by omega⟩,if_pos e2,yaI]
    ·rw [if_neg (fun z=>e2 z.1),if_neg e2,yaI]
  intro i j hij hj;show key _<key _;rw [e i (by omega),e j hj]
  by_cases j1:j=l
  ·rw [if_pos j1,if_neg (by omega),if_neg (by omega)];exact b i (by omega)
  ·rw [if_neg j1]
   by_cases j2:l<j
   ·rw [if_pos j2]
    by_cases i1:i=l
    ·rw [if_pos i1];exact c (j-1) (by omega) (by omega)
    ·rw [if_neg i1]
     by_cases i2:l<i
     ·rw [if_pos i2];exact hs (i-1) (j-1) (by omega) (by omega)
     ·rw [if_neg i2];exact hs i (j-1) (by omega) (by omega)
   ·rw [if_neg j2,if_neg (by omega),if_neg (by omega)];exact hs i j hij (by omega)
def zq6(h2:2<=n)(inj:∀i j,i<n->j<n->key i=key j->i=j):Okk n (ansK key) (kas_sort n) fun p=>p.toList.Perm (List.range n)/\(p.toList.map key).Pairwise (· < ·):=by
 have h0:Ps n (List.toArray (List.range n)):=⟨by simp⟩
 have fin:∀q,Ps n q/\Srt key q n->q.toList.Perm (List.range n)/\(q.toList.map key).Pairwise (· < ·):=by
  rintro q ⟨a,b⟩;refine ⟨a.perm,?_⟩;rw [List.pairwise_iff_getElem];intro i j hi hj hij;rw [yad,yaZ,a.size] at hi hj;rw [ybw,ybw,ybV,ybV];have:=b i j hij hj;unfold KP at this;rwa [a.get hi,a.get hj] at this
 unfold kas_sort;refine Okk.bind (Okk.mono ?_ (zlq h0 h2 inj));rintro ⟨m,q⟩ ⟨a,b,c,d⟩;dsimp only at a b c d ⊢
 by_cases e:m<n
 ·rw [if_pos e];rw [show max m 1=m by omega];exact Okk.mono fin (zmI inj (n-m) q m a (by omega) d)
 ·rw [if_neg e]
  have:m=n:=by omega
  subst this;exact fin q ⟨a,d⟩
end
end ST
namespace ST
open PySem PySem.Spec PySem.W PyProof.Rows
section
variable{prog:Program}{w:World}{A:Around}{E:Z5}{s:Shared}
def zkN{a:Addr}{vs:List Value}{n:Nat}{P:PySem.Fin->Shared->Prop}(ho:s.heap.get? a=some (seqObj "list" vs.toArray n))(h2:vs.length<2)
  (hP:P (.done (.ret .none)) { s with heap:=sortedHeap s.heap a vs vs.toArray }):wpAny (model prog w) A (Builtin.«list.sort» ⟨[.ref a],[]⟩) P E s:=by
 rw [list_sort_plain];refine yaa (listItems_at ho rfl ?_);refine yaa (ycK ho rfl ?_ (by rw [yaf,ybm];omega) (yaM _));obtain ⟨e1,ho1⟩:∃e1,(s.heap.update a (Obj.mapSeq fun _=>#[])).get? a=some (seqObj "list" #[] e1):=⟨_,get?_update_seq ho (fun _=>#[])⟩;refine yaa (seqEpoch_at ho1 rfl ?_);refine yaa (ycf ?_ (by show vs.length<=_;rw [ybm];omega));refine yaa (wpAny_newList ?_ (yaM _));refine ybh ?_;have ho6:(((s.heap.update a (Obj.mapSeq fun _=>#[])).push (seqObj "tuple" vs.toArray 0)).push (seqObj "list" #[] 0)).get? a=some (seqObj "list" #[] e1):=yae _ (yae _ ho1);show wpAny (model prog w) A _ P E { s with heap:=((s.heap.update a (Obj.mapSeq fun _=>#[])).push (seqObj "tuple" vs.toArray 0)).push (seqObj "list" #[] 0) };dsimp only
 have hn2:vs.toArray.size<2:=by rw [yaf];omega
 rw [if_pos hn2,if_pos hn2];refine yaa (yac ?_);rw [StateT.run_pure];refine yaa (yac ?_);dsimp only;refine yaa (seqEpoch_at ho6 rfl ?_)
 have em:(arrOf (SortSt.mk' general' (vs.toArray.zip vs.toArray) #[] 7 none)).map (·.2)=vs.toArray:=by
  show (vs.toArray.zip vs.toArray).map (·.2)=vs.toArray;apply Array.toList_inj.mp;simp;exact List.map_snd_zip (yah _)
 refine yaa (ycK ho6 rfl ?_ (yaM _) (by show ((arrOf (SortSt.mk' general' (vs.toArray.zip vs.toArray) #[] 7 none)).map (·.2)).size<=_;rw [em,yaf,ybm];omega));simp only [bne_self_eq_false,yaC,ybl];refine yac ?_;have:=hP;rwa [<-em] at this
end
end ST
namespace ST
open PySem PySem.Spec PySem.W PyProof.Rows
noncomputable def zhO(h:Heap)(d:Addr)(es:Array DictEntry)(ep:Nat):Prop:=∃o,h.get? d=some o/\o.ExactDict/\o.data=.dict es ep
section
variable{prog:Program}{w:World}{A:Around}{E:Z5}{s:Shared}{d:Addr}{es:Array DictEntry}{ep:Nat}
def zhO.at{h h':Heap}(x:zhO h d es ep)(e:∀o,h.get? d=some o->h'.get? d=some o):zhO h' d es ep:=let ⟨o,ho,r⟩:=x;⟨o,e _ ho,r⟩
def zhO.typeIs(x:zhO s.heap d es ep):s.TypeIs (.ref d) "dict":=let ⟨o,ho,hc,_⟩:=x;⟨o,ho,hc.1⟩
def zhO.lt{h:Heap}(x:zhO h d es ep):d<h.objs.size:=let ⟨_,ho,_⟩:=x;yam ho
def zk0{Q:Z5}(hd:(d == sysModules)=false)(hm:zhO s.heap d es ep)
  (hQ:Q (.ref s.heap.objs.size) { s with heap:=s.heap.push { cls:=.type "dict_keyiterator",data:=.fields #[.ref d,.int 0 0,.int es.size 0,.int ep 0] } }) :
  wpAny (model prog w) A (pyIter (.ref d)) Q E s:=by
 obtain ⟨o,ho,hc,hdat⟩:=id hm;have hT:=hm.typeIs;refine wpAny_pyIter_slot hT PySem.F.slot_dict_iter (yaU PySem.F.slot_dict_iter hT PySem.F.entry_dict_iter ?_ (PySem.F.args_dict_iter_1 _));unfold Builtin.«dict.__iter__»;refine yaa ?_;unfold Builtin.Dict.dictSlotNone;refine yaa (wpAny_notOrdered_dict hT ?_);refine yac (a:=Value.ref d) ?_;show wpAny _ _ (Builtin.Dict.showsAll d >>= _) _ _ s;unfold Builtin.Dict.showsAll;rw [if_neg (by rw [hd];exact yaH)];refine yaa (yac ?_);refine yaa (ycH ho hdat ?_);refine yaa (wpAny_dictEpoch ho hdat ?_);refine yaa (yaK (yac ⟨_,rfl,"dict_keyiterator",_,⟨_,yao _ rfl,rfl⟩,yaV.lookup,?_⟩));simpa [rawInt] using hQ
def zk1{it:Addr}{i:Nat}{e:DictEntry}{Q:Option Value->Shared->Prop}(hit:s.heap.IsKeyIter it d i es.size ep)(hm:zhO s.heap d es ep)(hx:es[i]?=some e)
  (hQ:∀h',h'.IsKeyIter it d (i+1) es.size ep->Heap.SameBut it s.heap h'->Q (some e.key) { s with heap:=h' }):wpAny (model prog w) A (pyNext (.ref it)) Q E s:=by
 obtain ⟨o,ho,hc,hd⟩:=id hit;obtain ⟨od,hod,hcd,hdd⟩:=id hm;unfold pyNext
 refine yaa (ycJ (yaS (name:=Str.ofString "__next__") hit.typeIs yaV
  (yaU yaV hit.typeIs ybY ?_ (ybX _))))
 refine yaa (yac ?_);refine yaa (yaa ?_)
 first | refine yaa (ybn hit.typeIs (yac ?_)) | refine yaa (ybE hit.typeIs (yac ?_))
 refine yaa (wpAny_fieldsOf ho hd ?_);simp only [show Builtin.Dict_items.ownsTuple "dict_keyiterator" = false by decide,yaC,ybl];show wpAny _ _ (if (Value.ref d == Value.none)=true then _ else _) _ _ s;rw [if_neg (show ¬ ((Value.ref d == Value.none)=true) from yaH)];refine yaa (yac ?_);refine yaa (ycH hod hdd ?_);rw [if_neg (by simp)];refine yaa (yac ?_);refine yaa (wpAny_dictEpoch hod hdd ?_);rw [if_neg (by simp)];refine yac ?_;have hlt:i<es.size:=(ybS.mp hx).1;have ee:es[i]=e:=(ybS.mp hx).2;simp only [show ¬ ((i:Int)<0) from by omega,ybl,ya1,ya4 hlt];refine yaa ?_
 first | refine yaa (ybn hit.typeIs (yac ?_)) | refine yaa (ybE hit.typeIs (yac ?_))
 refine yaa (wpAny_isOneOf_keyiter hit.typeIs ?_);show wpAny _ _ (setField (.ref it) 1 (rawInt ((i:Int)+1)) >>= _) _ _ s;refine yaa (ycC ho hd (by simp) ?_)
 have hit':(s.heap.update it (Obj.mapFields (·.setIfInBounds 1 (rawInt ((i:Int)+1))))).IsKeyIter it d (i+1) es.size ep :=
  ⟨_,ybx _ ho (Obj.isFreed_of_fields (yb5 hd _)),(Obj.cls_mapFields ..).trans hc,by rw [yb5 hd];simp [rawInt]⟩
 refine yaa (ybh ?_);refine yaa (wpAny_isOneOf_keyiter (s:={ s with heap:=s.heap.update it (Obj.mapFields (·.setIfInBounds 1 (rawInt ((i:Int)+1)))) }) hit'.typeIs ?_);show wpAny _ _ (pure es[i].key) _ _ _;rw [ee];exact yac (yac ⟨_,rfl,yac (hQ _ hit' (Heap.SameBut.update ..))⟩)
def znG{it:Addr}{i:Nat}{Q:Option Value->Shared->Prop}(hh:A.handled=none)(hit:s.heap.IsKeyIter it d i es.size ep)(hm:zhO s.heap d es ep)(hx:es.size<=i)
  (hQ:∀h',Heap.ExtBut it s.heap h'->Q none { s with heap:=h' }):wpAny (model prog w) A (pyNext (.ref it)) Q E s:=by
 obtain ⟨o,ho,hc,hd⟩:=id hit;obtain ⟨od,hod,hcd,hdd⟩:=id hm;unfold pyNext
 refine yaa (ycJ (yaS (name:=Str.ofString "__next__") hit.typeIs yaV
  (yaU yaV hit.typeIs ybY ?_ (ybX _))))
 refine yaa (yac ?_);refine yaa (yaa ?_)
 first | refine yaa (ybn hit.typeIs (yac ?_)) | refine yaa (ybE hit.typeIs (yac ?_))
 refine yaa (wpAny_fieldsOf ho hd ?_);simp only [show Builtin.Dict_items.ownsTuple "dict_keyiterator" = false by decide,yaC,ybl];show wpAny _ _ (if (Value.ref d == Value.none)=true then _ else _) _ _ s;rw [if_neg (show ¬ ((Value.ref d == Value.none)=true) from yaH)];refine yaa (yac ?_);refine yaa (ycH hod hdd ?_);rw [if_neg (by simp)];refine yaa (yac ?_);refine yaa (wpAny_dictEpoch hod hdd ?_);rw [if_neg (by simp)];refine yac ?_;simp only [show ¬ ((i:Int)<0) from by omega,ybl,ya1,ybK hx];refine yaa ?_
 first | refine yaa (ybn hit.typeIs (yac ?_)) | refine yaa (ybE hit.typeIs (yac ?_))
 show wpAny _ _ (setField (.ref it) 0 .none >>= _) _ _ s;refine yaa (ycC ho hd (by simp) ?_);show wpAny _ _ (newExc (.type "StopIteration") [] >>= _) _ _ _;refine yaa ?_;simp only [newExc,newTuple];refine yaa (yaK ?_ (by size_fits));refine yaa (m:=firstArgMember _ _) (wpAny_of_eq (a:=Value.none) (by first | rfl | (simp only [firstArgMember];rfl)) ?_);refine yaK ?_ (by size_fits);simp only [raiseNew];refine yaa (wpAny_handled ?_);rw [show A.in1.handled=none from hh];refine yaa (yac (wpAny_throw ?_));refine yaa (ycl (T:="StopIteration") (b:=true) ⟨_,yao _ rfl,rfl⟩ isSubtype_stop ?_);exact yac (hQ _ (((Heap.SameBut.update ..).extBut.push _).push _))
def ziZ(hh:A.handled=none)(I d:Addr)(hne:d≠I)(es:Array DictEntry)(ep:Nat) :
  Walks prog w A I [I,d] [I] es.size (fun i v=>∃e,es[i]?=some e/\v=e.key) (fun i h=>h.IsKeyIter I d i es.size ep/\zhO h d es ep) where
 sub:=fun b hb=>by simp at hb;simp [hb]
 frame:=fun _ _ _ st hk=>⟨st.1.at fun o e=>hk I (by simp) o e,st.2.at fun o e=>hk d (by simp) o e⟩
 item:=fun i s Q E hi st hQ=>by
  refine zk1 st.1 st.2 (ya4 hi) fun h' hit' hs'=>?_
  exact hQ _ h' s.toks ⟨_,ya4 hi,rfl⟩ ⟨hit',st.2.at fun o e=>(hs'.2 d hne).trans e⟩ fun b o hb e=>hs'.extBut b o (fun h=>hb (by simp [h])) e
 done:=fun s Q E st hQ=>znG hh st.1 st.2 (yah _) fun h' he'=>hQ h' s.toks fun b o hb e=>he' b o (fun h=>hb (by simp [h])) e
 self:=fun _ _ _ _ st hQ=>wpAny_pyIter_keyiter st.1 hQ
def znF(lo:(d == sysModules)=false):KdlSrc prog w "dict" d d es.size (fun i v=>∃e,es[i]?=some e/\v=e.key) (fun h=>zhO h d es ep) where
 type:=fun _ hm=>hm.typeIs
 there:=fun _ hm=>⟨hm.lt,hm.lt⟩
 keep:=fun _ _ hm hk=>hm.at fun o e=>hk d (.inl rfl) o e
 notList:=by decide
 notTuple:=by decide
 hint:=fun _ _ _ _ hm hq=>kdl_hint_dict hm.typeIs hq
 iter:=fun _ _ hh hm=>⟨_,_,(fun _ _ hq=>zk0 lo hm hq),ziZ hh _ d (yay hm.lt) es ep,⟨⟨_,yao _ rfl,rfl,rfl⟩,hm.at fun _ e=>yae _ e⟩⟩
def zgy{R:List Value->Shared->Prop}(hh:A.handled=none)(lo:(d == sysModules)=false)(hm:zhO s.heap d es ep)(hn:es.size<=sizeLine)
  (h:∀(h':Heap) (tk:Nat),(∀b o,s.heap.get? b=some o->h'.get? b=some o)->R (es.toList.map (·.key)) { s with heap:=h',toks:=tk }) :
  wpAny (model prog w) A (collect (.ref d)) R E s:=by
 have hd:=hm.lt;unfold collect;refine yaa (wpAny_runValue (codeAny_builtin entry_proto_collect' ?_));rw [Around.under_plainId PySem.F.plain_proto_collect _];show wpAny _ A.in1 (newList [] >>= fun l=>again (.builtin "list.__iadd__" ⟨[l,.ref d],[]⟩)) _ _ s;refine yaa (yaK ?_);refine yac ⟨plainId_quiet PySem.F.plain_list_iadd _,codeAny_builtin entry_list_iadd' ?_⟩;rw [Around.under_plainId PySem.F.plain_list_iadd _];have hS₁:(s.heap.push { cls:=.type "list",data:=.seq ([]:List Value).toArray }).get? s.heap.objs.size=some { cls:=.type "list",data:=.seq #[] }:=yao _ rfl;show wpAny _ A.in1 (Builtin.List.listExtendWith (.ref s.heap.objs.size) (.ref d) (.ref s.heap.objs.size)) _ _ _
 have itm:∀acc:Array Value,ItemsOf (fun i v=>∃e,es[i]?=some e/\v=e.key) acc es.size->acc.toList=es.toList.map (·.key):=fun acc ha=>by
  apply ycc;intro i;rw [yaF,ycg,ycg]
  by_cases hi:i<es.size
  ·have hi':i<acc.size:=by rw [ha.1];exact hi
   obtain ⟨e,e1,e2⟩:=ha.2 i acc[i] (ya4 hi');rw [ya4 hi',e1,e2];rfl
  ·rw [ybK (by rw [ha.1];omega),ybK (by omega)];rfl
 have key:=kdl_extend (A:=A) (s:={ s with heap:=s.heap.push { cls:=.type "list",data:=.seq ([]:List Value).toArray } }) (znF (prog:=prog) (w:=w) (es:=es) (ep:=ep) lo)
  (R:=fun (q:Result) (s':Shared)=>∃(h':Heap) (tk:Nat) (acc':Array Value) (c':Nat),q=.ok (.ret (.ref s.heap.objs.size))/\s'={ s with heap:=h',toks:=tk } ∧
   (∀b o,s.heap.get? b=some o->h'.get? b=some o)/\h'.get? s.heap.objs.size=some { cls:=.type "list",dict:=none,data:=.seq acc' c',slots:=#[] }/\acc'.toList=es.toList.map (·.key))
  hh (hm.at fun _ e=>yae _ e) s.heap.objs.size (ya3 hd) (ya3 hd) (.ref s.heap.objs.size) 0 hS₁
  (fun h' tk acc' c' hk hS' hacc=>⟨h',tk,acc',c',rfl,rfl,fun b o e=>hk b o (yay (yam e)) (yae _ e),hS',itm _ hacc⟩) hn
 refine ybd key (fun fin s' x=>?_) fun e s' x=>?_
 ·cases fin with
  | done f =>
   obtain ⟨h',tk,acc',c',e,rfl,hk,hS',hacc⟩:=x;cases e;show wpAny _ A (load s.heap.objs.size >>= _) _ _ _;refine yaa (wpAny_load hS' ?_);refine yac ?_;show R acc'.toList _;rw [hacc];exact h h' tk hk
  | again c₁ =>
   refine ⟨x.1,ycv x.2 fun q s₂ y=>?_⟩;obtain ⟨h',tk,acc',c',rfl,rfl,hk,hS',hacc⟩:=y;show wpAny _ A (load s.heap.objs.size >>= _) _ _ _;refine yaa (wpAny_load hS' ?_);refine yac ?_;show R acc'.toList _;rw [hacc];exact h h' tk hk
 ·obtain ⟨h',tk,acc',c',e,_⟩:=x;cases e
end
end ST
namespace ST
open PySem PySem.Spec PySem.W PyProof.Rows
theorem Okk.res{α:Type}{n:Nat}{ans:Nat->Nat->Bool}{Q:α->Prop}:∀{t:KasT α},Okk n ans t Q->∃a,Q a/\∀(cmp:Nat->Nat->(Bool->Shared->Prop)->Shared->Prop) (s:Shared) (G:α->Shared->Prop),(∀i j C,i<n->j<n->C (ans i j) s->cmp i j C s)->G a s->t.kasWp cmp G s
 | .ret a,h=>⟨a,h,fun _ _ _ _ g=>g⟩
 | .ask i j k,h=>by
  obtain ⟨a,q,f⟩:=Okk.res (t:=k (ans i j)) h.2.2;exact ⟨a,q,fun cmp s G hc g=>hc i j _ h.1 h.2.1 (f cmp s G hc g)⟩
noncomputable abbrev IP:=Int×Int
noncomputable def zcj(p:IP):Int:=p.1*4000001+p.2
noncomputable def smP(p:IP):Prop:=-1000000<=p.2/\p.2<=1000000
def zqY{p q:IP}(hp:smP p)(hq:smP q):lxL p.1 p.2 q.1 q.2=decide (zcj p<zcj q):=by
 unfold lxL zcj;unfold smP at hp hq;rw [ybH];omega
def zdY{p q:IP}(hp:smP p)(hq:smP q)(h:zcj p=zcj q):p=q:=by
 obtain ⟨a,b⟩:=p;obtain ⟨c,d⟩:=q;unfold zcj at h;unfold smP at hp hq
 have h1:a=c:=by simp only at h hp hq;omega
 have h2:b=d:=by simp only at h hp hq;omega
 rw [h1,h2]
noncomputable def zsi(h:Heap)(x:Addr×IP):Prop:=∃t u,h.IsTuple x.1 #[.int x.2.1 t,.int x.2.2 u]
noncomputable abbrev rfs(vs:List (Addr×IP)):List Value:=vs.map fun x=>Value.ref x.1
theorem zjY{h:Heap}:∀{vs:List (Addr×IP)},(∀x∈vs,zsi h x)->∃fs,KatTups h (rfs vs) fs/\fs.length=vs.length/\∀v∈fs,∃i t,v=.int i t
 | [],_=>⟨[],KatTups.nil,rfl,fun v hv=>nomatch hv⟩
 | x::vs,hp=>by
  obtain ⟨t,u,o,e,c,n,d⟩:=hp x (.head _);obtain ⟨fs,h1,h2,h3⟩:=zjY (vs:=vs) fun y hy=>hp y (.tail _ hy)
  refine ⟨.int x.2.1 t::fs,KatTups.cons e c d rfl h1,congrArg Nat.succ h2,fun v hv=>?_⟩
  rcases yas.mp hv with rfl | hv
  ·exact ⟨_,_,rfl⟩
  ·exact h3 v hv
section
variable{prog:Program}{w:World}{A:Around}{E:Z5}{s:Shared}
def zkO{B:Addr}{vs:List (Addr×IP)}(h64:vs.length<64)(hs:∀x∈vs,smP x.2)(nd:(vs.map (·.2)).Nodup):∃out:List (Addr×IP),out.Perm vs/\(out.map fun x=>zcj x.2).Pairwise (· < ·) ∧
  ∀(A:Around) (E:Z5) (s:Shared) (n:Nat) (P:PySem.Fin->Shared->Prop),s.heap.get? B=some (seqObj "list" (rfs vs).toArray n)->(∀x∈vs,zsi s.heap x)->P (.done (.ret .none)) { s with heap:=sortedHeap s.heap B (rfs vs) (rfs out).toArray }->wpAny (model prog w) A (Builtin.«list.sort» ⟨[.ref B],[]⟩) P E s:=by
 by_cases h2:2<=vs.length
 ·let key:Nat->Int:=fun i=>zcj (vs.getD i (0,0,0)).2
  have gd:∀i,i<vs.length->vs.getD i (0,0,0)=vs[i]!:=fun i hi=>by rw [yaQ,List.getElem!_eq_getElem?_getD];rfl
  have ge:∀i (hi:i<vs.length),vs.getD i (0,0,0)=vs[i]:=fun i hi=>by rw [yaQ,yaj hi];rfl
  have inj:∀i j,i<vs.length->j<vs.length->key i=key j->i=j:=by
   intro i j hi hj e
   have e':zcj vs[i].2=zcj vs[j].2:=by rw [<-ge i hi,<-ge j hj];exact e
   have e2:=zdY (hs _ (ybv hi)) (hs _ (ybv hj)) e';have np:=List.pairwise_iff_getElem.mp nd
   rcases Nat.lt_trichotomy i j with hlt | he | hgt
   ·exact absurd (by rw [ybw,ybw];exact e2) (np i j (by rw [yad];exact hi) (by rw [yad];exact hj) hlt)
   ·exact he
   ·exact absurd (by rw [ybw,ybw];exact e2.symm) (np j i (by rw [yad];exact hj) (by rw [yad];exact hi) hgt)
  obtain ⟨p,⟨hp,hq⟩,hw⟩:=Okk.res (zq6 h2 inj);have hlt:∀i∈p.toList,i<vs.length:=fun i hi=>ybA.mp (hp.mem_iff.mp hi)
  refine ⟨p.toList.map fun i=>vs.getD i (0,0,0),?_,?_,?_⟩
  ·have:=hp.map fun i=>vs.getD i (0,0,0)
   refine this.trans (List.Perm.of_eq ?_);apply List.ext_getElem
   ·rw [yad,ycG]
   ·intro i h1 h2;rw [ybw,List.getElem_range,ge i h2]
  ·rw [ybk];exact hq
  ·intro A E s n P ho hpr hP;obtain ⟨fs,t1,t2,t3⟩:=zjY hpr
   have eo:(rfs (p.toList.map fun i=>vs.getD i (0,0,0))).toArray=List.toArray (p.toList.map fun i=>(rfs vs).getD i Value.none):=by
    congr 1;unfold rfs;rw [ybk];apply List.map_congr_left;intro i hi;have hl:=hlt i hi;show Value.ref (vs.getD i (0,0,0)).1=_;rw [ge i hl,yaQ,yaF,yaj hl];rfl
   rw [eo] at hP;refine ziE (fs:=fs) (p:=p) ho (by unfold rfs;rw [yad];exact h2) (by unfold rfs;rw [yad];exact h64) t1 (by omega) t3 (fun s' G k hg=>?_) hP;rw [show (rfs vs).length=vs.length from yad ..];refine hw _ s' G (fun i j C hi hj hC=>?_) hg;obtain ⟨a1,a2,x1⟩:=hpr vs[i] (ybv hi);obtain ⟨b1,b2,x2⟩:=hpr vs[j] (ybv hj);have up:∀{x:Addr} {xs:Array Value},s.heap.IsTuple x xs->s'.heap.IsTuple x xs:=fun ⟨o,e,c,r⟩=>⟨o,k _ _ e c,c,r⟩
   refine zmj (x:=vs[i].1) (y:=vs[j].1) (by rw [yaQ,yaF,yaj hi];rfl) (by rw [yaQ,yaF,yaj hj];rfl) (up x1) (up x2) ?_;rw [zqY (hs _ (ybv hi)) (hs _ (ybv hj))]
   have:ansK key i j=decide (zcj vs[i].2<zcj vs[j].2):=by
    show decide (zcj (vs.getD i (0,0,0)).2<zcj (vs.getD j (0,0,0)).2)=_;rw [ge i hi,ge j hj]
   rw [<-this];exact hC
 ·refine ⟨vs,List.Perm.refl _,?_,fun A E s n P ho hpr hP=>zkN ho (by unfold rfs;rw [yad];omega) hP⟩
  cases vs with
  | nil=>exact .nil
  | cons x l =>
   cases l with
   | nil=>exact List.pairwise_singleton _ _
   | cons y l=>exact absurd (by simp) h2
def zfF{r:Addr}{vs:List (Addr×IP)}{Q:Z5}(h64:vs.length<64)(hs:∀x∈vs,smP x.2)(nd:(vs.map (·.2)).Nodup)(hpr:∀x∈vs,zsi s.heap x)
  (hcol:∀{R:List Value->Shared->Prop},(∀(h':Heap) (tk:Nat),(∀b o,s.heap.get? b=some o->h'.get? b=some o)->R (rfs vs) { s with heap:=h',toks:=tk })->wpAny (model prog w) A.in1 (collect (.ref r)) R E s)
  (hQ:∀(out:List (Addr×IP)) (hm h':Heap) (tk e:Nat),out.Perm vs->(out.map fun x=>zcj x.2).Pairwise (· < ·)->(∀b o,s.heap.get? b=some o->hm.get? b=some o)->(∀b o,hm.get? b=some o->h'.get? b=some o)->h'.get? hm.objs.size=some (seqObj "list" (rfs out).toArray e)->Q (.ref hm.objs.size) { s with heap:=h',toks:=tk }) :
  wpAny (model prog w) A (call (.builtin "sorted") [.ref r]) Q E s:=by
 refine Calls.call_function_entry kind_sorted plain_sorted entry_sorted (args_sorted1 _) ?_;unfold Builtin.«sorted»;refine yaa (m:=checkCount "sorted" 1 1 _) (yac ?_);refine yaa (hcol fun h' tk hk=>?_)
 have hz:(rfs vs).length<=sizeLine:=by unfold rfs;rw [yad,ybm];omega
 refine yaa (wpAny_newList ?_ hz);have hoL:(h'.push (seqObj "list" (rfs vs).toArray 0)).get? h'.objs.size=some (seqObj "list" (rfs vs).toArray 0):=yao _ rfl;obtain ⟨out,o1,o2,o3⟩:=zkO (prog:=prog) (w:=w) (B:=h'.objs.size) h64 hs nd;refine yaa (ybh (yaU slot_list_sort ⟨_,hoL,rfl⟩ entry_list_sort (o3 _ _ { s with heap:=h'.push (seqObj "list" (rfs vs).toArray 0),toks:=tk } 0 _ hoL (fun x hx=>?_) ⟨_,rfl,?_⟩) (args_list_sort _)))
 ·obtain ⟨t,u,o,e,c⟩:=hpr x hx;exact ⟨t,u,o,yae _ (hk _ _ e),c⟩
 refine yac ⟨_,rfl,?_⟩;obtain ⟨e,he⟩:=sortedHeap_at (out:=(rfs out).toArray) hoL
 have old:∀b o,h'.get? b=some o->(sortedHeap (h'.push (seqObj "list" (rfs vs).toArray 0)) h'.objs.size (rfs vs) (rfs out).toArray).get? b=some o:=fun b o hb=>by
  have hl':b<h'.objs.size:=yam hb;rw [sortedHeap_old (yay hl') (by rw [size_push'];exact Nat.lt_succ_of_lt hl')];exact yae _ hb
 exact hQ out h' _ tk e o1 o2 hk old he
end
end ST
namespace L2
open PySem PySem.Spec PySem.W PyProof.Rows ST
section
variable{X:Cx}{pins:Z3}{σ:St}{H:Hp}{s:Shared}
def Inv.pr(I:Inv X pins σ H s){x:Addr×IP}(h:SqT X.K H x.1 [.int x.2.1,.int x.2.2]):zsi s.heap x:=by
 obtain ⟨ts,rt,pt,_⟩:=I.tuple h
 cases rt with
 | cons c1 rt =>
  cases rt with
  | cons c2 rt =>
   cases rt;obtain ⟨t1,rfl⟩:=c1;obtain ⟨t2,rfl⟩:=c2;exact ⟨t1,t2,pt⟩
theorem zbO:∀vs:List (Addr×IP),Vals (vs.map fun x=>V.ref x.1) (rfs vs)
 | []=>.nil
 | x::vs=>.cons rfl (zbO vs)
theorem ziX:∀{vs:List (Addr×IP)} {us:List Value},Vals (vs.map fun x=>V.ref x.1) us->us=rfs vs
 | [],_,.nil=>rfl
 | x::vs,_,.cons r t=>by
  cases r;rw [ziX t];rfl
def zgc(hc:X.calm=true):zdk X (.builtin "sorted") (fun xs H Q=>∃(p:Addr) (vs:List (Addr×IP)),xs=[.ref p]/\SqL X.K H p (vs.map fun x=>.ref x.1)/\(∀x∈vs,SqT X.K H x.1 [.int x.2.1,.int x.2.2])/\vs.length<64/\(∀x∈vs,smP x.2)/\(vs.map (·.2)).Nodup ∧
  ∀(l:Addr) (out:List (Addr×IP)),H l=none->out.Perm vs->(out.map fun x=>zcj x.2).Pairwise (· < ·)->Q (.ref l) (upd H l (.lst (out.map fun x=>.ref x.1)))):=by
 intro pins s σ H xs us Q I r h;obtain ⟨p,vs,rfl,hq,ht,h64,hs,nd,q⟩:=h;obtain ⟨u,rfl,rx⟩:=zgo r;cases rx;obtain ⟨its,rv,pl,hz⟩:=I.list hq;have ei:=ziX rv;subst ei;refine zfF h64 hs nd (fun x hx=>I.pr (ht x hx)) (fun {R} hR=>collect_list pl.isList ?_ (by unfold rfs;rw [yad,ybm];omega)) fun out hm h' tk e o1 o2 k1 k2 hB=>?_
 ·exact hR _ s.toks fun b o q=>by
   have hlt:=yam q;rw [Heap.get?_update_ne _ _ _ _ (yay hlt)];exact yae _ q
 ·have I1:Inv X pins σ H { s with heap:=hm,toks:=tk }:=I.kept k1;refine ⟨.ref hm.objs.size,_,I1.laid (h':=h') (t':=tk) (o:=.lst (out.map fun x=>.ref x.1)) k2 (yah _) ⟨?_,rfs out,e,zbO out,hB⟩,rfl,q _ _ (I1.hok.fresh (yah _)) o1 o2⟩;rw [yad,o1.length_eq,ybm];omega
def zgd(hc:X.calm=true):zdk X (.builtin "sorted") (fun xs H Q=>∃(p a':Addr) (ps:List PA2),xs=[.ref p]/\H p=some (.ext (DP X.prog X.w a' ps))/\KsP H ps/\ps.length<64/\(∀x∈ps,smP x.1)/\(ps.map (·.1)).Nodup ∧
  ∀(l:Addr) (out:List (Addr×IP)),H l=none->out.Perm (ps.map fun x=>(x.2,x.1))->(out.map fun x=>zcj x.2).Pairwise (· < ·)->Q (.ref l) (upd H l (.lst (out.map fun x=>.ref x.1)))):=by
 intro pins s σ H xs us Q I r h;obtain ⟨p,a',ps,rfl,hx,hk,h64,hs,nd,q⟩:=h;obtain ⟨u,rfl,rx⟩:=zgo r;cases rx;obtain rfl:=I.dp_addr hx;obtain ⟨⟨o,es,ep,h1,h2,h3,h4,_,h6⟩,_⟩:=I.hok _ _ hx;have hraw:zhO s.heap a' es ep:=⟨o,h1,h2,h3⟩
 have ek:es.toList.map (·.key)=rfs (ps.map fun x=>(x.2,x.1)):=by
  rw [h4];unfold xsP rfs;rw [ybk,ybk,ybk];rfl
 have hsz:es.size<=sizeLine:=by
  have:=congrArg List.length h4;rw [yaZ,yad,xsP,yad] at this;rw [this,ybm];omega
 have em:(ps.map fun x=>((x.2,x.1):Addr×IP)).map (·.2)=ps.map (·.1):=by rw [ybk];rfl
 refine zfF (vs:=ps.map fun x=>(x.2,x.1)) (by rw [yad];exact h64) (fun y hy=>?_) (by rw [em];exact nd) (fun y hy=>?_) (fun {R} hR=>zgy (I.ok.hd hc) h6 hraw hsz fun h' tk k=>by rw [ek];exact hR h' tk k) fun out hm h' tk e o1 o2 k1 k2 hB=>?_
 ·obtain ⟨x,hxm,rfl⟩:=yaq.mp hy;exact hs x hxm
 ·obtain ⟨x,hxm,rfl⟩:=yaq.mp hy;exact I.pr (SqT.of (hk x hxm))
 ·have I1:Inv X pins σ H { s with heap:=hm,toks:=tk }:=I.kept k1;refine ⟨.ref hm.objs.size,_,I1.laid (h':=h') (t':=tk) (o:=.lst (out.map fun x=>.ref x.1)) k2 (yah _) ⟨?_,rfs out,e,zbO out,hB⟩,rfl,q _ _ (I1.hok.fresh (yah _)) o1 o2⟩;rw [yad,o1.length_eq,yad,ybm];omega
end
end L2
namespace S2
open PySem PySem.Spec PyProof.Rows L2 ST
noncomputable def pD(p:IP):D:=.tup [.int p.1,.int p.2]
def ze5{p:IP}:zbC (pD p)=some p:=rfl
def ze6{d:D}{p:IP}(h:zbC d=some p):d=pD p:=by
 unfold zbC at h;split at h
 ·cases h;rfl
 ·cases h
noncomputable def prs:List D->Option (List IP)
 | []=>some []
 | d::l=>(zbC d).bind fun p=>(prs l).bind fun ps=>some (p::ps)
theorem zmB:∀{l:List D} {ps:List IP},prs l=some ps->l=ps.map pD
 | [],ps,h=>by cases h;rfl
 | d::l,ps,h=>by
  cases h1:zbC d with
  | none=>rw [show prs (d::l)=(zbC d).bind fun p=>(prs l).bind fun ps=>some (p::ps) from rfl,h1] at h;cases h
  | some p =>
   rw [show prs (d::l)=(zbC d).bind fun p=>(prs l).bind fun ps=>some (p::ps) from rfl,h1] at h
   cases h2:prs l with
   | none=>rw [show ((some p).bind fun p=>(prs l).bind fun ps=>some (p::ps))=(prs l).bind fun ps=>some (p::ps) from rfl,h2] at h;cases h
   | some qs =>
    rw [show ((some p).bind fun p=>(prs l).bind fun ps=>some (p::ps))=(prs l).bind fun ps=>some (p::ps) from rfl,h2] at h;cases h;rw [zmB h2,ze6 h1];rfl
theorem zi4:∀ps:List IP,prs (ps.map pD)=some ps
 | []=>rfl
 | p::ps=>by
  show (prs (ps.map pD)).bind _=_;rw [zi4 ps];rfl
noncomputable def zo9(p:IP):List IP->List IP
 | []=>[p]
 | q::l=>if zcj p<zcj q then p::q::l else q::zo9 p l
noncomputable def zbd:List IP->List IP | []=>[] | p::l=>zo9 p (zbd l)
theorem zd2{p:IP}:∀l:List IP,(zo9 p l).Perm (p::l)
 | []=>List.Perm.refl _
 | q::l=>by
  unfold zo9;split
  ·exact List.Perm.refl _
  ·exact ((zd2 l).cons q).trans (List.Perm.swap p q l)
theorem za9:∀l:List IP,(zbd l).Perm l
 | []=>List.Perm.refl _
 | p::l=>(zd2 _).trans ((za9 l).cons p)
theorem zhz{p:IP}:∀{l:List IP},(l.map zcj).Pairwise (· < ·)->(∀q∈l,zcj q≠zcj p)->((zo9 p l).map zcj).Pairwise (· < ·)
 | [],_,_=>List.pairwise_singleton _ _
 | q::l,h,hn=>by
  rw [yat,ybM] at h;unfold zo9;split
  ·rename_i hlt;rw [yat,yat,ybM,ybM];refine ⟨fun x hx=>?_,h⟩
   rcases yas.mp hx with rfl | hx
   ·exact hlt
   ·exact yci hlt (h.1 x hx)
  ·rename_i hlt;rw [yat,ybM];refine ⟨fun x hx=>?_,zhz h.2 fun r hr=>hn r (.tail _ hr)⟩;obtain ⟨r,hr,rfl⟩:=yaq.mp hx;have:=(zd2 l).mem_iff.mp hr
   rcases yas.mp this with rfl | hr
   ·have:=hn q (.head _);omega
   ·exact h.1 _ (yaq.mpr ⟨r,hr,rfl⟩)
theorem zbQ:∀{l:List IP},(l.map zcj).Nodup->((zbd l).map zcj).Pairwise (· < ·)
 | [],_=>.nil
 | p::l,h=>by
  rw [yat,ybj] at h;refine zhz (zbQ h.2) fun q hq e=>h.1 ?_
  have:=(za9 l).mem_iff.mp hq;exact yaq.mpr ⟨q,this,e⟩
theorem zcP{α:Type}(k:α->Int):∀{l m:List α},(l.map k).Pairwise (· < ·)->(m.map k).Pairwise (· < ·)->l.Perm m->l=m
 | [],m,_,_,h=>(List.Perm.nil_eq h)
 | a::l,[],_,_,h=>by have:=h.length_eq;cases this
 | a::l,b::m,h1,h2,h=>by
  rw [yat,ybM] at h1 h2
  have e:a=b:=by
   have ha:=h.mem_iff.mp (yaB (a:=a) (l:=l));have hb:=h.mem_iff.mpr (yaB (a:=b) (l:=m))
   rcases yas.mp ha with e | ha
   ·exact e
   ·rcases yas.mp hb with e | hb
    ·exact e.symm
    ·have x1:=h1.1 _ (yaq.mpr ⟨b,hb,rfl⟩);have x2:=h2.1 _ (yaq.mpr ⟨a,ha,rfl⟩);exact absurd (yci x1 x2) (Int.lt_irrefl _)
  subst e;rw [zcP k h1.2 h2.2 (List.Perm.cons_inv h)]
noncomputable def zdC(ps:List IP):Bool:=decide (ps.length<64)&&ps.all (fun p=>decide (-1000000<=p.2/\p.2<=1000000))&&decide ps.Nodup
def zdc{ps:List IP}(h:zdC ps=true):ps.length<64/\(∀p∈ps,smP p)/\ps.Nodup:=by
 unfold zdC at h;rw [yab,yab,ybu] at h;exact ⟨yak h.1.1,fun p hp=>(yak (h.1.2 p hp):-1000000<=p.2/\p.2<=1000000),yak h.2⟩
def zmD{ps:List IP}{out:List (Addr×IP)}{vs:List (Addr×IP)}(hv:vs.map (·.2)=ps)(ok:zdC ps=true)(hp:out.Perm vs)(hs:(out.map fun x=>zcj x.2).Pairwise (· < ·)):out.map (·.2)=zbd ps:=by
 obtain ⟨_,sm,nd⟩:=zdc ok;refine zcP zcj (by rw [ybk];exact hs) (zbQ ?_) (((hp.map (·.2)).trans (List.Perm.of_eq hv)).trans (za9 ps).symm);unfold List.Nodup at nd ⊢;rw [ybr];exact ya9 (fun {a b} ha hb h e=>h (zdY (sm a ha) (sm b hb) e)) nd
noncomputable def zeT:D->Option D
 | .lst l=>(prs l).bind fun ps=>if zdC ps then some (.lst ((zbd ps).map pD)) else none
 | _=>none
section
variable{X:Cx}{cl:Cf}{E:St->XK}{a e:Expr}{f:Fe}{i j:Nat}{x y:Str}{p px ap cp pos pos':Pos}{own:Bool}{w:Wd}
theorem zhp:∀{ps:List IP} {vs:List V},Shds cl w vs (ps.map pD)->∃as:List (Addr×IP),vs=as.map (fun x=>V.ref x.1)/\as.map (·.2)=ps/\∀x∈as,w.H x.1=some (.tup [.int x.2.1,.int x.2.2])/\Shd cl w (.ref x.1) (pD x.2)
 | [],vs,h=>by cases h;exact ⟨[],rfl,rfl,fun x hx=>nomatch hx⟩
 | p::ps,vs,h=>by
  cases h with
  | cons h t =>
   obtain ⟨as,e1,e2,e3⟩:=zhp t;obtain ⟨q,rfl,hq⟩:=zcX h ze5
   exact ⟨(q,p)::as,by rw [e1];rfl,by rw [<-e2];rfl,fun x hx=>by
    rcases yas.mp hx with rfl | hx
    ·exact ⟨hq,h⟩
    ·exact e3 x hx⟩
theorem zeX:∀{out:List (Addr×IP)},(∀x∈out,Shd cl w (.ref x.1) (pD x.2))->Shds cl w (out.map fun x=>V.ref x.1) ((out.map (·.2)).map pD)
 | [],_=>.nil
 | x::out,h=>.cons (h x (.head _)) (zeX fun y hy=>h y (.tail _ hy))
def znx(hc:X.calm=true)(hK:X.K=cl.K)(hg:Gl X "sorted")(hm:X.mg "sorted" = none)(ha:PE X a (tE cl E f))(hs:starEach [a] X.env=(false,eval a X.env)::starEach [] X.env) :
  PE X (.Call (.Name "sorted" p) [a] [] pos) (tN cl E (eUn zeT f)):=by
 refine PE.imp (zcW (zgc hc) hg hm (by decide +kernel) (zbH ha zdo hs) (he:=hs)) ?_;rintro σ H Q ⟨B,w,ρ,S,rfl,R,q⟩;refine ⟨B,w,ρ,S,rfl,R,?_⟩;unfold eUn at q
 cases hf:f ρ S with
 | bad=>rwa [hf] at q
 | exc c S1=>rwa [hf] at q
 | ok d S1 =>
  rw [hf] at q;intro v w1 R1 F1 sh;dsimp only [Out.bind] at q
  cases d with
  | lst l =>
   cases hp:prs l with
   | none=>rw [show zeT (.lst l)=(prs l).bind _ from rfl,hp] at q;exact q.elim
   | some ps =>
    cases ok:zdC ps with
    | false =>
     rw [show zeT (.lst l)=(prs l).bind fun ps=>if zdC ps then some (.lst ((zbd ps).map pD)) else none from rfl,hp,show ((some ps).bind fun ps=>if zdC ps then some (D.lst ((zbd ps).map pD)) else none)=if zdC ps then some (D.lst ((zbd ps).map pD)) else none from rfl,ok] at q;exact q.elim
    | true =>
     rw [show zeT (.lst l)=(prs l).bind fun ps=>if zdC ps then some (.lst ((zbd ps).map pD)) else none from rfl,hp,show ((some ps).bind fun ps=>if zdC ps then some (D.lst ((zbd ps).map pD)) else none)=if zdC ps then some (D.lst ((zbd ps).map pD)) else none from rfl,ok,if_pos rfl] at q;have el:=zmB hp;subst el
     cases sh with
     | lst e k r =>
      obtain ⟨as,rfl,e2,e3⟩:=zhp r;obtain ⟨h64,sm,nd⟩:=zdc ok;refine ⟨_,as,rfl,SqL.of e,fun x hx=>SqT.of (e3 x hx).1,by rw [<-e2,yad] at h64;exact h64,fun x hx=>sm _ (by rw [<-e2];exact yaq.mpr ⟨x,hx,rfl⟩),by rw [e2];exact nd,fun l out hl o1 o2=>?_⟩;refine q l (.lst (out.map fun x=>V.ref x.1)) w1 R1 F1 hl (.lst ?_);rw [<-zmD e2 ok o1 o2];exact zeX fun x hx=>(e3 x (o1.mem_iff.mp hx)).2
  | _=>exact q.elim
noncomputable def zdt(ps:List IP):D:=.dic ((.bl true,.non)::pdD ps)
noncomputable def psX:List (D×D)->Option (List IP)
 | []=>some []
 | (d,.bl true)::l=>(zbC d).bind fun p=>(psX l).bind fun ps=>some (p::ps)
 | _=>none
theorem zho:∀ps:List IP,psX (pdD ps)=some ps
 | []=>rfl
 | p::ps=>by
  show (psX (pdD ps)).bind _=_;rw [zho ps];rfl
theorem zmA:∀{ds:List (D×D)} {ps:List IP},psX ds=some ps->ds=pdD ps
 | [],ps,h=>by cases h;rfl
 | (d,v)::l,ps,h=>by
  cases v with
  | bl b =>
   cases b with
   | true =>
    obtain ⟨p,h1,h⟩:=Option.bind_eq_some_iff.mp (show ((zbC d).bind fun p=>(psX l).bind fun ps=>some (p::ps))=some ps from h);obtain ⟨qs,h2,h⟩:=Option.bind_eq_some_iff.mp h;cases h;rw [zmA h2,ze6 h1];rfl
   | false=>cases h
  | _=>cases h
noncomputable def zlR:D->Option (List IP) | .dic ((.bl true,.non)::ds)=>psX ds | _=>none
def zlQ{d:D}{ps:List IP}(h:zlR d=some ps):d=zdt ps:=by
 unfold zlR at h;split at h
 ·rw [zmA h];rfl
 ·cases h
noncomputable def zeV(i:Nat)(ρ:Env):Option (Bool×List IP):=match ρ[i]? with | some (some (o,d))=>(zlR d).map fun ps=>(o,ps) | _=>none
def zeU{i:Nat}{ρ:Env}{o:Bool}{ps:List IP}(h:zeV i ρ=some (o,ps)):ρ[i]?=some (some (o,zdt ps)):=by
 unfold zeV at h;split at h
 ·rename_i o' d e
  cases hd:zlR d with
  | none=>rw [hd] at h;cases h
  | some x=>rw [hd] at h;cases h;rw [e,zlQ hd]
 ·cases h
def zmS{o:HO}{ps:List IP}(h:Exd cl w o (pdD ps)):∃a' xs,o=.ext (DP cl.P cl.wo a' xs)/\xs.map (·.1)=ps/\∀x∈xs,w.H x.2=some (.tup [.int x.1.1,.int x.1.2])/\w.ow x.2=none:=by
 generalize hq:pdD ps=ds at h
 cases h with
 | @pd a xs h =>
  have:=congrArg psX hq;rw [zho,zho] at this;exact ⟨a,xs,rfl,(Option.some.inj this).symm,h⟩
 | od =>
  cases ps with
  | nil=>cases hq
  | cons p ps=>cases hq
def Rel.dcx{B:Base}{σ:St}{ρ:Env}{S:Sto}{i:Nat}{o:Bool}{ps:List IP}(R:Rel cl B σ w ρ S)(h:ρ[i]?=some (some (o,zdt ps))):∃a a' xs,σ[i]?=some (some (.ref a))/\(o=true->w.ow a=some (.slot i))/\w.H a=some (.ext (DP cl.P cl.wo a' xs))/\xs.map (·.1)=ps/\∀x∈xs,w.H x.2=some (.tup [.int x.1.1,.int x.1.2])/\w.ow x.2=none:=by
 obtain ⟨v,e1,r⟩:=R.slots i o _ h
 cases o with
 | false =>
  have r':Shd cl w v (.dic ((.bl true,.non)::pdD ps)):=r;generalize hq:pdD ps=q at r'
  cases r' with
  | dicK _ _ z=>cases z
  | dicX e _ x =>
   rw [<-hq] at x;obtain ⟨a',xs,rfl,h1,h2⟩:=zmS x;exact ⟨_,a',xs,e1,(fun z=>nomatch z),e,h1,h2⟩
 | true =>
  obtain ⟨a,o,rfl,h1,h2,t⟩:=r;have t':Top cl w o (.dic ((.bl true,.non)::pdD ps)):=t;generalize hq:pdD ps=q at t'
  cases t' with
  | dicK z=>cases z
  | dicX x =>
   rw [<-hq] at x;obtain ⟨a',xs,rfl,g1,g2⟩:=zmS x;exact ⟨a,a',xs,e1,fun _=>h1,h2,g1,g2⟩
noncomputable def zdL(i:Nat)(ρ:Env):Option IP:=match ρ[i]? with | some (some (false,d))=>zbC d | _=>none
def zfK{i:Nat}{ρ:Env}{p:IP}(h:zdL i ρ=some p):ρ[i]?=some (some (false,pD p)):=by
 unfold zdL at h;split at h
 ·rename_i d e;rw [e,ze6 h]
 ·cases h
noncomputable def zeb(i:Nat):Fe:=fun ρ S=>match zdL i ρ with | some p=>.ok (zdt [p]) S | none=>.bad
def zkV{kk:Nat}{pc:Pos}(hu:X.A.units+1<cLine)(sm:Same' cl X)(hN:X.N[i]?=some x)(hv:Vis X.env.scope x)(hd:(x == ("__debug__":Str))=false)(hcd:(x == ("__classdict__":Str))=false) :
  PE X (.Dict [some (.Name x px)] [.Constant (.bool true) kk pc] pos) (tN cl E (zeb i)):=by
 refine PE.imp (zlh hu (za4 hN hv hd hcd) zn1) ?_;rintro σ H Q ⟨B,w,ρ,S,rfl,R,q⟩;intro d hd';unfold zeb at q
 cases hs:zdL i ρ with
 | none=>rw [hs] at q;exact q.elim
 | some p =>
  rw [hs] at q;obtain ⟨v,e1,r⟩:=R.slots i false _ (zfK hs);have r':Shd cl w v (pD p):=r;obtain ⟨kb,rfl,hk⟩:=zcX r' ze5
  have ko:w.ow kb=none:=by
   have r2:Shd cl w (.ref kb) (.tup [.int p.1,.int p.2]):=r'
   cases r2 with
   | tup _ k _=>exact k
  refine ⟨_,e1,kb,p,rfl,rfl,by rw [zaf (zap hk hd')];exact hk,zay,?_⟩
  have eu:upd (upd w.H d (.ext (DP X.prog X.w d []))) d (.ext (DP X.prog X.w d [(p,kb)]))=upd w.H d (.ext (DP X.prog X.w d [(p,kb)])):=by
   funext b;unfold upd
   by_cases hb:b=d
   ·rw [if_pos hb,if_pos hb]
   ·rw [if_neg hb,if_neg hb,if_neg hb]
  rw [eu,sm.pp,sm.ww];refine q d _ w R (Fut.refl _) hd' (.dicX (ds:=pdD [p]) ?_)
  exact Exd.pd (xs:=[(p,kb)]) fun y hy=>by
   rcases yaP.mp hy with rfl
   exact ⟨hk,ko⟩
noncomputable def zf8(i:Nat)(f:Fe):Fe:=fun ρ S=>match zeV i ρ with
 | some q=>(f ρ S).bind fun k S1=>(match zbC k with | some p=>.ok (.bl (!decide (p∈q.2))) S1 | none=>.bad)
 | none=>.bad
def zmJ(sm:Same' cl X)(σ:St)(H:Hp)(Q:VK)(q:tE cl E (zf8 i f) σ H Q) :
  tOp (fun x y H Q=>∃(kb a a':Addr) (p:Int×Int) (xs:List PA2),x=.ref kb/\y=.ref a/\H kb=some (.tup [.int p.1,.int p.2])/\H a=some (.ext (DP X.prog X.w a' xs))/\KsP H xs/\Q (.bl (!decide (p∈xs.map (·.1)))) H) (tE cl E f) (zsD i) σ H Q:=by
 obtain ⟨B,w,ρ,S,rfl,R,q⟩:=q;refine ⟨B,w,ρ,S,rfl,R,?_⟩;unfold zf8 at q
 cases hs:zeV i ρ with
 | none=>rw [hs] at q;exact q.elim
 | some qq =>
  obtain ⟨o,ps⟩:=qq;rw [hs] at q;dsimp only at q
  cases hf:f ρ S with
  | bad=>rwa [hf] at q
  | exc c S1=>rwa [hf] at q
  | ok k S1 =>
   rw [hf] at q;dsimp only [Out.bind] at q;intro v w1 R1 F1 h1;obtain ⟨a,a',xs,e1,_,h2,h3,h4⟩:=R1.dcx (zeU hs)
   cases hp:zbC k with
   | none=>rw [hp] at q;exact q.elim
   | some p =>
    rw [hp] at q;obtain ⟨kb,rfl,hk⟩:=zcX h1 hp;refine ⟨_,e1,kb,a,a',p,xs,rfl,rfl,hk,by rw [sm.pp,sm.ww];exact h2,fun y hy=>(h4 y hy).1,?_⟩;rw [h3];exact q (.bl _) w1 R1 F1 (.bl _)
def zny(hu:X.A.units+1<cLine)(sm:Same' cl X)(hN:X.N[i]?=some x)(hv:Vis X.env.scope x)(hd:(x == ("__debug__":Str))=false)(hcd:(x == ("__classdict__":Str))=false)(ha:PE X a (tE cl E f)):PE X (.Compare a [.NotIn] [.Name x px] pos) (tE cl E (zf8 i f)) :=
 PE.imp (zgD (zjn hu) ha (za4 hN hv hd hcd) rfl) (zmJ sm)
def znd(hu:X.A.units+1<cLine)(sm:Same' cl X)(hN:X.N[i]?=some x)(hv:Vis X.env.scope x)(hd:(x == ("__debug__":Str))=false)(hcd:(x == ("__classdict__":Str))=false)(ha:PE X a (tE cl E f)):PT X (.Compare a [.NotIn] [.Name x px] pos) (tTr cl E (zf8 i f)) :=
 PT.imp (zgz (zjn hu) ha (za4 hN hv hd hcd) rfl) fun _ _ _ q=>zmJ sm _ _ _ (zfB q)
noncomputable def zhW(i j:Nat):Fs:=fun ρ S=>match zeV i ρ,zdL j ρ with
 | some (true,ps),some p=>if p ∉ ps/\ps.length<=100000 then .nx (ρ.set i (some (true,zdt (ps++[p])))) S else .bad
 | _,_=>.bad
def zni{kk:Nat}{pc p3 py:Pos}(hu:X.A.units+1<cLine)(sm:Same' cl X)(hN:X.N[i]?=some x)(hv:Vis X.env.scope x)(hd:(x == ("__debug__":Str))=false)(hcd:(x == ("__classdict__":Str))=false)(hN2:X.N[j]?=some y)(hv2:Vis X.env.scope y)(hd2:(y == ("__debug__":Str))=false)(hcd2:(y == ("__classdict__":Str))=false) :
  PS X (.Assign [.Subscript (.Name x px) (.Name y py) p3] (.Constant (.bool true) kk pc) pos) (tS cl E own (zhW i j)):=by
 refine PS.imp (zhn (zn1 (b:=true)) (zjd (za4 hN hv hd hcd) (za4 hN2 hv2 hd2 hcd2) (zkS hu)) rfl rfl rfl) ?_;rintro De σ H ⟨B,w,ρ,S,rfl,R,q⟩;unfold zhW at q;split at q
 ·rename_i ps p hs hp;split at q
  ·rename_i hb;obtain ⟨a,a',xs,e1,h1,h2,h3,h4⟩:=R.dcx (zeU hs);obtain ⟨v,e2,r⟩:=R.slots j false _ (zfK hp);have r':Shd cl w v (pD p):=r;obtain ⟨kb,rfl,hk⟩:=zcX r' ze5
   have ko:w.ow kb=none:=by
    have r2:Shd cl w (.ref kb) (.tup [.int p.1,.int p.2]):=r'
    cases r2 with
    | tup _ k _=>exact k
   have hlen:xs.length<=100000:=by rw [<-h3,yad] at hb;exact hb.2
   refine ⟨_,e1,_,e2,a,a',kb,p,xs,rfl,rfl,rfl,hk,by rw [sm.pp,sm.ww];exact h2,fun y hy=>(h4 y hy).1,by rw [h3];exact hb.1,yar hlen (by decide),?_⟩;rw [sm.pp,sm.ww];have ff:Fut w (w.mut a (.ext (DP cl.P cl.wo a' (xs++[(p,kb)])))):=zcb (by rw [h1 rfl];exact yaE _)
   have ex:Exd cl w (.ext (DP cl.P cl.wo a' (xs++[(p,kb)]))) (pdD (ps++[p])):=by
    have:=Exd.pd (cl:=cl) (w:=w) (a:=a') (xs:=xs++[(p,kb)]) fun y hy=>by
     rcases ybi.mp hy with hy | hy
     ·exact h4 y hy
     ·rcases yaP.mp hy with rfl
      exact ⟨hk,ko⟩
    rwa [ybb,h3] at this
   exact q σ _ (R.mut (d0:=.non) e1 (h1 rfl) (.dicX ex)) ff
  ·exact q.elim
 ·exact q.elim
noncomputable def zif(i:Nat):Fe:=fun ρ S=>match zeV i ρ with
 | some q=>if zdC q.2 then .ok (.lst ((zbd q.2).map pD)) S else .bad
 | none=>.bad
def znw(hc:X.calm=true)(sm:Same' cl X)(hg:Gl X "sorted")(hm:X.mg "sorted" = none)(hN:X.N[i]?=some x)(hv:Vis X.env.scope x)(hd:(x == ("__debug__":Str))=false)(hcd:(x == ("__classdict__":Str))=false) :
  PE X (.Call (.Name "sorted" p) [.Name x px] [] pos) (tN cl E (zif i)):=by
 refine PE.imp (zcW (zgd hc) hg hm (by decide +kernel) (zbH (za4 hN hv hd hcd) zdo)) ?_;rintro σ H Q ⟨B,w,ρ,S,rfl,R,q⟩;unfold zif at q
 cases hs:zeV i ρ with
 | none=>rw [hs] at q;exact q.elim
 | some qq =>
  obtain ⟨o,ps⟩:=qq;rw [hs] at q;dsimp only at q
  cases ok:zdC ps with
  | false=>rw [ok] at q;exact q.elim
  | true =>
   rw [ok,if_pos rfl] at q;obtain ⟨a,a',xs,e1,_,h2,h3,h4⟩:=R.dcx (zeU hs);obtain ⟨h64,sm',nd⟩:=zdc ok;refine ⟨_,e1,a,a',xs,rfl,by rw [sm.pp,sm.ww];exact h2,fun y hy=>(h4 y hy).1,by rw [<-h3,yad] at h64;exact h64,fun y hy=>sm' _ (by rw [<-h3];exact yaq.mpr ⟨y,hy,rfl⟩),by rw [h3];exact nd,fun l out hl o1 o2=>?_⟩;refine q l (.lst (out.map fun x=>V.ref x.1)) w R (Fut.refl _) hl (.lst ?_);rw [<-zmD (vs:=xs.map fun x=>(x.2,x.1)) (by rw [ybk];exact h3) ok o1 o2];refine zeX fun y hy=>?_
   obtain ⟨z,hz,rfl⟩:=yaq.mp (o1.mem_iff.mp hy);exact .tup (h4 z hz).1 (h4 z hz).2 (.cons (.int _) (.cons (.int _) .nil))
noncomputable def zo6(i j:Nat):Fs:=fun ρ S=>match ρ[j]? with
 | some (some (true,.lst l))=>(match l.getLast? with | some d=>.nx ((ρ.set j (some (true,.lst l.dropLast))).set i (some (false,d))) S | none=>.bad)
 | _=>.bad
theorem zfI:∀{vs:List V} {ds:List D} {d:D},Shds cl w vs ds->ds.getLast?=some d->∃v,vs[vs.length-1]?=some v/\Shd cl w v d/\Shds cl w vs.dropLast ds.dropLast
 | _,_,_,.nil,h=>by cases h
 | _,_,_,.cons (v:=v) (d:=d0) r .nil,h=>by cases h;exact ⟨v,rfl,r,.nil⟩
 | _,_,d,.cons (v:=v) (vs:=v2::vs) (ds:=d2::ds) r (.cons r2 t),h=>by
  rw [List.getLast?_cons_cons] at h;obtain ⟨u,e,s1,s2⟩:=zfI (.cons r2 t) h;refine ⟨u,?_,s1,.cons r s2⟩;show (v::v2::vs)[vs.length+1]?=_;rw [List.getElem?_cons_succ];exact e
def zpF(hN:X.N.Nodup)(hi:X.N[i]?=some x)(hx:Loc X.env.scope x)(hf:X.fn x=true\/X.env.scope.names.lookup x=some .local)(hj:X.N[j]?=some y)(hv:Vis X.env.scope y)(hd:(y == ("__debug__":Str))=false)(hcd:(y == ("__classdict__":Str))=false)(hln:(ap.endLine == cp.line)=true) :
  PS X (.Assign [.Name x px] (.Call (.Attribute (.Name y pos') "pop" ap) [] [] cp) pos) (tS cl E own (zo6 i j)):=by
 refine PS.imp (zhm hN hi hx (zqx ybG PySem.F.slot_list_pop PySem.F.type_list_pop zqV (za4 hj hv hd hcd) (hline:=hln)) rfl hf) ?_;rintro De σ H ⟨B,w,ρ,S,rfl,R,q⟩;unfold zo6 at q;split at q
 ·rename_i l hl;obtain ⟨a,xs,e1,h1,h2,t⟩:=R.list hl
  cases hg:l.getLast? with
  | none=>rw [hg] at q;exact q.elim
  | some d =>
   rw [hg] at q;dsimp only at q;obtain ⟨v,ev,sv,st⟩:=zfI t hg;have ff:Fut w (w.mut a (.lst xs.dropLast)):=zcb (by rw [h1];exact yaE _);refine ⟨_,e1,.inl ⟨rfl,_,SqL.of h2⟩,a,xs,v,rfl,rfl,h2,ev,?_⟩;exact q _ _ ((R.mut (d0:=.non) e1 h1 (.lst st)).put (sv.up ff)) ff
 ·exact q.elim
end
end S2
namespace S2
open PySem PySem.Spec PyProof.Rows L2
noncomputable def Kp(w w':Wd):Prop:=∀a o,w.H a=some o->zc1 (w.ow a)=false->w'.H a=some o
structure ItOkB(cl:Cf)(w:Wd)(J:It)(ds:List D):Prop where
 go:∀w',Fut w w'->Kp w w'->∀i,i<ds.length->J.go i w'.H
 stop:∀w',Fut w w'->Kp w w'->J.stop ds.length w'.H
 yld:∀w',Fut w w'->Kp w w'->∀i d x H',ds[i]?=some d->J.yld i w'.H x H'->∃w'',w''.H=H'/\Grow w' w''/\Shd cl w'' x d
noncomputable def tIB(cl:Cf)(E:St->XK)(f:Fi):TI:=fun σ H R'=>∃B w ρ S,w.H=H/\Rel cl B σ w ρ S/\match f ρ S with
 | .ok ds S'=>∀J w',Rel cl B σ w' ρ S'->Fut w w'->ItOkB cl w' J ds->R' J w'.H
 | .exc c S'=>∀w',Rel cl B σ w' ρ S'->Fut w w'->E σ (.ref (cl c)) none w'.H
 | .bad=>False
noncomputable def ziG(i:Nat)(ρ:Env):Option (Bool×List D):=match ρ[i]? with | some (some (o,.lst l))=>some (o,l) | _=>none
def zkQ{i:Nat}{ρ:Env}{o:Bool}{l:List D}(h:ziG i ρ=some (o,l)):ρ[i]?=some (some (o,.lst l)):=by
 unfold ziG at h;split at h
 ·rename_i e;cases h;exact e
 ·cases h
noncomputable def zcf(i:Nat):Fi:=fun ρ S=>match ziG i ρ with | some p=>.ok p.2 S | none=>.bad
section
variable{cl:Cf}{X:Cx}{E:St->XK}{tg:Expr}{i:Nat}{x:Str}{px:Pos}
def zpR(hN:X.N[i]?=some x)(hv:Vis X.env.scope x)(hd:(x == ("__debug__":Str))=false)(hcd:(x == ("__classdict__":Str))=false):PI X tg (.Name x px) (tIB cl E (zcf i)):=by
 refine PI.imp (zjc (za4 hN hv hd hcd)) ?_;rintro σ H Q ⟨B,w,ρ,S,rfl,R,q⟩;unfold zcf at q
 cases hsl:ziG i ρ with
 | none=>rw [hsl] at q;exact q.elim
 | some pp =>
  obtain ⟨o,l⟩:=pp;rw [hsl] at q;dsimp only at q;have hl:=zkQ hsl;obtain ⟨v,e1,r⟩:=R.slots i o _ hl
  have main:∀(a:Addr) (xs:List V),v=.ref a->w.H a=some (.lst xs)->zc1 (w.ow a)=false->Shds cl w xs l->∃a',v=.ref a'/\(∃xs,SqL X.K w.H a' xs)/\Q (Itl X.K a') w.H:=by
   intro a xs ev e k r;refine ⟨a,ev,⟨xs,SqL.of e⟩,q _ w R (Fut.refl _) ?_⟩;have hl:=r.length;refine ⟨fun w1 F1 K1 i hi=>⟨xs,xs[i]'(by omega),SqL.of (K1 _ _ e k),yaj (by omega)⟩,fun w1 F1 K1=>⟨xs,SqL.of (K1 _ _ e k),by omega⟩,fun w1 F1 K1 i d x H1 hd y=>?_⟩;obtain ⟨rfl,hy⟩:=y;have hx:=hy xs (SqL.of (K1 _ _ e k));obtain ⟨d',e1,e2⟩:=r.get hx;rw [hd] at e1;cases e1;exact ⟨w1,rfl,Grow.refl _,e2.up F1⟩
  refine ⟨_,e1,?_⟩
  cases o with
  | false =>
   have r':Shd cl w v (.lst l):=r
   cases r' with
   | lst e k r=>exact main _ _ rfl e (by rw [k];rfl) r
  | true =>
   obtain ⟨a,o,ev,h1,h2,t⟩:=r
   cases t with
   | lst r=>exact main a _ ev h2 (by rw [h1];rfl) r
def zwT{f:Fi}{σ:St}{H:Hp}{Q:It->Hp->Prop}(q:tIB cl E f σ H Q):tI cl E f σ H Q:=by
 obtain ⟨B,w,ρ,S,rfl,R,q⟩:=q;refine ⟨B,w,ρ,S,rfl,R,?_⟩
 cases hf:f ρ S with
 | bad=>rwa [hf] at q
 | exc c S1=>rwa [hf] at q
 | ok ds S1 =>
  rw [hf] at q;exact fun J w' R' F' h=>q J w' R' F' ⟨fun w1 F1 _=>h.go w1 F1,fun w1 F1 _=>h.stop w1 F1,fun w1 F1 _=>h.yld w1 F1⟩
def zka{fi:Fi}{t:Tg}{fc fe:Fe}{n:Nat}{caps:List (Str×Nat)}{σ:St}{H:Hp}{Q:VK}(q:tN cl E (zdi n t fi fc fe (caps.map (·.2))) σ H Q) :
  zhd (tIB cl E fi) (tG cl n t) (tTr cl noE fc) (tE cl noE fe) n caps σ H Q:=by
 obtain ⟨B,w,ρ,S,rfl,R,q⟩:=q;refine ⟨B,w,ρ,S,rfl,R,?_⟩;unfold zdi at q
 cases hf:fi ρ S with
 | bad=>rwa [hf] at q
 | exc c S1=>rwa [hf] at q
 | ok ds S1 =>
  rw [hf] at q;dsimp only [Out.bind] at q;intro J w0 R0 F0 hJ
  cases hcd:zbi t fc fe (zbh n (caps.map (·.2)) ρ) ds S1 with
  | bad=>rw [hcd] at q;exact q.elim
  | exc _ _=>rw [hcd] at q;exact q.elim
  | ok all Sf =>
   rw [hcd] at q;dsimp only at q
   cases hz:zaM all.length with
   | false=>rw [hz,if_neg (by decide)] at q;exact q.elim
   | true =>
    rw [hz,if_pos rfl] at q;dsimp only at q;refine ⟨fun i m ys σ' H'=>m=ds.length-i/\i<=ds.length/\σ'.length=n+caps.length/\σ'.drop n=(caps.map fun p=>(σ[p.2]?).join)/\∃w1 S2 es zbk,w1.H=H'/\Fut w0.inn w1/\World' cl w0.base w1 S2/\Shds cl w1 ys es/\zbi t fc fe (zbh n (caps.map (·.2)) ρ) (ds.drop i) S2=.ok zbk Sf/\es++zbk=all,⟨ds.length,by simp,yaM _,by simp [capσ],by simp [capσ],w0.inn,S1,[],all,rfl,Fut.refl _,R0.wd.enter,.nil,by rw [List.drop_zero];exact hcd,rfl⟩,?_⟩;rintro i m ys σ1 H1 ⟨rfl,hi,hl1,hd1,w1,S2,es,zbk,rfl,F1,W1,sh,hrest,hall⟩;refine ⟨?_,?_⟩
    ·rw [sh.length];refine yar ?_ (zaH hz);rw [<-hall,yal];omega
    have F1':Fut w0 w1:=(zbJ w0).trans F1;have kp:Kp w0 w1:=fun a o ha hk=>(W1.fr a o (zed ha hk)).1
    by_cases hlt:i<ds.length
    ·obtain ⟨d,hdi⟩:∃d,ds[i]?=some d:=⟨ds[i],yaj hlt⟩
     have hdr:ds.drop i=d::ds.drop (i+1):=by
      rw [List.drop_eq_getElem_cons hlt];rw [yaj hlt] at hdi;cases hdi;rfl
     rw [hdr] at hrest;unfold zbi at hrest;refine .inr ⟨hJ.go w1 F1' kp i hlt,fun x H' y=>?_⟩;obtain ⟨w2,rfl,g2,s2⟩:=hJ.yld w1 F1' kp i d x H' hdi y;have R1:Rel cl w0.base σ1 w2 (zbh n (caps.map (·.2)) ρ) S2:=zjS R0 (W1.grow g2) (F1'.trans g2.fut) hl1 hd1
     cases hp:t.put (zbh n (caps.map (·.2)) ρ) d with
     | none=>rw [hp] at hrest;cases hrest
     | some ρ1 =>
      rw [hp] at hrest;dsimp only at hrest;refine ⟨w0.base,w2,_,S2,d,ρ1,rfl,R1,s2,hp,fun σ2 hk1 hk2 R2=>⟨w0.base,w2,ρ1,S2,rfl,R2,?_⟩⟩
      cases hc:fc ρ1 S2 with
      | bad=>rw [hc] at hrest;cases hrest
      | exc _ _=>rw [hc] at hrest;cases hrest
      | ok b S3 =>
       rw [hc] at hrest;dsimp only [Out.bind] at hrest ⊢
       cases hb:isB b with
       | none=>rw [hb] at hrest;cases hrest
       | some bb =>
        rw [hb] at hrest;intro w3 R3 F3
        cases bb with
        | false=>exact zlP ⟨ds.length-(i+1),by omega,rfl,hlt,hk1.trans hl1,hk2.trans hd1,w3,S3,es,zbk,rfl,F1.trans (g2.fut.trans F3),R3.wd,sh.up (g2.fut.trans F3),hrest,hall⟩
        | true =>
         refine zlO ⟨w0.base,w3,ρ1,S3,rfl,R3,?_⟩;dsimp only at hrest
         cases he:fe ρ1 S3 with
         | bad=>rw [he] at hrest;cases hrest
         | exc _ _=>rw [he] at hrest;cases hrest
         | ok yv S4 =>
          rw [he] at hrest;dsimp only at hrest
          cases hr:zbi t fc fe (zbh n (caps.map (·.2)) ρ) (ds.drop (i+1)) S4 with
          | bad=>rw [hr] at hrest;cases hrest
          | exc _ _=>rw [hr] at hrest;cases hrest
          | ok zs S5 =>
           rw [hr] at hrest;cases hrest;intro v w4 R4 F4 h4;have ff:=g2.fut.trans (F3.trans F4);exact ⟨ds.length-(i+1),by omega,rfl,hlt,hk1.trans hl1,hk2.trans hd1,w4,S4,es++[yv],zs,rfl,F1.trans ff,R4.wd,(sh.up ff).append (.cons h4 .nil),hr,by rw [<-hall,ybp];rfl⟩
    ·have e:i=ds.length:=by omega
     subst e;rw [List.drop_length] at hrest;cases hrest;rw [yaT] at hall;subst hall;refine .inl ⟨hJ.stop w1 F1' kp,fun p hp=>?_⟩;obtain ⟨Rb,Fb⟩:=R0.leave W1 F1;exact q p (.lst ys) (w0.back w1) Rb (F0.trans Fb) hp (.lst (sh.up (zcl W1)))
end
end S2
namespace S2
open PySem PySem.Spec PyProof.Rows L2
structure FnI where
 ar:Nat
 own:Bool
 run:List D->Sto->Out D
structure ObE where
 cur:Str
 fk:Str->Str->Bool
 df:Str->Bool
 mt:Str->Option (Str×FnI)
 mks:Str->Option (List D×FnI)
structure Genv where
 con:Str->Option D
 fn:Str->Option FnI
 blt:Str->Bool
 exc:Str->Bool
 und:Str->Str->Bool
 isx:Str->Str->Option Bool
 ob:ObE
 ds:Str->Bool
abbrev bmV:List Value:=[.type "ValueError",.type "Exception",.type "BaseException",.type "object"]
structure GOk(cl:Cf)(G:Genv)(P:Program)(wo:PySem.World)(K:PySem.W.Frag)(mg:Z6)(base:Heap)(k:Nat):Prop where
 con:∀x d,G.con x=some d->∃v u,mg x=some u/\zaV v u/\∀w,Shd cl w v d
 fn:∀x fi,G.fn x=some fi->∃f fd ps,mg x=some (.ref f)/\PySem.W.keepIn K (.ref f)=true/\zcq K fd ps []/\FnOk P wo K mg base (CXE P wo) k f fd ps (zhT cl fi.ar fi.own fi.run)
 blt:∀x,G.blt x=true->mg x=none
 exc:∀c,G.exc c=true->mg c=some (.ref (cl c))/\PySem.W.excIn K (cl c) bmV "ValueError.__new__" = true
 und:∀c C,G.und c C=true->L2.zmk K (cl c) (cl C)
 isx:∀c C b,G.isx c C=some b->PySem.W.ExcCls K (cl c)/\PySem.W.kitOne K (.ref (cl c)) (zrC cl C)=some b
 fk:∀c f,G.ob.fk c f=true->zku cl c f
 mt:∀m c fi,G.ob.mt m=some (c,fi)->∃f fd ps,Cls K (cl c)/\Meth K (cl c) m f/\zcq K fd ps []/\FnOk P wo K mg base (CXE P wo) k f fd ps (zhT cl fi.ar fi.own fi.run)
 mks:∀c dds fi,G.ob.mks c=some (dds,fi)->∃f fd ps dvs ds k',k'+1<=k/\mg c=some (.ref (cl c))/\Mk K (cl c) f/\zcq K fd ps []/\zcq K fd ps ds/\Vals dvs ds/\(∀w,Shds cl w dvs dds)/\FnOk P wo K mg base (CXE P wo) k' f fd ps (zhT cl fi.ar false fi.run)
noncomputable abbrev Names:=List (Str×NameKind)
structure Gx(cl:Cf)(G:Genv)(k:Nat)(X:Cx)(nm:Names)(N:List Str)(E:St->XK):Prop where
 gok:GOk cl G X.prog X.w X.K X.mg X.base k
 room:Room k X.A
 calm:X.calm=true
 pass:zch (CXE X.prog X.w) X E
 eN:X.N=N
 kk:X.K=cl.K
 pp:X.prog=cl.P
 ww:X.w=cl.wo
 nd:N.Nodup
 vis:∀x kd,nm.lookup x=some kd->∃kd',X.env.scope.names.lookup x=some kd'/\(kd'=kd\/(kd=.free/\kd'=.cell))
 fnx:∀x,nm.lookup x=some .local->X.env.scope.names.lookup x=some .local
noncomputable def idx:List Str->Str->Option Nat
 | [],_=>none
 | y::l,x=>if y=x then some 0 else (idx l x).map (·+1)
theorem zd3:∀{N:List Str} {x:Str} {i:Nat},idx N x=some i->N[i]?=some x
 | y::l,x,i,h=>by
  unfold idx at h;split at h
  ·rename_i e;cases h;rw [e];rfl
  ·cases hr:idx l x with
   | none=>rw [hr] at h;cases h
   | some j=>rw [hr] at h;cases h;simpa using zd3 hr
noncomputable def zfW(x:Str):Bool:=!(x == ("__debug__":Str))&&!(x == ("__classdict__":Str))&&!decide (x = "__name__")
def zdT{x:Str}(h:zfW x=true):(x == ("__debug__":Str))=false/\(x == ("__classdict__":Str))=false/\x ≠ "__name__":=by
 unfold zfW at h;simp only [yab,ya7,ybc] at h;exact ⟨h.1.1,h.1.2,h.2⟩
noncomputable def ztE:Option NameKind->Bool | some .local=>true | some .cell=>true | some .free=>true | _=>false
noncomputable def zaK(nm:Names)(N:List Str)(x:Str):Option Nat:=if ztE (nm.lookup x)&&zfW x then idx N x else none
noncomputable def zbR(nm:Names)(x:Str):Bool:=decide (nm.lookup x=some .globalImplicit)&&zfW x
section
variable{cl:Cf}{G:Genv}{k:Nat}{X:Cx}{nm:Names}{N:List Str}{E:St->XK}
def Gx.slot(g:Gx cl G k X nm N E){x:Str}{i:Nat}(h:zaK nm N x=some i):X.N[i]?=some x/\Vis X.env.scope x/\(x == ("__debug__":Str))=false/\(x == ("__classdict__":Str))=false:=by
 unfold zaK at h;split at h
 ·rename_i hv;rw [yab] at hv;obtain ⟨h1,h2,_⟩:=zdT hv.2;refine ⟨by rw [g.eN];exact zd3 h,?_,h1,h2⟩
  cases hk:nm.lookup x with
  | none=>rw [hk] at hv;exact absurd hv.1 (by decide)
  | some kd =>
   obtain ⟨kd',e,z⟩:=g.vis x kd hk;rw [hk] at hv;unfold Vis;rw [e]
   rcases z with rfl | ⟨_,rfl⟩
   ·cases kd'<;>first | exact .inl rfl | exact .inr (.inl rfl) | exact .inr (.inr rfl) | exact absurd hv.1 (by decide)
   ·exact .inr (.inl rfl)
 ·cases h
def Gx.glob(g:Gx cl G k X nm N E){x:Str}(h:zbR nm x=true):Gl X x/\(x == ("__debug__":Str))=false/\x ≠ "__name__":=by
 unfold zbR at h;rw [yab] at h;obtain ⟨h1,_,h3⟩:=zdT h.2;obtain ⟨kd',e,z⟩:=g.vis x _ (yak h.1)
 rcases z with rfl | ⟨z,_⟩
 ·exact ⟨e,h1,h3⟩
 ·cases z
end
noncomputable abbrev Rec:=Names->List Str->Expr->Option (Bool×Fe)
noncomputable def okE:Expr->Bool | .Starred _ _=>false | .Set _ _ _=>false | _=>true
def zan{e:Expr}(h:okE e=true):zbD e=true:=by cases e<;>first | rfl | cases h
def zdU{e:Expr}{op:CmpOp}(h:okE e=true):behindInMarks op e=false:=by cases e<;>first | rfl | cases h
def ze8{e:Expr}{env:PySem.Env}(h:okE e=true)(v:Value):foldedSetIterable e env v=pure v:=by cases e<;>first | rfl | cases h
noncomputable def zaZ:Expr->Bool | .IfExp _ _ _ _=>false | _=>true
noncomputable def zaU(cl:Cf)(G:Genv)(k:Nat)(rc:Rec):Prop:=∀(X:Cx) (nm:Names) (N:List Str) (E:St->XK),Gx cl G k X nm N E->∀(e:Expr) (o:Bool) (f:Fe),rc nm N e=some (o,f) →
 (o=true->PE X e (tN cl E f))/\PE X e (tE cl E f)/\(zaZ e=true->PT X e (tTr cl E f))/\okE e=true
noncomputable def shE(rc:Rec)(nm:Names)(N:List Str)(e:Expr):Option Fe:=(rc nm N e).map (·.2)
noncomputable def opE(rc:Rec)(nm:Names)(N:List Str)(e:Expr):Option Fe:=match e with
 | .Name x _=>(match zaK nm N x with | some i=>some (zam i) | none=>shE rc nm N e)
 | _=>shE rc nm N e
noncomputable def shL(rc:Rec)(nm:Names)(N:List Str):List Expr->Option (List Fe)
 | []=>some []
 | e::es=>(shE rc nm N e).bind fun f=>(shL rc nm N es).bind fun fs=>some (f::fs)
noncomputable def opL(rc:Rec)(nm:Names)(N:List Str):List Expr->Option (List Fe)
 | []=>some []
 | e::es=>(opE rc nm N e).bind fun f=>(opL rc nm N es).bind fun fs=>some (f::fs)
section
variable{cl:Cf}{G:Genv}{k:Nat}{rc:Rec}{X:Cx}{nm:Names}{N:List Str}{E:St->XK}
def zaw(hs:zaU cl G k rc)(g:Gx cl G k X nm N E){e:Expr}{f:Fe}(h:shE rc nm N e=some f):PE X e (tE cl E f)/\(zaZ e=true->PT X e (tTr cl E f))/\okE e=true:=by
 unfold shE at h
 cases hr:rc nm N e with
 | none=>rw [hr] at h;cases h
 | some p =>
  obtain ⟨o,f'⟩:=p;rw [hr] at h;cases h;obtain ⟨_,h2,h3,h4⟩:=hs X nm N E g e o _ hr;exact ⟨h2,h3,h4⟩
def zbx(hs:zaU cl G k rc)(g:Gx cl G k X nm N E){e:Expr}{f:Fe}(h:opE rc nm N e=some f):PE X e (tH cl E f)/\okE e=true:=by
 unfold opE at h;split at h
 ·rename_i x pos;split at h
  ·rename_i i hi;cases h;obtain ⟨h1,h2,h3,h4⟩:=g.slot hi;exact ⟨zp5 h1 h2 h3 h4,rfl⟩
  ·obtain ⟨h1,_,h3⟩:=zaw hs g h;exact ⟨ziL h1,h3⟩
 ·obtain ⟨h1,_,h3⟩:=zaw hs g h;exact ⟨ziL h1,h3⟩
theorem zdM(hs:zaU cl G k rc)(g:Gx cl G k X nm N E):∀{es:List Expr} {fs:List Fe},shL rc nm N es=some fs->PA X es (tAs cl E fs)/\es.all zbD=true/\fs.length=es.length
 | [],fs,h=>by cases h;exact ⟨zhh,rfl,rfl⟩
 | e::es,fs,h=>by
  unfold shL at h
  cases h1:shE rc nm N e with
  | none=>rw [h1] at h;cases h
  | some f =>
   rw [h1] at h
   cases h2:shL rc nm N es with
   | none=>rw [h2] at h;cases h
   | some fs' =>
    rw [h2] at h;cases h;obtain ⟨a1,_,a3⟩:=zaw hs g h1;obtain ⟨b1,b2,b3⟩:=zdM hs g h2;exact ⟨zc8 a1 b1 (za6 (zan a3)),by rw [yby,zan a3,b2];rfl,by rw [yag,yag,b3]⟩
theorem zmG(hs:zaU cl G k rc)(g:Gx cl G k X nm N E):∀{es:List Expr} {fs:List Fe},opL rc nm N es=some fs->PA X es (tHs cl E fs)/\es.all zbD=true/\fs.length=es.length
 | [],fs,h=>by cases h;exact ⟨zmu,rfl,rfl⟩
 | e::es,fs,h=>by
  unfold opL at h
  cases h1:opE rc nm N e with
  | none=>rw [h1] at h;cases h
  | some f =>
   rw [h1] at h
   cases h2:opL rc nm N es with
   | none=>rw [h2] at h;cases h
   | some fs' =>
    rw [h2] at h;cases h;obtain ⟨a1,a3⟩:=zbx hs g h1;obtain ⟨b1,b2,b3⟩:=zmG hs g h2;exact ⟨ziI a1 b1 (za6 (zan a3)),by rw [yby,zan a3,b2];rfl,by rw [yag,yag,b3]⟩
end
noncomputable def zv9:Const->Option D
 | .int i=>some (.int i)
 | .bool b=>some (.bl b)
 | .none=>some .non
 | .str x=>some (.str x)
 | _=>none
noncomputable def ztX:Operator->Option (D->D->Option D)
 | .Add=>some zdG | .Sub=>some zkv | .Mult=>some zkx | .Mod=>some zly | .FloorDiv=>some zry | _=>none
noncomputable def zjP:Expr->Bool | .Constant .none _ _=>true | _=>false
noncomputable def zjQ:Expr->Bool | .Constant (.bool _) _ _=>true | _=>false
noncomputable def ltD:=zpb fun i j=>decide (i<j)
noncomputable def leD:=zpb fun i j=>decide (i<=j)
noncomputable def gtD:=zpb fun i j=>decide (j<i)
noncomputable def geD:=zpb fun i j=>decide (j<=i)
noncomputable def zrB:CmpOp->Expr->Option (D->D->Option D)
 | .Eq,_=>some eqD | .NotEq,_=>some neD | .Lt,_=>some ltD | .LtE,_=>some leD | .Gt,_=>some gtD | .GtE,_=>some geD | .In,_=>some inD | .NotIn,_=>some zoe
 | .Is,b=>if zjP b then some zo8 else if zjQ b then some zr9 else none
 | .IsNot,b=>if zjP b then some zls else if zjQ b then some zlt else none
noncomputable def zio(rc:Rec)(nm:Names)(N:List Str)(op:BoolOp):List Expr->Option Fe
 | []=>none
 | [a]=>if zaZ a then shE rc nm N a else none
 | a::b::r=>if zaZ a then (shE rc nm N a).bind fun f=>(zio rc nm N op (b::r)).bind fun h=>some (match op with | .And=>zfu f h | .Or=>eOr f h) else none
structure BI where
 g:List D->Option D
 nw:Bool
noncomputable def zkj(x:Str):Option BI :=
 if x = "len" then some ⟨zeu,false⟩
 else if x = "all" then some ⟨zua,false⟩
 else if x = "tuple" then some ⟨zdJ,false⟩
 else if x = "abs" then some ⟨zmZ,false⟩
 else none
noncomputable def zpi(x:Str):Option String:=if x = "int" then some "int" else if x = "bool" then some "bool" else if x = "tuple" then some "tuple" else if x = "str" then some "str" else if x = "list" then some "list" else none
noncomputable def ztV(G:Genv)(t:Str):Bool:=if t = "ValueError" then G.blt t else G.exc t
noncomputable def zoS(G:Genv)(rc:Rec)(nm:Names)(N:List Str)(x:Str)(args:List Expr):Option (Bool×Fe) :=
 if zbR nm x then
  match G.fn x with
  | some fi=>if args.length=fi.ar then (shL rc nm N args).bind fun fs=>some (fi.own,eFn fi.run fs) else none
  | none=>if G.blt x then
    (if x = "isinstance" then (match args with
     | [a,.Name t _]=>if zbR nm t&&G.blt t&&(zpi t).isSome then (zpi t).bind fun T=>(opE rc nm N a).bind fun f=>some (false,eUn (zdA T) f)
      else if zbR nm t&&ztV G t then (opE rc nm N a).bind fun f=>some (false,eUn (zjN G.isx t) f) else none
     | _=>none)
    else match args with
     | []=>none
     | _::_=>(zkj x).bind fun bi=>(opL rc nm N args).bind fun fs=>some (bi.nw,zaO bi.g fs)) else none
 else none
noncomputable def zrh:Expr->Bool | .Tuple _ _ _=>true | _=>false
noncomputable def zjM(G:Genv)(rc:Rec)(nm:Names)(N:List Str)(tg e:Expr):Option Fi:=match e with
 | .Call (.Name x p) args [] pos=>if x = "range" then (if zbR nm x&&G.blt x then (match args with
   | [a]=>(shE rc nm N a).bind fun f=>some (zfk f)
   | [a,b]=>(shE rc nm N a).bind fun f=>(shE rc nm N b).bind fun h=>some (zj3 f h)
   | _=>none) else none)
  else if x = "zip" then (if zbR nm x&&G.blt x&&zrh tg then (match args with
   | [a,b]=>(shE rc nm N a).bind fun f=>(shE rc nm N b).bind fun h=>some (zrx f h)
   | _=>none) else none)
  else (shE rc nm N e).map za5
 | _=>(shE rc nm N e).map za5
section
variable{cl:Cf}{G:Genv}{k:Nat}{rc:Rec}{X:Cx}{nm:Names}{N:List Str}{E:St->XK}
theorem Gx.units(g:Gx cl G k X nm N E):X.A.units+64<cLine:=g.room.units
def zmX{op:Operator}{gg:D->D->Option D}(h:ztX op=some gg):OpD X cl (binaryOp op) gg:=by
 cases op<;>simp [ztX] at h<;>subst h
 ·exact zqO
 ·exact zqH
 ·exact zqJ
 ·exact zqK
 ·exact zqN
def zeB(g:Gx cl G k X nm N E){op:CmpOp}{b:Expr}{gg:D->D->Option D}(h:zrB op b=some gg):OpD X cl (compareOp op) gg:=by
 cases op<;>simp only [zrB] at h
 ·cases h;exact zth g.kk g.units
 ·cases h;exact ztf g.kk g.units
 ·cases h;exact ze9 zta
 ·cases h;exact ze9 ztb
 ·cases h;exact ze9 ztc
 ·cases h;exact ze9 ztd
 ·split at h
  ·cases h;exact zqL
  ·split at h
   ·cases h;exact zqM
   ·cases h
 ·split at h
  ·cases h;exact zoa
  ·split at h
   ·cases h;exact zob
   ·cases h
 ·cases h;exact ztg g.kk g.units
 ·cases h;exact zqI g.kk g.units
theorem zkh(hs:zaU cl G k rc)(g:Gx cl G k X nm N E){op:BoolOp}{pos:Pos}:∀{es:List Expr} {f:Fe},zio rc nm N op es=some f->PE X (.BoolOp op es pos) (tE cl E f)/\PW X (.BoolOp op es pos) (tTr cl E f)
 | [],f,h=>by cases h
 | [a],f,h=>by
  unfold zio at h;split at h
  ·rename_i ht;obtain ⟨h1,h2,_⟩:=zaw hs g h;refine ⟨zqr h1,?_⟩
   cases op with
   | And=>exact znL (h2 ht)
   | Or=>exact zqe (h2 ht)
  ·cases h
 | a::b::r,f,h=>by
  unfold zio at h;split at h
  ·rename_i ht
   cases h1:shE rc nm N a with
   | none=>rw [h1] at h;cases h
   | some fa =>
    rw [h1] at h
    cases h2:zio rc nm N op (b::r) with
    | none=>rw [h2] at h;cases h
    | some fb =>
     rw [h2] at h;obtain ⟨a1,a2,_⟩:=zaw hs g h1;obtain ⟨b1,b2⟩:=zkh hs g (pos:=pos) h2
     cases op with
     | And=>cases h;exact ⟨zp6 a1 b1,zpz (a2 ht) b2⟩
     | Or=>cases h;exact ⟨zsV a1 b1,zsP (a2 ht) b2⟩
  ·cases h
def zmf:bootBuiltins "all" = some (.builtin "all"):=by decide +kernel
def zeD:bootBuiltins "tuple" = some (.type "tuple"):=by decide +kernel
def zkf:bootBuiltins "list" = some (.type "list"):=by decide +kernel
def zme:bootBuiltins "int" = some (.type "int"):=by decide +kernel
def zkg:bootBuiltins "bool" = some (.type "bool"):=by decide +kernel
def zse:bootBuiltins "max" = some (.builtin "max"):=by decide +kernel
def zsd:bootBuiltins "min" = some (.builtin "min"):=by decide +kernel
def zmg:bootBuiltins "abs" = some (.builtin "abs"):=by decide +kernel
def zmd:bootBuiltins "str" = some (.type "str"):=by decide +kernel
def zrJ(g:Gx cl G k X nm N E){x:Str}{bi:BI}{e:Expr}{es:List Expr}{fs:List Fe}{p pos:Pos}(h:zkj x=some bi)(hg:zbR nm x=true)(hb:G.blt x=true)(ha:PA X (e::es) (tHs cl E fs))(hp:(e::es).all zbD=true) :
  (bi.nw=true->PE X (.Call (.Name x p) (e::es) [] pos) (tN cl E (zaO bi.g fs)))/\PE X (.Call (.Name x p) (e::es) [] pos) (tE cl E (zaO bi.g fs)):=by
 obtain ⟨g1,g2,g3⟩:=g.glob hg;have m:=g.gok.blt x hb;rw [yby,yab] at hp;have st:=za6 (es:=es) (env:=X.env) hp.1;have pl:=za3 (pos:=pos) (env:=X.env) hp.2
 have D1:∀{id:String} {gg:List D->Option D},zis X cl (.builtin id) gg->bootBuiltins x=some (.builtin id)->PE X (.Call (.Name x p) (e::es) [] pos) (tE cl E (zaO gg fs)):=fun hc hv =>
  PE.imp (zcW hc g1 m hv ha g3 g2 st pl) fun _ _ _ q=>zpw (fun _ _ _ z=>z) q
 have D2:∀{T:String} {gg:List D->Option D},zis X cl (.type T) gg->bootBuiltins x=some (.type T)->PE X (.Call (.Name x p) (e::es) [] pos) (tE cl E (zaO gg fs)):=fun hc hv =>
  PE.imp (zfU hc g1 m hv ha g3 g2 st pl) fun _ _ _ q=>zpw (fun _ _ _ z=>z) q
 have N2:∀{T:String} {gg:List D->Option D},zub X cl (.type T) gg->bootBuiltins x=some (.type T)->PE X (.Call (.Name x p) (e::es) [] pos) (tN cl E (zaO gg fs)):=fun hc hv =>
  PE.imp (zfU hc g1 m hv ha g3 g2 st pl) fun _ _ _ q=>zsN (fun _ _ _ z=>z) q
 unfold zkj at h;split at h
 ·rename_i e';cases h;exact ⟨(fun z=>absurd z (by decide)),D1 (zrD g.kk) (by rw [e'];exact PySem.boot_len)⟩
 split at h
 ·rename_i e';cases h;exact ⟨(fun z=>absurd z (by decide)),D1 (zrE g.calm) (by rw [e'];exact zmf)⟩
 split at h
 ·rename_i e';cases h;exact ⟨(fun z=>absurd z (by decide)),D2 zl9 (by rw [e'];exact zeD)⟩
 split at h
 ·rename_i e';cases h;exact ⟨(fun z=>absurd z (by decide)),D1 zrF (by rw [e'];exact zmg)⟩
 ·cases h
def zsy{t:Str}{T:String}(h:zpi t=some T):bootBuiltins t=some (.type T):=by
 unfold zpi at h;split at h
 ·rename_i e;cases h;rw [e];exact zme
 split at h
 ·rename_i e;cases h;rw [e];exact zkg
 split at h
 ·rename_i e;cases h;rw [e];exact zeD
 split at h
 ·rename_i e;cases h;rw [e];exact zmd
 split at h
 ·rename_i e;cases h;rw [e];exact zkf
 ·cases h
def zoR(hs:zaU cl G k rc)(g:Gx cl G k X nm N E){x:Str}{args:List Expr}{o:Bool}{f:Fe}{p pos:Pos}(h:zoS G rc nm N x args=some (o,f)) :
  (o=true->PE X (.Call (.Name x p) args [] pos) (tN cl E f))/\PE X (.Call (.Name x p) args [] pos) (tE cl E f):=by
 unfold zoS at h;split at h
 ·rename_i hg;obtain ⟨g1,g2,g3⟩:=g.glob hg;split at h
  ·rename_i fi hfi;split at h
   ·rename_i hl;obtain ⟨fa,fd,ps,m1,m2,m3,m4⟩:=g.gok.fn x fi hfi
    cases h1:shL rc nm N args with
    | none=>rw [h1] at h;cases h
    | some fs =>
     rw [h1] at h;cases h;obtain ⟨a1,a2,a3⟩:=zdM hs g h1;have hlen:fs.length=fi.ar:=a3.trans hl
     have main:PE X (.Call (.Name x p) args [] pos) (zfD (zhT cl fi.ar fi.own fi.run) [] E (tAs cl E fs)):=by
      cases args with
      | nil =>
       cases h1;refine PE.imp (zjh m4 g.room g1 m1 m2 m3 .nil g.pass g2) ?_;rintro σ H Q ⟨B,w,ρ,S,rfl,R,q⟩;exact q [] w R (Fut.refl _) .nil
      | cons e es =>
       rw [yby,yab] at a2;exact zlk m4 g.room g1 m1 m2 m3 .nil g.pass a1 g2 (za6 a2.1) (za3 a2.2)
     cases ho:fi.own with
     | false =>
      rw [ho] at main;exact ⟨(fun z=>by cases z),PE.imp main fun _ _ _ q=>zrI q hlen⟩
     | true =>
      rw [ho] at main;have n:PE X (.Call (.Name x p) args [] pos) (tN cl E (eFn fi.run fs)):=PE.imp main fun _ _ _ q=>zrH q hlen
      exact ⟨fun _=>n,zb6 n⟩
   ·cases h
  ·split at h
   ·rename_i hb;split at h
    ·rename_i hx;subst hx;split at h
     ·rename_i a t p2;split at h
      ·rename_i ht;rw [yab,yab] at ht;replace ht:=ht.1
       cases hT:zpi t with
       | none=>rw [hT] at h;cases h
       | some T =>
        rw [hT] at h
        cases h1:opE rc nm N a with
        | none=>rw [h1] at h;cases h
        | some fa =>
         rw [h1] at h;cases h;obtain ⟨t1,t2,t3⟩:=g.glob ht.1;obtain ⟨a1,a2⟩:=zbx hs g h1;exact ⟨(fun z=>by cases z),znA g1 (g.gok.blt _ hb) t1 (g.gok.blt _ ht.2) (zsy hT) t3 t2 (zan a2) a1⟩
      ·split at h
       ·rename_i ht;rw [yab] at ht
        cases h1:opE rc nm N a with
        | none=>rw [h1] at h;cases h
        | some fa =>
         rw [h1] at h;cases h;obtain ⟨t1,t2,t3⟩:=g.glob ht.1;obtain ⟨a1,a2⟩:=zbx hs g h1;refine ⟨(fun z=>by cases z),?_⟩
         by_cases hv:t = "ValueError"
         ·subst hv
          have ht2:G.blt "ValueError" = true:=by simpa [ztV] using ht.2
          exact zmv (vC:=.ty "ValueError") g1 (g.gok.blt _ hb) (zji t1 (g.gok.blt _ ht2) zin rfl t3 t2) (fun u r=>by rw [show u=Value.type "ValueError" from r];rfl) (fun c b hc=>g.gok.isx c _ b hc) (zan a2) a1
         ·have ht2:G.exc t=true:=by simpa [ztV,hv] using ht.2
          exact zmv (vC:=.ref (cl t)) g1 (g.gok.blt _ hb) (zjg t1 (g.gok.exc t ht2).1 rfl t2) (fun u r=>by rw [show u=Value.ref (cl t) from r];unfold zrC;rw [if_neg hv]) (fun c b hc=>g.gok.isx c _ b hc) (zan a2) a1
       ·cases h
     ·cases h
    ·split at h
     ·cases h
     ·rename_i e es
      cases h2:zkj x with
      | none=>rw [h2] at h;cases h
      | some bi =>
       rw [h2] at h
       cases h1:opL rc nm N (e::es) with
       | none=>rw [h1] at h;cases h
       | some fs =>
        rw [h1] at h;cases h;obtain ⟨a1,a2,_⟩:=zmG hs g h1;exact zrJ g h2 hg hb a1 a2
   ·cases h
 ·cases h
def zjL(hs:zaU cl G k rc)(g:Gx cl G k X nm N E){e tg:Expr}{fi:Fi}(h:zjM G rc nm N tg e=some fi):PI X tg e (tI cl E fi)/\okE e=true:=by
 have gen:∀{e:Expr},(shE rc nm N e).map za5=some fi->PI X tg e (tI cl E fi)/\okE e=true:=fun {e} h=>by
  cases h1:shE rc nm N e with
  | none=>rw [h1] at h;cases h
  | some f =>
   rw [h1] at h;cases h;obtain ⟨a1,_,a3⟩:=zaw hs g h1;exact ⟨zpS g.kk a1,a3⟩
 unfold zjM at h;split at h
 ·rename_i x p args pos;split at h
  ·rename_i hx;subst hx;split at h
   ·rename_i hb;rw [yab] at hb;obtain ⟨g1,_,_⟩:=g.glob hb.1;have m:=g.gok.blt _ hb.2;split at h
    ·rename_i a
     cases h1:shE rc nm N a with
     | none=>rw [h1] at h;cases h
     | some f =>
      rw [h1] at h;cases h;obtain ⟨a1,_,a3⟩:=zaw hs g h1;exact ⟨zns g1 m (zc8 a1 zhh (za6 (zan a3))) (za6 (zan a3)),rfl⟩
    ·rename_i a b
     cases h1:shE rc nm N a with
     | none=>rw [h1] at h;cases h
     | some f =>
      rw [h1] at h
      cases h2:shE rc nm N b with
      | none=>rw [h2] at h;cases h
      | some f2 =>
       rw [h2] at h;cases h;obtain ⟨a1,_,a3⟩:=zaw hs g h1;obtain ⟨b1,_,b3⟩:=zaw hs g h2;have s1:=za6 (es:=[b]) (env:=X.env) (zan a3);have s2:=za6 (es:=[]) (env:=X.env) (zan b3);exact ⟨znr g1 m (zc8 a1 (zc8 b1 zhh s2) s1) (by rw [s1,s2];rfl) s2,rfl⟩
    ·cases h
   ·cases h
  split at h
  ·rename_i hx;subst hx;split at h
   ·rename_i hb;rw [yab,yab] at hb;obtain ⟨g1,_,_⟩:=g.glob hb.1.1;have m:=g.gok.blt _ hb.1.2;split at h
    ·rename_i a b
     cases h1:shE rc nm N a with
     | none=>rw [h1] at h;cases h
     | some f =>
      rw [h1] at h
      cases h2:shE rc nm N b with
      | none=>rw [h2] at h;cases h
      | some f2 =>
       rw [h2] at h;cases h;obtain ⟨a1,_,a3⟩:=zaw hs g h1;obtain ⟨b1,_,b3⟩:=zaw hs g h2;have s1:=za6 (es:=[b]) (env:=X.env) (zan a3);have s2:=za6 (es:=[]) (env:=X.env) (zan b3)
       cases tg with
       | Tuple es kk tp=>exact ⟨zpP g1 m (zc8 a1 (zc8 b1 zhh s2) s1) s1 (za3 (by simp [zan b3])),rfl⟩
       | _=>cases hb.2
    ·cases h
   ·cases h
  ·exact gen h
 ·exact gen h
noncomputable def nmX:Expr->Option (Str×Pos) | .Name x p=>some (x,p) | _=>none
def zqP{e:Expr}{x:Str×Pos}(h:nmX e=some x):e=.Name x.1 x.2:=by cases e<;>first | (cases h;done) | (cases h;rfl)
noncomputable def zte:List Expr->Option Expr | [a]=>some a | _=>none
def zn6{l:List Expr}{a:Expr}(h:zte l=some a):l=[a]:=by
 unfold zte at h;split at h
 ·cases h;rfl
 ·cases h
def bsX{α β:Type}{o:Option α}{f:α->Option β}{b:β}(h:o.bind f=some b):∃a,o=some a/\f a=some b:=by
 cases o with
 | none=>cases h
 | some a=>exact ⟨a,rfl,h⟩
noncomputable def sdG(G:Genv)(nm:Names)(N:List Str)(a:Expr):Option Fe:=(nmX a).bind fun x=>if G.ds x.1 then (zaK nm N x.1).map fun i=>zif i else none
noncomputable def srG(G:Genv)(rc:Rec)(nm:Names)(N:List Str)(x:Str)(args:List Expr):Option (Bool×Fe):=(zte args).bind fun a=>if decide (x = "sorted")&&zbR nm "sorted" && G.blt "sorted" then (match sdG G nm N a with | some f=>some (true,f) | none=>(shE rc nm N a).map fun f=>(true,eUn zeT f)) else none
def zsT(hs:zaU cl G k rc)(g:Gx cl G k X nm N E){x:Str}{args:List Expr}{p pos:Pos}{o:Bool}{f:Fe}(h:srG G rc nm N x args=some (o,f)):(o=true->PE X (.Call (.Name x p) args [] pos) (tN cl E f))/\PE X (.Call (.Name x p) args [] pos) (tE cl E f):=by
 unfold srG at h;obtain ⟨a,e0,hz⟩:=bsX h;clear h;rw [zn6 e0];split at hz
 ·rename_i hb;simp only [yab,ya8] at hb;obtain ⟨⟨rfl,b1⟩,b2⟩:=hb;obtain ⟨g1,_,_⟩:=g.glob b1;split at hz
  ·rename_i f' hd;cases hz;unfold sdG at hd;obtain ⟨y,e1,hd⟩:=bsX hd;rw [zqP e1];split at hd
   ·cases h1:zaK nm N y.1 with
    | none=>rw [h1] at hd;cases hd
    | some i =>
     rw [h1] at hd;cases hd;obtain ⟨n1,n2,n3,n4⟩:=g.slot h1;have n:=znw (cl:=cl) (E:=E) (p:=p) (px:=y.2) (pos:=pos) g.calm ⟨g.kk,g.pp,g.ww⟩ g1 (g.gok.blt _ b2) n1 n2 n3 n4;exact ⟨fun _=>n,zb6 n⟩
   ·cases hd
  ·cases h1:shE rc nm N a with
   | none=>rw [h1] at hz;cases hz
   | some fa =>
    rw [h1] at hz;cases hz;obtain ⟨a1,_,a3⟩:=zaw hs g h1;have n:=znx (p:=p) (pos:=pos) g.calm g.kk g1 (g.gok.blt _ b2) a1 (za6 (zan a3));exact ⟨fun _=>n,zb6 n⟩
 ·cases hz
noncomputable def zmy:Expr->Bool | .Name _ _=>true | .Call (.Name _ _) (_::_) _ _=>true | .Attribute (.Name _ _) _ _=>true | _=>false
noncomputable def zok(G:Genv)(rc:Rec)(nm:Names)(N:List Str)(o:Expr)(m:Str)(ap cp:Pos)(args:List Expr)(kws:List Keyword):Option (Bool×Fe) :=
 if kws.isEmpty&&zmy o&&(ap.endLine == cp.line)&&decide (args.length<30) then (G.ob.mt m).bind fun c=>if args.length+1=c.2.ar then (shE rc nm N o).bind fun fo=>(shL rc nm N args).bind fun fs=>some (c.2.own,zf9 c.1 m c.2.run fo fs) else none else none
noncomputable def mkG(G:Genv)(rc:Rec)(nm:Names)(N:List Str)(x:Str)(args:List Expr):Option (Bool×Fe) :=
 if zbR nm x&&!args.isEmpty then (G.ob.mks x).bind fun c=>(shL rc nm N args).bind fun fs =>
  if args.length+1=c.2.ar then some (false,eMk x [] c.2.run fs) else if args.length+c.1.length+1=c.2.ar then some (false,eMk x c.1 c.2.run fs) else none
 else none
noncomputable def zfe:Expr->Bool | .Name _ _=>true | _=>false
noncomputable def ztO(G:Genv)(rc:Rec)(nm:Names)(N:List Str)(o:Expr)(f:Str):Option (Bool×Fe):=if zfe o&&!G.ob.df f&&G.ob.fk G.ob.cur f then (shE rc nm N o).map fun fo=>(false,zoK G.ob.cur f fo) else none
noncomputable def ztZ:Expr->Option (Expr×Str×Pos) | .Attribute o m p=>some (o,m,p) | _=>none
def zkl{e:Expr}{x:Expr×Str×Pos}(h:ztZ e=some x):e=.Attribute x.1 x.2.1 x.2.2:=by cases e<;>first | (cases h;done) | (cases h;rfl)
noncomputable def nmF:Expr->Option (Str×Pos) | .Name x p=>some (x,p) | _=>none
def zfY{e:Expr}{x:Str×Pos}(h:nmF e=some x):e=.Name x.1 x.2:=by cases e<;>first | (cases h;done) | (cases h;rfl)
noncomputable def zhx:List CmpOp->Bool | [.NotIn]=>true | _=>false
noncomputable def zr0:List Expr->Option Expr | [a]=>some a | _=>none
noncomputable def zod(G:Genv)(rc:Rec)(nm:Names)(N:List Str)(a:Expr)(ops:List CmpOp)(bs:List Expr):Option (Bool×Fe) :=
 if zhx ops then (zr0 bs).bind fun b=>(ztZ b).bind fun t=>if zfe t.1&&G.ob.df t.2.1&&G.ob.fk G.ob.cur t.2.1 then (shE rc nm N a).bind fun fa=>(shE rc nm N t.1).bind fun fo=>some (false,zoJ G.ob.cur t.2.1 fa fo) else none else none
noncomputable def ztK(G:Genv)(rc:Rec)(nm:Names)(N:List Str)(a i:Expr):Option (Bool×Fe) :=
 (ztZ a).bind fun t=>if zfe t.1&&G.ob.df t.2.1&&G.ob.fk G.ob.cur t.2.1 then (nmF i).bind fun x=>(zaK nm N x.1).bind fun j=>(shE rc nm N t.1).bind fun fo=>some (false,zj4 G.ob.cur t.2.1 fo j) else none
def Gx.same(g:Gx cl G k X nm N E):Same' cl X:=⟨g.kk,g.pp,g.ww⟩
def Gx.u16(g:Gx cl G k X nm N E):X.A.units+16<cLine:=Nat.lt_of_le_of_lt (Nat.add_le_add_left (by decide) _) g.units
def zal{α β:Type}{o:Option α}{f:α->Option β}{b:β}(h:o.bind f=some b):∃a,o=some a/\f a=some b:=by
 cases o with
 | none=>cases h
 | some a=>exact ⟨a,rfl,h⟩
def zrp(hs:zaU cl G k rc)(g:Gx cl G k X nm N E){o:Expr}{f:Str}{pos:Pos}{w:Bool}{fe:Fe}(h:ztO G rc nm N o f=some (w,fe)):w=false/\PE X (.Attribute o f pos) (tE cl E fe):=by
 unfold ztO at h;split at h
 ·rename_i hc;rw [yab,yab] at hc
  cases h1:shE rc nm N o with
  | none=>rw [h1] at h;cases h
  | some fo =>
   rw [h1] at h;cases h;refine ⟨rfl,zp3 (g.gok.fk _ _ hc.2) g.kk (zaw hs g h1).1 ?_⟩
   cases o<;>first | rfl | cases hc.1.1
 ·cases h
def zof(hs:zaU cl G k rc)(g:Gx cl G k X nm N E){a:Expr}{ops:List CmpOp}{bs:List Expr}{pos:Pos}{w:Bool}{fe:Fe}(h:zod G rc nm N a ops bs=some (w,fe)):w=false/\PE X (.Compare a ops bs pos) (tE cl E fe)/\PT X (.Compare a ops bs pos) (tTr cl E fe):=by
 unfold zod at h;split at h
 ·rename_i hn
  have eo:ops=[.NotIn]:=by
   unfold zhx at hn;split at hn
   ·rfl
   ·cases hn
  subst eo;obtain ⟨b,h1,hz⟩:=zal h;obtain ⟨t,h2,hy⟩:=zal hz
  have eb:bs=[b]:=by
   unfold zr0 at h1;split at h1
   ·cases h1;rfl
   ·cases h1
  have e2:=zkl h2;clear h hz h1 h2;subst eb;subst e2;obtain ⟨o,f,ap⟩:=t;dsimp only at hy ⊢;split at hy
  ·rename_i hc;rw [yab,yab] at hc;obtain ⟨fa,h3,hy⟩:=zal hy;obtain ⟨fo,h4,hy⟩:=zal hy;cases hy
   have hb:attributeBase o f X.env (eval o X.env)=eval o X.env:=by cases o<;>first | rfl | cases hc.1.1
   exact ⟨rfl,zp0 g.u16 g.same (g.gok.fk _ _ hc.2) (zaw hs g h3).1 (zaw hs g h4).1 hb rfl,zpC g.u16 g.same (g.gok.fk _ _ hc.2) (zaw hs g h3).1 (zaw hs g h4).1 hb rfl⟩
  ·cases hy
 ·cases h
noncomputable def zu7(G:Genv)(rc:Rec)(nm:Names)(N:List Str)(a:Expr)(ops:List CmpOp)(bs:List Expr):Option (Bool×Fe) :=
 if zhx ops then (zr0 bs).bind fun b=>(nmF b).bind fun t=>if G.ds t.1 then (zaK nm N t.1).bind fun i=>(shE rc nm N a).bind fun fa=>some (false,zf8 i fa) else none else none
noncomputable def zti(G:Genv)(rc:Rec)(nm:Names)(N:List Str)(a:Expr)(ops:List CmpOp)(bs:List Expr):Option (Bool×Fe):=match zu7 G rc nm N a ops bs with | some p=>some p | none=>zod G rc nm N a ops bs
def zqQ(hs:zaU cl G k rc)(g:Gx cl G k X nm N E){a:Expr}{ops:List CmpOp}{bs:List Expr}{pos:Pos}{w:Bool}{fe:Fe}(h:zti G rc nm N a ops bs=some (w,fe)):w=false/\PE X (.Compare a ops bs pos) (tE cl E fe)/\PT X (.Compare a ops bs pos) (tTr cl E fe):=by
 unfold zti at h;split at h
 ·rename_i hz;cases h;unfold zu7 at hz;split at hz
  ·rename_i hn
   have eo:ops=[.NotIn]:=by
    unfold zhx at hn;split at hn
    ·rfl
    ·cases hn
   subst eo;obtain ⟨b,h1,hz⟩:=zal hz;obtain ⟨t,h2,hy⟩:=zal hz
   have eb:bs=[b]:=by
    unfold zr0 at h1;split at h1
    ·cases h1;rfl
    ·cases h1
   have e2:=zfY h2;clear hz h1 h2;subst eb;subst e2;split at hy
   ·obtain ⟨i,h3,hy⟩:=zal hy;obtain ⟨fa,h4,hy⟩:=zal hy;cases hy;obtain ⟨n1,n2,n3,n4⟩:=g.slot h3;exact ⟨rfl,zny (by have:=g.u16;omega) g.same n1 n2 n3 n4 (zaw hs g h4).1,znd (by have:=g.u16;omega) g.same n1 n2 n3 n4 (zaw hs g h4).1⟩
   ·cases hy
  ·cases hz
 ·exact zof hs g h
def zrm(hs:zaU cl G k rc)(g:Gx cl G k X nm N E){a i:Expr}{pos:Pos}{w:Bool}{fe:Fe}(h:ztK G rc nm N a i=some (w,fe)):w=false/\PE X (.Subscript a i pos) (tE cl E fe):=by
 unfold ztK at h;obtain ⟨t,h2,hz⟩:=zal h;have e2:=zkl h2;clear h h2;subst e2;obtain ⟨o,f,ap⟩:=t;dsimp only at hz ⊢;split at hz
 ·rename_i hc;rw [yab,yab] at hc;obtain ⟨x,h3,hz⟩:=zal hz;obtain ⟨j,h4,hz⟩:=zal hz;obtain ⟨fo,h5,hz⟩:=zal hz;cases hz;have e3:=zfY h3;clear h3;subst e3;obtain ⟨s1,s2,s3,s4⟩:=g.slot h4;refine ⟨rfl,znB s1 s2 s3 s4 g.u16 g.same (g.gok.fk _ _ hc.2) (zaw hs g h5).1 ?_ (fun _ _=>rfl)⟩
  cases o<;>first | rfl | cases hc.1.1
 ·cases hz
def zxP{pos:Pos}{env:PySem.Env}{args:List Expr}(hp:args.all zbD=true)(hl:args.length<30):methodCallForm (args.length+0) (backTo pos (starEach args env)) (backToKw pos (keywordEach [] env))=true:=by
 have h:=za3 (pos:=pos) (env:=env) hp;unfold methodCallForm
 have h1:(backTo pos (starEach args env)).all (!·.1)=true:=by
  rw [List.all_eq_not_any_not];simpa using h
 rw [h1];show (true&&true&&decide (args.length+0+0<30))=true;rw [yan (by omega)];rfl
def zjx{o:Expr}{m:Str}{ap pos:Pos}{env:PySem.Env}{args:List Expr}(hb:attributeBase o m env (eval o env)=eval o env)(hf:methodCallForm (args.length+0) (backTo pos (starEach args env)) (backToKw pos (keywordEach [] env))=true)(hp:(ap.endLine == pos.line)=true) :
  eval (.Call (.Attribute o m ap) args [] pos) env=(do
   let ov ← eval o env
   standAt ap.atName
   let (f,first) ← holding [ov] (getMethod ov m (do return (← importBound o env).getD true))
   callWith pos f first (backTo pos (starEach args env)) (backToKw pos (keywordEach [] env))):=by
 show (do
  let ov ← attributeBase o m env (eval o env)
  standAt ap.atName
  methodCall o m ap pos env ov (args.length+0) (backTo pos (starEach args env)) (backToKw pos (keywordEach [] env)))=_
 rw [hb]
 have e:∀ov,methodCall o m ap pos env ov (args.length+0) (backTo pos (starEach args env)) (backToKw pos (keywordEach [] env))=(do
   let (f,first) ← holding [ov] (getMethod ov m (do return (← importBound o env).getD true))
   callWith pos f first (backTo pos (starEach args env)) (backToKw pos (keywordEach [] env))):=fun ov=>by
  unfold methodCall calleeOf methodCallPos;rw [hf,hp];rfl
 simp only [e]
def zoj(hs:zaU cl G k rc)(g:Gx cl G k X nm N E){o:Expr}{m:Str}{args:List Expr}{kws:List Keyword}{ap pos:Pos}{w:Bool}{fe:Fe}(h:zok G rc nm N o m ap pos args kws=some (w,fe)):(w=true->PE X (.Call (.Attribute o m ap) args kws pos) (tN cl E fe))/\PE X (.Call (.Attribute o m ap) args kws pos) (tE cl E fe):=by
 unfold zok at h;split at h
 ·rename_i hc;simp only [yab,ya8] at hc;obtain ⟨⟨⟨z1,z2⟩,z3⟩,z4⟩:=hc;obtain rfl:=ybf.mp z1;obtain ⟨⟨c,fi⟩,h1,h⟩:=zal h;dsimp only at h;split at h
  ·rename_i hl;obtain ⟨fo,h2,h⟩:=zal h;obtain ⟨fs,h3,h⟩:=zal h;cases h;obtain ⟨f,fd,ps,c1,c2,c3,c4⟩:=g.gok.mt m c fi h1;obtain ⟨a1,a2,a3⟩:=zdM hs g h3
   have hlen:fs.length+1=fi.ar:=by rw [a3];exact hl
   have hb:attributeBase o m X.env (eval o X.env)=eval o X.env:=by
    unfold zmy at z2
    split at z2<;>first | rfl | cases z2
   have ht:=zjx (ap:=ap) hb (zxP (pos:=pos) a2 z4) z3
   have main:PE X (.Call (.Attribute o m ap) args [] pos) (zfC (cl c) m (zhT cl fi.ar fi.own fi.run) [] E (tE cl E fo) (tAs cl E fs)):=by
    cases args with
    | nil =>
     cases h3;refine PE.imp (zjf (zaw hs g h2).1 c1 c2 c4 g.room c3 .nil g.pass ht) ?_;rintro σ H Q ⟨B,w,ρ,S,rfl,R,q⟩;refine ⟨B,w,ρ,S,rfl,R,?_⟩
     cases hfo:fo ρ S with
     | bad=>rwa [hfo] at q
     | exc c S1=>rwa [hfo] at q
     | ok d S1 =>
      rw [hfo] at q;intro v w1 R1 F1 sh;obtain ⟨a,dx,fs,e1,e2,e3,B',w',ρ',S',e4,R',q⟩:=q v w1 R1 F1 sh;refine ⟨a,dx,fs,e1,e2,e3,?_⟩;have:=q [] w' R' (Fut.refl _) .nil;rwa [e4] at this
    | cons e es =>
     rw [yby,yab] at a2;exact zlf (zaw hs g h2).1 c1 c2 c4 g.room c3 .nil g.pass a1 (za6 a2.1) (za3 a2.2) ht
   cases ho:fi.own with
   | false =>
    rw [ho] at main;exact ⟨(fun z=>by cases z),PE.imp main fun _ _ _ q=>zqX q hlen⟩
   | true =>
    rw [ho] at main;have n:=PE.imp main fun _ _ _ q=>zqW q hlen
    exact ⟨fun _=>n,zb6 n⟩
  ·cases h
 ·cases h
def ztk(hs:zaU cl G k rc)(g:Gx cl G k X nm N E){x:Str}{args:List Expr}{p pos:Pos}{w:Bool}{fe:Fe}(h:mkG G rc nm N x args=some (w,fe)):w=false/\PE X (.Call (.Name x p) args [] pos) (tE cl E fe):=by
 unfold mkG at h;split at h
 ·rename_i hc;rw [yab] at hc;obtain ⟨⟨dds,fi⟩,h1,h⟩:=zal h;obtain ⟨fs,h2,h⟩:=zal h;dsimp only at h;obtain ⟨f,fd,ps,dvs,ds,k',hk,mC,M,B0,BD,vd,sd,F⟩:=g.gok.mks x dds fi h1;obtain ⟨a1,a2,a3⟩:=zdM hs g h2;obtain ⟨g1,g2,g3⟩:=g.glob hc.1
  cases args with
  | nil=>cases hc.2
  | cons e es =>
   rw [yby,yab] at a2;have hr:Room (k'+1) X.A:=g.room.mono hk;split at h
   ·rename_i hl;cases h;exact ⟨rfl,PE.imp (zhq M F hr g1 mC B0 .nil g.pass a1 g2 (za6 a2.1) (za3 a2.2)) fun _ _ _ q=>zu9 (dds:=[]) (fun _=>.nil) q (by rw [a3];exact hl)⟩
   ·split at h
    ·rename_i hl;cases h;exact ⟨rfl,PE.imp (zhq M F hr g1 mC BD vd g.pass a1 g2 (za6 a2.1) (za3 a2.2)) fun _ _ _ q=>zu9 sd q (by rw [a3];exact hl)⟩
    ·cases h
 ·cases h
end
end S2
namespace S2
open PySem PySem.Spec PyProof.Rows L2
noncomputable def zqU:Expr->Option Str | .Name x _=>some x | _=>none
noncomputable def ztF(df:Bool):Option NameKind->Bool | some .local=>true | some .cell=>df | _=>false
noncomputable def tgI(df:Bool)(nm:Names)(N:List Str)(n:Nat)(x:Str):Option Nat:=if ztF df (nm.lookup x) then (idx N x).bind fun i=>if i<n then some i else none else none
noncomputable def zo5(df:Bool)(nm:Names)(N:List Str)(n:Nat):List Expr->Option (List Nat)
 | []=>some []
 | .Name x _::es=>(tgI df nm N n x).bind fun i=>(zo5 df nm N n es).bind fun is=>some (i::is)
 | _::_=>none
noncomputable def tgG(df:Bool)(nm:Names)(N:List Str)(n:Nat):Expr->Option Tg
 | .Name x _=>(tgI df nm N n x).map .one
 | .Tuple es _ _=>(zo5 df nm N n es).map .tup
 | _=>none
structure Sto'(X:Cx)(nm:Names)(df:Bool):Prop where
 fn:df=true->∀x,nm.lookup x=some .cell->X.fn x=true
section
variable{cl:Cf}{G:Genv}{k:Nat}{X:Cx}{nm:Names}{N:List Str}{E:St->XK}{df:Bool}{n:Nat}
def zdK(g:Gx cl G k X nm N E)(sd:Sto' X nm df){x:Str}{i:Nat}(h:tgI df nm N n x=some i):i<n/\X.N.Nodup/\X.N[i]?=some x/\Loc X.env.scope x/\(X.fn x=true\/X.env.scope.names.lookup x=some .local):=by
 unfold tgI at h;split at h
 ·rename_i hl
  cases hi:idx N x with
  | none=>rw [hi] at h;cases h
  | some j =>
   rw [hi] at h;dsimp only [Option.bind] at h;split at h
   ·rename_i hn;cases h;refine ⟨hn,by rw [g.eN];exact g.nd,by rw [g.eN];exact zd3 hi,?_,?_⟩
    ·cases hk:nm.lookup x with
     | none=>rw [hk] at hl;cases hl
     | some kd =>
      obtain ⟨kd',e,z⟩:=g.vis x kd hk;rw [hk] at hl;unfold L2.Loc;rw [e]
      rcases z with rfl | ⟨rfl,_⟩
      ·cases kd'<;>first | exact .inl rfl | exact .inr rfl | cases hl
      ·cases hl
    ·cases hk:nm.lookup x with
     | none=>rw [hk] at hl;cases hl
     | some kd =>
      rw [hk] at hl
      cases kd<;>first | exact .inr (g.fnx x hk) | exact .inl (sd.fn hl x hk) | cases hl
   ·cases h
 ·cases h
theorem zix(g:Gx cl G k X nm N E)(sd:Sto' X nm df):∀{es:List Expr} {is:List Nat},zo5 df nm N n es=some is->PGs X es (tGs cl n is)/\(assignEach es X.env).length=is.length/\(assignEach es X.env).findIdx? (·.1)=none
 | [],is,h=>by cases h;exact ⟨znt,rfl,rfl⟩
 | e::es,is,h=>by
  cases e with
  | Name x pos =>
   unfold zo5 at h
   cases h1:tgI df nm N n x with
   | none=>rw [h1] at h;cases h
   | some i =>
    rw [h1] at h
    cases h2:zo5 df nm N n es with
    | none=>rw [h2] at h;cases h
    | some is' =>
     rw [h2] at h;cases h;obtain ⟨a1,a2,a3,a4,a5⟩:=zdK g sd h1;obtain ⟨b1,b2,b3⟩:=zix g sd h2;refine ⟨zkR a1 a2 a3 a4 a5 b1,?_,?_⟩
     ·show (assignEach es X.env).length+1=_;rw [b2];rfl
     ·show ((false,assign (.Name x pos) X.env)::assignEach es X.env).findIdx? (·.1)=none;rw [List.findIdx?_cons];simp [b3]
  | _=>cases h
def zm6(g:Gx cl G k X nm N E)(sd:Sto' X nm df){tg:Expr}{t:Tg}(h:tgG df nm N n tg=some t):PG X tg (tG cl n t):=by
 unfold tgG at h;split at h
 ·rename_i x pos
  cases h1:tgI df nm N n x with
  | none=>rw [h1] at h;cases h
  | some i =>
   rw [h1] at h;cases h;obtain ⟨a1,a2,a3,a4,a5⟩:=zdK g sd h1;exact zpU a1 a2 a3 a4 a5
 ·rename_i es kk pos
  cases h1:zo5 df nm N n es with
  | none=>rw [h1] at h;cases h
  | some is =>
   rw [h1] at h;cases h;obtain ⟨b1,b2,b3⟩:=zix g sd h1;exact zpT g.calm b1 b2 b3
 ·cases h
end
noncomputable def zaL:Expr->List Str
 | .Name x _=>[x]
 | .Tuple es _ _=>es.filterMap zqU
 | _=>[]
noncomputable def zaP(names:Names)(N:List Str):List (Str×Nat):=names.filterMap fun p=>if p.2=.free then (idx N p.1).map fun i=>(p.1,i) else none
noncomputable def zxJ:Option NameKind->Bool | some .cell=>true | some .free=>true | _=>false
noncomputable def zkb(nm:Names)(scope:Scope)(xs:List Str)(caps:List (Str×Nat)):Bool :=
 decide (scope.kind=.function)&&decide ((scope.names.map (·.1)).Nodup)&&scope.names.all (fun y=>!decide (y.2=.local)||decide (scope.names.lookup y.1=some .local))
 && scope.names.all (fun y=>!decide (y.2=.free)||zxJ (nm.lookup y.1))&&caps.all (fun p=>scope.names.all fun z=>!decide (z.1=p.1)||decide (z.2=.free))&&decide ((xs++caps.map (·.1)).Nodup)
noncomputable def zl7(rc:Rec)(nm:Names)(N:List Str):List Expr->Option Fe
 | []=>some zj2
 | [c]=>if zaZ c then shE rc nm N c else none
 | _=>none
noncomputable def zjZ(elt:Expr)(g:Comprehension):Option (Str×Pos):=match elt,g.target,g.iter,g.ifs with
 | .Name x _,.Name y _,.Name z p,[_]=>if x=y then some (z,p) else none
 | _,_,_,_=>none
def zl0{elt:Expr}{g:Comprehension}{x:Str×Pos}(h:zjZ elt g=some x):g.iter=.Name x.1 x.2:=by
 unfold zjZ at h;split at h
 ·rename_i e _;split at h
  ·cases h;exact e
  ·cases h
 ·cases h
noncomputable def zow(G:Genv)(rc:Rec)(nm:Names)(N:List Str)(elt:Expr)(g:Comprehension):Option Fi:=match zjZ elt g with | some x=>(zaK nm N x.1).map fun i=>zcf i | none=>zjM G rc nm N g.target g.iter
noncomputable def zii(G:Genv)(rc:Rec)(nm:Names)(N:List Str)(elt:Expr)(g:Comprehension)(scope:Scope):Option Fe :=
 if decide (g.is_async=0)&&zkb nm scope (zaL g.target) (zaP scope.names N) then
  (zow G rc nm N elt g).bind fun it =>
  (tgG true scope.names (zaL g.target++(zaP scope.names N).map (·.1)) (zaL g.target).length g.target).bind fun t =>
  (zl7 rc scope.names (zaL g.target++(zaP scope.names N).map (·.1)) g.ifs).bind fun c =>
  (shE rc scope.names (zaL g.target++(zaP scope.names N).map (·.1)) elt).bind fun el =>
  some (zdi (zaL g.target).length t it c el ((zaP scope.names N).map (·.2)))
 else none
theorem zcv{scope:Scope}{env:PySem.Env}:∀{names:Names} {x:Str} {kd:NameKind},names.lookup x=some kd →
  ∃kd',(names.map fun (n,k)=>if (k == NameKind.free&&env.scope.kind == .function&&env.kindOf n == some .cell) then (n,NameKind.cell) else (n,k)).lookup x=some kd'/\(kd'=kd\/(kd=.free/\kd'=.cell))
 | [],_,_,h=>by cases h
 | (n,k0)::r,x,kd,h=>by
  rw [yax] at h;rw [yat];dsimp only
  by_cases hc:(k0 == NameKind.free&&env.scope.kind == .function&&env.kindOf n == some .cell)=true
  ·rw [if_pos hc,yax]
   cases hx:x == n with
   | true =>
    rw [hx] at h;cases h;simp only [yab,ybR] at hc;exact ⟨_,rfl,.inr ⟨hc.1.1,rfl⟩⟩
   | false=>rw [hx] at h;exact zcv (scope:=scope) h
  ·rw [if_neg hc,yax]
   cases hx:x == n with
   | true=>rw [hx] at h;cases h;exact ⟨_,rfl,.inl rfl⟩
   | false=>rw [hx] at h;exact zcv (scope:=scope) h
section
variable{cl:Cf}{G:Genv}{k:Nat}{rc:Rec}{X:Cx}{nm:Names}{N:List Str}{E:St->XK}
def zig(g:Gx cl G k X nm N E){scope:Scope}{xs:List Str}(h:zkb nm scope xs (zaP scope.names N)=true):CompScopeG X.env.scope scope X.N xs (zaP scope.names N)/\(xs++(zaP scope.names N).map (·.1)).Nodup:=by
 unfold zkb at h;simp only [yab,ybu,ya8,Bool.or_eq_true,ya7,ybc] at h;obtain ⟨⟨⟨⟨⟨h1,h2⟩,h3⟩,h4⟩,h5⟩,h6⟩:=h
 have fr:∀y∈scope.names,y.2=.free->X.env.scope.names.lookup y.1=some .cell\/X.env.scope.names.lookup y.1=some .free:=fun y hy hf=>by
  rcases h4 y hy with z | z
  ·exact absurd hf z
  ·cases hk:nm.lookup y.1 with
   | none=>rw [hk] at z;cases z
   | some kd =>
    obtain ⟨kd',e,zz⟩:=g.vis y.1 kd hk;rw [hk] at z;rw [e]
    rcases zz with rfl | ⟨_,rfl⟩
    ·cases kd'<;>first | exact .inl rfl | exact .inr rfl | cases z
    ·exact .inl rfl
 refine ⟨⟨h2,h1,fun y hy hl=>(h3 y hy).elim (fun z=>absurd hl z) fun z=>z,fr,fun p hp=>?_,fun p hp z hz e=>(h5 p hp z hz).elim (fun w=>absurd e w) fun w=>w⟩,h6⟩;unfold zaP at hp;obtain ⟨q,hq,e⟩:=yb2.mp hp;split at e
 ·rename_i hf
  cases hi:idx N q.1 with
  | none=>rw [hi] at e;cases e
  | some i =>
   rw [hi] at e;have e':(q.1,i)=p:=Option.some.inj e;subst e';refine ⟨by rw [g.eN];exact zd3 hi,by rw [<-hf];exact hq,?_⟩
   rcases fr q hq hf with z | z<;>rw [z]<;>exact fun w=>by cases w
 ·cases e
def zfg(g:Gx cl G k X nm N E){scope:Scope}{xs:List Str}(hn:(xs++(zaP scope.names N).map (·.1)).Nodup)(cl':List (Str×Addr))(C:Addr)(s:Shared)(H:Hp)(fp:List Addr) :
  Gx cl G k (zaN X xs (zaP scope.names N) scope cl' C s H fp) scope.names (xs++(zaP scope.names N).map (·.1)) noE where
 gok:=g.gok
 room:=g.room
 calm:=g.calm
 pass:=fun pins σ H s e s' I q=>by
  obtain ⟨a,cls,a0,H',B,_,_,_,_,_,_,_,_,_,z⟩:=q;exact z.elim
 eN:=rfl
 kk:=g.kk
 pp:=g.pp
 ww:=g.ww
 nd:=hn
 vis:=fun x kd h=>zcv (scope:=scope) h
 fnx:=fun x h=>lookup_relabel_local h
def zoO(hs:zaU cl G k rc)(g:Gx cl G k X nm N noE){ifs:List Expr}{c:Fe}(h:zl7 rc nm N ifs=some c):PIf X ifs (tTr cl noE c):=by
 unfold zl7 at h;split at h
 ·cases h;intro pins s σ H Q I q;obtain ⟨B,w,ρ,S,rfl,R,q⟩:=q;exact znX pins s σ w.H Q I (q w R (Fut.refl _))
 ·split at h
  ·rename_i c ht;obtain ⟨_,a2,_⟩:=zaw hs g h;exact znW (a2 ht)
  ·cases h
 ·cases h
def zez(hs:zaU cl G k rc)(g:Gx cl G k X nm N E){elt:Expr}{gg:Comprehension}{scope:Scope}{f:Fe}(h:zii G rc nm N elt gg scope=some f) :
  ∃it t c el,f=zdi (zaL gg.target).length t it c el ((zaP scope.names N).map (·.2))/\gg=⟨gg.target,gg.iter,gg.ifs,0⟩/\CompScopeG X.env.scope scope X.N (zaL gg.target) (zaP scope.names N)/\PI X gg.target gg.iter (tIB cl E it)/\okE gg.iter=true ∧
   (∀cl' C s H fp,PG (zaN X (zaL gg.target) (zaP scope.names N) scope cl' C s H fp) gg.target (tG cl (zaL gg.target).length t)) ∧
   (∀cl' C s H fp,PIf (zaN X (zaL gg.target) (zaP scope.names N) scope cl' C s H fp) gg.ifs (tTr cl noE c)) ∧
   ∀cl' C s H fp,PE (zaN X (zaL gg.target) (zaP scope.names N) scope cl' C s H fp) elt (tE cl noE el):=by
 unfold zii at h;split at h
 ·rename_i hc;rw [yab] at hc;obtain ⟨S,hn⟩:=zig g hc.2
  cases h1:zow G rc nm N elt gg with
  | none=>rw [h1] at h;cases h
  | some it =>
   rw [h1] at h;dsimp only [Option.bind] at h
   cases h2:tgG true scope.names (zaL gg.target++(zaP scope.names N).map (·.1)) (zaL gg.target).length gg.target with
   | none=>rw [h2] at h;cases h
   | some t =>
    rw [h2] at h;dsimp only at h
    cases h3:zl7 rc scope.names (zaL gg.target++(zaP scope.names N).map (·.1)) gg.ifs with
    | none=>rw [h3] at h;cases h
    | some c =>
     rw [h3] at h;dsimp only at h
     cases h4:shE rc scope.names (zaL gg.target++(zaP scope.names N).map (·.1)) elt with
     | none=>rw [h4] at h;cases h
     | some el =>
      rw [h4] at h;cases h
      obtain ⟨i1,i2⟩:PI X gg.target gg.iter (tIB cl E it)/\okE gg.iter=true:=by
       unfold zow at h1
       cases hfc:zjZ elt gg with
       | none =>
        rw [hfc] at h1;obtain ⟨i1,i2⟩:=zjL hs g (tg:=gg.target) h1;exact ⟨PI.imp i1 fun _ _ _ q=>zwT q,i2⟩
       | some y =>
        rw [hfc] at h1;dsimp only at h1
        cases hsl:zaK nm N y.1 with
        | none=>rw [hsl] at h1;cases h1
        | some i =>
         rw [hsl] at h1;cases h1;obtain ⟨n1,n2,n3,n4⟩:=g.slot hsl;rw [zl0 hfc];exact ⟨zpR n1 n2 n3 n4,rfl⟩
      refine ⟨it,t,c,el,rfl,?_,S,i1,i2,fun cl' C s H fp=>zm6 (zfg g hn cl' C s H fp) ⟨fun _ x hx=>yan hx⟩ h2,fun cl' C s H fp=>zoO hs (zfg g hn cl' C s H fp) h3,fun cl' C s H fp=>(zaw hs (zfg g hn cl' C s H fp) h4).1⟩;have:=yak hc.1;cases gg;simp only at this;rw [this]
 ·cases h
def zj8(hs:zaU cl G k rc)(g:Gx cl G k X nm N E){elt:Expr}{gg:Comprehension}{scope:Scope}{f:Fe}{pos:Pos}(h:zii G rc nm N elt gg scope=some f):PE X (.ListComp elt [gg] scope pos) (tN cl E f):=by
 obtain ⟨it,t,c,el,rfl,eg,S,i1,i2,i3,i4,i5⟩:=zez hs g h;rw [eg];exact PE.imp (zli g.calm S i1 i3 i4 i5 (ze8 i2)) fun _ _ _ q=>zka q
end
noncomputable def zv6:Expr->Bool | .Slice _ _ _ _=>false | _=>true
noncomputable def zrY(rc:Rec)(nm:Names)(N:List Str):Option Expr->Option (Option Fe)
 | none=>some none
 | some e=>(opE rc nm N e).map some
noncomputable def zu8(m:Str):Option (List D->D->Option D):=if m = "count" then some zdv else if m = "index" then some zdr else none
def zj7:∀(l:List D) (d r:D),zdv l d=some r->∃n,r=.int n:=by
 intro l d r h;unfold zdv at h;split at h
 ·cases h;exact ⟨_,rfl⟩
 ·cases h
def zjT:∀(l:List D) (d r:D),zdr l d=some r->∃n,r=.int n:=by
 intro l d r h;unfold zdr at h;split at h
 ·cases h;exact ⟨_,rfl⟩
 ·cases h
noncomputable def unG(rc:Rec)(nm:Names)(N:List Str)(a:Expr):UnaryOp->Option (Bool×Fe)
 | .Not=>if zaZ a then (shE rc nm N a).map fun f=>(false,eUn zft f) else none
 | .USub=>(opE rc nm N a).map fun f=>(false,eUn zog f)
 | _=>none
noncomputable def zrA(rc:Rec)(nm:Names)(N:List Str)(a:Expr):List CmpOp->List Expr->Option (Bool×Fe)
 | [op],[b]=>(zrB op b).bind fun g=>(opE rc nm N a).bind fun f=>(opE rc nm N b).bind fun h=>some (false,zai g f h)
 | [op,op'],[b,c]=>(zrB op b).bind fun g=>(zrB op' c).bind fun g'=>(opE rc nm N a).bind fun f=>(opE rc nm N b).bind fun h=>(opE rc nm N c).bind fun k=>some (false,zb7 g g' f h k)
 | _,_=>none
noncomputable def zu0(rc:Rec)(nm:Names)(N:List Str)(a:Expr):Expr->Option (Bool×Fe)
 | .Slice lo hi none _=>(opE rc nm N a).bind fun f=>(zrY rc nm N lo).bind fun l=>(zrY rc nm N hi).bind fun u=>some (false,eSl f l u)
 | i=>if zv6 i then (opE rc nm N a).bind fun f=>(opE rc nm N i).bind fun h=>some (false,zai ixD f h) else none
noncomputable def zwa(rc:Rec)(nm:Names)(N:List Str)(x m:Str)(ap cp:Pos):List Expr->List Keyword->Option (Bool×Fe)
 | [a],[]=>if ap.endLine == cp.line then (zaK nm N x).bind fun i=>(opE rc nm N a).bind fun f=>(zu8 m).bind fun g=>some (false,eMt g i f) else none
 | _,_=>none
noncomputable def zmW(G:Genv)(rc:Rec)(nm:Names)(N:List Str)(args:List Expr)(kws:List Keyword)(cp:Pos):Expr->Option (Bool×Fe)
 | .Attribute o m ap=>(match (nmF o).bind fun x=>zwa rc nm N x.1 m ap cp args kws with | some p=>some p | none=>zok G rc nm N o m ap cp args kws)
 | .Name x _=>if kws.isEmpty then (match mkG G rc nm N x args with | some p=>some p | none=>(match srG G rc nm N x args with | some p=>some p | none=>zoS G rc nm N x args)) else none
 | _=>none
noncomputable def lcG(G:Genv)(rc:Rec)(nm:Names)(N:List Str)(elt:Expr)(scope:Scope):List Comprehension->Option (Bool×Fe)
 | [g]=>(zii G rc nm N elt g scope).map fun f=>(true,f)
 | _=>none
noncomputable def zgS(G:Genv)(rc:Rec):Rec:=fun nm N e=>match e with
 | .Constant c _ _=>(zv9 c).map fun d=>(false,zae d)
 | .Name x _=>(match zaK nm N x with
  | some i=>some (false,zad i)
  | none=>if zbR nm x then (G.con x).map fun d=>(false,zae d) else none)
 | .Tuple es _ _=>(shL rc nm N es).map fun fs=>(false,zem fs)
 | .List es _=>(shL rc nm N es).map fun fs=>(true,zeg fs)
 | .BinOp a op b _=>if zox a&&zri op then (opE rc nm N a).bind fun f=>(opE rc nm N b).bind fun h=>some (true,zai zh3 f h) else (ztX op).bind fun g=>(opE rc nm N a).bind fun f=>(opE rc nm N b).bind fun h=>some (false,zai g f h)
 | .UnaryOp op a _=>unG rc nm N a op
 | .BoolOp op es _=>(zio rc nm N op es).map fun f=>(false,f)
 | .Compare a ops bs _=>(match zti G rc nm N a ops bs with | some p=>some p | none=>zrA rc nm N a ops bs)
 | .IfExp c a b _=>if zaZ c then (shE rc nm N c).bind fun g=>(shE rc nm N a).bind fun f=>(shE rc nm N b).bind fun h=>some (false,eIf g f h) else none
 | .Subscript a i _=>(match ztK G rc nm N a i with | some p=>some p | none=>zu0 rc nm N a i)
 | .Attribute o f _=>ztO G rc nm N o f
 | .Call f args kws cp=>zmW G rc nm N args kws cp f
 | .ListComp elt gs scope _=>lcG G rc nm N elt scope gs
 | .Dict [some (.Name x _)] [.Constant (.bool true) _ _] _=>(zaK nm N x).map fun i=>(true,zeb i)
 | _=>none
noncomputable def ztU(G:Genv):Nat->Rec
 | 0=>fun _ _ _=>none
 | n+1=>zgS G (ztU G n)
section
variable{cl:Cf}{G:Genv}{k:Nat}{rc:Rec}
def zlN{i:Expr}(h:zv6 i=true):zfq i:=by
 intro o j
 cases i<;>first | rfl | cases h
def zaa{α β:Type}{o:Option α}{f:α->Option β}{b:β}(h:o.bind f=some b):∃a,o=some a/\f a=some b:=by
 cases o with
 | none=>cases h
 | some a=>exact ⟨a,rfl,h⟩
def zau{α β:Type}{o:Option α}{f:α->β}{b:β}(h:o.map f=some b):∃a,o=some a/\f a=b:=by
 cases o with
 | none=>cases h
 | some a=>exact ⟨a,rfl,Option.some.inj h⟩
def zhr{X:Cx}{nm:Names}{N:List Str}{E:St->XK}(hs:zaU cl G k rc)(g:Gx cl G k X nm N E){o:Option Expr}{f:Option Fe}(h:zrY rc nm N o=some f):PO X o (zrX cl E f):=by
 unfold zrY at h;split at h
 ·cases h;exact znU
 ·obtain ⟨a,h1,rfl⟩:=zau h;exact znT (zbx hs g h1).1
def zl5(hs:zaU cl G k rc):zaU cl G k (zgS G rc):=by
 intro X nm N E g e o f h;unfold zgS at h;split at h
 ·obtain ⟨d,h1,h2⟩:=zau h;cases h2;rename_i c kk pos
  have p:PE X (.Constant c kk pos) (tE cl E (zae d)):=by
   cases c<;>simp [zv9] at h1<;>subst h1
   ·exact ziK zqt fun w=>.non
   ·exact ziK zn1 fun w=>.bl _
   ·exact ziK zqw fun w=>.int _
   ·exact ziK zqp fun w=>.str _
  exact ⟨(fun z=>by cases z),p,fun _=>za0 p (fun _=>rfl),rfl⟩
 ·rename_i x pos;split at h
  ·rename_i i hi;cases h;obtain ⟨h1,h2,h3,h4⟩:=g.slot hi;have p:PE X (.Name x pos) (tE cl E (zad i)):=zpW h1 h2 h3 h4;exact ⟨(fun z=>by cases z),p,fun _=>za0 p (fun _=>rfl),rfl⟩
  ·split at h
   ·rename_i hg;obtain ⟨d,h1,h2⟩:=zau h;cases h2;obtain ⟨g1,g2,g3⟩:=g.glob hg;obtain ⟨v,u,m,r,sh⟩:=g.gok.con x d h1;have p:PE X (.Name x pos) (tE cl E (zae d)):=ziK (zjg g1 m r g2) sh;exact ⟨(fun z=>by cases z),p,fun _=>za0 p (fun _=>rfl),rfl⟩
   ·cases h
 ·obtain ⟨fs,h1,h2⟩:=zau h;cases h2;rename_i es kk pos;have p:PE X (.Tuple es kk pos) (tE cl E (zem fs)):=zpX (zdM hs g h1).1;exact ⟨(fun z=>by cases z),p,fun _=>za0 p (fun _=>rfl),rfl⟩
 ·obtain ⟨fs,h1,h2⟩:=zau h;cases h2;rename_i es pos;have p:PE X (.List es pos) (tN cl E (zeg fs)):=zp2 (zdM hs g h1).1;exact ⟨fun _=>p,zb6 p,fun _=>za0 (zb6 p) (fun _=>rfl),rfl⟩
 ·split at h
  ·rename_i a op b pos hm;obtain ⟨fa,h2,h⟩:=zaa h;obtain ⟨fb,h3,h⟩:=zaa h;cases h;rw [yab] at hm
   have ho:op=.Mult:=by cases op<;>first | rfl | cases hm.2
   subst ho;have p:PE X (.BinOp a .Mult b pos) (tN cl E (zai zh3 fa fb)):=znz (zbx hs g h2).1 (zbx hs g h3).1;exact ⟨fun _=>p,zb6 p,fun _=>za0 (zb6 p) (fun _=>rfl),rfl⟩
  obtain ⟨gg,h1,h⟩:=zaa h;obtain ⟨fa,h2,h⟩:=zaa h;obtain ⟨fb,h3,h⟩:=zaa h;cases h;exact ⟨(fun z=>by cases z),zmw (zmX h1) (zbx hs g h2).1 (zbx hs g h3).1,fun _=>za0 (zmw (zmX h1) (zbx hs g h2).1 (zbx hs g h3).1) (fun _=>rfl),rfl⟩
 ·rename_i op a pos;unfold unG at h;split at h
  ·split at h
   ·rename_i ht;obtain ⟨fa,h1,h2⟩:=zau h;cases h2;obtain ⟨a1,a2,_⟩:=zaw hs g h1;exact ⟨(fun z=>by cases z),zpZ a1,fun _=>zpB (a2 ht),rfl⟩
   ·cases h
  ·obtain ⟨fa,h1,h2⟩:=zau h;cases h2;have p:PE X (.UnaryOp .USub a pos) (tE cl E (eUn zog fa)):=zsU zph (zbx hs g h1).1;exact ⟨(fun z=>by cases z),p,fun _=>za0 p (fun _=>rfl),rfl⟩
  ·cases h
 ·obtain ⟨fa,h1,h2⟩:=zau h;cases h2;rename_i op es pos;obtain ⟨b1,b2⟩:=zkh hs g (pos:=pos) h1;exact ⟨(fun z=>by cases z),b1,fun _=>b2.pt,rfl⟩
 ·rename_i a ops bs pos;split at h
  ·rename_i p hp;obtain ⟨w,fe⟩:=p;cases h;obtain ⟨rfl,n1,n2⟩:=zqQ hs g (pos:=pos) hp;exact ⟨(fun z=>by cases z),n1,fun _=>n2,rfl⟩
  unfold zrA at h;split at h
  ·obtain ⟨gg,h1,h⟩:=zaa h;obtain ⟨fa,h2,h⟩:=zaa h;obtain ⟨fb,h3,h⟩:=zaa h;cases h;obtain ⟨a1,_⟩:=zbx hs g h2;obtain ⟨b1,b2⟩:=zbx hs g h3;exact ⟨(fun z=>by cases z),zp4 (zeB g h1) a1 b1 (zdU b2),fun _=>zpD (zeB g h1) a1 b1 (zdU b2),rfl⟩
  ·obtain ⟨gg,h1,h⟩:=zaa h;obtain ⟨gg',h1',h⟩:=zaa h;obtain ⟨fa,h2,h⟩:=zaa h;obtain ⟨fb,h3,h⟩:=zaa h;obtain ⟨fc,h4,h⟩:=zaa h;cases h;obtain ⟨a1,_⟩:=zbx hs g h2;obtain ⟨b1,_⟩:=zbx hs g h3;obtain ⟨c1,c2⟩:=zbx hs g h4;have hm:∀{op op':CmpOp} {b c:Expr},okE c=true->lastMarks [op,op'] [b,c]=false:=fun h=>zdU h
   exact ⟨(fun z=>by cases z),zkW (zeB g h1) (zeB g h1') a1 b1 c1 (hm c2),fun _=>zkJ (zeB g h1) (zeB g h1') a1 b1 c1 (hm c2),rfl⟩
  ·cases h
 ·split at h
  ·rename_i c a b pos ht;obtain ⟨fc,h1,h⟩:=zaa h;obtain ⟨fa,h2,h⟩:=zaa h;obtain ⟨fb,h3,h⟩:=zaa h;cases h;obtain ⟨_,c2,_⟩:=zaw hs g h1;exact ⟨(fun z=>by cases z),zsX (c2 ht) (zaw hs g h2).1 (zaw hs g h3).1,(fun z=>by cases z),rfl⟩
  ·cases h
 ·rename_i a i pos;split at h
  ·rename_i p hp;obtain ⟨w,fe⟩:=p;cases h;obtain ⟨rfl,n1⟩:=zrm hs g (pos:=pos) hp;exact ⟨(fun z=>by cases z),n1,fun _=>za0 n1 (fun _=>rfl),rfl⟩
  unfold zu0 at h;split at h
  ·obtain ⟨fa,h1,h⟩:=zaa h;obtain ⟨fl,h2,h⟩:=zaa h;obtain ⟨fu,h3,h⟩:=zaa h;cases h;exact ⟨(fun z=>by cases z),zpY (zbx hs g h1).1 (zhr hs g h2) (zhr hs g h3),fun _=>za0 (zpY (zbx hs g h1).1 (zhr hs g h2) (zhr hs g h3)) (fun _=>rfl),rfl⟩
  ·split at h
   ·rename_i hix;obtain ⟨fa,h1,h⟩:=zaa h;obtain ⟨fb,h2,h⟩:=zaa h;cases h;have p:PE X (.Subscript a _ pos) (tE cl E (zai ixD fa fb)):=zsW (ztG g.kk) (zbx hs g h1).1 (zbx hs g h2).1 (zlN hix);exact ⟨(fun z=>by cases z),p,fun _=>za0 p (fun _=>rfl),rfl⟩
   ·cases h
 ·rename_i o fl pos;obtain ⟨rfl,n1⟩:=zrp hs g (pos:=pos) h;exact ⟨(fun z=>by cases z),n1,fun _=>za0 n1 (fun _=>rfl),rfl⟩
 ·rename_i fn args kws cp;unfold zmW at h;split at h
  ·rename_i o m ap;split at h
   rotate_left
   ·obtain ⟨a1,a2⟩:=zoj hs g (ap:=ap) (pos:=cp) h;exact ⟨a1,a2,fun _=>za0 a2 (fun _=>rfl),rfl⟩
   rename_i pp hpp;obtain ⟨⟨x,p⟩,e1,h2⟩:=zaa hpp;have e2:=zfY e1;have h3:=h;cases h3;clear hpp e1;subst e2;replace h:=h2;clear h2;dsimp only at h ⊢;unfold zwa at h;split at h
   ·rename_i a;split at h
    ·rename_i hln;obtain ⟨i,h1,h⟩:=zaa h;obtain ⟨fa,h2,h⟩:=zaa h;obtain ⟨gg,h3,h⟩:=zaa h;cases h;obtain ⟨n1,n2,n3,n4⟩:=g.slot h1;obtain ⟨a1,a2⟩:=zbx hs g h2
     have p:PE X (.Call (.Attribute (.Name x p) m ap) [a] [] cp) (tE cl E (eMt gg i fa)):=by
      unfold zu8 at h3;split at h3
      ·rename_i em;cases h3;subst em;exact zp1 PySem.F.slot_list_count PySem.F.type_list_count (zlD g.kk g.units) zj7 n1 n2 n3 n4 a1 (zan a2) hln
      ·split at h3
       ·rename_i em;cases h3;subst em;exact zp1 PySem.F.slot_list_index PySem.F.type_list_index (zlC g.kk g.units) zjT n1 n2 n3 n4 a1 (zan a2) hln
       ·cases h3
     exact ⟨(fun z=>by cases z),p,fun _=>za0 p (fun _=>rfl),rfl⟩
    ·cases h
   ·cases h
  ·rename_i x p;split at h
   ·rename_i hk
    have hk':kws=[]:=by simpa using hk
    subst hk';split at h
    ·rename_i pm hmk;obtain ⟨w,fe⟩:=pm;cases h;obtain ⟨rfl,n1⟩:=ztk hs g (p:=p) (pos:=cp) hmk;exact ⟨(fun z=>by cases z),n1,fun _=>za0 n1 (fun _=>rfl),rfl⟩
    split at h
    ·rename_i hsr;cases h;obtain ⟨a1,a2⟩:=zsT hs g (p:=p) (pos:=cp) hsr;exact ⟨a1,a2,fun _=>za0 a2 (fun _=>rfl),rfl⟩
    ·obtain ⟨a1,a2⟩:=zoR hs g (p:=p) (pos:=cp) h;exact ⟨a1,a2,fun _=>za0 a2 (fun _=>rfl),rfl⟩
   ·cases h
  ·cases h
 ·rename_i elt gs scope pos;unfold lcG at h;split at h
  ·obtain ⟨fa,h1,h2⟩:=zau h;cases h2;rename_i gg;have p:PE X (.ListComp elt [gg] scope pos) (tN cl E f):=zj8 hs g h1;exact ⟨fun _=>p,zb6 p,fun _=>za0 (zb6 p) (fun _=>rfl),rfl⟩
  ·cases h
 ·rename_i x px kk pc pos;obtain ⟨i,h1,h2⟩:=zau h;cases h2;obtain ⟨n1,n2,n3,n4⟩:=g.slot h1;have n:=zkV (cl:=cl) (E:=E) (px:=px) (kk:=kk) (pc:=pc) (pos:=pos) (by have:=g.u16;omega) g.same n1 n2 n3 n4;exact ⟨fun _=>n,zb6 n,fun _=>za0 (zb6 n) (fun _=>rfl),rfl⟩
 ·cases h
theorem zmU:∀n,zaU cl G k (ztU G n)
 | 0=>fun _ _ _ _ _ _ _ _ h=>by cases h
 | n+1=>zl5 (zmU n)
end
end S2
namespace S2
open PySem PySem.Spec PyProof.Rows L2
noncomputable def zkt(X:Cx)(E:St->XK):Prop:=∀(C:Addr) (pins:Z3) (σ:St) (H:Hp) (s:Shared) (e:Addr) (h':Heap) (vs:List Value),Inv X pins σ H s->Heap.MadeExcOf s.heap h' e (.ref C) vs->E σ (.ref C) none H->X.xe (.ref e) { s with heap:=h' }
noncomputable def zna(C:Addr)(E:St->XK)(t:TA):TS:=fun _ σ H=>t σ H fun vs H1=>vs.length<=sizeLine/\E σ (.ref C) none H1
def zi2{X:Cx}{x:Str}{C:Addr}{E:St->XK}{np cpos pos:Pos}{e:Expr}{es:List Expr}{t:TA}(hr:zkt X E)(hc:X.calm=true)(hg:Gl X x)(hm:X.mg x=some (.ref C))
  (z:PySem.W.excIn X.K C bmV "ValueError.__new__" = true) (ha:PA X (e::es) t)
  (he:starEach (e::es) X.env=(false,eval e X.env)::starEach es X.env) (hpl:(backTo cpos (starEach es X.env)).any (·.1)=false) (hdb:(x == ("__debug__":Str))=false) :
  PS X (.Raise (some (.Call (.Name x np) (e::es) [] cpos)) none pos) (zna C E t):=by
 intro pins s σ H D I h;obtain ⟨bm,N,nm,qn,bs,hd,sn,sub,ab,col,dd,c0,c1,c2,c3,c5,mN,o1,o2,o3,o4⟩:=zgP I.mod.kin z
 refine wpAny_Raise_call_subU (C:=C) (nm:=nm) (q:=qn) (N:=N) (bs:=bs) (bm:=bm) (hdct:=hd) (sn:=sn) (sub:=sub) (ab:=ab) (col:=col) (dd:=dd) (k0:=c0) (k1:=c1) (k2:=c2) (k3:=c3) (k5:=c5)
  ybT (by decide +kernel) ybT (mN:=mN) (o4.hasType ybT.hasBase) (I.ok.hd hc) (by rw [he];show (false||(backTo cpos (starEach es X.env)).any (·.1))=false;rw [hpl];rfl) o3 (zde I hg hm ⟨rfl,?_⟩ hdb)
 have go:=ha cpos pins s σ H _ I h;rw [he] at go ⊢;exact Calls.evalArgs_plain (thn go fun us s2 ⟨vs,H2,I2,r2,q1,q2⟩=>⟨rfl,by rw [<-r2.length];exact q1,I2.bk _ _ o1,o2.keeps I2.bk,o4.keeps I2.bk,fun h' a mk=>hr C pins σ H2 s2 a h' us I2 mk q2⟩)
noncomputable def sRz(c:Str)(fs:List Fe):Fs:=fun ρ S=>match zag fs ρ S with | .ok ds S'=>if zaM ds.length then .ex c ρ S' else .bad | .exc x S'=>.ex x ρ S' | .bad=>.bad
noncomputable def zmn(X:Cx)(pins:Z3)(E:St->XK):Cx:={ X with pn:=X.pn++pins,xe:=fun e s'=>∃σ H1 s1,Inv X pins σ H1 s1/\CXE X.prog X.w X.stack H1 s1 (E σ) e s' }
section
variable{X:Cx}{pins:Z3}{σ:St}{H:Hp}{s:Shared}{E:St->XK}
def zqF(ok:X.Ok):(zmn X pins E).Ok :=
 ⟨ok.mod,ok.kind,ok.glob,ok.blt,ok.above,ok.inj,ok.has,ok.cab,ok.hd,ok.frames,ok.stk,ok.exf,ok.bs,ok.bsz,ok.noex,ok.exfs,ok.funs,ok.frf⟩
def zlp(ok:(zmn X pins E).Ok):X.Ok :=
 ⟨ok.mod,ok.kind,ok.glob,ok.blt,ok.above,ok.inj,ok.has,ok.cab,ok.hd,ok.frames,ok.stk,ok.exf,ok.bs,ok.bsz,ok.noex,ok.exfs,ok.funs,ok.frf⟩
def zoy(I:Inv X pins σ H s):Inv (zmn X pins E) [] σ H s :=
 ⟨zqF I.ok,I.os,I.bare,I.base,I.loc,I.cell,I.free,I.freeC,fun p hp=>I.pin p (by simpa [zmn] using hp),I.hok,I.len⟩
def zca{pins':Z3}(I:Inv (zmn X pins E) pins' σ H s):Inv X pins σ H s :=
 ⟨zlp I.ok,I.os,I.bare,I.base,I.loc,I.cell,I.free,I.freeC,fun p hp=>I.pin p (yaN _ hp),I.hok,I.len⟩
def zkL{De:Ends}{f:Flow}(h:SP (zmn X pins E) [] De f s):SP X pins De f s:=by
 cases f with
 | next=>obtain ⟨σ',H',I,q⟩:=h;exact ⟨σ',H',zca I,q⟩
 | brk=>obtain ⟨σ',H',I,q⟩:=h;exact ⟨σ',H',zca I,q⟩
 | cont=>obtain ⟨σ',H',I,q⟩:=h;exact ⟨σ',H',zca I,q⟩
 | ret u=>obtain ⟨v,σ',H',I,r,q⟩:=h;exact ⟨v,σ',H',zca I,r,q⟩
end
noncomputable def zsA(K:PySem.W.Frag)(C:Addr)(i:Nat)(th:TS)(De:Ends):St->XK:=fun σ cls _ H'=>∃C',cls=.ref C'/\zmk K C' C/\∀a ob,H' a=none->ob.cls=.ref C'->th (De.goes i) (σ.set i (some (.ref a))) (upd H' a (.frz ob (.own a)))
def znO{X:Cx}{body:List Stmt}{b0:Stmt}{suite:List Stmt}{c n:Str}{C:Addr}{i:Nat}{bD:List Value}{iD:String}{tb:(St->XK)->TS}{th:TS}{np hpos pos:Pos}(hs:X.stack=X.env::X.outer)(hf:X.env.frame=some X.env.locals)(hN:X.N.Nodup)(hi:X.N[i]?=some n)
  (hk:X.env.scope.names.lookup n=some .local) (hg:Gl X c) (hm:X.mg c=some (.ref C)) (z:PySem.W.excIn X.K C bD iD=true) (hb:bD.contains (.type "BaseException")=true) (h1:∀pins E,PSs (zmn X pins E) body (tb E)) (h2:∀a,PSs (X.inH a) (b0::suite) th) (hdb:(c == ("__debug__":Str))=false) :
  PS X (.Try body [.ExceptHandler (some (.Name c np)) (some n) (b0::suite) hpos] [] [] pos) (fun De σ H=>tb (zsA X.K C i th De) De σ H):=by
 intro pins s σ H D I h
 have hfr:X.A.frames=some (X.env::X.outer):=by rw [<-hs];exact I.ok.frames
 refine wpAny_Try_except (ybd (h1 pins (zsA X.K C i th D) [] s σ H D (zoy I) h) (fun f s1 q=>?_) fun e s1 q=>?_)
 ·have q':=zkL q
  cases f with
  | next=>exact yb1 q'
  | ret v=>exact q'
  | brk=>exact q'
  | cont=>exact q'
 ·obtain ⟨σ1,H1,s2,I1,a,cls,a0,H',B,rfl,fl,c1,c2,c3,os,bare,un,hok,C',rfl,⟨⟨bC,iC,zC⟩,up⟩,q⟩:=q;have fl':=fl;rw [hs] at fl';refine wpAny_looks_onW hfr hf fl' fun h4 hd4 u4=>?_
  refine wpAny_landsW hd4 fun h5 fl5 u5=>?_
  rw [<-hs] at fl5;obtain ⟨I5,ob5,oc5,og5,_,_⟩:=zeC (s':=s1) I1 fl5 (u4.trans u5) c1 c2 c3 os bare un hok;refine wpAny_handleBy_cons (codeAny_handlers_test ?_) (by intro q;cases q);refine zde (I5.inH a) hg hm ?_ hdb;refine zfc I5.kIn zC z og5 oc5 hb up ?_;refine codeAny_handlers_suite_as ?_;refine lands_againW fl5 fun h6 fl6 u6=>?_
  obtain ⟨_,ob,oc,og,na,I6⟩:=zeC (s':=s1) I1 fl6 ((u4.trans u5).trans u6) c1 c2 c3 os bare un hok;refine zcO (v:=.ref a) I6 hN hi (.inl hk) rfl (fun s7 I7=>?_) (.inr hk);exact ybd (h2 a pins s7 _ _ (D.goes i) (I7.inH a) (q a ob na oc)) (fun f s8 q8=>zno I.ok hN hi hk q8) fun _ _ z=>z.elim
noncomputable def zp7(und:Str->Str->Bool)(C:Str)(i j:Nat)(fb:Fs):Fs:=fun ρ S=>match fb ρ S with
 | .ex c ρ' S'=>if und c C&&decide (i<ρ'.length) then .nx ((ρ'.set j (some (false,.exc c))).set i none) S' else .bad
 | o=>o
def Rel.clear{cl:Cf}{B:Base}{σ:St}{w:Wd}{ρ:Env}{S:Sto}(R:Rel cl B σ w ρ S)(i:Nat):Rel cl B (σ.set i none) w (ρ.set i none) S where
 wd:=R.wd
 len:=by rw [yaz,yaz];exact R.len
 slots:=fun j o e hj=>by
  by_cases hij:i=j
  ·subst hij
   have hlt:i<ρ.length:=by
    have:=(yap.mp hj).1;rwa [yaz] at this
   rw [yaw hlt] at hj;cases hj
  ·rw [yaG hij] at hj ⊢;exact R.slots j o e hj
section
variable{X:Cx}{cl:Cf}{E:St->XK}{own:Bool}
def zkF{K:PySem.W.Frag}{und:Str->Str->Bool}{C:Str}{i j:Nat}{fb:Fs}(hij:i≠j)(hu:∀c,und c C=true->zmk K (cl c) (cl C)){De:Ends}{σ:St}{H:Hp}(q:tS cl E own (zp7 und C i j fb) De σ H) :
  tS cl (zsA K (cl C) i (znb (zsD i) (zid j)) De) own fb De σ H:=by
 obtain ⟨B,w,ρ,S,rfl,R,q⟩:=q;refine ⟨B,w,ρ,S,rfl,R,?_⟩;unfold zp7 at q;have hl:ρ.length=σ.length:=R.len.symm
 cases hf:fb ρ S with
 | nx ρ' S'=>rwa [hf] at q
 | bk ρ' S'=>rwa [hf] at q
 | ct ρ' S'=>rwa [hf] at q
 | rt d S'=>rwa [hf] at q
 | bad=>rwa [hf] at q
 | ex c ρ' S' =>
  rw [hf] at q;dsimp only at q
  cases hc:und c C&&decide (i<ρ'.length) with
  | false=>rw [hc,if_neg (by decide)] at q;exact q.elim
  | true =>
   rw [hc,if_pos rfl] at q;rw [yab] at hc;intro σ' w' R' F';refine ⟨cl c,rfl,hu c hc.1,fun a ob ha hob=>?_⟩;have g:=zav (w:=w') ha (.frz ob (.own a));have sh:Shd cl (w'.add a (.frz ob (.own a))) (.ref a) (.exc c):=.exc zgl zdx hob
   have hi':i<σ'.length:=by rw [R'.len];exact yak hc.2
   refine ⟨.ref a,yaw hi',?_⟩;have R2:=((R'.grow g).put (i:=j) sh).clear i;refine q _ (w'.add a (.frz ob (.own a))) ?_ (F'.trans g.fut)
   have e:((σ'.set i (some (V.ref a))).set j (some (.ref a))).set i none=(σ'.set j (some (V.ref a))).set i none:=by
    rw [List.set_comm _ _ hij,List.set_set]
   show Rel cl B (((σ'.set i (some (V.ref a))).set j (some (.ref a))).set i none) _ _ _;rw [e];exact R2
end
end S2
namespace S2
open PySem PySem.Spec PyProof.Rows L2
section
variable{cl:Cf}{B:Base}{σ:St}{w:Wd}{ρ:Env}{S:Sto}
end
noncomputable def tO(cl:Cf)(E:St->XK):Bool->Fe->TE | true,f=>tN cl E f | false,f=>tE cl E f
section
variable{X:Cx}{cl:Cf}{E:St->XK}{own:Bool}
end
noncomputable def zew:Expr->Bool | .ListComp _ _ _ _=>true | .SetComp _ _ _ _=>true | .DictComp _ _ _ _ _=>true | _=>false
def zeQ{e:Expr}{t:Option Expr}{l:Nat}{env:PySem.Env}(h:zew e=false):swapsWith e t l env=pure false:=by
 cases e<;>first | rfl | cases h
structure Gd(cl:Cf)(G:Genv)(k:Nat)(X:Cx)(nm:Names)(N:List Str)(E:St->XK)(full:Bool):Prop where
 gx:Gx cl G k X nm N E
 fn:∀x,X.fn x=true
 kind:X.env.scope.kind=.function
 sc:X.env.scope.names=nm
 own:full=true->PassesOwn (model X.prog X.w) X.A X.env X.xe
 raises:full=true->zkt X E
 stk:X.stack=X.env::X.outer
 frm:X.env.frame=some X.env.locals
noncomputable def zbX:Nat->Names->List Str->Expr->List Nat
 | 0,_,_,_=>[]
 | n+1,nm,N,e =>
  let rc:=zbX n nm N
  let op:=fun (e:Expr)=>match e with | .Name _ _=>[] | e=>rc e
  match e with
  | .Name x _=>(zaK nm N x).toList
  | .Tuple es _ _=>es.flatMap rc
  | .List es _=>es.flatMap rc
  | .BinOp a _ b _=>op a++op b
  | .UnaryOp _ a _=>rc a
  | .BoolOp _ es _=>es.flatMap rc
  | .Compare a _ bs _=>op a++bs.flatMap op
  | .IfExp c a b _=>rc c++rc a++rc b
  | .Subscript a (.Slice lo hi _ _) _=>op a++lo.toList.flatMap op++hi.toList.flatMap op
  | .Subscript a i _=>op a++op i
  | .Call (.Name f _) args [] _=>if (zkj f).isSome||decide (f = "isinstance") then args.flatMap op else args.flatMap rc
  | .Call (.Attribute o _ _) args [] _=>op o++args.flatMap rc
  | .Dict _ _ _=>[]
  | .Attribute o _ _=>op o
  | .ListComp elt [g] scope _=>(match zjZ elt g with | some _=>[] | none=>rc g.iter)++(zaP scope.names N).map (·.2)
  | _=>[]
noncomputable def zhX(t:Tg)(f:Fe):Fs:=fun ρ S=>match f ρ S with
 | .ok d S'=>(match t.put ρ d with | some ρ'=>.nx ρ' S' | none=>.bad)
 | .exc c S'=>.ex c ρ S'
 | .bad=>.bad
noncomputable def zv7:Expr->Bool | .Constant _ _ _=>true | _=>false
noncomputable def zxI:Expr->Bool | .Name _ _=>true | .Constant _ _ _=>true | .Subscript _ _ _=>true | .BinOp _ _ _ _=>true | _=>false
noncomputable def zoM:Expr->Option (List (Option Expr)×List Expr×Pos) | .Dict ks vs p=>some (ks,vs,p) | _=>none
def zl3{e:Expr}{x:List (Option Expr)×List Expr×Pos}(h:zoM e=some x):e=.Dict x.1 x.2.1 x.2.2:=by cases e<;>first | (cases h;done) | (cases h;rfl)
noncomputable def zgJ(e:Expr):Bool:=match zoM e with | some x=>x.1.isEmpty&&x.2.1.isEmpty | none=>false
def zl4{e:Expr}(h:zgJ e=true):∃p,e=.Dict [] [] p:=by
 unfold zgJ at h
 cases h1:zoM e with
 | none=>rw [h1] at h;cases h
 | some x =>
  rw [h1] at h;dsimp only at h;rw [yab,ybf,ybf] at h;exact ⟨_,by rw [zl3 h1,h.1,h.2]⟩
noncomputable def zmH{α:Type}:List α->Option α | [a]=>some a | _=>none
def zet{α:Type}{l:List α}{a:α}(h:zmH l=some a):l=[a]:=by
 cases l with
 | nil=>cases h
 | cons b t=>cases t with
  | nil=>cases h;rfl
  | cons _ _=>cases h
noncomputable def zdz:Expr->Option (Str×Pos) | .Name x p=>some (x,p) | _=>none
def zbm{e:Expr}{x:Str×Pos}(h:zdz e=some x):e=.Name x.1 x.2:=by cases e<;>first | (cases h;done) | (cases h;rfl)
noncomputable def zoT:Expr->Option (Expr×List Expr×List Keyword×Pos) | .Call f a k p=>some (f,a,k,p) | _=>none
def zhI{e:Expr}{x:Expr×List Expr×List Keyword×Pos}(h:zoT e=some x):e=.Call x.1 x.2.1 x.2.2.1 x.2.2.2:=by cases e<;>first | (cases h;done) | (cases h;rfl)
noncomputable def zpc:Expr->Option (Expr×Str×Pos) | .Attribute o m p=>some (o,m,p) | _=>none
def zgW{e:Expr}{x:Expr×Str×Pos}(h:zpc e=some x):e=.Attribute x.1 x.2.1 x.2.2:=by cases e<;>first | (cases h;done) | (cases h;rfl)
noncomputable def zwb:Stmt->Option (List Expr×Expr×Pos) | .Assign t e p=>some (t,e,p) | _=>none
def zoW{e:Stmt}{x:List Expr×Expr×Pos}(h:zwb e=some x):e=.Assign x.1 x.2.1 x.2.2:=by cases e<;>first | (cases h;done) | (cases h;rfl)
noncomputable def zo4:Expr->Option (List Expr×Nat×Pos) | .Tuple es k p=>some (es,k,p) | _=>none
def zm5{e:Expr}{x:List Expr×Nat×Pos}(h:zo4 e=some x):e=.Tuple x.1 x.2.1 x.2.2:=by cases e<;>first | (cases h;done) | (cases h;rfl)
noncomputable def zu1:Expr->Option (Expr×Expr×Pos) | .Subscript a i p=>some (a,i,p) | _=>none
def znc{e:Expr}{x:Expr×Expr×Pos}(h:zu1 e=some x):e=.Subscript x.1 x.2.1 x.2.2:=by cases e<;>first | (cases h;done) | (cases h;rfl)
noncomputable def lcE:Expr->Option (Expr×List Comprehension×Scope×Pos) | .ListComp elt gs scope p=>some (elt,gs,scope,p) | _=>none
def zqZ{e:Expr}{x:Expr×List Comprehension×Scope×Pos}(h:lcE e=some x):e=.ListComp x.1 x.2.1 x.2.2.1 x.2.2.2:=by cases e<;>first | (cases h;done) | (cases h;rfl)
noncomputable def zs6:Expr->Option (Str×Pos×Str×Pos×Pos) | .Call (.Attribute (.Name y p) m ap) [] [] cp=>some (y,p,m,ap,cp) | _=>none
def znS{e:Expr}{x:Str×Pos×Str×Pos×Pos}(h:zs6 e=some x):e=.Call (.Attribute (.Name x.1 x.2.1) x.2.2.1 x.2.2.2.1) [] [] x.2.2.2.2:=by
 unfold zs6 at h;split at h
 ·cases h;rfl
 ·cases h
noncomputable def zu4(nm:Names)(N:List Str)(i:Nat)(e:Expr):Option Fs:=(zs6 e).bind fun c=>if decide (c.2.2.1 = "pop")&&(c.2.2.2.1.endLine == c.2.2.2.2.line) then (zaK nm N c.1).bind fun j=>some (zo6 i j) else none
noncomputable def zt5(G:Genv)(rc:Rec)(nm:Names)(N:List Str)(x:Str)(e:Expr):Option Fs :=
 (tgI true nm N N.length x).bind fun i=>match lcE e with
  | some c=>(zmH c.2.1).bind fun g=>(zii G rc nm N c.1 g c.2.2.1).bind fun f=>some (zbf i true f)
  | none=>(match zu4 nm N i e with | some f=>some f | none=>if zew e then none else (rc nm N e).bind fun p=>some (zbf i p.1 p.2))
noncomputable def zt4(rc:Rec)(nm:Names)(N:List Str)(t:List Expr×Nat×Pos)(e:Expr):Option Fs:=match zo4 e with
 | some _=>none
 | none=>(tgG true nm N N.length (.Tuple t.1 t.2.1 t.2.2)).bind fun t=>(shE rc nm N e).bind fun f=>some (zhX t f)
noncomputable def zt8(G:Genv)(rc:Rec)(nm:Names)(N:List Str)(o:Expr)(f:Str)(e:Expr):Option Fs :=
 (nmF o).bind fun x=>if zgJ e then (if G.ob.df f&&G.ob.fk G.ob.cur f then (zaK nm N x.1).map fun i=>znC G.ob.cur f i else none) else (if G.ob.df f||!G.ob.fk G.ob.cur f then none else (shE rc nm N o).bind fun fo=>(shE rc nm N e).bind fun fe=>some (ziR G.ob.cur f fo fe))
noncomputable def zt6(G:Genv)(rc:Rec)(nm:Names)(N:List Str)(o:Expr)(f:Str)(ix e:Expr):Option Fs :=
 if zfe o&&G.ob.df f&&!zew e&&G.ob.fk G.ob.cur f then (nmF ix).bind fun x=>(zaK nm N x.1).bind fun i=>(shE rc nm N o).bind fun fo=>(shE rc nm N e).bind fun fe=>some (ziP G.ob.cur f fo i fe) else none
noncomputable def zt7(rc:Rec)(nm:Names)(N:List Str)(x:Str)(ix e:Expr):Option Fs :=
 if zxI ix&&!zew e then (zaK nm N x).bind fun i=>(opE rc nm N ix).bind fun fi=>(shE rc nm N e).bind fun f=>some (ziN i fi f) else none
noncomputable def zgI:Expr->Option (Nat×Pos) | .Constant (.bool true) k p=>some (k,p) | _=>none
def zia{e:Expr}{x:Nat×Pos}(h:zgI e=some x):e=.Constant (.bool true) x.1 x.2:=by
 unfold zgI at h;split at h
 ·cases h;rfl
 ·cases h
noncomputable def zt9(nm:Names)(N:List Str)(x:Str)(ix e:Expr):Option Fs:=(zgI e).bind fun _=>(zdz ix).bind fun y=>(zaK nm N x).bind fun i=>(zaK nm N y.1).bind fun j=>some (zhW i j)
noncomputable def zrO(G:Genv)(rc:Rec)(nm:Names)(N:List Str)(q:Expr×Expr×Pos)(e:Expr):Option Fs:=match zpc q.1 with
 | some a=>zt6 G rc nm N a.1 a.2.1 q.2.1 e
 | none=>(zdz q.1).bind fun x=>if G.ds x.1 then zt9 nm N x.1 q.2.1 e else zt7 rc nm N x.1 q.2.1 e
noncomputable def zsh(G:Genv)(rc:Rec)(nm:Names)(N:List Str)(tg e:Expr):Option Fs:=match zdz tg with
 | some x=>zt5 G rc nm N x.1 e
 | none=>match zo4 tg with
  | some t=>zt4 rc nm N t e
  | none=>match zpc tg with
   | some a=>zt8 G rc nm N a.1 a.2.1 e
   | none=>(zu1 tg).bind fun q=>zrO G rc nm N q e
structure Mc where
 x:Str
 px:Pos
 m:Str
 ap:Pos
 a:Expr
 cp:Pos
noncomputable def zlA(e:Expr):Option Mc:=(zoT e).bind fun c=>if c.2.2.1.isEmpty then (zpc c.1).bind fun t=>(zdz t.1).bind fun x=>(zmH c.2.1).bind fun a=>some ⟨x.1,x.2,t.2.1,t.2.2,a,c.2.2.2⟩ else none
noncomputable def zoH(G:Genv)(rc:Rec)(nm:Names)(N:List Str)(e:Expr):Option Fs:=match zlA e with
 | some c=>if decide (c.m = "append")&&(c.ap.endLine == c.cp.line) then (zaK nm N c.x).bind fun i=>(shE rc nm N c.a).bind fun f=>some (zkY i f)
  else if decide (c.m = "extend")&&(c.ap.endLine == c.cp.line) then (zaK nm N c.x).bind fun i=>(opE rc nm N c.a).bind fun f=>some (zo7 i f) else if zew e then none else (shE rc nm N e).map zmx
 | none=>if zew e then none else (shE rc nm N e).map zmx
noncomputable def zs0(rc:Rec)(nm:Names)(N:List Str)(own:Bool)(e:Expr):Option Fs:=match own with
 | true=>(match e with
  | .Name x _=>(zaK nm N x).map ziO
  | e=>(rc nm N e).bind fun p=>if p.1 then some (zbG p.2) else none)
 | false=>(shE rc nm N e).map zbG
noncomputable def rzG(G:Genv)(rc:Rec)(nm:Names)(N:List Str)(full:Bool)(a b:Option Expr):Option Fs:=if b.isNone then a.bind fun e=>(zoT e).bind fun c=>(zdz c.1).bind fun x=>if c.2.2.1.isEmpty&&!c.2.1.isEmpty&&full&&zbR nm x.1&&G.exc x.1 then (shL rc nm N c.2.1).bind fun fs=>some (sRz x.1 fs) else none else none
noncomputable def zuW(G:Genv)(rs:Bool->List Stmt->Option Fs)(nm:Names)(N:List Str)(body:List Stmt):ExceptHandler->Option Fs
 | .ExceptHandler t n b _=>t.bind fun te=>(zdz te).bind fun C=>n.bind fun nn=>(zmH b).bind fun st=>(zwb st).bind fun as=>(zmH as.1).bind fun tg=>(zdz tg).bind fun m=>(zdz as.2.1).bind fun n' =>
  if zbR nm C.1&&G.exc C.1&&decide (nn=n'.1)&&decide (nm.lookup nn=some .local)&&zfW nn then (idx N nn).bind fun i=>(tgI true nm N N.length m.1).bind fun j=>if i=j then none else (rs false body).bind fun b=>some (zp7 G.und C.1 i j b) else none
noncomputable def zsz(G:Genv)(rs:Bool->List Stmt->Option Fs)(nm:Names)(N:List Str)(body:List Stmt)(hs:List ExceptHandler)(es fs:List Stmt):Option Fs:=if es.isEmpty&&fs.isEmpty then (zmH hs).bind fun h=>zuW G rs nm N body h else none
noncomputable def stG(G:Genv)(rc:Rec)(rs:Bool->List Stmt->Option Fs)(nm:Names)(N:List Str)(own full:Bool)(st:Stmt):Option Fs:=match st with
 | .Pass _=>some sNx
 | .Break _=>some sBk
 | .Assign ts e _=>(zmH ts).bind fun tg=>zsh G rc nm N tg e
 | .Expr e _=>zoH G rc nm N e
 | .AugAssign tg op e _=>(zdz tg).bind fun x=>(zsf op).bind fun gg=>(tgI true nm N N.length x.1).bind fun i=>(shE rc nm N e).bind fun f=>some (zp9 i gg f)
 | .Return o _=>(match o with | some e=>zs0 rc nm N own e | none=>if own then none else some zkX)
 | .If c a b _=>if zaZ c then (shE rc nm N c).bind fun f=>(rs full a).bind fun g=>(rs full b).bind fun h=>some (sIf f g h) else none
 | .For tg it body el _=>if full&&el.isEmpty then (zjM G rc nm N tg it).bind fun i=>(tgG true nm N N.length tg).bind fun t=>(rs full body).bind fun b=>some (zhi t i b) else none
 | .While c body el _=>if full&&zaZ c&&el.isEmpty then (shE rc nm N c).bind fun f=>(rs full body).bind fun b=>some (zdN 100000 f b) else none
 | .Raise a b _=>rzG G rc nm N full a b
 | .Try body hs es fs _=>zsz G rs nm N body hs es fs
 | _=>none
end S2
namespace S2
open PySem PySem.Spec PyProof.Rows L2
noncomputable def znV(n:Nat)(own:Bool)(nm:Names)(N:List Str):Stmt->List Nat
 | .Assign [_] e _=>zbX n nm N e
 | .Expr (.Call (.Attribute _ _ _) args [] _) _=>args.flatMap (zbX n nm N)
 | .Expr e _=>zbX n nm N e
 | .Return (some (.Name x p)) _=>if own then [] else zbX n nm N (.Name x p)
 | .Return (some e) _=>zbX n nm N e
 | .If c _ _ _=>zbX n nm N c
 | .For _ it _ _ _=>zbX n nm N it
 | .While c _ _ _=>zbX n nm N c
 | _=>[]
noncomputable def blk(ds:Stmt->Option Fs):List Stmt->Option Fs
 | []=>some sNx
 | s::r=>(ds s).bind fun f=>(blk ds r).bind fun g=>some (zak f g)
noncomputable def zl6(G:Genv)(own:Bool):Nat->Bool->Names->List Str->Stmt->Option Fs
 | 0,_,_,_,_=>none
 | n+1,full,nm,N,st=>(stG G (ztU G n) (fun fl b=>blk (zl6 G own n fl nm N) b) nm N own full st).map (sFz (znV n own nm N st))
section
variable{cl:Cf}{G:Genv}{k:Nat}{rc:Rec}{X:Cx}{nm:Names}{N:List Str}{E:St->XK}{own full:Bool}
def Gd.sto(g:Gd cl G k X nm N E full):Sto' X nm true:=⟨fun _ x _=>g.fn x⟩
def zhS{elt:Expr}{gs:List Comprehension}{scope:Scope}{p px:Pos}{x:Str}{l:Nat}{env:PySem.Env}:∃b,swapsWith (.ListComp elt gs scope p) (some (.Name x px)) l env=pure b:=⟨_,rfl⟩
def zko{n:Nat}{t:Tg}{f:Fe}{De:Ends}{σ:St}{H:Hp}(q:tS cl E own (zhX t f) De σ H):znb (tE cl E f) (tG cl n t) De σ H:=by
 obtain ⟨B,w,ρ,S,rfl,R,q⟩:=q;refine ⟨B,w,ρ,S,rfl,R,?_⟩;unfold zhX at q
 cases hf:f ρ S with
 | bad=>rwa [hf] at q
 | exc c S1=>rw [hf] at q;exact fun w' R' F'=>q σ w' R' F'
 | ok d S1 =>
  rw [hf] at q;intro v w' R' F' h';dsimp only at q
  cases hp:t.put ρ d with
  | none=>rw [hp] at q;exact q.elim
  | some ρ'=>rw [hp] at q;exact ⟨B,w',ρ,S1,d,ρ',rfl,R',h',hp,fun σ' _ _ R2=>q σ' w' R2 F'⟩
def zl8(hs:zaU cl G k rc)(g:Gd cl G k X nm N E full){elt:Expr}{gg:Comprehension}{scope:Scope}{x:Str}{i:Nat}{f:Fe}{p px pos:Pos}(hi:tgI true nm N N.length x=some i)(h:zii G rc nm N elt gg scope=some f) :
  PS X (.Assign [.Name x px] (.ListComp elt [gg] scope p) pos) (tS cl E own (zbf i true f)):=by
 obtain ⟨a1,a2,a3,a4,a5⟩:=zdK g.gx g.sto hi;obtain ⟨b,hb⟩:=zhS (elt:=elt) (gs:=[gg]) (scope:=scope) (p:=p) (px:=px) (x:=x) (l:=pos.line) (env:=X.env)
 cases b with
 | false=>exact ziC a2 a3 a4 (zj8 hs g.gx h) hb a5
 | true =>
  obtain ⟨it,t,c,el,rfl,eg,S,i1,i2,i3,i4,i5⟩:=zez hs g.gx h;rw [eg] at hb ⊢;refine PS.imp (zk7 g.gx.calm S a2 a3 a4 i1 i3 i4 i5 hb a5 (ze8 i2)) ?_;intro De σ H q;exact zka (zrN q)
def zmq{a i e:Expr}{p:Pos}{l:Nat}{env:PySem.Env}:swapsWithSole [.Subscript a i p] e l env=pure false:=by cases e<;>rfl
def zms{a i e:Expr}{p:Pos}{env:PySem.Env}:swappedStores [.Subscript a i p] e env=pure none:=by cases e<;>rfl
def zpy{es:List Expr}{kk l:Nat}{p:Pos}{e:Expr}{env:PySem.Env}:swapsWithSole [.Tuple es kk p] e l env=pure false:=by cases e<;>rfl
def zpA{es:List Expr}{kk:Nat}{p:Pos}{e:Expr}{env:PySem.Env}(h:zo4 e=none):swappedStores [.Tuple es kk p] e env=pure none:=by cases e<;>first | rfl | cases h
def zmr{o e:Expr}{f:Str}{p:Pos}{l:Nat}{env:PySem.Env}:swapsWith e (some (.Attribute o f p)) l env=pure false:=by cases e<;>rfl
def zoX(hs:zaU cl G k rc)(g:Gd cl G k X nm N E full){e:Expr}{x:Str}{px:Pos}{f:Fs}{pos:Pos}(h:zt5 G rc nm N x e=some f):PS X (.Assign [.Name x px] e pos) (tS cl E own f):=by
 unfold zt5 at h;obtain ⟨i,h1,h⟩:=zaa h
 cases hl:lcE e with
 | some c =>
  rw [hl] at h;obtain ⟨gg,h2,h⟩:=zaa h;obtain ⟨fe,h3,h⟩:=zaa h;cases h;rw [zqZ hl,zet h2];exact zl8 hs g h1 h3
 | none =>
  rw [hl] at h;dsimp only at h;split at h
  ·rename_i fp hp;cases h;unfold zu4 at hp;obtain ⟨c,e1,hp⟩:=zaa hp;rw [znS e1];split at hp
   ·rename_i hb;rw [yab,ya8] at hb;obtain ⟨j,h2,hp⟩:=zaa hp;cases hp;obtain ⟨a1,a2,a3,a4,a5⟩:=zdK g.gx g.sto h1;obtain ⟨n1,n2,n3,n4⟩:=g.gx.slot h2;rw [hb.1];exact zpF a2 a3 a4 a5 n1 n2 n3 n4 hb.2
   ·cases hp
  split at h
  ·cases h
  ·rename_i hc;obtain ⟨⟨o,fe⟩,h2,h⟩:=zaa h;cases h;obtain ⟨a1,a2,a3,a4,a5⟩:=zdK g.gx g.sto h1;obtain ⟨b1,b2,_,_⟩:=hs X nm N E g.gx _ o fe h2;have sw:=zeQ (t:=some (.Name x px)) (l:=pos.line) (env:=X.env) (by simpa using hc)
   cases o with
   | false=>exact zpL a2 a3 a4 b2 sw a5
   | true=>exact ziC a2 a3 a4 (b1 rfl) sw a5
def zoV(hs:zaU cl G k rc)(g:Gd cl G k X nm N E full){e:Expr}{t:List Expr×Nat×Pos}{f:Fs}{pos:Pos}(h:zt4 rc nm N t e=some f):PS X (.Assign [.Tuple t.1 t.2.1 t.2.2] e pos) (tS cl E own f):=by
 have tupCase:swappedStores [.Tuple t.1 t.2.1 t.2.2] e X.env=pure none->((tgG true nm N N.length (.Tuple t.1 t.2.1 t.2.2)).bind fun t=>(shE rc nm N e).bind fun f=>some (zhX t f))=some f->PS X (.Assign [.Tuple t.1 t.2.1 t.2.2] e pos) (tS cl E own f):=by
  intro sw2 h;obtain ⟨t',h1,h⟩:=zaa h;obtain ⟨fe,h2,h⟩:=zaa h;cases h;exact PS.imp (zhn (zaw hs g.gx h2).1 (zm6 g.gx g.sto h1) zpy sw2 rfl) fun _ _ _ q=>zko q
 unfold zt4 at h
 cases hv:zo4 e with
 | none =>
  rw [hv] at h;exact tupCase (zpA hv) h
 | some v=>rw [hv] at h;cases h
def zo0(hs:zaU cl G k rc)(g:Gd cl G k X nm N E full){o e:Expr}{fl:Str}{ap:Pos}{f:Fs}{pos:Pos}(h:zt8 G rc nm N o fl e=some f):PS X (.Assign [.Attribute o fl ap] e pos) (tS cl E own f):=by
 unfold zt8 at h;obtain ⟨x,h1,hz⟩:=zaa h;have e1:=zfY h1;clear h h1;subst e1;split at hz
 ·rename_i hd;split at hz
  ·rename_i hf;rw [yab] at hf;obtain ⟨i,h1,hz⟩:=zau hz;subst hz;obtain ⟨s1,s2,s3,s4⟩:=g.gx.slot h1;obtain ⟨p,rfl⟩:=zl4 hd;exact znm s1 s2 s3 s4 g.gx.same (g.gx.gok.fk _ _ hf.2) zmr
  ·cases hz
 ·split at hz
  ·cases hz
  ·rename_i hf;rw [Bool.not_eq_true,Bool.or_eq_false_iff,Bool.not_eq_false'] at hf;obtain ⟨fo,h2,hz⟩:=zaa hz;obtain ⟨fe,h3,hz⟩:=zaa hz;cases hz;exact znl g.gx.same (g.gx.gok.fk _ _ hf.2) (zaw hs g.gx h2).1 (zaw hs g.gx h3).1 zmr
def zoY(hs:zaU cl G k rc)(g:Gd cl G k X nm N E full){o ix e:Expr}{fl:Str}{ap p3:Pos}{f:Fs}{pos:Pos}(h:zt6 G rc nm N o fl ix e=some f):PS X (.Assign [.Subscript (.Attribute o fl ap) ix p3] e pos) (tS cl E own f):=by
 unfold zt6 at h;split at h
 ·rename_i hc;rw [yab,yab,yab,ya7] at hc;obtain ⟨x,h1,hz⟩:=zaa h;have e1:=zfY h1;clear h h1;subst e1;obtain ⟨i,h1,hz⟩:=zaa hz;obtain ⟨fo,h2,hz⟩:=zaa hz;obtain ⟨fe,h3,hz⟩:=zaa hz;cases hz;obtain ⟨s1,s2,s3,s4⟩:=g.gx.slot h1;refine znj s1 s2 s3 s4 g.gx.u16 g.gx.same (g.gx.gok.fk _ _ hc.2) (zaw hs g.gx h2).1 ?_ (zaw hs g.gx h3).1 zmq zms ?_
  ·cases o<;>first | rfl | cases hc.1.1.1
  ·intro _;rfl
 ·cases h
def zoZ(hs:zaU cl G k rc)(g:Gd cl G k X nm N E full){ix e:Expr}{x:Str}{px p3:Pos}{f:Fs}{pos:Pos}(h:zt7 rc nm N x ix e=some f):PS X (.Assign [.Subscript (.Name x px) ix p3] e pos) (tS cl E own f):=by
 unfold zt7 at h;split at h
 ·rename_i hx;rw [yab,ya7] at hx;obtain ⟨i,h1,h⟩:=zaa h;obtain ⟨fi,h2,h⟩:=zaa h;obtain ⟨fe,h3,h⟩:=zaa h;cases h;obtain ⟨s1,s2,s3,s4⟩:=g.gx.slot h1;obtain ⟨b1,_⟩:=zbx hs g.gx h2;obtain ⟨a1,_,_⟩:=zaw hs g.gx h3;refine zne s1 s2 s3 s4 a1 b1 zmq zms ?_
  cases ix<;>first | (intro _;rfl) | cases hx.1
 ·cases h
def zo1(g:Gd cl G k X nm N E full){ix e:Expr}{x:Str}{px p3:Pos}{f:Fs}{pos:Pos}(h:zt9 nm N x ix e=some f):PS X (.Assign [.Subscript (.Name x px) ix p3] e pos) (tS cl E own f):=by
 unfold zt9 at h;obtain ⟨c,e1,h⟩:=zaa h;obtain ⟨y,e2,h⟩:=zaa h;obtain ⟨i,h1,h⟩:=zaa h;obtain ⟨j,h2,h⟩:=zaa h;cases h;rw [zia e1,zbm e2];obtain ⟨s1,s2,s3,s4⟩:=g.gx.slot h1;obtain ⟨r1,r2,r3,r4⟩:=g.gx.slot h2;exact zni (by have:=g.gx.u16;omega) g.gx.same s1 s2 s3 s4 r1 r2 r3 r4
def zrM(hs:zaU cl G k rc)(g:Gd cl G k X nm N E full){tg e:Expr}{f:Fs}{pos:Pos}(h:zsh G rc nm N tg e=some f):PS X (.Assign [tg] e pos) (tS cl E own f):=by
 unfold zsh at h
 cases h1:zdz tg with
 | some x=>rw [h1] at h;rw [zbm h1];exact zoX hs g h
 | none =>
  rw [h1] at h
  cases h2:zo4 tg with
  | some t=>rw [h2] at h;rw [zm5 h2];exact zoV hs g h
  | none =>
   rw [h2] at h
   cases h3:zpc tg with
   | some a=>rw [h3] at h;rw [zgW h3];exact zo0 hs g h
   | none =>
    rw [h3] at h;obtain ⟨q,h4,h⟩:=zaa h;rw [znc h4];unfold zrO at h
    cases h5:zpc q.1 with
    | some a=>rw [h5] at h;rw [zgW h5];exact zoY hs g h
    | none =>
     rw [h5] at h;obtain ⟨x,h6,h⟩:=zaa h;rw [zbm h6];split at h
     ·exact zo1 g h
     ·exact zoZ hs g h
def zlz{e:Expr}{c:Mc}(h:zlA e=some c):e=.Call (.Attribute (.Name c.x c.px) c.m c.ap) [c.a] [] c.cp:=by
 unfold zlA at h;obtain ⟨c1,h1,h⟩:=zaa h;split at h
 ·rename_i hk;obtain ⟨t,h2,h⟩:=zaa h;obtain ⟨x,h3,h⟩:=zaa h;obtain ⟨a,h4,h⟩:=zaa h;cases h;rw [zhI h1,zgW h2,zbm h3,zet h4,ybf.mp hk]
 ·cases h
def zoG(hs:zaU cl G k rc)(g:Gd cl G k X nm N E full){e:Expr}{f:Fs}{pos:Pos}(h:zoH G rc nm N e=some f):PS X (.Expr e pos) (tS cl E own f):=by
 unfold zoH at h
 cases hc:zlA e with
 | some c =>
  obtain ⟨x,px,m,ap,a,cp⟩:=c;obtain rfl:=zlz hc;rw [hc] at h;dsimp only at h;split at h
  ·rename_i hm;rw [yab] at hm;have em:=yak hm.1;subst em;obtain ⟨i,h1,h⟩:=zaa h;obtain ⟨fe,h2,h⟩:=zaa h;cases h;obtain ⟨s1,s2,s3,s4⟩:=g.gx.slot h1;obtain ⟨a1,_,a3⟩:=zaw hs g.gx h2;exact zpM s1 s2 s3 s4 a1 (zan a3) hm.2
  split at h
  ·rename_i hm;rw [yab] at hm;have em:=yak hm.1;subst em;obtain ⟨i,h1,h⟩:=zaa h;obtain ⟨fe,h2,h⟩:=zaa h;cases h;obtain ⟨s1,s2,s3,s4⟩:=g.gx.slot h1;obtain ⟨a1,a3⟩:=zbx hs g.gx h2;exact zpI s1 s2 s3 s4 a1 (zan a3) hm.2
  split at h
  ·cases h
  ·rename_i hc;obtain ⟨fe,h2,h⟩:=zau h;subst h;exact zmt (zaw hs g.gx h2).1 (zeQ (by simpa using hc))
 | none =>
  rw [hc] at h;dsimp only at h;split at h
  ·cases h
  ·rename_i hc;obtain ⟨fe,h2,h⟩:=zau h;subst h;exact zmt (zaw hs g.gx h2).1 (zeQ (by simpa using hc))
def zqa(hs:zaU cl G k rc)(g:Gd cl G k X nm N E full){e:Expr}{f:Fs}{pos:Pos}(h:zs0 rc nm N own e=some f):PS X (.Return (some e) pos) (tS cl E own f):=by
 unfold zs0 at h;split at h
 ·split at h
  ·obtain ⟨i,h1,h⟩:=zau h;subst h;obtain ⟨s1,s2,s3,s4⟩:=g.gx.slot h1;exact znf s1 s2 s3 s4
  ·obtain ⟨⟨o,fe⟩,h1,h⟩:=zaa h;dsimp only at h;split at h
   ·rename_i ho;cases h;exact zng ((hs X nm N E g.gx _ o fe h1).1 ho)
   ·cases h
 ·obtain ⟨fe,h2,h⟩:=zau h;subst h;exact zpE (zaw hs g.gx h2).1
def zpj(g:Gd cl G k X nm N E full)(pins:Z3)(E':St->XK):Gd cl G k (zmn X pins E') nm N E' false where
 gx:=⟨g.gx.gok,g.gx.room,g.gx.calm,fun pins' σ H s e s' I q=>⟨σ,H,s,zca I,q⟩,g.gx.eN,g.gx.kk,g.gx.pp,g.gx.ww,g.gx.nd,g.gx.vis,g.gx.fnx⟩
 fn:=g.fn
 kind:=g.kind
 sc:=g.sc
 own:=fun z=>by cases z
 raises:=fun z=>by cases z
 stk:=g.stk
 frm:=g.frm
def zsQ(hs:zaU cl G k rc){rs:Bool->List Stmt->Option Fs}(hr:∀(fl:Bool) (X:Cx) (E:St->XK),Gd cl G k X nm N E fl->∀b f,rs fl b=some f->PSs X b (tS cl E own f))(g:Gd cl G k X nm N E full){st:Stmt}{f:Fs}(h:stG G rc rs nm N own full st=some f):PS X st (tS cl E own f):=by
 cases st with
 | Pass p=>cases h;exact znk
 | Break p=>cases h;exact zpJ
 | Assign ts e p =>
  obtain ⟨tg,h1,h⟩:=zaa (show ((zmH ts).bind fun tg=>zsh G rc nm N tg e)=some f from h);obtain rfl:=zet h1;exact zrM hs g h
 | Expr e p=>exact zoG hs g h
 | AugAssign tg op e p =>
  obtain ⟨x,h1,hz⟩:=zaa (show ((zdz tg).bind fun x=>(zsf op).bind fun gg=>(tgI true nm N N.length x.1).bind fun i=>(shE rc nm N e).bind fun f=>some (zp9 i gg f))=some f from h);obtain ⟨gg,h2,hz⟩:=zaa hz;obtain ⟨i,h3,hz⟩:=zaa hz;obtain ⟨fe,h4,hz⟩:=zaa hz;cases hz;rw [zbm h1];obtain ⟨_,a2,a3,a4,a5⟩:=zdK g.gx g.sto h3;exact zpK h2 a2 a3 a4 (zaw hs g.gx h4).1 a5
 | Return o p =>
  cases o with
  | some e=>exact zqa hs g h
  | none =>
   have h':(if own then none else some zkX)=some f:=h;split at h'
   ·cases h'
   ·rename_i ho;cases h'
    have:own=false:=by simpa using ho
    subst this;exact znh
 | If c a b p =>
  have h':(if zaZ c then (shE rc nm N c).bind fun f=>(rs full a).bind fun g=>(rs full b).bind fun h=>some (sIf f g h) else none)=some f:=h;split at h'
  ·rename_i ht;obtain ⟨fc,h1,h⟩:=zaa h';obtain ⟨fa,h2,h⟩:=zaa h;obtain ⟨fb,h3,h⟩:=zaa h;cases h;exact zsR ((zaw hs g.gx h1).2.1 ht) (hr full X E g a fa h2) (hr full X E g b fb h3)
  ·cases h'
 | For tg it body el p =>
  have h':(if full&&el.isEmpty then (zjM G rc nm N tg it).bind fun i=>(tgG true nm N N.length tg).bind fun t=>(rs full body).bind fun b=>some (zhi t i b) else none)=some f:=h;split at h'
  ·rename_i hf;rw [yab] at hf;obtain rfl:=ybf.mp hf.2;obtain ⟨it,h1,h⟩:=zaa h';obtain ⟨t,h2,h⟩:=zaa h;obtain ⟨fb,h3,h⟩:=zaa h;cases h;obtain ⟨i1,i2⟩:=zjL hs g.gx (tg:=_) h1;exact zpH (g.own hf.1) g.gx.calm i1 (zm6 g.gx g.sto h2) (hr full X E g _ fb h3) (ze8 i2)
  ·cases h'
 | While c body el p =>
  have h':(if full&&zaZ c&&el.isEmpty then (shE rc nm N c).bind fun f=>(rs full body).bind fun b=>some (zdN 100000 f b) else none)=some f:=h;split at h'
  ·rename_i hf;rw [yab,yab] at hf;obtain rfl:=ybf.mp hf.2;obtain ⟨fc,h1,h⟩:=zaa h';obtain ⟨fb,h3,h⟩:=zaa h;cases h;exact zkK 100000 (g.own hf.1.1) ((zaw hs g.gx h1).2.1 hf.1.2) (hr full X E g _ fb h3)
  ·cases h'
 | Raise ea eb p =>
  have h':rzG G rc nm N full ea eb=some f:=h;unfold rzG at h';split at h'
  ·rename_i hb;obtain rfl:=Option.isNone_iff_eq_none.mp hb;obtain ⟨e0,e1,hz⟩:=zaa h';obtain ⟨c0,h1,hy⟩:=zaa hz;obtain ⟨⟨c,p⟩,h2,hx⟩:=zaa hy;have e2:=zhI h1;obtain ⟨fn,args,kws,cp⟩:=c0;have e3:fn=.Name c p:=zbm h2;clear h h' hz hy h1 h2;subst e1;subst e2;subst e3;dsimp only at hx ⊢;split at hx
   ·rename_i hf;simp only [yab] at hf;obtain ⟨⟨⟨⟨k0,a0⟩,f0⟩,g0⟩,x0⟩:=hf;obtain rfl:=ybf.mp k0
    cases args with
    | nil=>cases a0
    | cons e es =>
    obtain ⟨fs,h1,h⟩:=zaa hx;cases h;obtain ⟨g1,g2,_⟩:=g.gx.glob g0;obtain ⟨m,z⟩:=g.gx.gok.exc c x0;obtain ⟨a1,a2,_⟩:=zdM hs g.gx h1;rw [yby,yab] at a2;refine PS.imp (zi2 (g.raises f0) g.gx.calm g1 m z a1 (za6 a2.1) (za3 a2.2) g2) ?_;rintro De σ H ⟨B,w,ρ,S,rfl,R,q⟩;refine ⟨B,w,ρ,S,rfl,R,?_⟩;unfold sRz at q
    cases hv:zag fs ρ S with
    | bad=>rwa [hv] at q
    | exc c S1=>rw [hv] at q;exact fun w' R' F'=>q σ w' R' F'
    | ok ds S1 =>
     rw [hv] at q;dsimp only at q
     cases hz:zaM ds.length with
     | false=>rw [hz,if_neg (by decide)] at q;exact q.elim
     | true =>
      rw [hz,if_pos rfl] at q;exact fun vs w' R' F' sh=>⟨by rw [sh.length];exact zaH hz,q σ w' R' F'⟩
   ·cases hx
  ·cases h'
 | Try body hs' es' fs' p =>
  have h':zsz G rs nm N body hs' es' fs'=some f:=h;unfold zsz at h';split at h'
  ·rename_i he;rw [yab] at he;obtain rfl:=ybf.mp he.1;obtain rfl:=ybf.mp he.2;obtain ⟨hd,h1,hz⟩:=zaa h';have e1:=zet h1;clear h h' h1;subst e1;obtain ⟨ty,nn,bb,hp⟩:=hd;unfold zuW at hz;obtain ⟨te,e2,hz⟩:=zaa hz;obtain ⟨⟨C,np⟩,h2,hz⟩:=zaa hz;obtain ⟨n,e3,hz⟩:=zaa hz;obtain ⟨st,h3,hz⟩:=zaa hz;obtain ⟨⟨ts,v,ap⟩,h4,hz⟩:=zaa hz;obtain ⟨tg,h5,hz⟩:=zaa hz;obtain ⟨⟨m,mp⟩,h6,hz⟩:=zaa hz;obtain ⟨⟨n',n'p⟩,h7,h⟩:=zaa hz;rw [e2,e3,zbm h2,zet h3,zoW h4];dsimp only at h5 h7 h ⊢;rw [zet h5,zbm h6,zbm h7];dsimp only;split at h
   ·rename_i hc;simp only [yab,ya8] at hc;obtain ⟨⟨⟨⟨c1,c2⟩,c3⟩,c4⟩,c5⟩:=hc;subst c3;obtain ⟨i,h1,h⟩:=zaa h;obtain ⟨j,h2,h⟩:=zaa h;split at h
    ·cases h
    ·rename_i hij;obtain ⟨fb,h3,h⟩:=zaa h;cases h;obtain ⟨g1,g2,_⟩:=g.gx.glob c1;obtain ⟨mC,zC⟩:=g.gx.gok.exc C c2;obtain ⟨o1,o2,_⟩:=zdT c5
     have hnl:X.env.scope.names.lookup n=some .local:=by rw [g.sc];exact c4
     have hNi:X.N[i]?=some n:=by rw [g.gx.eN];exact zd3 h1
     obtain ⟨_,a2,a3,a4,a5⟩:=zdK g.gx g.sto h2;refine PS.imp (znO (tb:=fun E'=>tS cl E' own fb) g.stk g.frm (by rw [g.gx.eN];exact g.gx.nd) hNi hnl g1 mC zC (by decide +kernel) (fun pins E'=>hr false _ E' (zpj g pins E') _ fb h3) (fun a=>znM (zhm (X:=X.inH a) a2 a3 a4 (za4 (X:=X.inH a) hNi (.inl hnl) o1 o2) rfl a5)) g2) ?_;intro De σ H q;exact zkF hij (fun c hc'=>g.gx.gok.und c C hc') q
   ·cases h
  ·cases h'
 | _=>cases h
theorem zkk{ds:Stmt->Option Fs}(hd:∀st f,ds st=some f->PS X st (tS cl E own f)):∀{b:List Stmt} {f:Fs},blk ds b=some f->PSs X b (tS cl E own f)
 | [],f,h=>by cases h;exact zpG
 | s::r,f,h=>by
  unfold blk at h;obtain ⟨f1,h1,h⟩:=zaa h;obtain ⟨f2,h2,h⟩:=zaa h;cases h;exact znn (hd s f1 h1) (zkk hd h2)
theorem zhG:∀(n:Nat) (fl:Bool) (X:Cx) (E:St->XK),Gd cl G k X nm N E fl->∀st f,zl6 G own n fl nm N st=some f->PS X st (tS cl E own f)
 | 0,_,_,_,_,_,_,h=>by cases h
 | n+1,fl,X,E,g,st,f,h=>by
  unfold zl6 at h;obtain ⟨f1,h1,h⟩:=zau h;subst h;exact zsS _ (zsQ (zmU n) (fun fl X E g b f hb=>zkk (fun st f hst=>zhG n fl X E g st f hst) hb) g h1)
end
noncomputable def zcS(nN:Nat)(own:Bool)(fs:Fs)(ds:List D)(S:Sto):Out D:=match fs (ds.map (fun d=>some (false,d))++List.replicate (nN-ds.length) none) S with
 | .rt d S'=>.ok d S'
 | .nx _ S'=>if own then .bad else .ok .non S'
 | .ex c _ S'=>.exc c S'
 | _=>.bad
noncomputable def zax(G:Genv)(own:Bool)(N:List Str)(st:Stmt):Option Fs:=blk (zl6 G own 40 true (zab st).names N) (zbB st)
def zro{P:Program}{wo:PySem.World}{K:PySem.W.Frag}{mg:Z6}{base:Heap}{cl:Cf}{G:Genv}{k:Nat}{x qual:Str}{st:Stmt}{f:Addr}{fd:FuncData}{N ps:List Str}{own:Bool}{fs:Fs}(F:Fun K x qual st f fd)(S:FnScope N ps (zab st))(hG:GOk cl G P wo K mg base k)
  (hk:K=cl.K) (hP:P=cl.P) (hW:wo=cl.wo) (hd:zax G own N st=some fs):FnOk P wo K mg base (CXE P wo) (k+1) f fd ps (zhT cl ps.length own (zcS N.length own fs)):=by
 obtain ⟨oc,od,kV,doc,pm,an,cdv,ct,osl,rfl,lk,hcd⟩:=F.ex;refine ztM lk hcd S (fun vs H Q E h=>h.1) fun A outer s H vs Q E hr hsp=>?_
 refine ⟨tS cl (fun _=>E) own fs,?_,?_⟩
 ·have g:Gd cl G k (zky (CXE P wo) P wo K mg base N qual (zab st) f cdv A outer s H E) (zab st).names N (fun _=>E) true :=
   ⟨⟨hG,hr,rfl,fun pins σ H1 s1 e s' I q=>zs9 pins σ H1 s1 e s' I q,rfl,hk,hP,hW,S.nd,fun x kd h=>⟨kd,h,.inl rfl⟩,fun x h=>h⟩,fun _=>rfl,S.kind,rfl,fun _=>PassesOwn.leaving,fun _ C pins σ H1 s1 e h' vs I mk q=>znH C pins σ H1 s1 e h' vs I mk q,rfl,rfl⟩
  exact zkk (fun st f hst=>zhG 40 true _ _ g st f hst) hd
 ·obtain ⟨hl,B,w,ds,S0,rfl,W,sh,q⟩:=hsp;have hdl:ds.length=vs.length:=sh.length.symm;refine ⟨B,w,ds.map (fun d=>some (false,d))++List.replicate (N.length-ds.length) none,S0,rfl,⟨W,?_,fun i o d hi=>?_⟩,?_⟩
  ·unfold L2.zeS;rw [yal,yal,yad,yad,yaL,yaL,hdl]
  ·by_cases hlt:i<ds.length
   ·rw [yaW (by rw [yad];exact hlt),yaF] at hi
    cases hdi:ds[i]? with
    | none=>rw [hdi] at hi;cases hi
    | some d' =>
     rw [hdi] at hi;cases hi;obtain ⟨v,e1,e2⟩:=sh.at hdi;refine ⟨v,?_,e2⟩;unfold L2.zeS;rw [yaW (by rw [yad];omega),yaF,e1];rfl
   ·rw [yaJ (by rw [yad];omega),ybF] at hi
    split at hi<;>cases hi
  ·unfold zcS at q
   cases hf:fs (ds.map (fun d=>some (false,d))++List.replicate (N.length-ds.length) none) S0 with
   | bad=>rwa [hf] at q
   | bk _ _=>rw [hf] at q;exact q.elim
   | ct _ _=>rw [hf] at q;exact q.elim
   | rt d S'=>rwa [hf] at q
   | ex c ρ' S'=>rw [hf] at q;exact fun σ' w' R' F'=>q w' R'.wd F'
   | nx ρ' S' =>
    rw [hf] at q;dsimp only at q
    cases own with
    | true=>exact q.elim
    | false=>exact fun σ' w' R' F'=>q .non w' R'.wd F' .non
end S2
namespace S2
open PySem PySem.Spec PyProof.Rows L2
structure Tab where
 con:List (Str×D)
 blt:List Str
 exc:List Str
 und:List (Str×Str)
 rz:List Str
 fk:List (Str×Str)
 df:List Str
 ds:List Str
noncomputable def zr8(rz exc:List Str)(c C:Str):Option Bool:=if rz.contains c then (if C = "ValueError" then some true else if exc.contains C then some (decide (C=c)||decide (C = "FloorError")) else none) else none
noncomputable def zo3(l:List (Str×Str))(c C:Str):Bool:=l.contains (c,C)
structure Fn3 where
 cur:Str
 fs:List (Str×FnI)
 ms:List (Str×Str×FnI)
 ks:List (Str×List D×FnI)
noncomputable def Gn(T:Tab)(F:Fn3):Genv:=⟨fun x=>T.con.lookup x,fun x=>F.fs.lookup x,fun x=>T.blt.contains x,fun x=>T.exc.contains x,zo3 T.und,zr8 T.rz T.exc,⟨F.cur,zo3 T.fk,fun f=>T.df.contains f,fun m=>F.ms.lookup m,fun c=>F.ks.lookup c⟩,fun x=>T.ds.contains x⟩
noncomputable def Fn3.fn(F:Fn3)(x:Str)(fi:FnI):Fn3:=⟨F.cur,(x,fi)::F.fs,F.ms,F.ks⟩
section
variable{cl:Cf}{T:Tab}{P:Program}{wo:PySem.World}{K:PySem.W.Frag}{mg:Z6}{base:Heap}{k:Nat}{fs:Fn3}
def zdp{α:Type}{x y:Str}{a:α}{l:List (Str×α)}{b:α}(h:((x,a)::l).lookup y=some b):(y=x/\b=a)\/l.lookup y=some b:=by
 rw [yax] at h
 cases e:y == x with
 | true=>rw [e] at h;cases h;exact .inl ⟨eq_of_beq e,rfl⟩
 | false=>rw [e] at h;exact .inr h
def zds{α:Type}{p:α->Prop}:∀x∈([]:List α),p x:=fun _ h=>nomatch h
def zah{α:Type}{p:α->Prop}{a:α}{l:List α}(h:p a)(t:∀x∈l,p x):∀x∈a::l,p x:=fun x hx=>(yas.mp hx).elim (fun e=>e ▸ h) (t x)
theorem zf0{α:Type}{x:Str}{a:α}:∀{l:List (Str×α)},l.lookup x=some a->(x,a)∈l
 | [],h=>by cases h
 | (y,b)::l,h=>by
  rcases zdp h with ⟨rfl,rfl⟩ | h
  ·exact yaB
  ·exact yaA _ (zf0 h)
noncomputable def zrS(K:PySem.W.Frag)(cl:Cf)(exc:List Str)(c:Str):Prop:=PySem.W.ExcCls K (cl c)/\PySem.W.kitOne K (.ref (cl c)) (.type "ValueError")=some true/\∀C∈exc,PySem.W.kitOne K (.ref (cl c)) (.ref (cl C))=some (decide (C=c)||decide (C = "FloorError"))
def zxL(hc:∀p∈T.con,∃v u,mg p.1=some u/\zaV v u/\∀w,Shd cl w v p.2)(hb:∀x∈T.blt,mg x=none)(he:∀c∈T.exc,mg c=some (.ref (cl c))/\PySem.W.excIn K (cl c) bmV "ValueError.__new__" = true)(hu:∀p∈T.und,L2.zmk K (cl p.1) (cl p.2))(hx:∀c∈T.rz,zrS K cl T.exc c)(hfk:∀p∈T.fk,Cls cl.K (cl p.1)/\zct cl.K (cl p.1) p.2):GOk cl (Gn T ⟨"",[],[],[]⟩) P wo K mg base 0 where
 fk:=fun c f h=>hfk (c,f) (by simpa using (show T.fk.contains (c,f)=true from h))
 mt:=fun m c fi h=>by cases h
 mks:=fun c dds fi h=>by cases h
 con:=fun x d h=>hc (x,d) (zf0 h)
 fn:=fun x fi h=>by cases h
 blt:=fun x h=>hb x (by simpa using (show T.blt.contains x=true from h))
 exc:=fun c h=>he c (by simpa using (show T.exc.contains c=true from h))
 und:=fun c C h=>hu (c,C) (by simpa using (show T.und.contains (c,C)=true from h))
 isx:=fun c C b h=>by
  have h':zr8 T.rz T.exc c C=some b:=h;unfold zr8 at h';split at h'
  ·rename_i hc;obtain ⟨x1,x2,x3⟩:=hx c (by simpa using hc);refine ⟨x1,?_⟩;unfold zrC;split at h'
   ·rename_i hC;cases h';rw [if_pos hC];exact x2
   ·rename_i hC;rw [if_neg hC];split at h'
    ·rename_i hm;cases h';exact x3 C (by simpa using hm)
    ·cases h'
  ·cases h'
def GOk.add{x:Str}{fi:FnI}{f:Addr}{fd:FuncData}{ps:List Str}(g:GOk cl (Gn T fs) P wo K mg base k)(m:mg x=some (.ref f))(kp:PySem.W.keepIn K (.ref f)=true)(b:zcq K fd ps [])(F:FnOk P wo K mg base (CXE P wo) (k+1) f fd ps (zhT cl fi.ar fi.own fi.run)) :
  GOk cl (Gn T (fs.fn x fi)) P wo K mg base (k+1) where
 con:=g.con
 fn:=fun y fj h=>by
  rcases zdp h with ⟨rfl,rfl⟩ | h
  ·exact ⟨f,fd,ps,m,kp,b,F⟩
  ·obtain ⟨f',fd',ps',h1,h2,h3,h4⟩:=g.fn y fj h;exact ⟨f',fd',ps',h1,h2,h3,h4.mono (ycI _)⟩
 blt:=g.blt
 exc:=g.exc
 und:=g.und
 isx:=g.isx
 fk:=g.fk
 mt:=fun m c fi h=>by
  obtain ⟨f',fd',ps',h1,h2,h3,h4⟩:=g.mt m c fi h;exact ⟨f',fd',ps',h1,h2,h3,h4.mono (ycI _)⟩
 mks:=fun c dds fi h=>by
  obtain ⟨f',fd',ps',dvs,ds,k',hk,z⟩:=g.mks c dds fi h;exact ⟨f',fd',ps',dvs,ds,k',Nat.le_succ_of_le hk,z⟩
def zkd{C:Addr}{b:List Value}{i:String}(x:PySem.W.excIn K C b i=true):(PySem.W.clsIn K C).isSome=true/\PySem.W.typeIn K (.ref C)=some (.type "type"):=by
 unfold PySem.W.excIn at x;split at x
 ·rename_i d cd sl e;refine ⟨?_,?_⟩
  ·unfold PySem.W.clsIn;rw [e];rfl
  ·show (K.lookup C).map (·.cls)=_;rw [e];rfl
 ·cases x
def zeR{C:Addr}{el:Value}{ed:Option Addr}{ec:ClassData}{es:Array (Option Value)}{m:List Value}{v:Value}(lk:K.lookup C=some ⟨el,ed,.cls ec,es⟩)(mr:ec.mro=.ref C::m):PySem.W.subIn K (.ref C) v=some ((Value.ref C::m).contains v):=by
 show PySem.W.mroIn K C v=_;unfold PySem.W.mroIn PySem.W.clsIn;rw [lk];show (if ec.mro.isEmpty then none else some (ec.mro.contains v))=_;rw [mr];rfl
def ziY{a b:Addr}(h:a≠b):(Value.ref a == Value.ref b)=false:=Bool.eq_false_iff.mpr fun z=>h (Value.ref.inj (ybR.mp z))
def zom{C F:Addr}{el:Value}{ed:Option Addr}{ec:ClassData}{es:Array (Option Value)}(lk:K.lookup C=some ⟨el,ed,.cls ec,es⟩)(mr:ec.mro=.ref C::.ref F::bmV):PySem.W.kitOne K (.ref C) (.type "ValueError")=some true:=by
 have h1:PySem.W.kitMeta "ValueError" = true:=by decide +kernel
 have h0:(Value.ref C == Value.type "ValueError")=false:=by with_unfolding_all rfl
 unfold PySem.W.kitOne PySem.W.kitCls;simp only [h0,h1,zeR lk mr];simp
def zon{C D F:Addr}{el:Value}{ed:Option Addr}{ec:ClassData}{es:Array (Option Value)}{b:List Value}{i:String}(lk:K.lookup C=some ⟨el,ed,.cls ec,es⟩)(mr:ec.mro=.ref C::.ref F::bmV)(x:PySem.W.excIn K D b i=true):PySem.W.kitOne K (.ref C) (.ref D)=some (decide (D=C)||decide (D=F)):=by
 by_cases h:D=C
 ·subst h;unfold PySem.W.kitOne;rw [if_pos (ybe _)];simp
 ·obtain ⟨h1,h2⟩:=zkd x;have h0:=ziY (fun z=>h z.symm:C≠D);unfold PySem.W.kitOne PySem.W.kitCls;simp only [h0,h1,h2,zeR lk mr];have e1:(Value.ref D == Value.ref C)=false:=ziY h;simp only [yb7,e1,Bool.false_or,yaC,ybl,ybe,Bool.and_self,ycB,h,decide_false]
  by_cases h4:D=F
  ·subst h4;simp
  ·have e2:(Value.ref D == Value.ref F)=false:=ziY h4;simp only [e2,Bool.false_or,h4,decide_false,Option.some.injEq]
   with_unfolding_all rfl
def zjw{c:ClassData}{C F:Addr}{m:List Value}(h:c.mro=.ref C::.ref F::m):c.mro.contains (.ref F)=true:=by
 rw [h,yb7,yb7,ybe,Bool.true_or,Bool.or_true]
def zmY{L:List (Str×Addr)}:∀{C:Str},C∈L.map (·.1)->∃a,L.lookup C=some a/\(C,a)∈L:=by
 induction L with
 | nil=>intro C h;simp at h
 | cons p L ih =>
  intro C h;rw [yax]
  cases e:C == p.1 with
  | true=>exact ⟨p.2,rfl,by rw [eq_of_beq e];exact yaB⟩
  | false =>
   have:C∈L.map (·.1):=by
    rw [yat,yas] at h
    rcases h with h | h
    ·rw [h] at e;simp at e
    ·exact h
   obtain ⟨a,h1,h2⟩:=ih this;exact ⟨a,h1,yaA _ h2⟩
theorem ziF:∀{L:List (Str×Addr)},(L.map (·.2)).Nodup->∀{C c:Str} {a:Addr},(C,a)∈L->(c,a)∈L->C=c
 | [],_,_,_,_,h,_=>by simp at h
 | p::L,nd,C,c,a,h,h'=>by
  rw [yat,ybj] at nd;rw [yas] at h h'
  rcases h with h | h<;>rcases h' with h' | h'
  ·rw [<-h'] at h;exact (Prod.mk.inj h).1
  ·exact absurd (yaq.mpr ⟨_,h',by rw [<-h]⟩) nd.1
  ·exact absurd (yaq.mpr ⟨_,h,by rw [<-h']⟩) nd.1
  ·exact ziF nd.2 h h'
def zhM{L:List (Str×Addr)}(nd:(L.map (·.2)).Nodup){C c:Str}(hC:C∈L.map (·.1))(hc:c∈L.map (·.1)):(L.lookup C).getD 0=(L.lookup c).getD 0↔C=c:=by
 obtain ⟨a,h1,h2⟩:=zmY hC;obtain ⟨b,h3,h4⟩:=zmY hc;rw [h1,h3];constructor
 ·intro e;have:a=b:=e;subst this;exact ziF nd h2 h4
 ·rintro rfl;rw [h1] at h3;cases h3;rfl
def zmO{c:Str}{cl:Cf}{exc:List Str}{F:Addr}{el:Value}{ed:Option Addr}{ec:ClassData}{es:Array (Option Value)}
  (lk:K.lookup (cl c)=some ⟨el,ed,.cls ec,es⟩) (mr:ec.mro=.ref (cl c)::.ref F::bmV) (hF:cl "FloorError" = F)
  (ga:PySem.W.findIn K (.ref (cl c)) "__getattribute__" = some (some (.builtin "BaseException.__getattribute__"))) (gt:PySem.W.findIn K (.ref (cl c)) "__getattr__" = some none) (cc:PySem.W.findIn K (.ref (cl c)) "__class__" = some (some (.builtin "object.__class__")))
  (hx:∀C∈exc,PySem.W.excIn K (cl C) bmV "ValueError.__new__" = true) (hi:∀C∈exc,(cl C=cl c↔C=c)/\(cl C=cl "FloorError" ↔ C = "FloorError")):zrS K cl exc c:=by
 refine ⟨⟨ga,gt,cc,?_,?_,_,_,_,_,lk⟩,zom lk mr,fun C hC=>?_⟩
 ·rw [zeR lk mr];simp
 ·rw [zeR lk mr];simp
 ·rw [zon lk mr (hx C hC)];obtain ⟨i1,i2⟩:=hi C hC;rw [hF] at i2;simp only [i1,i2]
end
noncomputable def zkM(K:PySem.W.Frag):Sp:=fun vs H Q _=>∃(a:Addr) (ns:List Int),vs=[.ref a]/\ns.length<=63/\zsk H/\SqL K H a (ns.map V.int)/\∀H',Q (.bl true) H'
def zq0{cl:Cf}{run:List D->Sto->Out D}(hr:∀l:List Int,l.length<=63->∃S,run [.scr l] []=.ok (.bl true) S):∀vs H Q E,zkM cl.K vs H Q E->zhT cl 1 false run vs H Q E:=by
 rintro vs H Q E ⟨a,ns,rfl,hl,hO,hS,q⟩;refine ⟨rfl,⟨fun _=>none,fun _=>none⟩,⟨H,fun _=>none,[]⟩,[.scr ns],[],rfl,⟨(fun a o h=>by cases h),(fun a r h=>by cases h),rfl,(fun n ob h=>by simp at h)⟩,.cons ?_ .nil,?_⟩
 ·rcases hS with (hS | ⟨o,hS⟩) | hS
  ·rcases hO a with z | ⟨o,xs,z⟩
   ·rw [hS] at z;cases z
   ·rw [hS] at z;cases z
  ·exact .scr hS rfl
  ·exact .scrK fun H=>.inr hS
 ·obtain ⟨S',e⟩:=hr ns hl;rw [e];intro v w' _ _ r;have r':Shd cl w' v (.bl true):=r;cases r';exact q _
end S2
namespace S2
open PySem PySem.Spec PyProof.Rows L2
section
variable{cl:Cf}{T:Tab}{P:Program}{wo:PySem.World}{K:PySem.W.Frag}{mg:Z6}{base:Heap}{k:Nat}{fs:Fn3}
end
end S2
namespace S2
open PySem PySem.Spec PyProof.Rows L2
structure FnT(K:PySem.W.Frag)(x q:Str)(st:Stmt)(f:Addr):Prop where
 ex:∃(oc:Value) (od:Option Addr) (kV dc pm:Value) (an:Option Addr) (cd ct:Value) (sl:Array (Option Value)),K.lookup f=some ⟨oc,od,.func (PySem.W.fnOf x q (zbL st) (zbB st) (zab st) .none kV dc pm an cd ct),sl⟩/\PySem.W.codeIn K cd q=true/\PySem.W.keepIn K (.ref f)=true/\PySem.W.isFn K (.ref f)=true
structure GFn(K:PySem.W.Frag)(x:Str)(st:Stmt):Prop where
 ex:∃f,PySem.W.nsIn K mainGlobals x=some (some (.ref f))/\FnT K x x st f
structure MFn(K:PySem.W.Frag)(C:Addr)(m q:Str)(st:Stmt):Prop where
 ex:∃f,PySem.W.findIn K (.ref C) m=some (some (.ref f))/\FnT K m q st f
noncomputable def BB(x q:Str)(st:Stmt)(ps:List Str):Prop:=∀(kV doc pm:Value) (an:Option Addr) (cdv ct:Value) (us:List Value),us.length=ps.length->bindArgs (PySem.W.fnOf x q (zbL st) (zbB st) (zab st) .none kV doc pm an cdv ct) ⟨us,[]⟩=pure (ps.zip us)
def bb0{p:List Value->Prop}(h:p []):∀us:List Value,us.length=0->p us:=fun us e=>by rw [List.eq_nil_of_length_eq_zero e];exact h
def bbS{n:Nat}{p:List Value->Prop}(h:∀a:Value,∀us:List Value,us.length=n->p (a::us)):∀us:List Value,us.length=n+1->p us:=fun us e=>by
 cases us with
 | nil=>cases e
 | cons a us=>exact h a us (Nat.succ.inj e)
def bb1{p:List Value->Prop}(h:∀a0:Value,p [a0]):∀us:List Value,us.length=1->p us:=bbS fun a0=>bb0 (h a0)
def bb2{p:List Value->Prop}(h:∀a0 a1:Value,p [a0,a1]):∀us:List Value,us.length=2->p us:=bbS fun a0=>bbS fun a1=>bb0 (h a0 a1)
def bb3{p:List Value->Prop}(h:∀a0 a1 a2:Value,p [a0,a1,a2]):∀us:List Value,us.length=3->p us:=bbS fun a0=>bbS fun a1=>bbS fun a2=>bb0 (h a0 a1 a2)
def bb4{p:List Value->Prop}(h:∀a0 a1 a2 a3:Value,p [a0,a1,a2,a3]):∀us:List Value,us.length=4->p us:=bbS fun a0=>bbS fun a1=>bbS fun a2=>bbS fun a3=>bb0 (h a0 a1 a2 a3)
def bb5{p:List Value->Prop}(h:∀a0 a1 a2 a3 a4:Value,p [a0,a1,a2,a3,a4]):∀us:List Value,us.length=5->p us:=bbS fun a0=>bbS fun a1=>bbS fun a2=>bbS fun a3=>bbS fun a4=>bb0 (h a0 a1 a2 a3 a4)
def bb6{p:List Value->Prop}(h:∀a0 a1 a2 a3 a4 a5:Value,p [a0,a1,a2,a3,a4,a5]):∀us:List Value,us.length=6->p us:=bbS fun a0=>bbS fun a1=>bbS fun a2=>bbS fun a3=>bbS fun a4=>bbS fun a5=>bb0 (h a0 a1 a2 a3 a4 a5)
section
variable{cl:Cf}{T:Tab}{P:Program}{wo:PySem.World}{K:PySem.W.Frag}{mg:Z6}{base:Heap}{k:Nat}{fs:Fn3}
def FnT.un{x q:Str}{st:Stmt}{f:Addr}{ps:List Str}(p:FnT K x q st f)(b:BB x q st ps):∃fd,Fun K x q st f fd/\zcq K fd ps []/\PySem.W.keepIn K (.ref f)=true/\PySem.W.isFn K (.ref f)=true:=by
 obtain ⟨oc,od,kV,dc,pm,an,cd,ct,sl,l,c,kp,i⟩:=p.ex;have U:=zmQ (st:=st) l c kp;exact ⟨_,U,U.binds b,kp,i⟩
def GOk.addG{x:Str}{st:Stmt}{N ps:List Str}{own:Bool}{f_:Fs}{h:Heap}(g:GOk cl (Gn T fs) P wo K mg base k)(X:K.In h)(G:h.Ns mainGlobals mg)(p:GFn K x st)(S:FnScope N ps (zab st))(hK:K=cl.K)(hP:P=cl.P)(hW:wo=cl.wo)(b:BB x x st ps)(hd:zax (Gn T fs) own N st=some f_) :
  GOk cl (Gn T (fs.fn x ⟨ps.length,own,zcS N.length own f_⟩)) P wo K mg base (k+1):=by
 obtain ⟨f,a,p⟩:=p.ex;obtain ⟨fd,U,B,kp,_⟩:=p.un b;exact GOk.add g (ybz X G a) kp B (zro U S g hK hP hW hd)
end
end S2
namespace S2
open PySem
open L2 hiding D
noncomputable def zbn:Fs :=
  (zak (sFz [] (zbG (zfu (eUn (zdA "tuple") (zam 0)) (zb7 leD leD (zam 1) (zaO zeu [(zam 0)]) (zam 2)))))
  sNx)
noncomputable def zaA:List S2.D->Sto->Out S2.D:=zcS 3 false zbn
noncomputable def zd8:Fs :=
  (zak (sFz [] (zbf 1 false (eIf (zai gtD (zaO zeu [(zam 0)]) (zae (.int 0))) (zaO zeu [(zai ixD (zam 0) (zae (.int 0)))]) (zae (.int 0)))))
  (zak (sFz [1] (zbG (zem [(zaO zeu [(zam 0)]),(zad 1)])))
  sNx))
noncomputable def zbP:List S2.D->Sto->Out S2.D:=zcS 2 false zd8
noncomputable def zbp:Fs :=
  (zak (sFz [3,4] (zkY 2 (zem [(zad 3),(zad 4)]))) sNx)
noncomputable def zb3:Fs :=
  (zak (sFz [] (zhi (.one 4) (zfk (zai ixD (zam 1) (zae (.int 1)))) zbp)) sNx)
noncomputable def zcD:Fs :=
  (zak (sFz [0] (zbf 1 false (eFn zbP [(zad 0)])))
  (zak (sFz [] (zbf 2 true (zeg [])))
  (zak (sFz [] (zhi (.one 3) (zfk (zai ixD (zam 1) (zae (.int 0)))) zb3))
  (zak (sFz [] (ziO 2))
  sNx))))
noncomputable def zaE:List S2.D->Sto->Out S2.D:=zcS 5 true zcD
noncomputable def zcE:Fs :=
  (zak (sFz [] (zbG (zai ixD (zai ixD (zam 0) (zai ixD (zam 1) (zae (.int 0)))) (zai ixD (zam 1) (zae (.int 1))))))
  sNx)
noncomputable def zaS:List S2.D->Sto->Out S2.D:=zcS 2 false zcE
noncomputable def zbA:Fs :=
  (zak (sFz [] (sIf (zai ltD (zam 1) (zaO zeu [(zam 0)])) (zak (sFz [] (zbG (zai ixD (zam 0) (zam 1)))) sNx) sNx))
  (zak (sFz [] (sIf (zai eqD (zam 0) (zeg [])) (zak (sFz [] (zbG (zae (.int 0)))) sNx) sNx))
  (zak (sFz [] (zbG (zai zdG (zai zkx (zai ixD (zam 0) (zai zly (zam 1) (zaO zeu [(zam 0)]))) (zae (.int 31))) (zam 1))))
  sNx)))
noncomputable def za8:List S2.D->Sto->Out S2.D:=zcS 2 false zbA
noncomputable def zcG:Fs :=
  (zak (sFz [0,1] (zbf 3 false (zai zly (zai zkx (zai zdG (eFn za8 [(zad 0),(zad 1)]) (zai zkx (zae (.int 6151)) (zai zdG (zam 1) (zae (.int 1))))) (zae (.int 40692))) (zae (.int 2147483399)))))
  (zak (sFz [] (zbG (zai zly (zai zly (zai zdG (zai zkx (zam 3) (zam 3)) (zai zry (zam 3) (zae (.int 31)))) (zae (.int 2147483629))) (zam 2))))
  sNx))
noncomputable def zat:List S2.D->Sto->Out S2.D:=zcS 4 false zcG
noncomputable def zaQ:Fs :=
  (zak (sFz [0] (zbf 10 false (eFn zat [(zad 0),(zai zdG (zai zdG (zam 1) (zai zkx (zae (.int 7)) (zam 7))) (zam 9)),(zai zkx (zaO zeu [(zam 2)]) (zam 5))]))) (zak (sFz [10] (zkY 8 (eIf (zai ltD (zam 10) (zaO zeu [(zam 2)])) (zad 10) (zae .non)))) sNx))
noncomputable def zbM:Fs :=
  (zak (sFz [] (zbf 8 true (zeg []))) (zak (sFz [4] (zhi (.one 9) (zfk (zad 4)) zaQ)) (zak (sFz [] (zkY 6 (zaO zdJ [(zam 8)]))) sNx)))
noncomputable def zce:Fs :=
  (zak (sFz [] (zbf 6 true (zeg [])))
  (zak (sFz [3] (zhi (.one 7) (zfk (zad 3)) zbM))
  (zak (sFz [] (zbG (zaO zdJ [(zam 6)])))
  sNx)))
noncomputable def zbc:List S2.D->Sto->Out S2.D:=zcS 11 false zce
noncomputable def zcm:Fs :=
  (zak (sFz [] (zbG (zfu (eUn (zdA "int") (zam 0)) (eUn zft (eUn (zdA "bool") (zam 0))))))
  sNx)
noncomputable def zaC:List S2.D->Sto->Out S2.D:=zcS 1 false zcm
noncomputable def zbe:Fs :=
  (zak (sFz [1] (zbG (zfu (eFn zaC [(zad 1)]) (zb7 leD ltD (zae (.int 0)) (zam 1) (zaO zeu [(zam 0)])))))
  sNx)
noncomputable def zaX:List S2.D->Sto->Out S2.D:=zcS 2 false zbe
noncomputable def zcF:Fs :=
  (zak (sFz [1] (sIf (eOr (eUn zft (eFn zaA [(zad 1),(zae (.int 2)),(zae (.int 2))])) (eOr (eUn zft (eFn zaC [(zai ixD (zam 1) (zae (.int 0)))])) (eUn zft (eFn zaC [(zai ixD (zam 1) (zae (.int 1)))])))) (zak (sFz [] (zbG (zae (.bl false)))) sNx) sNx))
  (zak (sFz [0] (zbf 2 false (eFn zbP [(zad 0)])))
  (zak (sFz [] (zbG (zfu (zb7 leD ltD (zae (.int 0)) (zai ixD (zam 1) (zae (.int 0))) (zai ixD (zam 2) (zae (.int 0)))) (zb7 leD ltD (zae (.int 0)) (zai ixD (zam 1) (zae (.int 1))) (zai ixD (zam 2) (zae (.int 1)))))))
  sNx)))
noncomputable def zaT:List S2.D->Sto->Out S2.D:=zcS 3 false zcF
noncomputable def zcI:Fs :=
  (zak (sFz [] (zbG (eIf (zai eqD (zai zly (zam 1) (zai ixD (zoK "Ways" "size" (zad 0)) (zae (.int 1)))) (zae (.int 0))) (zai ixD (zam 3) (zae (.int 3))) (zai ixD (zam 2) (eUn zog (zae (.int 1)))))))
  sNx)
noncomputable def zcw:List S2.D->Sto->Out S2.D:=zcS 4 false zcI
noncomputable def zcd:Fs :=
  (zak (sFz [0,1] (zbG (eOr (zai zo8 (zam 1) (zae .non)) (eFn zaX [(zad 0),(zad 1)]))))
  sNx)
noncomputable def zbv:List S2.D->Sto->Out S2.D:=zcS 2 false zcd
noncomputable def zaR:Fs :=
  (zak (sFz [0,1] (sIf (eUn zft (eFn zaT [(zad 0),(zad 1)])) (zak (sFz [] (sRz "NoPlace" [(zae (.str "there is no such place"))])) sNx) sNx))
  sNx)
noncomputable def zaj:List S2.D->Sto->Out S2.D:=zcS 2 false zaR
noncomputable def zb0:Fs :=
  (zak (sFz [] (zbf 3 false (zai ixD (zam 0) (zai ixD (zam 1) (zae (.int 0))))))
  (zak (sFz [2] (zbf 4 false (zai zdG (zai zdG (eSl (zam 3) none (some (zai ixD (zam 1) (zae (.int 1))))) (zem [(zad 2)])) (eSl (zam 3) (some (zai zdG (zai ixD (zam 1) (zae (.int 1))) (zae (.int 1)))) none))))
  (zak (sFz [4] (zbG (zai zdG (zai zdG (eSl (zam 0) none (some (zai ixD (zam 1) (zae (.int 0))))) (zem [(zad 4)])) (eSl (zam 0) (some (zai zdG (zai ixD (zam 1) (zae (.int 0))) (zae (.int 1)))) none))))
  sNx)))
noncomputable def zbl:List S2.D->Sto->Out S2.D:=zcS 5 false zb0
noncomputable def zbZ:Fs :=
  (zak (sFz [1,2] (zmx (eFn zaj [(zad 1),(zad 2)])))
  (zak (sFz [0,3] (sIf (eUn zft (eFn zbv [(zad 0),(zad 3)])) (zak (sFz [] (sRz "NoTile" [(zae (.str "the set has no such number"))])) sNx) sNx))
  (zak (sFz [1,2,3] (zbG (eFn zbl [(zad 1),(zad 2),(zad 3)])))
  sNx)))
noncomputable def zaz:List S2.D->Sto->Out S2.D:=zcS 4 false zbZ
noncomputable def zd7:Fs :=
  (zak (sFz [0,1] (zmx (eFn zaj [(zad 0),(zad 1)])))
  (zak (sFz [0,1] (zbG (eFn zaS [(zad 0),(zad 1)])))
  sNx))
noncomputable def zbu:List S2.D->Sto->Out S2.D:=zcS 2 false zd7
end S2
namespace S2
open PySem
open L2 hiding D
noncomputable def Fo.seq(b:Fs):Fo->Fo | .nx ρ' S'=>b ρ' S' | o=>o
noncomputable def zr6(a b:Fs)(ρ:Env):Out D->Fo | .ok d S'=>(match isB d with | some true=>a ρ S' | some false=>b ρ S' | none=>.bad) | .exc x S'=>.ex x ρ S' | .bad=>.bad
noncomputable def ztC(i:Nat)(o:Bool)(ρ:Env):Out D->Fo | .ok d S'=>.nx (ρ.set i (some (o,d))) S' | .exc c S'=>.ex c ρ S' | .bad=>.bad
noncomputable def ztA(ρ:Env):Out D->Fo | .ok _ S'=>.nx ρ S' | .exc c S'=>.ex c ρ S' | .bad=>.bad
noncomputable def ztw(ρ:Env):Out D->Fo | .ok d S'=>.rt d S' | .exc c S'=>.ex c ρ S' | .bad=>.bad
noncomputable def zra(S:Sto):Option (Option (Bool×D))->Fo | some (some (true,d))=>.rt d S | _=>.bad
noncomputable def zlM(i:Nat)(ρ:Env)(l:List D):Out D->Fo
 | .ok d S'=>if zaM l.length then .nx (ρ.set i (some (true,.lst (l++[d])))) S' else .bad
 | .exc c S'=>.ex c ρ S' | .bad=>.bad
noncomputable def zv5(i:Nat)(f:Fe)(ρ:Env)(S:Sto):Option (Option (Bool×D))->Fo | some (some (true,.lst l))=>zlM i ρ l (f ρ S) | _=>.bad
noncomputable def zor(i:Nat)(ρ:Env)(l:List D):Out D->Fo
 | .ok (.lst k) S'=>if zaM (l.length+k.length) then .nx (ρ.set i (some (true,.lst (l++k)))) S' else .bad
 | .ok _ _=>.bad
 | .exc c S'=>.ex c ρ S' | .bad=>.bad
noncomputable def zv2(i:Nat)(f:Fe)(ρ:Env)(S:Sto):Option (Option (Bool×D))->Fo | some (some (true,.lst l))=>zor i ρ l (f ρ S) | _=>.bad
noncomputable def zty(S:Sto):Option (Option (Bool×D))->Out (List D) | some (some (_,.lst l))=>.ok l S | _=>.bad
noncomputable def ztx(S:Sto):Option Env->Fo | some ρ'=>.nx ρ' S | none=>.bad
noncomputable def zov(t:Tg)(ρ:Env):Out D->Fo | .ok d S'=>ztx S' (t.put ρ d) | .exc c S'=>.ex c ρ S' | .bad=>.bad
noncomputable def ztz(t:Tg)(a:Fs)(ρ:Env):Out (List D)->Fo | .ok ds S'=>zcC t a ds ρ S' | .exc c S'=>.ex c ρ S' | .bad=>.bad
noncomputable def zvU(S:Sto):Option (Option (Bool×D))->Out D | some (some (false,d))=>.ok d S | _=>.bad
noncomputable def zv4(S:Sto):Option (Option (Bool×D))->Out D | some (some (_,d))=>.ok d S | _=>.bad
noncomputable def kUn(u:D->Option D):Out D->Out D | .ok a S=>Out.of (u a) S | .exc c S=>.exc c S | .bad=>.bad
noncomputable def zjI(u:D->D->Option D)(a:D):Out D->Out D | .ok b S=>Out.of (u a b) S | .exc c S=>.exc c S | .bad=>.bad
noncomputable def ztB(u:D->D->Option D)(g:Fe)(ρ:Env):Out D->Out D | .ok a S=>zjI u a (g ρ S) | .exc c S=>.exc c S | .bad=>.bad
noncomputable def kIf(f g:Fe)(ρ:Env):Out D->Out D | .ok d S1=>(match isB d with | some true=>f ρ S1 | some false=>g ρ S1 | none=>.bad) | .exc c S=>.exc c S | .bad=>.bad
noncomputable def ztD(g:Fe)(ρ:Env):Out D->Out D | .ok d S1=>(match isB d with | some true=>g ρ S1 | some false=>.ok (.bl false) S1 | none=>.bad) | .exc c S=>.exc c S | .bad=>.bad
noncomputable def kOr(g:Fe)(ρ:Env):Out D->Out D | .ok d S1=>(match isB d with | some true=>.ok (.bl true) S1 | some false=>g ρ S1 | none=>.bad) | .exc c S=>.exc c S | .bad=>.bad
noncomputable def zf2(d:D):Out (List D)->Out (List D) | .ok ds S=>.ok (d::ds) S | .exc c S=>.exc c S | .bad=>.bad
noncomputable def zos(fs:List Fe)(ρ:Env):Out D->Out (List D) | .ok d S=>zf2 d (zag fs ρ S) | .exc c S=>.exc c S | .bad=>.bad
noncomputable def zvV:Out (List D)->Out D | .ok ds S=>if zaM ds.length then .ok (.tup ds) S else .bad | .exc c S=>.exc c S | .bad=>.bad
noncomputable def zvY:Out (List D)->Out D | .ok ds S=>if zaM ds.length then .ok (.lst ds) S else .bad | .exc c S=>.exc c S | .bad=>.bad
noncomputable def zou(u:List D->Option D):Out (List D)->Out D | .ok ds S=>Out.of (u ds) S | .exc c S=>.exc c S | .bad=>.bad
noncomputable def kFn(r:List D->Sto->Out D):Out (List D)->Out D | .ok ds S=>r ds S | .exc c S=>.exc c S | .bad=>.bad
noncomputable def zd0(v:D->D->Option D)(b:D):Out D->Out D | .ok c S=>Out.of (v b c) S | .exc c S=>.exc c S | .bad=>.bad
noncomputable def zdZ(v:D->D->Option D)(h:Fe)(ρ:Env)(b:D)(S:Sto):Option D->Out D | some d=>(match isB d with | some true=>zd0 v b (h ρ S) | some false=>.ok (.bl false) S | none=>.bad) | none=>.bad
noncomputable def zfd(u v:D->D->Option D)(h:Fe)(ρ:Env)(a:D):Out D->Out D | .ok b S=>zdZ v h ρ b S (u a b) | .exc c S=>.exc c S | .bad=>.bad
noncomputable def zmM(u v:D->D->Option D)(g h:Fe)(ρ:Env):Out D->Out D | .ok a S=>zfd u v h ρ a (g ρ S) | .exc c S=>.exc c S | .bad=>.bad
noncomputable def zvZ:Out D->Out (Option Int) | .ok (.int i) S=>.ok (some i) S | .ok _ _=>.bad | .exc c S=>.exc c S | .bad=>.bad
noncomputable def zr1(d:D)(l:Option Int):Out (Option Int)->Out D | .ok u S=>Out.of (slD d l u) S | .exc c S=>.exc c S | .bad=>.bad
noncomputable def zr2(d:D)(u:Option Fe)(ρ:Env):Out (Option Int)->Out D | .ok l S=>zr1 d l (zb8 u ρ S) | .exc c S=>.exc c S | .bad=>.bad
noncomputable def kSl(l u:Option Fe)(ρ:Env):Out D->Out D | .ok d S=>zr2 d u ρ (zb8 l ρ S) | .exc c S=>.exc c S | .bad=>.bad
noncomputable def zhw:Out D->Out (List D) | .ok (.lst l) S=>.ok l S | .ok (.tup l) S=>.ok l S | .ok _ _=>.bad | .exc c S=>.exc c S | .bad=>.bad
noncomputable def zq7:Out (List D)->Out (List D) | .ok ds S1=>(match ds with | [x,y]=>(match zpV x,zpV y with | some l,some k=>.ok (zfr l k) S1 | _,_=>.bad) | _=>.bad) | .exc c S=>.exc c S | .bad=>.bad
noncomputable def zq9:Out (List D)->Out (List D) | .ok ds S1=>(match ds with | [.int j]=>if -1000000<=j/\j<=1000000 then .ok (zaW 0 j) S1 else .bad | _=>.bad) | .exc c S=>.exc c S | .bad=>.bad
noncomputable def zq8:Out (List D)->Out (List D) | .ok ds S1=>(match ds with | [.int i,.int j]=>if (-1000000<=i/\i<=1000000)/\-1000000<=j/\j<=1000000 then .ok (zaW i j) S1 else .bad | _=>.bad) | .exc c S=>.exc c S | .bad=>.bad
noncomputable def zjH:Out (List D)->Out D | .ok ys S2=>if zaM ys.length then .ok (.lst ys) S2 else .bad | _=>.bad
noncomputable def zot(tg:Tg)(c elt:Fe)(ρ0:Env):Out (List D)->Out D | .ok ds S1=>zjH (zbi tg c elt ρ0 ds S1) | .exc c S=>.exc c S | .bad=>.bad
noncomputable def zv3:Option (Option (Bool×D))->Option (Bool×D) | some (some (false,d))=>some (false,d) | _=>none
noncomputable def zr7(ρ:Env)(i:Nat):Option (Option (Bool×D))->Env | some (some (true,d))=>ρ.set i (some (false,d)) | _=>ρ
noncomputable def zr3(own:Bool):Fo->Out D | .rt d S'=>.ok d S' | .nx _ S'=>if own then .bad else .ok .non S' | .ex c _ S'=>.exc c S' | _=>.bad
noncomputable def kRz(c:Str)(ρ:Env):Out (List D)->Fo | .ok ds S'=>if zaM ds.length then .ex c ρ S' else .bad | .exc x S'=>.ex x ρ S' | .bad=>.bad
noncomputable def zr4(u:List D->D->Option D)(l:List D):Out D->Out D | .ok d S=>Out.of (u l d) S | .exc c S=>.exc c S | .bad=>.bad
noncomputable def kMt(u:List D->D->Option D)(f:Fe)(ρ:Env)(S:Sto):Option (Option (Bool×D))->Out D | some (some (_,.lst l))=>zr4 u l (f ρ S) | _=>.bad
section
variable{ρ:Env}{S:Sto}{f g h k c:Fe}{a b:Fs}
@[simp] def zwG{u:List D->D->Option D}{i:Nat}:eMt u i f ρ S=kMt u f ρ S ρ[i]?:=by
 show (match ρ[i]? with | some (some (_,.lst l))=>(f ρ S).bind fun d S1=>Out.of (u l d) S1 | _=>.bad)=_
 cases ρ[i]? with
 | none=>rfl
 | some o=>cases o with
  | none=>rfl
  | some p =>
   obtain ⟨b,d⟩:=p
   cases d with
   | lst l=>show ((f ρ S).bind fun d S1=>Out.of (u l d) S1)=zr4 u l (f ρ S);cases f ρ S<;>rfl
   | _=>rfl
@[simp] def zx6{u:List D->D->Option D}{o:Bool}{l:List D}:kMt u f ρ S (some (some (o,.lst l)))=zr4 u l (f ρ S):=(rfl)
@[simp] def zxl{u:List D->D->Option D}{l:List D}{d:D}:zr4 u l (.ok d S)=Out.of (u l d) S:=(rfl)
@[simp] def zug:zak a b ρ S=(a ρ S).seq b:=by
 show (match a ρ S with | .nx ρ' S'=>b ρ' S' | o=>o)=_
 cases a ρ S<;>rfl
@[simp] def zvm:(Fo.nx ρ S).seq b=b ρ S:=(rfl)
@[simp] def zvl{d:D}:(Fo.rt d S).seq b=.rt d S:=(rfl)
@[simp] def zvk:(Fo.bk ρ S).seq b=.bk ρ S:=(rfl)
@[simp] def zvj:(Fo.ct ρ S).seq b=.ct ρ S:=(rfl)
@[simp] def zvi{x:Str}:(Fo.ex x ρ S).seq b=.ex x ρ S:=(rfl)
@[simp] def zvh:Fo.bad.seq b=.bad:=(rfl)
def zgu{i:Nat}{o:Bool}{ps:List ST.IP}(h:ρ[i]?=some (some (o,zdt ps))):zeV i ρ=some (o,ps):=by
 unfold zeV;rw [h];show (psX (pdD ps)).map _=_;rw [zho];rfl
def zhf{i:Nat}{p:ST.IP}(h:ρ[i]?=some (some (false,pD p))):zdL i ρ=some p:=by
 unfold zdL;rw [h];rfl
def zoL{i:Nat}{p:ST.IP}(h:ρ[i]?=some (some (false,pD p))):zeb i ρ S=.ok (zdt [p]) S:=by
 unfold zeb;rw [zhf h]
def zqS{i:Nat}{o:Bool}{ps:List ST.IP}{p:ST.IP}{S1:Sto}(h:ρ[i]?=some (some (o,zdt ps)))(hf:f ρ S=.ok (pD p) S1):zf8 i f ρ S=.ok (.bl (!decide (p∈ps))) S1:=by
 unfold zf8;rw [zgu h];dsimp only;rw [hf];rfl
def zqg{i j:Nat}{ps:List ST.IP}{p:ST.IP}(h:ρ[i]?=some (some (true,zdt ps)))(hj:ρ[j]?=some (some (false,pD p)))(hn:p ∉ ps)(hl:ps.length<=100000):zhW i j ρ S=.nx (ρ.set i (some (true,zdt (ps++[p])))) S:=by
 unfold zhW;rw [zgu h,zhf hj];dsimp only;rw [if_pos ⟨hn,hl⟩]
def zpN{i:Nat}{o:Bool}{ps:List ST.IP}(h:ρ[i]?=some (some (o,zdt ps)))(hk:zdC ps=true):zif i ρ S=.ok (.lst ((zbd ps).map pD)) S:=by
 unfold zif;rw [zgu h];dsimp only;rw [hk,if_pos rfl]
def ziD{ps:List ST.IP}(hk:zdC ps=true):zeT (.lst (ps.map pD))=some (.lst ((zbd ps).map pD)):=by
 show (prs (ps.map pD)).bind _=_;rw [zi4];show (if _ then _ else _)=_;rw [hk,if_pos rfl]
def zs5{i j:Nat}{l:List D}{d:D}(h:ρ[j]?=some (some (true,.lst (l++[d])))):zo6 i j ρ S=.nx ((ρ.set j (some (true,.lst l))).set i (some (false,d))) S:=by
 unfold zo6;rw [h];dsimp only;rw [List.getLast?_concat,List.dropLast_concat]
@[simp] def zww{i:Nat}:zcf i ρ S=zty S ρ[i]?:=by
 unfold zcf ziG zty
 cases ρ[i]? with
 | none=>rfl
 | some o =>
  cases o with
  | none=>rfl
  | some p =>
   obtain ⟨b,d⟩:=p
   cases d<;>rfl
@[simp] def zxo{o:Bool}{l:List D}:zty S (some (some (o,.lst l)))=.ok l S:=(rfl)
@[simp] def zwm{is:List Nat}:sFz is a ρ S=a (frz is ρ) S:=(rfl)
@[simp] def zuG:frz [] ρ=ρ:=(rfl)
@[simp] def zuF{i:Nat}{is:List Nat}:frz (i::is) ρ=frz is (frz1 ρ i):=(rfl)
@[simp] def zwB(i:Nat):frz1 ρ i=zr7 ρ i ρ[i]?:=(rfl)
@[simp] def zvD{i:Nat}{d:D}:zr7 ρ i (some (some (true,d)))=ρ.set i (some (false,d)):=(rfl)
@[simp] def zvC{i:Nat}{d:D}:zr7 ρ i (some (some (false,d)))=ρ:=(rfl)
@[simp] def zvB{i:Nat}:zr7 ρ i (some none)=ρ:=(rfl)
@[simp] def zwk:sNx ρ S=.nx ρ S:=(rfl)
@[simp] def zwn:sBk ρ S=.bk ρ S:=(rfl)
@[simp] def zul{i:Nat}{o:Bool}:zbf i o f ρ S=ztC i o ρ (f ρ S):=(rfl)
@[simp] def zvP{i:Nat}{o:Bool}{d:D}:ztC i o ρ (.ok d S)=.nx (ρ.set i (some (o,d))) S:=(rfl)
@[simp] def zvO{i:Nat}{o:Bool}{x:Str}:ztC i o ρ (.exc x S)=.ex x ρ S:=(rfl)
@[simp] def zuk:zmx f ρ S=ztA ρ (f ρ S):=(rfl)
@[simp] def zvH{d:D}:ztA ρ (.ok d S)=.nx ρ S:=(rfl)
@[simp] def zvG{x:Str}:ztA ρ (.exc x S)=.ex x ρ S:=(rfl)
@[simp] def zuh:zbG f ρ S=ztw ρ (f ρ S):=(rfl)
@[simp] def zvu{d:D}:ztw ρ (.ok d S)=.rt d S:=(rfl)
@[simp] def zvt{x:Str}:ztw ρ (.exc x S)=.ex x ρ S:=(rfl)
@[simp] def zsp:zkX ρ S=.rt .non S:=(rfl)
@[simp] def zso{i:Nat}:ziO i ρ S=zra S ρ[i]?:=(rfl)
@[simp] def zvs{d:D}:zra S (some (some (true,d)))=.rt d S:=(rfl)
@[simp] def zwl:sIf c a b ρ S=zr6 a b ρ (c ρ S):=(rfl)
@[simp] def zvA:zr6 a b ρ (.ok (.bl true) S)=a ρ S:=(rfl)
@[simp] def zvz:zr6 a b ρ (.ok (.bl false) S)=b ρ S:=(rfl)
@[simp] def zvy{x:Str}:zr6 a b ρ (.exc x S)=.ex x ρ S:=(rfl)
@[simp] def zum{i:Nat}:zkY i f ρ S=zv5 i f ρ S ρ[i]?:=(rfl)
@[simp] def zxH{i:Nat}{l:List D}:zv5 i f ρ S (some (some (true,.lst l)))=zlM i ρ l (f ρ S):=(rfl)
@[simp] def zvR{i:Nat}{l:List D}{d:D}:zlM i ρ l (.ok d S)=if zaM l.length then .nx (ρ.set i (some (true,.lst (l++[d])))) S else .bad:=(rfl)
@[simp] def zvQ{i:Nat}{l:List D}{x:Str}:zlM i ρ l (.exc x S)=.ex x ρ S:=(rfl)
@[simp] def zuj{i:Nat}:zo7 i f ρ S=zv2 i f ρ S ρ[i]?:=(rfl)
@[simp] def zxz{i:Nat}{l:List D}:zv2 i f ρ S (some (some (true,.lst l)))=zor i ρ l (f ρ S):=(rfl)
@[simp] def zvF{i:Nat}{l k:List D}:zor i ρ l (.ok (.lst k) S)=if zaM (l.length+k.length) then .nx (ρ.set i (some (true,.lst (l++k)))) S else .bad:=(rfl)
@[simp] def zss{t:Tg}:zhX t f ρ S=zov t ρ (f ρ S):=by
 unfold zhX zov
 cases f ρ S with
 | ok d S'=>dsimp only;cases t.put ρ d<;>rfl
 | exc c S'=>rfl
 | bad=>rfl
@[simp] def zvN{t:Tg}{d:D}:zov t ρ (.ok d S)=ztx S (t.put ρ d):=(rfl)
@[simp] def zxh{ρ':Env}:ztx S (some ρ')=.nx ρ' S:=(rfl)
@[simp] def zui{t:Tg}{it:Fi}:zhi t it a ρ S=ztz t a ρ (it ρ S):=(rfl)
@[simp] def zxv{t:Tg}{ds:List D}:ztz t a ρ (.ok ds S)=zcC t a ds ρ S:=(rfl)
@[simp] def zwj{x:Str}{fs:List Fe}:sRz x fs ρ S=kRz x ρ (zag fs ρ S):=(rfl)
@[simp] def zx5{x:Str}{ds:List D}:kRz x ρ (.ok ds S)=if zaM ds.length then .ex x ρ S else .bad:=(rfl)
@[simp] def zus{i:Nat}{d:D}:(Tg.one i).put ρ d=some (ρ.set i (some (false,d))):=(rfl)
@[simp] def zup{is:List Nat}{ds:List D}:(Tg.tup is).put ρ (.tup ds)=zdn is ds ρ:=(rfl)
@[simp] def zur{i:Nat}{is:List Nat}{d:D}{ds:List D}:zdn (i::is) (d::ds) ρ=zdn is ds (ρ.set i (some (false,d))):=(rfl)
@[simp] def zuq:zdn [] [] ρ=some ρ:=(rfl)
@[simp] def zuH{i:Nat}:zad i ρ S=zvU S ρ[i]?:=(rfl)
@[simp] def zxa{d:D}:zvU S (some (some (false,d)))=.ok d S:=(rfl)
@[simp] def zuO{i:Nat}:zam i ρ S=zv4 S ρ[i]?:=(rfl)
@[simp] def zxG{o:Bool}{d:D}:zv4 S (some (some (o,d)))=.ok d S:=(rfl)
@[simp] def zuN{d:D}:zae d ρ S=.ok d S:=(rfl)
@[simp] def zwD{u:D->Option D}:eUn u f ρ S=kUn u (f ρ S):=by
 unfold eUn;cases f ρ S<;>rfl
@[simp] def zxc{u:D->Option D}{d:D}:kUn u (.ok d S)=Out.of (u d) S:=(rfl)
@[simp] def zxb{u:D->Option D}{x:Str}:kUn u (.exc x S)=.exc x S:=(rfl)
@[simp] def zuP{u:D->D->Option D}:zai u f g ρ S=ztB u g ρ (f ρ S):=by
 unfold zai
 cases f ρ S with
 | ok a S1=>show ((g ρ S1).bind fun b S2=>Out.of (u a b) S2)=zjI u a (g ρ S1);cases g ρ S1<;>rfl
 | exc c S=>rfl
 | bad=>rfl
@[simp] def zvM{u:D->D->Option D}{d:D}:ztB u g ρ (.ok d S)=zjI u d (g ρ S):=(rfl)
@[simp] def zvL{u:D->D->Option D}{x:Str}:ztB u g ρ (.exc x S)=.exc x S:=(rfl)
@[simp] def zvK{u:D->D->Option D}{d e:D}:zjI u d (.ok e S)=Out.of (u d e) S:=(rfl)
@[simp] def zvJ{u:D->D->Option D}{d:D}{x:Str}:zjI u d (.exc x S)=.exc x S:=(rfl)
@[simp] def zwI:eIf c f g ρ S=kIf f g ρ (c ρ S):=by
 unfold eIf;cases c ρ S<;>rfl
@[simp] def zxt:kIf f g ρ (.ok (.bl true) S)=f ρ S:=(rfl)
@[simp] def zxs:kIf f g ρ (.ok (.bl false) S)=g ρ S:=(rfl)
@[simp] def zuQ:zfu f g ρ S=ztD g ρ (f ρ S):=by
 unfold zfu;cases f ρ S<;>rfl
@[simp] def zvT:ztD g ρ (.ok (.bl true) S)=g ρ S:=(rfl)
@[simp] def zvS:ztD g ρ (.ok (.bl false) S)=.ok (.bl false) S:=(rfl)
@[simp] def zwF:eOr f g ρ S=kOr g ρ (f ρ S):=by
 unfold eOr;cases f ρ S<;>rfl
@[simp] def zxj:kOr g ρ (.ok (.bl true) S)=.ok (.bl true) S:=(rfl)
@[simp] def zxi:kOr g ρ (.ok (.bl false) S)=g ρ S:=(rfl)
@[simp] def zsu:zag [] ρ S=.ok [] S:=(rfl)
@[simp] def zsv{fs:List Fe}:zag (f::fs) ρ S=zos fs ρ (f ρ S):=by
 show ((f ρ S).bind fun d S1=>(zag fs ρ S1).bind fun ds S2=>.ok (d::ds) S2)=_
 cases f ρ S with
 | ok a S1=>show ((zag fs ρ S1).bind fun ds S2=>.ok (a::ds) S2)=zf2 a (zag fs ρ S1);cases zag fs ρ S1<;>rfl
 | exc c S=>rfl
 | bad=>rfl
@[simp] def ztq{fs:List Fe}{d:D}:zos fs ρ (.ok d S)=zf2 d (zag fs ρ S):=(rfl)
@[simp] def ztp{fs:List Fe}{x:Str}:zos fs ρ (.exc x S)=.exc x S:=(rfl)
@[simp] def zto{d:D}{ds:List D}:zf2 d (.ok ds S)=.ok (d::ds) S:=(rfl)
@[simp] def ztn{d:D}{x:Str}:zf2 d (.exc x S)=.exc x S:=(rfl)
@[simp] def zuI{fs:List Fe}:zem fs ρ S=zvV (zag fs ρ S):=by
 unfold zem;cases zag fs ρ S<;>rfl
@[simp] def zxd{ds:List D}:zvV (.ok ds S)=if zaM ds.length then .ok (.tup ds) S else .bad:=(rfl)
@[simp] def zuK{fs:List Fe}:zeg fs ρ S=zvY (zag fs ρ S):=by
 unfold zeg;cases zag fs ρ S<;>rfl
@[simp] def zxn{ds:List D}:zvY (.ok ds S)=if zaM ds.length then .ok (.lst ds) S else .bad:=(rfl)
@[simp] def zsx{u:List D->Option D}{fs:List Fe}:zaO u fs ρ S=zou u (zag fs ρ S):=by
 unfold zaO;cases zag fs ρ S<;>rfl
@[simp] def ztt{u:List D->Option D}{ds:List D}:zou u (.ok ds S)=Out.of (u ds) S:=(rfl)
@[simp] def zts{u:List D->Option D}{x:Str}:zou u (.exc x S)=.exc x S:=(rfl)
@[simp] def zwJ{r:List D->Sto->Out D}{fs:List Fe}:eFn r fs ρ S=kFn r (zag fs ρ S):=by
 unfold eFn;cases zag fs ρ S<;>rfl
@[simp] def zxx{r:List D->Sto->Out D}{ds:List D}:kFn r (.ok ds S)=r ds S:=(rfl)
@[simp] def zxw{r:List D->Sto->Out D}{x:Str}:kFn r (.exc x S)=.exc x S:=(rfl)
@[simp] def zrV{u v:D->D->Option D}:zb7 u v f g h ρ S=zmM u v g h ρ (f ρ S):=by
 show ((f ρ S).bind fun a S1=>(g ρ S1).bind fun b S2=>match (u a b).bind isB with
  | some true=>(h ρ S2).bind fun c S3=>Out.of (v b c) S3
  | some false=>.ok (.bl false) S2
  | none=>.bad)=_
 cases f ρ S with
 | ok a S1 =>
  show ((g ρ S1).bind fun b S2=>match (u a b).bind isB with
   | some true=>(h ρ S2).bind fun c S3=>Out.of (v b c) S3
   | some false=>.ok (.bl false) S2
   | none=>.bad)=zfd u v h ρ a (g ρ S1)
  cases g ρ S1 with
  | ok b S2 =>
   show (match (u a b).bind isB with
    | some true=>(h ρ S2).bind fun c S3=>Out.of (v b c) S3
    | some false=>.ok (.bl false) S2
    | none=>.bad)=zdZ v h ρ b S2 (u a b)
   cases hu:u a b with
   | none=>rfl
   | some d =>
    show (match isB d with
     | some true=>(h ρ S2).bind fun c S3=>Out.of (v b c) S3
     | some false=>.ok (.bl false) S2
     | none=>.bad)=(match isB d with | some true=>zd0 v b (h ρ S2) | some false=>.ok (.bl false) S2 | none=>.bad)
    cases hb:isB d with
    | none=>rfl
    | some x=>cases x with
     | true=>show ((h ρ S2).bind fun c S3=>Out.of (v b c) S3)=zd0 v b (h ρ S2);cases h ρ S2<;>rfl
     | false=>rfl
  | exc c S=>rfl
  | bad=>rfl
 | exc c S=>rfl
 | bad=>rfl
@[simp] def zxE{u v:D->D->Option D}{d:D}:zmM u v g h ρ (.ok d S)=zfd u v h ρ d (g ρ S):=(rfl)
@[simp] def zxD{u v:D->D->Option D}{d e:D}:zfd u v h ρ d (.ok e S)=zdZ v h ρ e S (u d e):=(rfl)
@[simp] def zxC{v:D->D->Option D}{e:D}:zdZ v h ρ e S (some (.bl true))=zd0 v e (h ρ S):=(rfl)
@[simp] def zxB{v:D->D->Option D}{e:D}:zdZ v h ρ e S (some (.bl false))=.ok (.bl false) S:=(rfl)
@[simp] def zxA{v:D->D->Option D}{d e:D}:zd0 v e (.ok d S)=Out.of (v e d) S:=(rfl)
@[simp] def zrU:zb8 none ρ S=.ok none S:=(rfl)
@[simp] def zrT:zb8 (some f) ρ S=zvZ (f ρ S):=by
 show ((f ρ S).bind fun d S1=>match d with | .int i=>.ok (some i) S1 | _=>.bad)=_
 cases f ρ S with
 | ok d S'=>cases d<;>rfl
 | exc c S'=>rfl
 | bad=>rfl
@[simp] def zxr{i:Int}:zvZ (.ok (.int i) S)=.ok (some i) S:=(rfl)
@[simp] def zwE{l u:Option Fe}:eSl f l u ρ S=kSl l u ρ (f ρ S):=by
 unfold eSl
 cases f ρ S with
 | ok d S1 =>
  show ((zb8 l ρ S1).bind fun l S2=>(zb8 u ρ S2).bind fun u S3=>Out.of (slD d l u) S3)=zr2 d u ρ (zb8 l ρ S1)
  cases zb8 l ρ S1 with
  | ok l S2=>show ((zb8 u ρ S2).bind fun u S3=>Out.of (slD d l u) S3)=zr1 d l (zb8 u ρ S2);cases zb8 u ρ S2<;>rfl
  | exc c S=>rfl
  | bad=>rfl
 | exc c S=>rfl
 | bad=>rfl
@[simp] def zx4{l u:Option Fe}{d:D}:kSl l u ρ (.ok d S)=zr2 d u ρ (zb8 l ρ S):=(rfl)
@[simp] def zxf{u:Option Fe}{d:D}{l:Option Int}:zr2 d u ρ (.ok l S)=zr1 d l (zb8 u ρ S):=(rfl)
@[simp] def zxe{d:D}{l u:Option Int}:zr1 d l (.ok u S)=Out.of (slD d l u) S:=(rfl)
@[simp] def zst:za5 f ρ S=zhw (f ρ S):=by
 show ((f ρ S).bind fun d S1=>match d with | .lst l=>.ok l S1 | .tup l=>.ok l S1 | _=>.bad)=_
 cases f ρ S with
 | ok d S'=>cases d<;>rfl
 | exc c S'=>rfl
 | bad=>rfl
@[simp] def zxq{l:List D}:zhw (.ok (.lst l) S)=.ok l S:=(rfl)
@[simp] def zxp{l:List D}:zhw (.ok (.tup l) S)=.ok l S:=(rfl)
@[simp] def zwe:zrx f g ρ S=zq7 (zag [f,g] ρ S):=by
 unfold zrx;cases zag [f,g] ρ S<;>rfl
@[simp] def zvd{l k:List D}:zq7 (.ok [.tup l,.tup k] S)=.ok (zfr l k) S:=(rfl)
@[simp] def zvc{l k:List D}:zq7 (.ok [.lst l,.tup k] S)=.ok (zfr l k) S:=(rfl)
@[simp] def zvb{l k:List D}:zq7 (.ok [.tup l,.lst k] S)=.ok (zfr l k) S:=(rfl)
@[simp] def zva{l k:List D}:zq7 (.ok [.lst l,.lst k] S)=.ok (zfr l k) S:=(rfl)
@[simp] def zuo:zfk f ρ S=zq9 (zag [f] ρ S):=by
 unfold zfk;cases zag [f] ρ S<;>rfl
@[simp] def zvr{j:Int}:zq9 (.ok [.int j] S)=if -1000000<=j/\j<=1000000 then .ok (zaW 0 j) S else .bad:=(rfl)
@[simp] def zun:zj3 f g ρ S=zq8 (zag [f,g] ρ S):=by
 unfold zj3;cases zag [f,g] ρ S<;>rfl
@[simp] def zvq{i j:Int}:zq8 (.ok [.int i,.int j] S)=if (-1000000<=i/\i<=1000000)/\-1000000<=j/\j<=1000000 then .ok (zaW i j) S else .bad:=(rfl)
@[simp] def zuR{n:Nat}{t:Tg}{it:Fi}{caps:List Nat}:zdi n t it c f caps ρ S=zot t c f (zbh n caps ρ) (it ρ S):=by
 unfold zdi
 cases it ρ S with
 | ok ds S' =>
  simp only [Out.bind,zot]
  cases zbi t c f (zbh n caps ρ) ds S'<;>rfl
 | exc c S'=>rfl
 | bad=>rfl
@[simp] def zvI{t:Tg}{ρ0:Env}{ds:List D}:zot t c f ρ0 (.ok ds S)=zjH (zbi t c f ρ0 ds S):=(rfl)
@[simp] def ztr{ys:List D}:zjH (.ok ys S)=if zaM ys.length then .ok (.lst ys) S else .bad:=(rfl)
@[simp] def zwf:zj2 ρ S=.ok (.bl true) S:=(rfl)
@[simp] def zpf{n:Nat}{caps:List Nat}:zbh n caps ρ=List.replicate n none++caps.map (zrG ρ):=(rfl)
@[simp] def zuS{i:Nat}:zrG ρ i=zv3 ρ[i]?:=(rfl)
@[simp] def zxF{d:D}:zv3 (some (some (false,d)))=some (false,d):=(rfl)
def zas{n:Nat}{own:Bool}{fs:Fs}{ds:List D}:zcS n own fs ds S=zr3 own (fs (ds.map (fun d=>some (false,d))++List.replicate (n-ds.length) none) S):=(rfl)
@[simp] def zvp{own:Bool}{d:D}:zr3 own (.rt d S)=.ok d S:=(rfl)
@[simp] def zvo:zr3 false (.nx ρ S)=.ok .non S:=(rfl)
@[simp] def zvn{own:Bool}{x:Str}:zr3 own (.ex x ρ S)=.exc x S:=(rfl)
@[simp] def zwA{b:Bool}:isB (.bl b)=some b:=(rfl)
@[simp] def zwo{b:Bool}:zft (.bl b)=some (.bl (!b)):=(rfl)
@[simp] def zwp{i:Int}:zog (.int i)=some (.int (-i)):=(rfl)
@[simp] def zuV{i j:Int}:zdG (.int i) (.int j)=some (.int (i+j)):=(rfl)
@[simp] def zuT{x y:List D}:zdG (.tup x) (.tup y)=if zaM (x.length+y.length) then some (.tup (x++y)) else none:=(rfl)
@[simp] def zuU{x y:List D}:zdG (.lst x) (.lst y)=if zaM (x.length+y.length) then some (.lst (x++y)) else none:=(rfl)
@[simp] def zwg{i j:Int}:zkv (.int i) (.int j)=some (.int (i-j)):=(rfl)
@[simp] def zwr{i j:Int}:zkx (.int i) (.int j)=if zbE i||zbE j then some (.int (i*j)) else none:=(rfl)
@[simp] def zws{i j:Int}:zly (.int i) (.int j)=if 0<j then some (.int (i % j)) else none:=(rfl)
@[simp] def zwK{i j:Int}:zry (.int i) (.int j)=if 0<j/\j<1073741824 then some (.int (i / j)) else none:=(rfl)
@[simp] def zxZ{i j:Int}:ltD (.int i) (.int j)=some (.bl (decide (i<j))):=(rfl)
@[simp] def zx0{i j:Int}:leD (.int i) (.int j)=some (.bl (decide (i<=j))):=(rfl)
@[simp] def zx1{i j:Int}:gtD (.int i) (.int j)=some (.bl (decide (j<i))):=(rfl)
@[simp] def zx2{i j:Int}:geD (.int i) (.int j)=some (.bl (decide (j<=i))):=(rfl)
@[simp] def zwv{l:List D}{i:Int}:ixD (.lst l) (.int i)=atI l i:=(rfl)
@[simp] def zwt{l:List D}{i:Int}:ixD (.tup l) (.int i)=atI l i:=(rfl)
@[simp] def zwu{l:List Int}{i:Int}:ixD (.scr l) (.int i)=(atI l i).map D.int:=(rfl)
@[simp] def zuE{l:List D}:zeu [.lst l]=some (.int l.length):=(rfl)
@[simp] def zuC{l:List D}:zeu [.tup l]=some (.int l.length):=(rfl)
@[simp] def zuD{l:List Int}:zeu [.scr l]=some (.int l.length):=(rfl)
@[simp] def zue{l:List D}:zdJ [.lst l]=some (.tup l):=(rfl)
@[simp] def zud{l:List D}:zdJ [.tup l]=some (.tup l):=(rfl)
@[simp] def zwy{d:D}:zo8 d .non=some (.bl (zb9 d)):=(rfl)
@[simp] def zut{d:D}:zls d .non=some (.bl (!zb9 d)):=(rfl)
@[simp] def zuz:zb9 .non=true:=(rfl)
@[simp] def zuy{i:Int}:zb9 (.int i)=false:=(rfl)
@[simp] def zux{l:List D}:zb9 (.tup l)=false:=(rfl)
@[simp] def zwh{l:List D}{x y:Option Int}:slD (.tup l) x y=some (.tup (zeh l x y)):=(rfl)
@[simp] def zwi{l:List D}{x y:Option Int}:slD (.lst l) x y=some (.lst (zeh l x y)):=(rfl)
@[simp] def zuu{x y:Bool}:zlt (.bl x) (.bl y)=some (.bl (!decide (x=y))):=(rfl)
@[simp] def zuB{i j:Int}:ztl [.int i,.int j]=some (.int (if j<i then j else i)):=(rfl)
@[simp] def zsm{n:Nat}:zaM n=decide (n<=100000):=(rfl)
def zbr{α:Type}(xs:List α)(j:Nat):atI xs (j:Int)=xs[j]?:=by
 unfold atI ixN
 by_cases h:j<xs.length
 ·simp [h]
 ·simp [h]
@[simp] def zsg{α:Type}(xs:List α):atI xs 0=xs[0]?:=zbr xs 0
@[simp] def zt2{α:Type}(xs:List α):atI xs 1=xs[1]?:=zbr xs 1
@[simp] def zt1{α:Type}(xs:List α):atI xs 2=xs[2]?:=zbr xs 2
@[simp] def zrL{α:Type}(xs:List α):atI xs 3=xs[3]?:=zbr xs 3
def zhJ{α:Type}{xs:List α}{i:Int}(h:0<=i):atI xs i=xs[i.toNat]?:=by
 obtain ⟨n,rfl⟩:=ya2 h;exact zbr xs n
end
def zdE{tg:Tg}{body:Fs}{ds:List D}{S:Sto}(Iv:Nat->Env->Prop)(step:∀k d ρ,ds[k]?=some d->Iv k ρ->∃ρ1 ρ2,tg.put ρ d=some ρ1/\body ρ1 S=.nx ρ2 S/\Iv (k+1) ρ2){ρ:Env}(h0:Iv 0 ρ):∃ρ',zcC tg body ds ρ S=.nx ρ' S/\Iv ds.length ρ':=by
 have go:∀(n:Nat) (es:List D) (k:Nat) (ρ:Env),es.length=n->ds.drop k=es->k+n=ds.length->Iv k ρ->∃ρ',zcC tg body es ρ S=.nx ρ' S/\Iv ds.length ρ':=by
  intro n
  induction n with
  | zero =>
   intro es k ρ hl he hk hi;obtain rfl:es=[]:=List.eq_nil_of_length_eq_zero hl;exact ⟨ρ,rfl,by rw [show ds.length=k by omega];exact hi⟩
  | succ n ih =>
   intro es k ρ hl he hk hi
   cases es with
   | nil=>cases hl
   | cons d es =>
    have hd:ds[k]?=some d:=by
     have:=congrArg (fun l=>l[0]?) he;rw [yb6] at this;simpa using this
    obtain ⟨ρ1,ρ2,e1,e2,hi2⟩:=step k d ρ hd hi;obtain ⟨ρ',e3,e4⟩:=ih es (k+1) ρ2 (by simpa using hl) (by rw [<-List.drop_drop,he];rfl) (by omega) hi2;refine ⟨ρ',?_,e4⟩;unfold zcC;rw [e1];dsimp only;rw [e2];exact e3
 exact go ds.length ds 0 ρ rfl (by simp) (by omega) h0
theorem zbS{tg:Tg}{c elt:Fe}{ρ0:Env}{S:Sto}{g:D->D}{p:D->Bool}:∀{ds:List D},(∀d∈ds,∃ρ1,tg.put ρ0 d=some ρ1/\c ρ1 S=.ok (.bl (p d)) S/\(p d=true->elt ρ1 S=.ok (g d) S))->zbi tg c elt ρ0 ds S=.ok ((ds.filter p).map g) S
 | [],_=>rfl
 | d::ds,h=>by
  obtain ⟨ρ1,e1,e2,e3⟩:=h d yaB;have ih:=zbS (ds:=ds) fun x hx=>h x (yaA _ hx)
  unfold zbi;rw [e1];dsimp only;rw [e2]
  cases hp:p d with
  | true=>simp [e3 hp,ih,hp]
  | false=>simp [ih,hp]
def zkc{tg:Tg}{elt:Fe}{ρ0:Env}{S:Sto}{g:D->D}{ds:List D}(h:∀d∈ds,∃ρ1,tg.put ρ0 d=some ρ1/\elt ρ1 S=.ok (g d) S):zbi tg zj2 elt ρ0 ds S=.ok (ds.map g) S:=by
 have:=zbS (c:=zj2) (p:=fun _=>true) (tg:=tg) (elt:=elt) (ρ0:=ρ0) (S:=S) (g:=g) (ds:=ds) fun d hd=>by
  obtain ⟨ρ1,e1,e2⟩:=h d hd;exact ⟨ρ1,e1,rfl,fun _=>e2⟩
 rw [this,List.filter_eq_self.mpr (fun _ _=>rfl)]
mutual
noncomputable def D.pl:D->Bool
 | .non=>true
 | .int _=>true
 | .str _=>true
 | .tup l=>D.pls l
 | .lst l=>D.pls l
 | _=>false
noncomputable def D.pls:List D->Bool
 | []=>true
 | d::l=>d.pl&&D.pls l
end
theorem D.pls_iff:∀{l:List D},D.pls l=true↔∀d∈l,d.pl=true
 | []=>by simp [D.pls]
 | d::l=>by simp [D.pls,D.pls_iff (l:=l)]
mutual
theorem zf7:∀(d e:D),d.pl=true->e.pl=true->(d.py.eqv e.py=true↔d=e)
 | .non,e,_,h=>by cases e<;>simp [D.py,PyData.eqv,D.pl] at h ⊢
 | .int i,e,_,h=>by cases e<;>simp [D.py,PyData.eqv,D.pl] at h ⊢
 | .str x,e,_,h=>by cases e<;>simp [D.py,PyData.eqv,D.pl] at h ⊢
 | .tup l,e,hd,h=>by
  cases e with
  | tup k =>
   simp only [D.py,PyData.eqv,D.pl] at hd h ⊢;rw [zgQ l k hd h];simp
  | _=>simp [D.py,PyData.eqv,D.pl] at h ⊢
 | .lst l,e,hd,h=>by
  cases e with
  | lst k =>
   simp only [D.py,PyData.eqv,D.pl] at hd h ⊢;rw [zgQ l k hd h];simp
  | _=>simp [D.py,PyData.eqv,D.pl] at h ⊢
 | .bl _,_,hd,_=>by simp [D.pl] at hd
 | .dic _,_,hd,_=>by simp [D.pl] at hd
 | .ref _,_,hd,_=>by simp [D.pl] at hd
 | .exc _,_,hd,_=>by simp [D.pl] at hd
 | .scr _,_,hd,_=>by simp [D.pl] at hd
theorem zgQ:∀(l k:List D),D.pls l=true->D.pls k=true->(PyData.eqvAll (D.pys l) (D.pys k)=true↔l=k)
 | [],[],_,_=>by simp [D.pys,PyData.eqvAll]
 | [],_::_,_,_=>by simp [D.pys,PyData.eqvAll]
 | _::_,[],_,_=>by simp [D.pys,PyData.eqvAll]
 | d::l,e::k,h1,h2=>by
  simp only [D.pls,yab] at h1 h2;simp only [D.pys,PyData.eqvAll,yab,List.cons.injEq];rw [zf7 d e h1.1 h2.1,zgQ l k h1.2 h2.2]
end
end S2
namespace S2
open PySem
open L2 hiding D
@[simp] def ztT{n:Nat}{i:Int}:D.fit n (.int i)=true:=by cases n<;>rfl
@[simp] def ztR{n:Nat}:D.fit n .non=true:=by cases n<;>rfl
@[simp] def ztQ{n:Nat}{l:List D}:D.fit (n+1) (.tup l)=D.fits n l:=(rfl)
@[simp] def ztS{n:Nat}{l:List D}:D.fit (n+1) (.lst l)=D.fits n l:=(rfl)
@[simp] def zsa{n:Nat}:D.fits n []=true:=by cases n<;>rfl
@[simp] def zrr{n:Nat}{d:D}{l:List D}:D.fits n (d::l)=(d.fit n&&D.fits n l):=by cases n<;>rfl
@[simp] def zwC{i j:Int}:eqD (.int i) (.int j)=some (.bl (decide (i=j))):=by
 unfold eqD zef;simp [D.py,PyData.eqv]
 cases h:(i == j)<;>simp_all
@[simp] def zwq{i j:Int}:neD (.int i) (.int j)=some (.bl (!decide (i=j))):=by
 unfold neD zef;simp [D.py,PyData.eqv]
 cases h:(i == j)<;>simp_all
def zey{l:List Int}:eqD (.scr l) (.lst [])=some (.bl (decide (l=[]))):=by
 cases l with
 | nil=>rfl
 | cons a l=>simp [eqD,D.fit,D.fits,zef,D.py,D.pys,PyData.eqv,PyData.eqvAll]
noncomputable def zil(l:List Int)(k:Int):Int:=if k<l.length then l.getD k.toNat 0 else if l=[] then 0 else l.getD (k % l.length).toNat 0*31+k
noncomputable def zcV(l:List Int)(k:Int)(many:Int):Int :=
 let d:=(zil l k+6151*(k+1))*40692 % 2147483399
 (d*d+d / 31) % 2147483629 % many
def zcz(l:List Int)(k:Int){many:Int}(h:0<many):0<=zcV l k many/\zcV l k many<many:=⟨Int.emod_nonneg _ (by omega),ycz _ h⟩
@[simp] def zv8:zbE 31=true:=by decide
@[simp] def zsb:zbE 6151=true:=by decide
@[simp] def zrt:zbE 40692=true:=by decide
def zrs{i:Int}(h0:-(2 ^ 64)<i)(h:i<2 ^ 64):zbE i=true:=by unfold zbE;simp;omega
def zkZ{l:List Int}{k:Int}{S:Sto}(hk:0<=k):za8 [.scr l,.int k] S=.ok (.int (zil l k)) S:=by
 unfold zil
 by_cases h:k<l.length
 ·have hx:l[k.toNat]?=some l[k.toNat]:=yaj (by omega);rw [if_pos h,yaQ,hx];simp [za8,zas,zbA,h,zhJ hk,hx]
 ·by_cases h0:l=[]
  ·subst h0;simp [za8,zas,zbA,zey,show ¬ k<0 by omega]
  ·have hl:0<l.length:=by cases l with | nil=>exact absurd rfl h0 | cons _ _=>simp
   have hm0:0<=k % (l.length:Int):=Int.emod_nonneg _ (by omega);have hm1:k % (l.length:Int)<l.length:=ycz _ (by omega);have hx:l[(k % (l.length:Int)).toNat]?=some (l[(k % (l.length:Int)).toNat]'(by omega)):=yaj (by omega);rw [if_neg h,if_neg h0,yaQ,hx];simp [za8,zas,zbA,h,h0,zey,zhJ hm0,hx,hl]
def zbU{l:List Int}{k many:Int}{S:Sto}(hk:0<=k)(hm:0<many):zat [.scr l,.int k,.int many] S=.ok (.int (zcV l k many)) S:=by
 unfold zcV;have h0:0<=(zil l k+6151*(k+1))*40692 % 2147483399:=Int.emod_nonneg _ (by omega);have h1:(zil l k+6151*(k+1))*40692 % 2147483399<2147483399:=ycz _ (by omega);have hf:zbE ((zil l k+6151*(k+1))*40692 % 2147483399)=true:=zrs (by omega) (by omega);simp [zat,zas,zcG,zkZ hk,hf,hm]
noncomputable def zaq(t:List Int):D:=.tup (t.map D.int)
def zcU{hi:Int}{k:Nat}{d:D}(h:(zaW 0 hi)[k]?=some d):d=.int k/\(k:Int)<hi:=by
 unfold zaW at h;rw [yaF] at h
 cases hr:(List.range (hi-0).toNat)[k]? with
 | none=>rw [hr] at h;cases h
 | some j =>
  rw [hr] at h;obtain ⟨h1,h2⟩:=yap.mp hr;simp at h1 h2;subst h2;simp at h;exact ⟨h.symm,by omega⟩
@[simp] def zqc{hi:Int}:(zaW 0 hi).length=hi.toNat:=by unfold zaW;simp
end S2
namespace S2
open PySem
open L2 hiding D
@[simp] def zxR:zbE 4=true:=by decide
@[simp] def zxQ:zbE 7=true:=by decide
end S2
namespace S2
open PySem
open L2 hiding D
noncomputable def oD:Option Int->D | none=>.non | some i=>.int i
noncomputable def zdQ(c:Nat)(g:Nat->Option Int):List D:=(List.range c).map fun j=>oD (g j)
noncomputable def ziW(c:Nat)(g:Nat->Option Int):D:=.tup (zdQ c g)
noncomputable def zd6(r c:Nat)(g:Z1):List D:=(List.range r).map fun i=>ziW c (g i)
noncomputable def flr(r c:Nat)(g:Z1):D:=.tup (zd6 r c g)
@[simp] def zcT{c:Nat}{g:Nat->Option Int}:(zdQ c g).length=c:=by simp [zdQ]
@[simp] def zc2{r c:Nat}{g:Z1}:(zd6 r c g).length=r:=by simp [zd6]
def zeZ{c j:Nat}{g:Nat->Option Int}(h:j<c):(zdQ c g)[j]?=some (oD (g j)):=by simp [zdQ,h]
def zc3{r c i:Nat}{g:Z1}(h:i<r):(zd6 r c g)[i]?=some (ziW c (g i)):=by simp [zd6,h]
@[simp] def zsZ{c j:Nat}{g:Nat->Option Int}(h:j<(zdQ c g).length):(zdQ c g)[j]=oD (g j):=by simp [zdQ]
@[simp] def ztN{r c i:Nat}{g:Z1}(h:i<(zd6 r c g).length):(zd6 r c g)[i]=ziW c (g i):=by simp [zd6]
def ziV{k:Nat}{g:Nat->Option Int}:zdQ (k+1) g=zdQ k g++[oD (g k)]:=by simp [zdQ,ycs]
def zjX{k c:Nat}{g:Z1}:zd6 (k+1) c g=zd6 k c g++[ziW c (g k)]:=by simp [zd6,ycs]
noncomputable def zlr(l:List Int)(at' n m:Int)(i j:Nat):Option Int:=if zcV l (at'+7*i+j) (n*m)<n then some (zcV l (at'+7*i+j) (n*m)) else none
def zlZ{l:List Int}{at' m:Int}{ts:List D}{r c:Nat}{i:Nat}{S:Sto}{A B Mm:Option (Bool×D)}{y:Option (Bool×D)}{z:Option (Bool×D)}(ha:0<=at')(hp:0<(ts.length:Int)*m)(hm:zbE m=true)(hc:c<=1000) :
  ∃y' z',zcC (.one 9) zaQ (zaW 0 c) [some (false,.scr l),some (false,.int at'),some (false,.tup ts),A,B,some (false,.int m),Mm,some (false,.int i),some (true,.lst []),y,z] S
   = .nx [some (false,.scr l),some (false,.int at'),some (false,.tup ts),A,B,some (false,.int m),Mm,some (false,.int i),some (true,.lst (zdQ c (zlr l at' ts.length m i))),y',z'] S:=by
 obtain ⟨ρ',e,y',z',rfl⟩:=zdE (tg:=.one 9) (body:=zaQ) (ds:=zaW 0 c) (S:=S) (fun k ρ=>∃y z,ρ=[some (false,.scr l),some (false,.int at'),some (false,.tup ts),A,B,some (false,.int m),Mm,some (false,.int i),some (true,.lst (zdQ k (zlr l at' ts.length m i))),y,z]) (by
  rintro k d ρ hd ⟨y,z,rfl⟩;obtain ⟨rfl,hk⟩:=zcU hd;have p:=zbU (l:=l) (S:=S) (show 0<=at'+7*(i:Int)+(k:Int) by omega) hp;have pn:=zcz l (at'+7*(i:Int)+(k:Int)) hp;refine ⟨_,_,rfl,?_,some (false,.int k),some (false,.int (zcV l (at'+7*i+k) (ts.length*m))),rfl⟩
  ·rw [ziV]
   by_cases h:zcV l (at'+7*(i:Int)+(k:Int)) (ts.length*m)<ts.length
   ·simp [zaQ,p,hm,h,zlr,oD,show k<=100000 by omega]
   ·simp [zaQ,p,hm,h,zlr,oD,show k<=100000 by omega])
  (ρ:=[some (false,.scr l),some (false,.int at'),some (false,.tup ts),A,B,some (false,.int m),Mm,some (false,.int i),some (true,.lst []),y,z]) ⟨y,z,rfl⟩
 exact ⟨y',z',by simpa using e⟩
def ziT{l:List Int}{at' m:Int}{ts:List D}{r c:Int}{S:Sto}(ha:0<=at')(hp:0<(ts.length:Int)*m)(hm:zbE m=true)(hr:0<=r)(hr2:r<=1000)(hc:0<=c)(hc2:c<=1000) :
  zbc [.scr l,.int at',.tup ts,.int r,.int c,.int m] S=.ok (flr r.toNat c.toNat (zlr l at' ts.length m)) S:=by
 obtain ⟨r,rfl⟩:=ya2 hr;obtain ⟨c,rfl⟩:=ya2 hc
 obtain ⟨ρ',e,x1,x2,x3,x4,rfl⟩:=zdE (tg:=.one 7) (body:=zbM) (ds:=zaW 0 r) (S:=S) (fun k ρ=>∃x1 x2 x3 x4,ρ=[some (false,.scr l),some (false,.int at'),some (false,.tup ts),some (false,.int r),some (false,.int c),some (false,.int m),some (true,.lst (zd6 k c (zlr l at' ts.length m))),x1,x2,x3,x4]) (by
  rintro k d ρ hd ⟨x1,x2,x3,x4,rfl⟩;obtain ⟨rfl,hk⟩:=zcU hd;obtain ⟨y',z',e⟩:=zlZ (l:=l) (at':=at') (m:=m) (ts:=ts) (r:=r) (c:=c) (i:=k) (S:=S) (A:=some (false,.int r)) (B:=some (false,.int c)) (Mm:=some (true,.lst (zd6 k c (zlr l at' ts.length m)))) (y:=x3) (z:=x4) ha hp hm (by omega);refine ⟨_,_,rfl,?_,some (false,.int k),some (true,.lst (zdQ c (zlr l at' ts.length m k))),y',z',rfl⟩
  ·rw [zjX]
   simp [zbM,e,ziW,show -1000000<=(c:Int)/\(c:Int)<=1000000 by omega,show k<=100000 by omega])
  (ρ:=[some (false,.scr l),some (false,.int at'),some (false,.tup ts),some (false,.int r),some (false,.int c),some (false,.int m),some (true,.lst []),none,none,none,none]) ⟨none,none,none,none,rfl⟩
 simp at e;simp [zbc,zas,zce,e,flr,show -1000000<=(r:Int)/\(r:Int)<=1000000 by omega]
end S2
namespace S2
open PySem
open L2 hiding D
noncomputable abbrev plD(i j:Nat):D:=.tup [.int i,.int j]
noncomputable def zfs(r c:Nat):List D:=(List.range r).flatMap fun i=>(List.range c).map fun j=>plD i j
def zfQ{k c:Nat}:zfs (k+1) c=zfs k c++(List.range c).map fun j=>plD k j:=by simp [zfs,ycs]
def ze4{r c:Nat}:(zfs r c).length=r*c:=by
 induction r with
 | zero=>simp [zfs]
 | succ k ih=>rw [zfQ,yal,ih];simp [Nat.succ_mul]
def zhj{r c:Nat}{g:Z1}{S:Sto}(h:1<=r):zbP [flr r c g] S=.ok (.tup [.int r,.int c]) S:=by
 have e:=zc3 (c:=c) (g:=g) (i:=0) (r:=r) (by omega);simp [zbP,zas,zd8,flr,e,ziW,show 0<r by omega]
def zc9{r c:Nat}{g:Z1}{S:Sto}(h:1<=r)(hr:r<=100)(hc:c<=100):zaE [flr r c g] S=.ok (.lst (zfs r c)) S:=by
 have inner:∀(k:Nat) (y:Option (Bool×D)),k<r->∃y',zcC (.one 4) zbp (zaW 0 c) [some (false,flr r c g),some (false,.tup [.int r,.int c]),some (true,.lst (zfs k c)),some (false,.int k),y] S
   = .nx [some (false,flr r c g),some (false,.tup [.int r,.int c]),some (true,.lst (zfs (k+1) c)),some (false,.int k),y'] S:=by
  intro k y hk
  obtain ⟨ρ',e,y',rfl⟩:=zdE (tg:=.one 4) (body:=zbp) (ds:=zaW 0 c) (S:=S) (fun j ρ=>∃y,ρ=[some (false,flr r c g),some (false,.tup [.int r,.int c]),some (true,.lst (zfs k c++(List.range j).map fun j=>plD k j)),some (false,.int k),y]) (by
   rintro j d ρ hd ⟨y,rfl⟩;obtain ⟨rfl,hj⟩:=zcU hd
   have hl:k*c+j<=100000:=by
    have:k*c<=100*100:=yce (by omega) (by omega);omega
   refine ⟨_,_,rfl,?_,some (false,.int j),rfl⟩
   simp [zbp,ycs,ze4,hl])
   (ρ:=[some (false,flr r c g),some (false,.tup [.int r,.int c]),some (true,.lst (zfs k c)),some (false,.int k),y]) ⟨y,by simp⟩
  refine ⟨y',?_⟩;rw [e,zfQ];simp
 obtain ⟨ρ',e,x,y,rfl⟩:=zdE (tg:=.one 3) (body:=zb3) (ds:=zaW 0 r) (S:=S) (fun k ρ=>∃x y,ρ=[some (false,flr r c g),some (false,.tup [.int r,.int c]),some (true,.lst (zfs k c)),x,y]) (by
  rintro k d ρ hd ⟨x,y,rfl⟩;obtain ⟨rfl,hk⟩:=zcU hd;obtain ⟨y',e⟩:=inner k y (by omega);refine ⟨_,_,rfl,?_,some (false,.int k),y',rfl⟩
  simp [zb3,e,show -1000000<=(c:Int)/\(c:Int)<=1000000 by omega])
  (ρ:=[some (false,flr r c g),some (false,.tup [.int r,.int c]),some (true,.lst []),none,none]) ⟨none,none,rfl⟩
 simp at e;simp [zaE,zas,zcD,zhj h,e,show -1000000<=(r:Int)/\(r:Int)<=1000000 by omega]
def zda{r c i j:Nat}{g:Z1}{S:Sto}(hi:i<r)(hj:j<c):zaS [flr r c g,plD i j] S=.ok (oD (g i j)) S:=by
 simp [zaS,zas,zcE,flr,plD,zbr,zc3 hi,zeZ hj,ziW]
def zfL{l:List D}{a b:Int}{S:Sto}:zaA [.tup l,.int a,.int b] S=.ok (.bl (decide (a<=l.length/\(l.length:Int)<=b))) S:=by
 by_cases h1:a<=(l.length:Int)
 ·by_cases h2:(l.length:Int)<=b<;>simp [zaA,zas,zbn,zdA,h1,h2]
 ·simp [zaA,zas,zbn,zdA,h1]
end S2
namespace S2
open PySem
open L2 hiding D
@[simp] def zrw{a b:Option Int}:eqD (oD a) (oD b)=some (.bl (decide (a=b))):=by
 cases a<;>cases b<;>simp [oD]
 ·rfl
 ·rfl
 ·rfl
@[simp] def zu6{a:Option Int}:zb9 (oD a)=decide (a=none):=by cases a<;>simp [oD]
end S2
namespace S2
open PySem
open L2 hiding D
def zfb{d:D}(h:d.pl=true)(f:d.fit 9=true):neD d d=some (.bl false):=by
 unfold neD zef;rw [f,(zf7 d d h h).mpr rfl];rfl
def zoI{d:D}(h:d.pl=true)(f:d.fit 9=true):eqD d d=some (.bl true):=by
 unfold eqD zef;rw [f,(zf7 d d h h).mpr rfl];rfl
end S2
namespace S2
open PySem
open L2 hiding D
noncomputable def zsc(ts:Z2)(n:Int)(s:Nat):Int:=(ts.getD n.toNat []).getD s 0
def zcu{i:Int}{S:Sto}:zaC [.int i] S=.ok (.bl true) S:=by simp [zaC,zas,zcm,zdA]
def zgv{S:Sto}:zaC [.non] S=.ok (.bl false) S:=by simp [zaC,zas,zcm,zdA]
def zej{ts:List D}{o:Option Int}{S:Sto}(h:∀x,o=some x->0<=x/\x<ts.length):zaX [.tup ts,oD o] S=.ok (.bl o.isSome) S:=by
 cases o with
 | none=>simp [zaX,zas,zbe,oD,zgv]
 | some x=>obtain ⟨h0,h1⟩:=h x rfl;simp [zaX,zas,zbe,oD,zcu,h0,h1]
noncomputable def hp1:Fe:=zb7 leD ltD (zae (.int 0)) (zai ixD (zam 1) (zae (.int 0))) (zai ixD (zam 2) (zae (.int 0)))
noncomputable def hp2:Fe:=zb7 leD ltD (zae (.int 0)) (zai ixD (zam 1) (zae (.int 1))) (zai ixD (zam 2) (zae (.int 1)))
noncomputable def hpF:Fs:=(zak (sFz [1] (sIf (eOr (eUn zft (eFn zaA [(zad 1),(zae (.int 2)),(zae (.int 2))])) (eOr (eUn zft (eFn zaC [(zai ixD (zam 1) (zae (.int 0)))])) (eUn zft (eFn zaC [(zai ixD (zam 1) (zae (.int 1)))])))) (zak (sFz [] (zbG (zae (.bl false)))) sNx) sNx))
  (zak (sFz [0] (zbf 2 false (eFn zbP [(zad 0)]))) (zak (sFz [] (zbG (zfu hp1 hp2))) sNx)))
def zrl:zcF=hpF:=rfl
def zbW{r c:Nat}{g:Z1}{i j:Int}{S:Sto}(h1:1<=r):zaT [flr r c g,.tup [.int i,.int j]] S=.ok (.bl (decide ((0<=i/\i<r)/\0<=j/\j<c))) S:=by
 have ht:zaA [.tup [.int i,.int j],.int 2,.int 2] S=.ok (.bl true) S:=by rw [zfL];simp
 have sz:=zhj (c:=c) (g:=g) (S:=S) h1
 have t1:∀x,hp1 [x,some (false,.tup [.int i,.int j]),some (false,.tup [.int r,.int c])] S=.ok (.bl (decide (0<=i/\i<r))) S:=fun x=>by
  by_cases a:0<=i<;>simp [hp1,a]
 have t2:∀x,hp2 [x,some (false,.tup [.int i,.int j]),some (false,.tup [.int r,.int c])] S=.ok (.bl (decide (0<=j/\j<c))) S:=fun x=>by
  by_cases a:0<=j<;>simp [hp2,a]
 rw [Bool.decide_and];generalize decide (0<=i/\i<r)=b1 at *;generalize decide (0<=j/\j<c)=b2 at *;generalize flr r c g=fl at *;simp only [zaT,zas,zrl]
 cases b1<;>simp [hpF,ht,zcu,sz,t1,t2]
noncomputable def cl2:Option Int->Option Int->Bool | some a,some b=>!decide (a=b) | _,_=>false
end S2
namespace S2
open PySem
open L2 hiding D
end S2
namespace S2
open PySem
open L2 hiding D
end S2
namespace S2
open PySem
open L2 hiding D
noncomputable def unI:D->Int | .int i=>i | _=>0
section
variable{ts:Z2}{c:Nat}{S:Sto}{s1 s3 s4:Option (Bool×D)}
end
end S2
namespace S2
open PySem
open L2 hiding D
end S2
namespace S2
open PySem
open L2 hiding D
end S2
namespace S2
open PySem
open L2 hiding D
noncomputable def zcc:Fs :=
  (zak (sFz [] (zbf 1 false (zai ixD (zam 0) (zae (.int 0)))))
  (zak (sFz [] (zbf 2 false (zai ixD (zam 0) (zae (.int 1)))))
  (zak (sFz [2,1,1,2] (zbG (zeg [(zem [(zai zkv (zam 1) (zae (.int 1))),(zad 2)]),(zem [(zad 1),(zai zkv (zam 2) (zae (.int 1)))]),(zem [(zad 1),(zai zdG (zam 2) (zae (.int 1)))]),(zem [(zai zdG (zam 1) (zae (.int 1))),(zad 2)])])))
  sNx)))
noncomputable def zbb:List S2.D->Sto->Out S2.D:=zcS 3 true zcc
noncomputable def zbK:Fs :=
  (zak (sFz [0,1] (zbf 2 false (eFn zaS [(zad 0),(zad 1)])))
  (zak (sFz [1,0,2] (zbG (zdi 1 (.one 0) (za5 (eFn zbb [(zad 1)])) (zfu (eFn zaT [(zad 1),(zad 0)]) (zai eqD (eFn zaS [(zad 1),(zad 0)]) (zam 2))) (zad 0) [0,2])))
  sNx))
noncomputable def zba:List S2.D->Sto->Out S2.D:=zcS 3 true zbK
noncomputable def zcn:Fs :=
  (zak (sFz [] (sIf (zf8 2 (zad 5)) (zak (sFz [] (zhW 2 5)) (zak (sFz [5] (zkY 3 (zad 5))) sNx)) sNx)) sNx)
noncomputable def zdF:Fs :=
  (zak (sFz [] (zo6 4 3)) (zak (sFz [0,4] (zhi (.one 5) (za5 (eFn zba [(zad 0),(zad 4)])) zcn)) sNx))
noncomputable def zhA:Fs :=
  (zak (sFz [0,1] (zmx (eFn zaj [(zad 0),(zad 1)])))
  (zak (sFz [] (zbf 2 true (zeb 1)))
  (zak (sFz [1] (zbf 3 true (zeg [(zad 1)])))
  (zak (sFz [] (zdN 100000 (zai gtD (zaO zeu [(zam 3)]) (zae (.int 0))) zdF))
  (zak (sFz [2] (zbG (zif 2)))
  sNx)))))
noncomputable def zbw:List S2.D->Sto->Out S2.D:=zcS 6 true zhA
noncomputable def zgO:Fs :=
  (zak (sFz [0,0] (zbf 1 true (zdi 1 (.one 0) (za5 (eFn zaE [(zad 0)])) zj2 (eFn zbw [(zad 1),(zad 0)]) [0])))
  (zak (sFz [1,0] (zbG (zdi 2 (.tup [0,1]) (zrx (zad 1) (eFn zaE [(zad 0)])) (zai eqD (zai ixD (zam 0) (zae (.int 0))) (zam 1)) (zad 0) [])))
  sNx))
noncomputable def zdR:List S2.D->Sto->Out S2.D:=zcS 2 true zgO
noncomputable def zaY:Fs :=
  (zak (sFz [0,4,5,3] (zbf 4 false (eFn zaz [(zad 0),(zad 4),(zad 5),(zad 3)]))) sNx)
noncomputable def zc4:Fs :=
  (zak (sFz [1] (zbf 4 false (zad 1)))
  (zak (sFz [1,2] (zhi (.one 5) (za5 (eFn zbw [(zad 1),(zad 2)])) zaY))
  (zak (sFz [4] (zbG (zad 4)))
  sNx)))
noncomputable def za1:List S2.D->Sto->Out S2.D:=zcS 6 false zc4
noncomputable def zar:Fs :=
  (zak (sFz [4] (zbf 5 true (zdi 1 (.one 0) (zcf 2) (zai eqD (zai zdG (zaO zmZ [(zai zkv (zai ixD (zam 0) (zae (.int 0))) (zai ixD (zam 1) (zae (.int 0))))]) (zaO zmZ [(zai zkv (zai ixD (zam 0) (zae (.int 1))) (zai ixD (zam 1) (zae (.int 1))))])) (zae (.int 1))) (zad 0) [4]))) (zak (sFz [0,4,0,1] (sIf (zfu (zai zoe (zam 4) (zam 2)) (zfu (zai neD (zam 5) (zeg [])) (zai eqD (eFn zbu [(zad 0),(zad 4)]) (eFn zbu [(zad 0),(zad 1)])))) (zak (sFz [4] (zkY 2 (zad 4))) (zak (sFz [] (zbf 3 false (zae (.bl true)))) sNx)) sNx)) sNx))
noncomputable def zbq:Fs :=
  (zak (sFz [] (zbf 3 false (zae (.bl false)))) (zak (sFz [0] (zhi (.one 4) (za5 (eFn zaE [(zad 0)])) zar)) sNx))
noncomputable def zcH:Fs :=
  (zak (sFz [1] (zbf 2 true (zeg [(zad 1)])))
  (zak (sFz [] (zbf 3 false (zae (.bl true))))
  (zak (sFz [3] (zdN 100000 (zad 3) zbq))
  (zak (sFz [2] (zbG (eUn zeT (zad 2))))
  sNx))))
noncomputable def zaF:List S2.D->Sto->Out S2.D:=zcS 6 true zcH
end S2
namespace S2
open PySem
open L2 hiding D
noncomputable def zoo(i:Nat)(ρ:Env)(l:List D)(d:D):Out D->Fo
 | .ok (.int n) S2=>(match ixN l.length n with | some k=>.nx (ρ.set i (some (true,.lst (l.set k d)))) S2 | none=>.bad)
 | .ok _ _=>.bad
 | .exc c S2=>.ex c ρ S2 | .bad=>.bad
noncomputable def zlK(i:Nat)(fi:Fe)(ρ:Env)(l:List D):Out D->Fo | .ok d S1=>zoo i ρ l d (fi ρ S1) | .exc c S1=>.ex c ρ S1 | .bad=>.bad
noncomputable def zvW(i:Nat)(fi fe:Fe)(ρ:Env)(S:Sto):Option (Option (Bool×D))->Fo | some (some (true,.lst l))=>zlK i fi ρ l (fe ρ S) | _=>.bad
noncomputable def ztv(und:Str->Str->Bool)(C:Str)(i j:Nat):Fo->Fo
 | .ex c ρ' S'=>if und c C&&decide (i<ρ'.length) then .nx ((ρ'.set j (some (false,.exc c))).set i none) S' else .bad
 | o=>o
section
variable{ρ:Env}{S:Sto}{f g:Fe}{a:Fs}
@[simp] def zsn{i:Nat}:ziN i f g ρ S=zvW i f g ρ S ρ[i]?:=by
 unfold ziN
 cases ρ[i]? with
 | none=>rfl
 | some o=>cases o with
  | none=>rfl
  | some p =>
   obtain ⟨b,d⟩:=p
   cases b with
   | false=>rfl
   | true=>cases d with
    | lst l =>
     show _=zlK i f ρ l (g ρ S)
     cases g ρ S with
     | ok d S1 =>
      show _=zoo i ρ l d (f ρ S1);dsimp only
      cases f ρ S1 with
      | ok d' S2=>cases d'<;>rfl
      | exc c S2=>rfl
      | bad=>rfl
     | exc c S1=>rfl
     | bad=>rfl
    | _=>rfl
@[simp] def zxg{i:Nat}{l:List D}:zvW i f g ρ S (some (some (true,.lst l)))=zlK i f ρ l (g ρ S):=(rfl)
@[simp] def zvg{i:Nat}{l:List D}{d:D}:zlK i f ρ l (.ok d S)=zoo i ρ l d (f ρ S):=(rfl)
@[simp] def zuf{und:Str->Str->Bool}{C:Str}{i j:Nat}:zp7 und C i j a ρ S=ztv und C i j (a ρ S):=(rfl)
@[simp] def zvf{und:Str->Str->Bool}{C:Str}{i j:Nat}:ztv und C i j (.nx ρ S)=.nx ρ S:=(rfl)
@[simp] def zve{und:Str->Str->Bool}{C c:Str}{i j:Nat}:ztv und C i j (.ex c ρ S)=if und c C&&decide (i<ρ.length) then .nx ((ρ.set j (some (false,.exc c))).set i none) S else .bad:=(rfl)
@[simp] def zwx{w:Str->Str->Option Bool}{C c:Str}:zjN w C (.exc c)=(w c C).map .bl:=(rfl)
@[simp] def zuw{c:Str}:zb9 (.exc c)=false:=(rfl)
@[simp] def zuv{l:List D}:zb9 (.lst l)=false:=(rfl)
@[simp] def zuA{l:List D}{j:Int}:zh3 (.lst l) (.int j)=if decide (0<=j/\j<=1000/\l.length<=1000) then some (.lst (List.replicate j.toNat l).flatten) else none:=(rfl)
end
noncomputable abbrev Gf:=Nat->Nat->Option Int
noncomputable def ov(g h:Gf):Gf:=fun i j=>(h i j).or (g i j)
noncomputable def un(g h:Gf):Gf:=fun i j=>if (h i j).isSome then none else g i j
noncomputable def psN(r c:Nat):List (Nat×Nat):=(List.range r).flatMap fun i=>(List.range c).map fun j=>(i,j)
def ze3{r c:Nat}:zfs r c=(psN r c).map fun p=>plD p.1 p.2:=by
 simp [zfs,psN,List.map_flatMap,Function.comp_def]
def zbg{r c:Nat}:(psN r c).length=r*c:=by
 have:=congrArg List.length (ze3 (r:=r) (c:=c));rw [ze4,yad] at this;exact this.symm
end S2
namespace S2
open PySem
open L2 hiding D
end S2
namespace S2
open PySem
open L2 hiding D
end S2
namespace S2
open PySem
open L2 hiding D
noncomputable def zv1(c f:Str):Out D->Out D | .ok d S=>(match zpa c f d S with | some r=>.ok r S | none=>.bad) | .exc c S=>.exc c S | .bad=>.bad
noncomputable def zhv(G:List D->Sto->Out D)(d:D):Out (List D)->Out D | .ok ds S=>G (d::ds) S | .exc c S=>.exc c S | .bad=>.bad
noncomputable def zrc(c m:Str)(G:List D->Sto->Out D)(fs:List Fe)(ρ:Env):Out D->Out D | .ok d S=>if zc0 c m d S then zhv G d (zag fs ρ S) else .bad | .exc c S=>.exc c S | .bad=>.bad
noncomputable def zr5(n:Nat):Out D->Out D | .ok r S=>(match r with | .non=>.ok (.ref n) S | _=>.bad) | .exc c S=>.exc c S | .bad=>.bad
noncomputable def kMk(c:Str)(dds:List D)(G:List D->Sto->Out D):Out (List D)->Out D | .ok ds S=>zr5 S.length (G (.ref S.length::(ds++dds)) (S++[⟨c,[]⟩])) | .exc c S=>.exc c S | .bad=>.bad
noncomputable def zlL(c f:Str)(dk:D):Out D->Out D | .ok d S=>(match zkw dk,zhF c f d S with | some k,some (_,_,ds)=>.ok (.bl (zcJ k ds).isNone) S | _,_=>.bad) | .exc c S=>.exc c S | .bad=>.bad
noncomputable def zvX(c f:Str)(fo:Fe)(ρ:Env):Out D->Out D | .ok d S=>zlL c f d (fo ρ S) | .exc c S=>.exc c S | .bad=>.bad
noncomputable def zv0(c f:Str)(o:Option NK):Out D->Out D | .ok d S=>(match o,zhF c f d S with | some k,some (_,_,ds)=>(match zcJ k ds with | some r=>.ok r S | none=>.bad) | _,_=>.bad) | .exc c S=>.exc c S | .bad=>.bad
section
variable{ρ:Env}{S:Sto}{f g h k:Fe}
@[simp] def zuM{c x:Str}:zoK c x f ρ S=zv1 c x (f ρ S):=by unfold zoK;cases f ρ S<;>rfl
@[simp] def zxy{c x:Str}{d:D}:zv1 c x (.ok d S)=(match zpa c x d S with | some r=>.ok r S | none=>.bad):=(rfl)
@[simp] def zsw{c m:Str}{G:List D->Sto->Out D}{fs:List Fe}:zf9 c m G f fs ρ S=zrc c m G fs ρ (f ρ S):=by
 unfold zf9
 cases f ρ S with
 | ok d S1 =>
  show (if zc0 c m d S1 then (zag fs ρ S1).bind fun ds S2=>G (d::ds) S2 else .bad)=(if zc0 c m d S1 then zhv G d (zag fs ρ S1) else .bad)
  cases zag fs ρ S1<;>rfl
 | exc c S=>rfl
 | bad=>rfl
@[simp] def zvx{c m:Str}{G:List D->Sto->Out D}{fs:List Fe}{d:D}:zrc c m G fs ρ (.ok d S)=if zc0 c m d S then zhv G d (zag fs ρ S) else .bad:=(rfl)
@[simp] def ztm{G:List D->Sto->Out D}{d:D}{ds:List D}:zhv G d (.ok ds S)=G (d::ds) S:=(rfl)
@[simp] def zwH{c:Str}{dds:List D}{G:List D->Sto->Out D}{fs:List Fe}:eMk c dds G fs ρ S=kMk c dds G (zag fs ρ S):=by
 unfold eMk
 cases zag fs ρ S with
 | ok ds S1 =>
  show ((G (.ref S1.length::(ds++dds)) (S1++[⟨c,[]⟩])).bind fun r S2=>match r with | .non=>.ok (.ref S1.length) S2 | _=>.bad)=zr5 S1.length (G (.ref S1.length::(ds++dds)) (S1++[⟨c,[]⟩]))
  cases G (.ref S1.length::(ds++dds)) (S1++[⟨c,[]⟩])<;>rfl
 | exc c S=>rfl
 | bad=>rfl
@[simp] def zx7{c:Str}{dds:List D}{G:List D->Sto->Out D}{ds:List D}:kMk c dds G (.ok ds S)=zr5 S.length (G (.ref S.length::(ds++dds)) (S++[⟨c,[]⟩])):=(rfl)
@[simp] def zxm{n:Nat}:zr5 n (.ok .non S)=.ok (.ref n) S:=(rfl)
@[simp] def zuJ{c x:Str}:zoJ c x f g ρ S=zvX c x g ρ (f ρ S):=by
 unfold zoJ
 cases f ρ S with
 | ok d S1 =>
  show ((g ρ S1).bind fun d' S2=>match zkw d,zhF c x d' S2 with | some k,some (_,_,ds)=>.ok (.bl (zcJ k ds).isNone) S2 | _,_=>.bad)=zlL c x d (g ρ S1)
  cases g ρ S1<;>rfl
 | exc c S=>rfl
 | bad=>rfl
@[simp] def zxk{c x:Str}{d:D}:zvX c x g ρ (.ok d S)=zlL c x d (g ρ S):=(rfl)
@[simp] def zvw{c x:Str}{dk d:D}:zlL c x dk (.ok d S)=(match zkw dk,zhF c x d S with | some k,some (_,_,ds)=>.ok (.bl (zcJ k ds).isNone) S | _,_=>.bad):=(rfl)
@[simp] def zuL{c x:Str}{i:Nat}:zj4 c x f i ρ S=zv0 c x (zmL ρ i) (f ρ S):=by unfold zj4;cases f ρ S<;>rfl
@[simp] def zxu{c x:Str}{d:D}{o:Option NK}:zv0 c x o (.ok d S)=(match o,zhF c x d S with | some k,some (_,_,ds)=>(match zcJ k ds with | some r=>.ok r S | none=>.bad) | _,_=>.bad):=(rfl)
end
section
variable{S:Sto}{n:Nat}{ts:Z2}{gr:Z4}{r c:Nat}{b:Bool}{ds:List (D×D)}
noncomputable def tl(ts:Z2)(x:Int):D:=.tup [.int (zsc ts x 0),.int (zsc ts x 1),.int (zsc ts x 2),.int (zsc ts x 3)]
noncomputable def sb8:Fe:=eIf (zfu (zoK "Ways" "is_round" (zad 0)) (eUn zft (zad 4))) (zf9 "Ways" "colour_round" zcw (zad 0) [(zad 1),(zad 2),(zad 3)]) (zae .non)
end
end S2
namespace S2
open PySem
open L2 hiding D
section
variable{S:Sto}{n:Nat}{ts:Z2}{gr:Z4}{r c:Nat}{b:Bool}{ds:List (D×D)}
end
end S2
namespace S2
open PySem
open L2 hiding D
noncomputable def zjF(c x:Str)(i:Nat)(ρ:Env)(r:D):Out D->Fo
 | .bad=>.bad
 | .exc c S2=>.ex c ρ S2
 | .ok d S2=>(match zmL ρ i,zhF c x d S2 with
   | some k,some (n,ob,ds)=>if (zcJ k ds).isNone&&decide (ds.length<=1000000)&&zjr ob then .nx ρ (S2.set n (ob.put x true (.dic (ds++[(nkD k,r)])))) else .bad
   | _,_=>.bad)
noncomputable def zop(c x:Str)(f:Fe)(i:Nat)(ρ:Env):Out D->Fo
 | .bad=>.bad
 | .exc c S2=>.ex c ρ S2
 | .ok r S1=>zjF c x i ρ r (f ρ S1)
@[simp] def zsq{c x:Str}{f g:Fe}{i:Nat}{ρ:Env}{S:Sto}:ziP c x f i g ρ S=zop c x f i ρ (g ρ S):=by
 unfold ziP zop
 cases g ρ S with
 | ok r S1=>dsimp only;unfold zjF;cases f ρ S1<;>rfl
 | exc c S=>rfl
 | bad=>rfl
@[simp] def zvv{c x:Str}{f:Fe}{i:Nat}{ρ:Env}{S:Sto}{r:D}:zop c x f i ρ (.ok r S)=zjF c x i ρ r (f ρ S):=(rfl)
noncomputable def zk3(q:Nat):Nat->Nat
 | 0=>0
 | m+1=>1+q*zk3 q m
section
variable{n:Nat}{ts:Z2}{gr:Z4}{r c:Nat}{b:Bool}
end
end S2
namespace S2
open PySem
open L2 hiding D
noncomputable def zjG(c x:Str)(ρ:Env)(r:D):Out D->Fo
 | .bad=>.bad
 | .exc c S2=>.ex c ρ S2
 | .ok (.ref n) S2=>(match S2[n]? with
   | some ob=>if decide (ob.cls=c)&&decide (ob.fs.length<1000) then .nx ρ (S2.set n (ob.put x false r)) else .bad
   | none=>.bad)
 | .ok _ _=>.bad
noncomputable def zoq(c x:Str)(f:Fe)(ρ:Env):Out D->Fo
 | .bad=>.bad
 | .exc c S2=>.ex c ρ S2
 | .ok r S1=>zjG c x ρ r (f ρ S1)
@[simp] def zsr{c x:Str}{f g:Fe}{ρ:Env}{S:Sto}:ziR c x f g ρ S=zoq c x f ρ (g ρ S):=by
 unfold ziR zoq
 cases g ρ S with
 | ok r S1 =>
  dsimp only;unfold zjG
  cases f ρ S1 with
  | ok d S2=>cases d<;>rfl
  | exc c S=>rfl
  | bad=>rfl
 | exc c S=>rfl
 | bad=>rfl
@[simp] def zvE{c x:Str}{f:Fe}{ρ:Env}{S:Sto}{r:D}:zoq c x f ρ (.ok r S)=zjG c x ρ r (f ρ S):=(rfl)
end S2
namespace S2
open PySem
open L2 hiding D
section
variable{w:D}{ts:Z2}{c:Nat}{t:List Int}{n:Int}{S:Sto}{s1 s3 s4 s5 s8 x:Option (Bool×D)}
end
section
variable{ts:Z2}{c:Nat}{S:Sto}{s1 s3 s4:Option (Bool×D)}{o:Option Int}
end
end S2
namespace S2
open PySem
open L2 hiding D
end S2
namespace S2
open PySem
open L2 hiding D
def zij{tg:Tg}{elt:Fe}{d y:D}{ds ys:List D}{ρ0 ρ1:Env}{S:Sto}(h1:tg.put ρ0 d=some ρ1)(h2:elt ρ1 S=.ok y S)(h3:zbi tg zj2 elt ρ0 ds S=.ok ys S):zbi tg zj2 elt ρ0 (d::ds) S=.ok (y::ys) S:=by
 rw [zbi,h1];simp [h2,h3]
def zoN{α:Type}{l:List α}{n:Nat}:zeh l (some (n:Int)) none=l.drop n:=by
 unfold zeh;rw [HT.ziQ];simp [HT.sIx]
 by_cases h:n<=l.length
 ·rw [Nat.min_eq_left h];exact ycb (by simp)
 ·rw [List.drop_eq_nil_of_le (show l.length<=n by omega),List.drop_eq_nil_of_le (by omega)];simp
def zrz{α:Type}{l:List α}{n:Nat}(h:n<=l.length):zeh l none (some (n:Int))=l.take n:=by
 unfold zeh;rw [HT.ziQ];simp [HT.sIx,Nat.min_eq_left h]
end S2
namespace S2
open PySem
open L2 hiding D
noncomputable def ze1(g:Z1)(i j:Nat)(o:Option Int):Nat->Nat->Option Int:=fun a b=>if a=i/\b=j then o else g a b
def znD{c j:Nat}{g:Nat->Option Int}{o:Option Int}:(zdQ c g).set j (oD o)=zdQ c fun b=>if b=j then o else g b:=by
 apply ycc;intro k
 by_cases hk:k<c
 ·rw [zeZ hk]
  by_cases e:j=k
  ·subst e;rw [yaw (by rw [zcT];exact hk),if_pos rfl]
  ·rw [yaG e,zeZ hk,if_neg (fun z=>e z.symm)]
 ·rw [ybP (by rw [yaz,zcT];omega),ybP (by rw [zcT];omega)]
def zoF{r c i j:Nat}{g:Z1}{o:Option Int}:(zd6 r c g).set i (ziW c fun b=>if b=j then o else g i b)=zd6 r c (ze1 g i j o):=by
 apply ycc;intro k
 by_cases hk:k<r
 ·rw [zc3 hk]
  by_cases e:i=k
  ·subst e;rw [yaw (by rw [zc2];exact hk)];congr 3;funext b;unfold ze1
   by_cases z:b=j<;>simp [z]
  ·rw [yaG e,zc3 hk];congr 3;funext b;unfold ze1;rw [if_neg (fun z=>e z.1.symm)]
 ·rw [ybP (by rw [yaz,zc2];omega),ybP (by rw [zc2];omega)]
def zj6{α:Type}{l:List α}{j:Nat}{x:α}(h:j<l.length):zeh l none (some (j:Int))++x::zeh l (some ((j:Int)+1)) none=l.set j x:=by
 rw [zrz (by omega),show ((j:Int)+1)=((j+1:Nat):Int) by omega,zoN,List.set_eq_take_append_cons_drop,if_pos h]
def zdO{r c i j:Nat}{g:Z1}{o:Option Int}{S:Sto}(hi:i<r)(hj:j<c)(hr:r<=100)(hc:c<=100):zbl [flr r c g,plD i j,oD o] S=.ok (flr r c (ze1 g i j o)) S:=by
 have e0:atI (zd6 r c g) (i:Int)=some (ziW c (g i)):=by rw [zbr,zc3 hi]
 have e1:zeh (zdQ c (g i)) none (some (j:Int))++oD o::zeh (zdQ c (g i)) (some ((j:Int)+1)) none=zdQ c fun b=>if b=j then o else g i b:=by rw [zj6 (by rw [zcT];exact hj),znD]
 have e2:zeh (zd6 r c g) none (some (i:Int))++(ziW c fun b=>if b=j then o else g i b)::zeh (zd6 r c g) (some ((i:Int)+1)) none=zd6 r c (ze1 g i j o):=by rw [zj6 (by rw [zc2];exact hi),zoF]
 have l1:=congrArg List.length e1;have l2:=congrArg List.length e2;rw [yal,yag,zcT] at l1;rw [yal,yag,zc2] at l2;unfold flr;rw [<-e2];unfold ziW at e0 ⊢;rw [<-e1];generalize q1:zeh (zdQ c (g i)) none (some (j:Int))=a1 at *;generalize q2:zeh (zdQ c (g i)) (some ((j:Int)+1)) none=a2 at *;generalize q3:zeh (zd6 r c g) none (some (i:Int))=b1 at *;generalize q4:zeh (zd6 r c g) (some ((i:Int)+1)) none=b2 at *
 have p1:a1.length+1<=100000:=by omega
 have p2:a1.length+1+a2.length<=100000:=by omega
 have p3:b1.length+1<=100000:=by omega
 have p4:b1.length+1+b2.length<=100000:=by omega
 simp [zbl,zas,zb0,plD,e0,q1,q2,q3,q4,p1,p2,p3,p4]
end S2
namespace S2
open PySem
open L2 hiding D
@[simp] def zwz{x y:Bool}:zr9 (.bl x) (.bl y)=some (.bl (decide (x=y))):=(rfl)
def zbV{r c i j:Nat}{g:Z1}{S:Sto}(h1:1<=r)(hi:i<r)(hj:j<c):zaj [flr r c g,plD i j] S=.ok .non S:=by
 have hp:zaT [flr r c g,plD i j] S=.ok (.bl true) S:=by rw [zbW h1];congr 3;simp;omega
 simp [zaj,zas,zaR,hp]
def zgw{ts:List D}{o:Option Int}{S:Sto}(h:∀x,o=some x->0<=x/\x<ts.length):zbv [.tup ts,oD o] S=.ok (.bl true) S:=by
 have e:=zej (ts:=ts) (o:=o) (S:=S) h
 cases o with
 | none=>simp [zbv,zas,zcd,oD]
 | some x =>
  simp only [oD] at e;simp [zbv,zas,zcd,oD,e]
def zcQ{ts:Z2}{r c i j:Nat}{g:Z1}{o:Option Int}{S:Sto}(h:∀x,o=some x->0<=x/\x<ts.length)(h1:1<=r)(hi:i<r)(hj:j<c)(hr:r<=100)(hc:c<=100):zaz [.tup (ts.map zaq),flr r c g,plD i j,oD o] S=.ok (flr r c (ze1 g i j o)) S:=by
 have e1:=zbV (g:=g) (S:=S) h1 hi hj;have e2:=zgw (ts:=ts.map zaq) (o:=o) (S:=S) (fun x hx=>by simpa using h x hx);have e3:=zdO (g:=g) (o:=o) (S:=S) hi hj hr hc;generalize flr r c g=fl at *;generalize flr r c (ze1 g i j o)=fl' at *;generalize plD i j=pp at *;generalize oD o=od at *;simp [zaz,zas,zbZ,e1,e2,e3]
noncomputable def zm1(q m:Nat):Prop:=zk3 q m+m*(zk3 q m+q*zk3 q m)<=1000000/\q ^ m<=80000
noncomputable instance{q m:Nat}:Decidable (zm1 q m):=by unfold zm1;exact inferInstance
section
variable{ts:Z2}{r c:Nat}{g:Z1}
end
end S2
namespace S2
open PySem
open L2 hiding D
section
variable{ts:Z2}{r c:Nat}{g:Z1}
end
end S2
namespace S2
open PySem
open L2 hiding D
section
variable{ts:Z2}{r c:Nat}{g:Z1}
end
end S2
namespace S2
open PySem
open L2 hiding D
section
variable{n:Nat}{ts:Z2}{gr:Z4}{r c:Nat}{b:Bool}
end
end S2
namespace S2
open PySem
open L2 hiding D
section
variable{n:Nat}{ts:Z2}{gr:Z4}{r c:Nat}{b:Bool}
end
end S2
namespace S2
open PySem
open L2 hiding D
section
variable{ts:Z2}{gr:Z4}{c:Nat}
end
end S2
namespace S2
open PySem
open L2 hiding D
section
variable{n:Nat}{ts:Z2}{gr:Z4}{r c:Nat}{b:Bool}{S:Sto}
end
end S2
namespace S2
open PySem
open L2 hiding D
end S2
namespace S2
open PySem
open L2 hiding D
section
variable{ts:Z2}{r c:Nat}{g h:Z1}
def zdP{i j:Nat}{S:Sto}(h1:1<=r)(hi:i<r)(hj:j<c):zbu [flr r c g,plD i j] S=.ok (oD (g i j)) S:=by
 have e1:=zbV (g:=g) (S:=S) h1 hi hj;have e2:=zda (g:=g) (S:=S) hi hj;generalize flr r c g=fg at *;generalize plD i j=pp at *;simp [zbu,zas,zd7,e1,e2]
end
end S2
namespace S2
open PySem
open L2 hiding D
noncomputable abbrev P2:=Nat×Nat
noncomputable abbrev plP(p:P2):D:=plD p.1 p.2
noncomputable def toI(p:P2):ST.IP:=((p.1:Int),(p.2:Int))
def zgq{p q:P2}(h:toI p=toI q):p=q:=by
 obtain ⟨a,b⟩:=p;obtain ⟨c,d⟩:=q;unfold toI at h;rw [Prod.mk.injEq] at h;rw [Prod.mk.injEq];exact ⟨Int.ofNat.inj h.1,Int.ofNat.inj h.2⟩
def zcy{l:List P2}:l.map plP=(l.map toI).map pD:=by rw [ybk];rfl
def zgK{l:List P2}(h:l.Nodup):(l.map toI).Nodup:=by
 unfold List.Nodup at h ⊢;rw [ybr];exact List.Pairwise.imp (fun h e=>h (zgq e)) h
def zjz{l:List P2}{p:P2}:toI p∈l.map toI↔p∈l:=by
 rw [yaq];exact ⟨fun ⟨q,hq,e⟩=>zgq e ▸ hq,fun h=>⟨p,h,rfl⟩⟩
theorem zdD{α:Type}[BEq α][LawfulBEq α]:∀{l m:List α},l.Nodup->(∀x∈l,x∈m)->l.length<=m.length
 | [],_,_,_=>yaM _
 | a::l,m,nd,h=>by
  rw [ybj] at nd;have ha:=h a (.head _)
  have:=zdD (l:=l) (m:=m.erase a) nd.2 fun x hx=>by
   have hne:x≠a:=fun z=>nd.1 (z ▸ hx)
   exact (List.mem_erase_of_ne hne).mpr (h x (.tail _ hx))
  rw [List.length_erase_of_mem ha] at this;have hp:0<m.length:=List.length_pos_of_mem ha;rw [yag];omega
noncomputable def lt2(p q:P2):Prop:=p.1<q.1\/(p.1=q.1/\p.2<q.2)
def zqj{r c:Nat}:(psN r c).Pairwise lt2:=by
 unfold psN;rw [List.pairwise_flatMap];refine ⟨fun i _=>?_,?_⟩
 ·rw [ybr];exact List.Pairwise.imp (fun h=>.inr ⟨rfl,h⟩) List.pairwise_lt_range
 ·refine List.Pairwise.imp (fun {a b} h=>?_) List.pairwise_lt_range;intro x hx y hy;obtain ⟨_,_,rfl⟩:=yaq.mp hx;obtain ⟨_,_,rfl⟩:=yaq.mp hy;exact .inl h
def za2{r c:Nat}{p:P2}:p∈psN r c↔p.1<r/\p.2<c:=by
 unfold psN;simp only [List.mem_flatMap,ybA,yaq];exact ⟨fun ⟨i,hi,j,hj,e⟩=>by rw [<-e];exact ⟨hi,hj⟩,fun ⟨h1,h2⟩=>⟨p.1,h1,p.2,h2,rfl⟩⟩
def zi3{r c:Nat}:(psN r c).Nodup:=List.Pairwise.imp (fun {a b} h e=>by subst e;rcases h with h | ⟨_,h⟩<;>exact yaR _ h) zqj
def zq3{p q:P2}(h:lt2 p q)(hp:p.2<=1000000):ST.zcj (toI p)<ST.zcj (toI q):=by
 unfold lt2 at h;unfold ST.zcj toI;simp only;omega
def zgA{r c:Nat}(hc:c<=100){l:List P2}(h:l.Sublist (psN r c)):((l.map toI).map ST.zcj).Pairwise (· < ·):=by
 rw [ybk,ybr];refine ya9 (fun {a b} ha _ hab=>zq3 hab ?_) (List.Pairwise.sublist h zqj);have:=(za2.mp (h.subset ha)).2;omega
variable{r c:Nat}{g:Z1}
noncomputable def adj(p q:P2):Prop:=(p.1=q.1/\(p.2=q.2+1\/q.2=p.2+1))\/(p.2=q.2/\(p.1=q.1+1\/q.1=p.1+1))
def zhL{p q:P2}(h:adj p q):adj q p:=by unfold adj at h ⊢;omega
noncomputable def nbs(p:P2):List P2:=(if 1<=p.1 then [(p.1-1,p.2)] else [])++((if 1<=p.2 then [(p.1,p.2-1)] else [])++[(p.1,p.2+1),(p.1+1,p.2)])
def zol{p q:P2}:q∈nbs p↔adj p q:=by
 obtain ⟨a,b⟩:=p;obtain ⟨i,j⟩:=q;unfold nbs adj
 by_cases h1:1<=a<;>by_cases h2:1<=b<;>simp [h1,h2]<;>omega
noncomputable def alk(r c:Nat)(g:Z1)(p:P2):List P2:=(nbs p).filter fun q=>decide (q.1<r/\q.2<c/\g q.1 q.2=g p.1 p.2)
def zbI{p q:P2}:q∈alk r c g p↔adj p q/\q.1<r/\q.2<c/\g q.1 q.2=g p.1 p.2:=by
 unfold alk;rw [yba,zol,ya8]
inductive Conn(r c:Nat)(g:Z1)(p:P2):P2->Prop
 | refl:Conn r c g p p
 | step {q n:P2}:Conn r c g p q->n∈alk r c g q->Conn r c g p n
def Conn.num{p q:P2}(h:Conn r c g p q):g q.1 q.2=g p.1 p.2:=by
 induction h with
 | refl=>rfl
 | step _ m ih=>rw [(zbI.mp m).2.2.2,ih]
def Conn.inr{p q:P2}(h:Conn r c g p q)(hp:p.1<r/\p.2<c):q.1<r/\q.2<c:=by
 induction h with
 | refl=>exact hp
 | step _ m _=>exact ⟨(zbI.mp m).2.1,(zbI.mp m).2.2.1⟩
def Conn.trans{p q n:P2}(h1:Conn r c g p q)(h2:Conn r c g q n):Conn r c g p n:=by
 induction h2 with
 | refl=>exact h1
 | step _ m ih=>exact ih.step m
theorem Conn.symm{p q:P2}(h:Conn r c g p q)(hp:p.1<r/\p.2<c):Conn r c g q p:=by
 induction h with
 | refl=>exact .refl
 | @step q n h m ih =>
  have hq:=h.inr hp;obtain ⟨a,b,cc,d⟩:=zbI.mp m;exact (Conn.step .refl (zbI.mpr ⟨zhL a,hq.1,hq.2,d.symm⟩)).trans ih
noncomputable def cb(r c:Nat)(g:Z1)(p q:P2):Bool:=@decide (Conn r c g p q) (Classical.propDecidable _)
def zdw{p q:P2}:cb r c g p q=true↔Conn r c g p q:=by unfold cb;exact @decide_eq_true_iff _ (Classical.propDecidable _)
noncomputable def zac(r c:Nat)(g:Z1)(p:P2):List P2:=(psN r c).filter (cb r c g p)
def zaI{p q:P2}(hp:p.1<r/\p.2<c):q∈zac r c g p↔Conn r c g p q:=by
 unfold zac;rw [yba,zdw,za2];exact ⟨fun h=>h.2,fun h=>⟨h.inr hp,h⟩⟩
def zb4{p:P2}:(zac r c g p).Sublist (psN r c):=yct
def zkp{p:P2}:(zac r c g p).Nodup:=List.Pairwise.sublist zb4 zi3
def zgX{p q:P2}(hp:p.1<r/\p.2<c)(h:Conn r c g p q):zac r c g q=zac r c g p:=by
 unfold zac;apply List.filter_congr;intro n _;have:Conn r c g q n↔Conn r c g p n:=⟨fun x=>h.trans x,fun x=>(h.symm hp).trans x⟩
 cases h1:cb r c g q n with
 | true=>rw [eq_comm,zdw,<-this,<-zdw,h1]
 | false =>
  cases h2:cb r c g p n with
  | false=>rfl
  | true=>rw [zdw,<-this,<-zdw,h1] at h2;cases h2
def zfG{p:P2}{f:List P2}(hc:c<=100)(hrc:r*c<=60)(hp:p.1<r/\p.2<c)(nd:f.Nodup)(hf:∀q,q∈f↔Conn r c g p q):zdC (f.map toI)=true/\zbd (f.map toI)=(zac r c g p).map toI:=by
 have hin:∀q∈f,q.1<r/\q.2<c:=fun q hq=>((hf q).mp hq).inr hp
 have hlen:f.length<=r*c:=by rw [<-zbg];exact zdD nd fun q hq=>za2.mpr (hin q hq)
 have ok:zdC (f.map toI)=true:=by
  unfold zdC;rw [yab,yab,ybu];refine ⟨⟨yan (by rw [yad];omega),fun x hx=>?_⟩,yan (zgK nd)⟩;obtain ⟨q,hq,rfl⟩:=yaq.mp hx;have:=(hin q hq).2;apply yan;show -1000000<=(q.2:Int)/\(q.2:Int)<=1000000;omega
 refine ⟨ok,?_⟩;obtain ⟨_,sm,ndm⟩:=zdc ok;refine zcP ST.zcj (zbQ ?_) (zgA hc zb4) ((za9 _).trans (List.Perm.map _ ?_))
 ·unfold List.Nodup at ndm ⊢;rw [ybr];exact ya9 (fun {a b} ha hb h e=>h (ST.zdY (sm a ha) (sm b hb) e)) ndm
 ·exact (ybU nd zkp).mpr fun q=>(hf q).trans (zaI hp).symm
theorem zf5{tg:Tg}{body:Fs}{S:Sto}{α:Type}(emb:α->D){I:List α->Env->Prop}(L:List α)(step:∀q a r ρ,q++a::r=L->I q ρ->∃ρ1 ρ2,tg.put ρ (emb a)=some ρ1/\body ρ1 S=.nx ρ2 S/\I (q++[a]) ρ2):∀(xs pre:List α) (ρ:Env),pre++xs=L->I pre ρ->∃ρ',zcC tg body (xs.map emb) ρ S=.nx ρ' S/\I L ρ'
 | [],pre,ρ,hL,h=>⟨ρ,by simp [zcC],by rw [<-hL,yaT];exact h⟩
 | a::xs,pre,ρ,hL,h=>by
  obtain ⟨ρ1,ρ2,e1,e2,h2⟩:=step pre a xs ρ hL h;obtain ⟨ρ',e3,h3⟩:=zf5 emb L step xs (pre++[a]) ρ2 (by rw [ybp];exact hL) h2;refine ⟨ρ',?_,h3⟩;rw [yat];unfold zcC;rw [e1];dsimp only;rw [e2];exact e3
def zfi{tg:Tg}{body:Fs}{S:Sto}{α:Type}(emb:α->D){I:List α->Env->Prop}(L:List α){ρ:Env}(h0:I [] ρ)(step:∀q a r ρ,q++a::r=L->I q ρ->∃ρ1 ρ2,tg.put ρ (emb a)=some ρ1/\body ρ1 S=.nx ρ2 S/\I (q++[a]) ρ2):∃ρ',zcC tg body (L.map emb) ρ S=.nx ρ' S/\I L ρ':=zf5 emb L step L [] ρ rfl h0
theorem zdH{cd:Fe}{body:Fs}{S:Sto}{α:Type}{I:α->Env->Prop}{fin:α->Prop}(m:α->Nat)(step:∀a ρ,I a ρ->(cd ρ S=.ok (.bl false) S/\fin a)\/(cd ρ S=.ok (.bl true) S/\∃a' ρ',body ρ S=.nx ρ' S/\I a' ρ'/\m a'<m a)):∀(n:Nat) (a:α) (ρ:Env),I a ρ->m a<n->∃a' ρ',zbN cd body n ρ S=.nx ρ' S/\I a' ρ'/\fin a'
 | 0,a,ρ,_,h=>absurd h (Nat.not_lt_zero _)
 | n+1,a,ρ,hI,hm=>by
  rcases step a ρ hI with ⟨e,hf⟩ | ⟨e,a',ρ',e2,hI',hlt⟩
  ·refine ⟨a,ρ,?_,hI,hf⟩;unfold zbN;rw [e];rfl
  ·obtain ⟨a2,ρ2,e3,h3⟩:=zdH m step n a' ρ' hI' (by omega);refine ⟨a2,ρ2,?_,h3⟩;unfold zbN;rw [e];show (match body ρ S with | .nx ρ' S'=>zbN cd body n ρ' S' | .ct ρ' S'=>zbN cd body n ρ' S' | .bk ρ' S'=>.nx ρ' S' | o=>o)=_;rw [e2];exact e3
end S2
namespace S2
open PySem
open L2 hiding D
variable{r c:Nat}{g:Z1}{S:Sto}
noncomputable def zoQ(p:P2):List ST.IP:=[((p.1:Int)-1,(p.2:Int)),((p.1:Int),(p.2:Int)-1),((p.1:Int),(p.2:Int)+1),((p.1:Int)+1,(p.2:Int))]
def zei{p:P2}:zbb [plP p] S=.ok (.lst ((zoQ p).map pD)) S:=by
 simp [zbb,zas,zcc,plD,zoQ,pD]
noncomputable def okC(r c:Nat)(g:Z1)(p:P2)(x:ST.IP):Bool:=decide (((0<=x.1/\x.1<r)/\0<=x.2/\x.2<c)/\g x.1.toNat x.2.toNat=g p.1 p.2)
def zma{p:P2}:(zoQ p).filter (okC r c g p)=(alk r c g p).map toI:=by
 have one:∀q:P2,(if okC r c g p (toI q)=true then [toI q] else [])=(([q]:List P2).filter fun q=>decide (q.1<r/\q.2<c/\g q.1 q.2=g p.1 p.2)).map toI:=by
  intro q
  have e:okC r c g p (toI q)=decide (q.1<r/\q.2<c/\g q.1 q.2=g p.1 p.2):=by
   unfold okC toI;rw [ybH];simp only [ya1];constructor
   ·rintro ⟨⟨⟨_,a⟩,_,b⟩,d⟩;exact ⟨by omega,by omega,d⟩
   ·rintro ⟨a,b,d⟩;exact ⟨⟨⟨by omega,by omega⟩,by omega,by omega⟩,d⟩
  rw [e,ybI,List.filter_nil]
  split<;>rfl
 have no:∀x:ST.IP,x.1<0\/x.2<0->okC r c g p x=false:=fun x hx=>yau (fun z=>by omega)
 unfold alk nbs zoQ;rw [ybI,ybI,ycA,ycA,ybb,ybb]
 have e3:[((p.1:Int),(p.2:Int)+1),((p.1:Int)+1,(p.2:Int))].filter (okC r c g p)=(([(p.1,p.2+1),(p.1+1,p.2)]:List P2).filter fun q=>decide (q.1<r/\q.2<c/\g q.1 q.2=g p.1 p.2)).map toI:=by
  have a1:=one (p.1,p.2+1);have a2:=one (p.1+1,p.2);unfold toI at a1 a2;simp only [Int.natCast_add,Int.natCast_one] at a1 a2;rw [show ([(p.1,p.2+1),(p.1+1,p.2)]:List P2)=[(p.1,p.2+1)]++[(p.1+1,p.2)] from rfl,ycA,ybb];unfold toI;rw [<-a1,<-a2,ybI,ybI,List.filter_nil]
  split<;>split<;>rfl
 rw [e3];generalize (([(p.1,p.2+1),(p.1+1,p.2)]:List P2).filter fun q=>decide (q.1<r/\q.2<c/\g q.1 q.2=g p.1 p.2)).map toI=R
 have e2:(if okC r c g p ((p.1:Int),(p.2:Int)-1)=true then ((p.1:Int),(p.2:Int)-1)::R else R)=(((if 1<=p.2 then [(p.1,p.2-1)] else []):List P2).filter fun q=>decide (q.1<r/\q.2<c/\g q.1 q.2=g p.1 p.2)).map toI++R:=by
  by_cases h:1<=p.2
  ·have a:=one (p.1,p.2-1)
   have ec:toI (p.1,p.2-1)=((p.1:Int),(p.2:Int)-1):=by unfold toI;rw [Prod.mk.injEq];exact ⟨rfl,by omega⟩
   rw [ec] at a;rw [if_pos h,<-a]
   split<;>rfl
  ·rw [if_neg h,no _ (.inr (by show (p.2:Int)-1<0;omega)),if_neg (by decide)];rfl
 rw [e2];generalize (((if 1<=p.2 then [(p.1,p.2-1)] else []):List P2).filter fun q=>decide (q.1<r/\q.2<c/\g q.1 q.2=g p.1 p.2)).map toI++R=R2
 by_cases h:1<=p.1
 ·have a:=one (p.1-1,p.2)
  have ec:toI (p.1-1,p.2)=((p.1:Int)-1,(p.2:Int)):=by unfold toI;rw [Prod.mk.injEq];exact ⟨by omega,rfl⟩
  rw [ec] at a;rw [if_pos h,<-a]
  split<;>rfl
 ·rw [if_neg h,no _ (.inl (by show (p.1:Int)-1<0;omega)),if_neg (by decide)];rfl
def zgY{p:P2}:(alk r c g p).length<=4:=by
 refine yar (ybQ _ _) ?_;unfold nbs
 by_cases h1:1<=p.1<;>by_cases h2:1<=p.2<;>simp [h1,h2]
def ziU{p:P2}(h1:1<=r)(hp:p.1<r/\p.2<c):zba [flr r c g,plP p] S=.ok (.lst ((alk r c g p).map plP)) S:=by
 have e:zbi (.one 0) (zfu (eFn zaT [(zad 1),(zad 0)]) (zai eqD (eFn zaS [(zad 1),(zad 0)]) (zam 2))) (zad 0) [none,some (false,flr r c g),some (false,oD (g p.1 p.2))] ((zoQ p).map pD) S=.ok ((alk r c g p).map plP) S:=by
  rw [zbS (g:=id) (p:=fun d=>match zbC d with | some x=>okC r c g p x | none=>false)]
  ·rw [List.map_id,List.filter_map,zcy,<-zma];rfl
  ·intro d hd;obtain ⟨x,_,rfl⟩:=yaq.mp hd;refine ⟨_,rfl,?_,fun _=>by simp⟩;have e1:=zbW (r:=r) (c:=c) (g:=g) (i:=x.1) (j:=x.2) (S:=S) h1;show _=Out.ok (D.bl (okC r c g p x)) S
   by_cases hin:(0<=x.1/\x.1<(r:Int))/\0<=x.2/\x.2<(c:Int)
   ·rw [yan hin] at e1;have e2:=zda (r:=r) (c:=c) (g:=g) (i:=x.1.toNat) (j:=x.2.toNat) (S:=S) (by omega) (by omega)
    have ep:plD x.1.toNat x.2.toNat=.tup [.int x.1,.int x.2]:=by
     unfold plD;rw [Int.toNat_of_nonneg hin.1.1,Int.toNat_of_nonneg hin.2.1]
    rw [ep] at e2;have e3:=zrw (a:=g x.1.toNat x.2.toNat) (b:=g p.1 p.2)
    have eo:okC r c g p x=decide (g x.1.toNat x.2.toNat=g p.1 p.2):=by unfold okC;rw [ybH];exact ⟨fun z=>z.2,fun z=>⟨hin,z⟩⟩
    rw [eo];generalize oD (g x.1.toNat x.2.toNat)=o1 at *;generalize oD (g p.1 p.2)=o2 at *;generalize flr r c g=F at *;simp [pD,e1,e2,e3]
   ·rw [yau hin] at e1;have eo:okC r c g p x=false:=yau (fun z=>hin z.1);rw [eo];generalize flr r c g=F at *;simp [pD,e1]
 have e0:=zda (r:=r) (c:=c) (g:=g) (i:=p.1) (j:=p.2) (S:=S) hp.1 hp.2;have en:=zei (p:=p) (S:=S)
 have hl:((alk r c g p).map plP).length<=100000:=by rw [yad];exact yar zgY (by decide)
 have hl2:((zoQ p).map pD).length<=100000:=by rw [yad];show (4:Nat)<=_;decide
 generalize (alk r c g p).map plP=A at *;generalize (zoQ p).map pD=C at *;generalize oD (g p.1 p.2)=o2 at *;generalize flr r c g=F at *;have en':zbb [plD p.1 p.2] S=.ok (.lst C) S:=en;simp [zba,zas,zbK,e0,en',e,hl,hl2]
noncomputable def stp(s:List P2×List P2)(n:P2):List P2×List P2:=if n∈s.1 then s else (s.1++[n],s.2++[n])
theorem zgt:∀(l f w:List P2),f.Nodup->∃nw,l.foldl stp (f,w)=(f++nw,w++nw)/\(f++nw).Nodup/\(∀x∈nw,x∈l)/\∀x∈l,x∈f++nw
 | [],f,w,nd=>⟨[],by simp,by simpa using nd,fun x hx=>(by cases hx),fun x hx=>by cases hx⟩
 | n::l,f,w,nd=>by
  rw [ybN]
  by_cases h:n∈f
  ·rw [show stp (f,w) n=(f,w) from if_pos h];obtain ⟨nw,e,a,b,d⟩:=zgt l f w nd;refine ⟨nw,e,a,fun x hx=>.tail _ (b x hx),fun x hx=>?_⟩
   rcases yas.mp hx with rfl | hx
   ·exact yaN _ h
   ·exact d x hx
  ·rw [show stp (f,w) n=(f++[n],w++[n]) from if_neg h]
   have nd2:(f++[n]).Nodup:=by
    rw [List.nodup_append];exact ⟨nd,by simp,fun a ha b hb=>by rw [yaP] at hb;subst hb;exact fun z=>h (z ▸ ha)⟩
   obtain ⟨nw,e,a,b,d⟩:=zgt l (f++[n]) (w++[n]) nd2;refine ⟨n::nw,by rw [e,ybp,ybp];rfl,by rw [ybp] at a;exact a,fun x hx=>?_,fun x hx=>?_⟩
   ·rcases yas.mp hx with rfl | hx
    ·exact .head _
    ·exact .tail _ (b x hx)
   ·rcases yas.mp hx with rfl | hx
    ·simp
    ·have:=d x hx;rwa [ybp] at this
def zoc{f:List P2}{n:P2}:(!decide (toI n∈f.map toI))=!decide (n∈f):=by
 congr 1;rw [ybH,zjz]
noncomputable abbrev mkA(F:D)(p:P2)(s:List P2×List P2)(h n:Option (Bool×D)):Env:=[some (false,F),some (false,plP p),some (true,zdt (s.1.map toI)),some (true,.lst (s.2.map plP)),h,n]
def zki{F:D}{p n:P2}{s:List P2×List P2}{h:Option (Bool×D)}(h1:s.1.length<=1000)(h2:s.2.length<=1000):zcn (mkA F p s h (some (false,plP n))) S=.nx (mkA F p (stp s n) h (some (false,plP n))) S:=by
 have e1:=zqS (S:=S) (i:=2) (f:=zad 5) (ρ:=mkA F p s h (some (false,plP n))) (p:=toI n) (S1:=S) rfl (by simp;rfl);rw [zoc] at e1
 by_cases hn:n∈s.1
 ·rw [yan hn] at e1;rw [show stp s n=s from if_pos hn];unfold mkA at e1 ⊢;generalize zdt (s.1.map toI)=X at *;generalize s.2.map plP=W at *;simp [zcn,e1]
 ·rw [yau hn] at e1;rw [show stp s n=(s.1++[n],s.2++[n]) from if_neg hn];have e2:=zqg (S:=S) (i:=2) (j:=5) (ρ:=mkA F p s h (some (false,plP n))) (p:=toI n) (ps:=s.1.map toI) rfl rfl (fun z=>hn (zjz.mp z)) (by rw [yad];omega)
  have hl:(s.2.map plP).length<=100000:=by rw [yad];omega
  unfold mkA at e1 e2 ⊢;rw [show (s.1++[n]).map toI=s.1.map toI++[toI n] by rw [ybb];rfl,show (s.2++[n]).map plP=s.2.map plP++[plP n] by rw [ybb];rfl];generalize zdt (s.1.map toI++[toI n])=X2 at *;generalize zdt (s.1.map toI)=X at *;generalize s.2.map plP=W at *;simp [zcn,e1,e2,hl]
end S2
namespace S2
open PySem
open L2 hiding D
variable{r c:Nat}{g:Z1}{S:Sto}
structure Dv(r c:Nat)(g:Z1)(p:P2)(s:List P2×List P2):Prop where
 nd:s.1.Nodup
 con:∀q∈s.1,Conn r c g p q
 me:p∈s.1
 sub:∀q∈s.2,q∈s.1
 le:s.2.length<=s.1.length
 clo:∀q∈s.1,q ∉ s.2->∀n∈alk r c g q,n∈s.1
def Dv.len{p:P2}{s:List P2×List P2}(h:Dv r c g p s)(hp:p.1<r/\p.2<c):s.1.length<=r*c:=by
 rw [<-zbg];exact zdD h.nd fun q hq=>za2.mpr ((h.con q hq).inr hp)
def Dv.next{p here:P2}{f w:List P2}(h:Dv r c g p (f,w++[here])):∃s',(alk r c g here).foldl stp (f,w)=s'/\Dv r c g p s'/\s'.2.length+2*f.length+1=s'.1.length+w.length+f.length+1/\f.length<=s'.1.length/\s'.1.length+w.length=s'.2.length+f.length:=by
 obtain ⟨nw,e,nd,b,d⟩:=zgt (alk r c g here) f w h.nd;have hh:here∈f:=h.sub here (yav _ (.head _));refine ⟨_,e,⟨nd,fun q hq=>?_,yaN _ h.me,fun q hq=>?_,?_,fun q hq hnw n hn=>?_⟩,?_,?_,?_⟩
 ·rcases ybi.mp hq with hq | hq
  ·exact h.con q hq
  ·exact (h.con here hh).step (b q hq)
 ·rcases ybi.mp hq with hq | hq
  ·exact yaN _ (h.sub q (yaN _ hq))
  ·exact yav _ hq
 ·have:=h.le;simp only [yal,ya6] at this ⊢;omega
 ·by_cases e1:q=here
  ·subst e1;exact d n hn
  ·have hq':q∈f:=by
    rcases ybi.mp hq with hq | hq
    ·exact hq
    ·exact absurd (yav _ hq) hnw
   refine yaN _ (h.clo q hq' (fun z=>?_) n hn)
   rcases ybi.mp z with z | z
   ·exact hnw (yaN _ z)
   ·exact e1 (yaP.mp z)
 ·simp only [yal];omega
 ·simp only [yal];omega
 ·simp only [yal];omega
def zib{p here:P2}{f w:List P2}{n0:Option (Bool×D)}(hf:f.length<=900)(hw:w.length<=900):∃n',zcC (.one 5) zcn ((alk r c g here).map plP) (mkA (flr r c g) p (f,w) (some (false,plP here)) n0) S=.nx (mkA (flr r c g) p ((alk r c g here).foldl stp (f,w)) (some (false,plP here)) n') S:=by
 obtain ⟨ρ',e,x,_,rfl⟩:=zfi (tg:=.one 5) (body:=zcn) (S:=S) plP (I:=fun q ρ=>∃x,((q.foldl stp (f,w)).1.length<=f.length+q.length/\(q.foldl stp (f,w)).2.length<=w.length+q.length)/\ρ=mkA (flr r c g) p (q.foldl stp (f,w)) (some (false,plP here)) x) (alk r c g here) (ρ:=mkA (flr r c g) p (f,w) (some (false,plP here)) n0) ⟨n0,⟨by simp,by simp⟩,rfl⟩
  (by
   rintro q n zbk ρ hq ⟨x,⟨l1,l2⟩,rfl⟩;have hl:=congrArg List.length hq;have h4:=zgY (r:=r) (c:=c) (g:=g) (p:=here);rw [yal,yag] at hl;refine ⟨_,_,rfl,zki (S:=S) (by omega) (by omega),some (false,plP n),?_,by rw [ycd];rfl⟩;rw [ycd];generalize q.foldl stp (f,w)=s at *;show (stp s n).1.length<=_/\(stp s n).2.length<=_;unfold stp;split
   ·rw [yal];exact ⟨by omega,by omega⟩
   ·simp only [yal,ya6];exact ⟨by omega,by omega⟩)
 exact ⟨x,e⟩
def zcR{p:P2}(h1:1<=r)(hc:c<=100)(hrc:r*c<=60)(hp:p.1<r/\p.2<c):zbw [flr r c g,plP p] S=.ok (.lst ((zac r c g p).map plP)) S:=by
 have eo:=zbV (g:=g) (S:=S) h1 hp.1 hp.2;have ed:=zoL (S:=S) (i:=1) (ρ:=[some (false,flr r c g),some (false,plP p),none,none,none,none]) (p:=toI p) rfl;have h0:Dv r c g p ([p],[p]):=⟨by simp,fun q hq=>by rcases yaP.mp hq with rfl;exact .refl,.head _,fun q hq=>hq,yah _,fun q hq hn=>absurd hq hn⟩
 obtain ⟨s,ρ',e,⟨h,n,hd,rfl⟩,hfin⟩:=zdH (cd:=zai gtD (zaO zeu [(zam 3)]) (zae (.int 0))) (body:=zdF) (S:=S) (I:=fun s ρ=>∃h n,Dv r c g p s/\ρ=mkA (flr r c g) p s h n) (fin:=fun s=>s.2=[]) (fun s=>2*(r*c-s.1.length)+s.2.length)
  (by
   rintro ⟨f,w⟩ ρ ⟨h,n,hd,rfl⟩;have hlen:=hd.len hp
   rcases List.eq_nil_or_concat w with rfl | ⟨w0,here,rfl⟩
   ·left;refine ⟨?_,rfl⟩;unfold mkA;generalize zdt (f.map toI)=X at *;simp
   ·right;rw [List.concat_eq_append] at *;have hw0:=hd.le;simp only [yal,ya6] at hw0 hlen;refine ⟨?_,?_⟩
    ·unfold mkA;generalize zdt (f.map toI)=X at *;simp
    ·obtain ⟨s',es,hd',_,l1,l2⟩:=hd.next;have hin:=(hd.con here (hd.sub here (yav _ (.head _)))).inr hp;have ea:=ziU (r:=r) (c:=c) (g:=g) (S:=S) h1 hin;obtain ⟨n',el⟩:=zib (r:=r) (c:=c) (g:=g) (p:=p) (here:=here) (f:=f) (w:=w0) (n0:=n) (S:=S) (by omega) (by omega);rw [es] at el;have ep:=zs5 (S:=S) (i:=4) (j:=3) (ρ:=mkA (flr r c g) p (f,w0++[here]) h n) (l:=w0.map plP) (d:=plP here) (by show some (some (true,D.lst ((w0++[here]).map plP)))=_;rw [ybb];rfl);have hlen2:=hd'.len hp;refine ⟨s',_,?_,⟨some (false,plP here),n',hd',rfl⟩,by show 2*(r*c-s'.1.length)+s'.2.length<2*(r*c-f.length)+(w0++[here]).length;rw [yal,ya6];omega⟩
     have hal:((alk r c g here).map plP).length<=100000:=by rw [yad];exact yar zgY (by decide)
     unfold mkA at ep el ⊢;dsimp only at ep el ⊢;generalize (alk r c g here).map plP=A at *;generalize zdt (f.map toI)=X at *;generalize zdt (s'.1.map toI)=X2 at *;generalize w0.map plP=W0 at *;generalize (w0++[here]).map plP=W1 at *;generalize s'.2.map plP=W2 at *;generalize flr r c g=F at *
     simp [zdF,ep,ea,el,hal])
  100000 ([p],[p]) (mkA (flr r c g) p ([p],[p]) none none) ⟨none,none,h0,rfl⟩ (by
   show 2*(r*c-1)+1<100000
   omega)
 obtain ⟨f,w⟩:=s;have hw:w=[]:=hfin;subst hw
 have hall:∀q,q∈f↔Conn r c g p q:=fun q=>⟨hd.con q,fun hq=>by
  induction hq with
  | refl=>exact hd.me
  | step _ m ih=>exact hd.clo _ ih (fun z=>by cases z) _ m⟩
 obtain ⟨ok,es⟩:=zfG hc hrc hp hd.nd hall;have ex:=fun (ρ:Env) (o:Bool) (hi:ρ[2]?=some (some (o,zdt (f.map toI))))=>zpN (S:=S) hi ok
 rw [es,<-zcy] at ex
 have hla:((zac r c g p).map plP).length<=100000:=by
  rw [yad]
  have:=zb4 (r:=r) (c:=c) (g:=g) (p:=p) |>.length_le
  rw [zbg] at this;omega
 unfold mkA at e;dsimp only at e;have ed':zeb 1 [some (false,flr r c g),some (false,plD p.1 p.2),none,none,none,none] S=.ok (zdt [toI p]) S:=ed;have e0:zbN (zai gtD (zaO zeu [(zam 3)]) (zae (.int 0))) zdF 100000 [some (false,flr r c g),some (false,plD p.1 p.2),some (true,zdt [toI p]),some (true,.lst [plD p.1 p.2]),none,none] S=.nx [some (false,flr r c g),some (false,plD p.1 p.2),some (true,zdt (f.map toI)),some (true,.lst []),h,n] S:=e;have ex1:=ex [some (false,flr r c g),some (false,plD p.1 p.2),some (false,zdt (f.map toI)),some (true,.lst []),h,n] false rfl;show zbw [flr r c g,plD p.1 p.2] S=_;generalize (zac r c g p).map plP=A at *;generalize zdt (f.map toI)=X at *;generalize zdt [toI p]=X0 at *;generalize plD p.1 p.2=pp at *;generalize flr r c g=F at *;simp [zbw,zas,zhA,eo,ed',zdN,e0,ex1]
end S2
namespace S2
open PySem
open L2 hiding D
variable{r c:Nat}{g:Z1}{S:Sto}
def zi9{p q:P2}(h:plP p=plP q):p=q:=by
 have:zbC (plP p)=zbC (plP q):=by rw [h]
 exact zgq (Option.some.inj this)
def zmC{l:List P2}:(D.lst (l.map plP)).pl=true:=by
 show D.pls (l.map plP)=true;rw [D.pls_iff];intro d hd;obtain ⟨p,_,rfl⟩:=yaq.mp hd;rfl
def zi8{l:List P2}:(D.lst (l.map plP)).fit 9=true:=by
 show D.fits 8 (l.map plP)=true;rw [D.fits_iff];intro d hd;obtain ⟨p,_,rfl⟩:=yaq.mp hd;rfl
theorem zi7:∀{l m:List P2},l.map plP=m.map plP->l=m
 | [],[],_=>rfl
 | [],_::_,h=>by cases h
 | _::_,[],h=>by cases h
 | p::l,q::m,h=>by
  rw [yat,yat,List.cons.injEq] at h;rw [zi9 h.1,zi7 h.2]
def zqd{l m:List P2}:zef (.lst (l.map plP)) (.lst (m.map plP))=decide (l=m):=by
 have:=zf7 (.lst (l.map plP)) (.lst (m.map plP)) zmC zmC
 by_cases e:l=m
 ·rw [yan e];exact this.mpr (by rw [e])
 ·rw [yau e]
  cases h:zef (.lst (l.map plP)) (.lst (m.map plP)) with
  | false=>rfl
  | true=>exact absurd (zi7 (D.lst.inj (this.mp h))) e
def zfZ{l m:List P2}:neD (.lst (l.map plP)) (.lst (m.map plP))=some (.bl (!decide (l=m))):=by
 unfold neD;rw [zi8,zi8,zqd];rfl
def znK{p q:P2}:zef (plP p) (plP q)=decide (p=q):=by
 have:=zf7 (plP p) (plP q) rfl rfl
 by_cases e:p=q
 ·rw [yan e];exact this.mpr (by rw [e])
 ·rw [yau e]
  cases h:zef (plP p) (plP q) with
  | false=>rfl
  | true=>exact absurd (zi9 (this.mp h)) e
def zrv{p q:P2}:eqD (plP p) (plP q)=some (.bl (decide (p=q))):=by
 unfold eqD;rw [show (plP p).fit 9=true from rfl,show (plP q).fit 9=true from rfl,znK];rfl
def zjs{l:List P2}{p:P2}:zoe (plP p) (.lst (l.map plP))=some (.bl (!decide (p∈l))):=by
 have e:zlB (plP p) (l.map plP)=decide (p∈l):=by
  unfold zlB;rw [List.any_map]
  by_cases h:p∈l
  ·rw [yan h,List.any_eq_true];exact ⟨p,h,by show zef (plP p) (plP p)=true;rw [znK];simp⟩
  ·rw [yau h,List.any_eq_false];intro x hx z;have z:zef (plP x) (plP p)=true:=z;rw [znK] at z;exact h (yak z ▸ hx)
 show (if _ then _ else _)=_;rw [show (plP p).fit 8=true from rfl,show D.fits 8 (l.map plP)=true by rw [D.fits_iff];intro d hd;obtain ⟨y,_,rfl⟩:=yaq.mp hd;rfl,e];rfl
noncomputable instance{p q:P2}:Decidable (adj p q):=by unfold adj;infer_instance
noncomputable def zdd(f:List P2)(n:P2):List P2:=f.filter fun o=>decide (adj o n)
noncomputable def grw(g:Z1)(p:P2)(f:List P2)(n:P2):Bool:=!decide (n∈f)&&(!decide (zdd f n=[])&&decide (g n.1 n.2=g p.1 p.2))
noncomputable def pst(g:Z1)(p:P2)(s:List P2×Bool)(n:P2):List P2×Bool:=if grw g p s.1 n=true then (s.1++[n],true) else s
noncomputable abbrev mkL(F:D)(p:P2)(s:List P2×Bool)(o n:Option (Bool×D)):Env:=[some (false,F),some (false,plP p),some (true,.lst (s.1.map plP)),some (false,.bl s.2),o,n]
def zm0{o n:P2}:(decide ((if (o.1:Int)-n.1<0 then -((o.1:Int)-n.1) else (o.1:Int)-n.1)+(if (o.2:Int)-n.2<0 then -((o.2:Int)-n.2) else (o.2:Int)-n.2)=1))=decide (adj o n):=by
 rw [ybH];unfold adj
 split<;>split<;>omega
def zjt{f:List P2}{n:P2}:zbi (.one 0) (zai eqD (zai zdG (zaO zmZ [(zai zkv (zai ixD (zam 0) (zae (.int 0))) (zai ixD (zam 1) (zae (.int 0))))]) (zaO zmZ [(zai zkv (zai ixD (zam 0) (zae (.int 1))) (zai ixD (zam 1) (zae (.int 1))))])) (zae (.int 1))) (zad 0) [none,some (false,plP n)] (f.map plP) S=.ok ((zdd f n).map plP) S:=by
 have hc:∀(d:D) (o:P2),d=plP o->(match zbC d with | some x=>decide ((if x.1-n.1<0 then -(x.1-n.1) else x.1-n.1)+(if x.2-n.2<0 then -(x.2-n.2) else x.2-n.2)=1) | none=>false)=decide (adj o n):=by
  rintro _ o rfl;exact zm0
 rw [zbS (g:=id) (p:=fun d=>match zbC d with | some x=>decide ((if x.1-n.1<0 then -(x.1-n.1) else x.1-n.1)+(if x.2-n.2<0 then -(x.2-n.2) else x.2-n.2)=1) | none=>false)]
 ·rw [List.map_id,List.filter_map];unfold zdd;have ef:((fun d=>match zbC d with | some x=>decide ((if x.1-n.1<0 then -(x.1-n.1) else x.1-n.1)+(if x.2-n.2<0 then -(x.2-n.2) else x.2-n.2)=1) | none=>false)∘plP)=fun o=>decide (adj o n):=funext fun o=>hc _ o rfl
  rw [ef]
 ·intro d hd;obtain ⟨o,_,rfl⟩:=yaq.mp hd;refine ⟨_,rfl,?_,fun _=>by simp⟩;rw [hc _ o rfl,<-zm0];have ea:∀i:Int,zmZ [.int i]=some (.int (if i<0 then -i else i)):=fun i=>rfl
  simp [plD,ea]
def zlw{f:List P2}{n:P2}:(zdd f n).length<=f.length:=ybQ _ _
def zmh{p n:P2}{s:List P2×Bool}{x:Option (Bool×D)}(h1:1<=r)(hp:p.1<r/\p.2<c)(hn:n.1<r/\n.2<c)(hl:s.1.length<=1000):∃x',zar (mkL (flr r c g) p s (some (false,plP n)) x) S=.nx (mkL (flr r c g) p (pst g p s n) (some (false,plP n)) x') S:=by
 have e1:=zjt (f:=s.1) (n:=n) (S:=S);have e2:=zjs (l:=s.1) (p:=n);have e3:=zfZ (l:=zdd s.1 n) (m:=[]);have e4:zbu [flr r c g,plP n] S=.ok (oD (g n.1 n.2)) S:=zdP (g:=g) (S:=S) h1 hn.1 hn.2;have e5:zbu [flr r c g,plP p] S=.ok (oD (g p.1 p.2)) S:=zdP (g:=g) (S:=S) h1 hp.1 hp.2;have e6:=zrw (a:=g n.1 n.2) (b:=g p.1 p.2)
 have l1:((zdd s.1 n).map plP).length<=100000:=by rw [yad];have:=zlw (f:=s.1) (n:=n);omega
 have l2:(s.1.map plP).length<=100000:=by rw [yad];omega
 refine ⟨some (true,.lst ((zdd s.1 n).map plP)),?_⟩;unfold pst grw
 by_cases c1:n∈s.1
 ·rw [yan c1] at e2 ⊢;rw [if_neg (by simp)];unfold mkL;generalize (zdd s.1 n).map plP=NL at *;generalize s.1.map plP=FL at *;generalize flr r c g=F at *;generalize plP n=nn at *;generalize plP p=pp at *;simp [zar,e1,e2,l1]
 ·rw [yau c1] at e2 ⊢
  by_cases c2:zdd s.1 n=[]
  ·rw [yan c2] at e3 ⊢;rw [if_neg (by simp)];unfold mkL;generalize (zdd s.1 n).map plP=NL at *;generalize s.1.map plP=FL at *;generalize flr r c g=F at *;generalize plP n=nn at *;generalize plP p=pp at *;have e3':neD (.lst NL) (.lst [])=some (.bl false):=e3;simp [zar,e1,e2,e3',l1]
  ·rw [yau c2] at e3 ⊢
   by_cases c3:g n.1 n.2=g p.1 p.2
   ·rw [yan c3] at e6 ⊢;rw [if_pos (by simp)];unfold mkL;rw [show (s.1++[n]).map plP=s.1.map plP++[plP n] by rw [ybb];rfl];generalize (zdd s.1 n).map plP=NL at *;generalize s.1.map plP=FL at *;generalize flr r c g=F at *;generalize oD (g n.1 n.2)=o1 at *;generalize oD (g p.1 p.2)=o2 at *;generalize plP n=nn at *;generalize plP p=pp at *;have e3':neD (.lst NL) (.lst [])=some (.bl true):=e3;simp [zar,e1,e2,e3',e4,e5,e6,l1,l2]
   ·rw [yau c3] at e6 ⊢;rw [if_neg (by simp)];unfold mkL;generalize (zdd s.1 n).map plP=NL at *;generalize s.1.map plP=FL at *;generalize flr r c g=F at *;generalize oD (g n.1 n.2)=o1 at *;generalize oD (g p.1 p.2)=o2 at *;generalize plP n=nn at *;generalize plP p=pp at *;have e3':neD (.lst NL) (.lst [])=some (.bl true):=e3;simp [zar,e1,e2,e3',e4,e5,e6,l1,l2]
structure Lv(r c:Nat)(g:Z1)(p:P2)(f:List P2):Prop where
 nd:f.Nodup
 con:∀q∈f,Conn r c g p q
 me:p∈f
def Lv.len{p:P2}{f:List P2}(h:Lv r c g p f)(hp:p.1<r/\p.2<c):f.length<=r*c:=by
 rw [<-zbg];exact zdD h.nd fun q hq=>za2.mpr ((h.con q hq).inr hp)
def Lv.grow{p n:P2}{f:List P2}(h:Lv r c g p f)(hn:n.1<r/\n.2<c)(hg:grw g p f n=true):Lv r c g p (f++[n]):=by
 unfold grw at hg;rw [yab,yab,ya7,ya7,ybc,ybc,ya8] at hg;obtain ⟨a,b,d⟩:=hg;refine ⟨?_,fun q hq=>?_,yaN _ h.me⟩
 ·rw [List.nodup_append];exact ⟨h.nd,by simp,fun x hx y hy=>by rw [yaP] at hy;subst hy;exact fun z=>a (z ▸ hx)⟩
 ·rcases ybi.mp hq with hq | hq
  ·exact h.con q hq
  ·rcases yaP.mp hq with rfl
   obtain ⟨o,ho⟩:=List.exists_mem_of_ne_nil _ b;obtain ⟨ho1,ho2⟩:=yba.mp ho;exact (h.con o ho1).step (zbI.mpr ⟨yak ho2,hn.1,hn.2,by rw [d,(h.con o ho1).num]⟩)
theorem ze2{p:P2}:∀(l:List P2) (s:List P2×Bool),(∀n∈l,n.1<r/\n.2<c)->Lv r c g p s.1->Lv r c g p (l.foldl (pst g p) s).1/\s.1.length<=(l.foldl (pst g p) s).1.length/\(s.2=true->(l.foldl (pst g p) s).2=true)/\(s.2=false->(l.foldl (pst g p) s).2=true->s.1.length<(l.foldl (pst g p) s).1.length)/\((l.foldl (pst g p) s).2=false->(l.foldl (pst g p) s).1=s.1/\∀n∈l,grw g p s.1 n=false)
 | [],s,_,h=>⟨h,yah _,fun z=>z,(fun a b=>by rw [show (List.foldl (pst g p) s []).2=s.2 from rfl,a] at b;cases b),fun _=>⟨rfl,fun n hn=>by cases hn⟩⟩
 | n::l,s,hl,h=>by
  rw [ybN]
  by_cases hg:grw g p s.1 n=true
  ·rw [show pst g p s n=(s.1++[n],true) from if_pos hg];obtain ⟨a,b,d,e,f⟩:=ze2 l (s.1++[n],true) (fun m hm=>hl m (.tail _ hm)) (h.grow (hl n (.head _)) hg)
   have b':s.1.length+1<=(l.foldl (pst g p) (s.1++[n],true)).1.length:=by
    have:(s.1++[n]).length<=(l.foldl (pst g p) (s.1++[n],true)).1.length:=b;rwa [yal,ya6] at this
   refine ⟨a,by omega,fun _=>d rfl,fun _ _=>by omega,fun z=>?_⟩;rw [d rfl] at z;cases z
  ·rw [show pst g p s n=s from if_neg hg];obtain ⟨a,b,d,e,f⟩:=ze2 l s (fun m hm=>hl m (.tail _ hm)) h;refine ⟨a,b,d,e,fun z=>⟨(f z).1,fun m hm=>?_⟩⟩
   rcases yas.mp hm with rfl | hm
   ·simpa using hg
   ·exact (f z).2 m hm
def zll{p:P2}{s:List P2×Bool}{o x:Option (Bool×D)}(h1:1<=r)(hp:p.1<r/\p.2<c)(hrc:r*c<=60)(h:Lv r c g p s.1):∃o' x',zcC (.one 4) zar (zfs r c) (mkL (flr r c g) p s o x) S=.nx (mkL (flr r c g) p ((psN r c).foldl (pst g p) s) o' x') S:=by
 obtain ⟨ρ',e,o',x',_,rfl⟩:=zfi (tg:=.one 4) (body:=zar) (S:=S) plP (I:=fun q ρ=>∃o x,Lv r c g p (q.foldl (pst g p) s).1/\ρ=mkL (flr r c g) p (q.foldl (pst g p) s) o x) (psN r c) (ρ:=mkL (flr r c g) p s o x) ⟨o,x,h,rfl⟩
  (by
   rintro q n zbk ρ hq ⟨o,x,hv,rfl⟩;have hn:=za2.mp (hq ▸ yav q (yaB (a:=n) (l:=zbk)):n∈psN r c);obtain ⟨x',eb⟩:=zmh (r:=r) (c:=c) (g:=g) (p:=p) (n:=n) (s:=q.foldl (pst g p) s) (x:=x) (S:=S) h1 hp hn (by have:=hv.len hp;omega);refine ⟨_,_,rfl,eb,some (false,plP n),x',?_,by rw [ycd];rfl⟩;rw [ycd]
   exact (ze2 [n] _ (fun m hm=>by rcases yaP.mp hm with rfl;exact hn) hv).1)
 rw [ze3];exact ⟨o',x',e⟩
def zdl{p:P2}(h1:1<=r)(hr:r<=100)(hc:c<=100)(hrc:r*c<=60)(hp:p.1<r/\p.2<c):zaF [flr r c g,plP p] S=.ok (.lst ((zac r c g p).map plP)) S:=by
 have h0:Lv r c g p [p]:=⟨by simp,fun q hq=>by rcases yaP.mp hq with rfl;exact .refl,.head _⟩;have epl:=zc9 (g:=g) (S:=S) h1 hr hc
 have hpl:(zfs r c).length<=100000:=by rw [ze4];omega
 obtain ⟨s,ρ',e,⟨o,x,hv,hcl,rfl⟩,hfin⟩:=zdH (cd:=zad 3) (body:=zbq) (S:=S) (I:=fun s ρ=>∃o x,Lv r c g p s.1/\(s.2=false->∀n∈psN r c,grw g p s.1 n=false)/\ρ=mkL (flr r c g) p s o x) (fin:=fun s=>s.2=false) (fun s=>2*(r*c-s.1.length)+(if s.2 then 1 else 0))
  (by
   rintro ⟨f,gr⟩ ρ ⟨o,x,hv,hcl,rfl⟩;have hlen:=hv.len hp
   cases gr with
   | false =>
    left;refine ⟨?_,rfl⟩;unfold mkL;simp
   | true =>
    right;refine ⟨by unfold mkL;simp,?_⟩;obtain ⟨o',x',ep⟩:=zll (s:=(f,false)) (o:=o) (x:=x) (S:=S) h1 hp hrc hv;obtain ⟨a,b,_,d,e⟩:=ze2 (r:=r) (c:=c) (g:=g) (p:=p) (psN r c) (f,false) (fun n hn=>za2.mp hn) hv;have hlen2:=a.len hp;refine ⟨(psN r c).foldl (pst g p) (f,false),_,?_,⟨o',x',a,fun z=>?_,rfl⟩,?_⟩
    ·unfold mkL at ep ⊢;dsimp only at ep ⊢;generalize (psN r c).foldl (pst g p) (f,false)=s' at *;generalize zfs r c=PL at *;generalize f.map plP=FL at *;generalize s'.1.map plP=FL2 at *;generalize flr r c g=F at *;simp [zbq,epl,ep,hpl]
    ·obtain ⟨e1,e2⟩:=e z;rw [e1];exact e2
    ·show 2*(r*c-((psN r c).foldl (pst g p) (f,false)).1.length)+(if ((psN r c).foldl (pst g p) (f,false)).2=true then 1 else 0)<2*(r*c-f.length)+1;have b':f.length<=((psN r c).foldl (pst g p) (f,false)).1.length:=b
     cases hz:((psN r c).foldl (pst g p) (f,false)).2 with
     | true =>
      have d':f.length<((psN r c).foldl (pst g p) (f,false)).1.length:=d rfl hz;rw [if_pos rfl];omega
     | false=>rw [if_neg (by decide)];omega)
  100000 ([p],true) (mkL (flr r c g) p ([p],true) none none) ⟨none,none,h0,(fun z=>by cases z),rfl⟩ (by
   show 2*(r*c-1)+1<100000
   omega)
 obtain ⟨f,gr⟩:=s;have hgr:gr=false:=hfin;subst hgr;have hcl:=hcl rfl
 have hall:∀q,q∈f↔Conn r c g p q:=fun q=>⟨hv.con q,fun hq=>by
  induction hq with
  | refl=>exact hv.me
  | @step q n hq m ih =>
   obtain ⟨a1,a2,a3,a4⟩:=zbI.mp m;apply Classical.byContradiction;intro hn;have:=hcl n (za2.mpr ⟨a2,a3⟩)
   have ht:grw g p f n=true:=by
    unfold grw;rw [yab,yab,ya7,ya7,ybc,ybc,ya8];refine ⟨hn,fun z=>?_,by rw [a4,hq.num]⟩;have:q∈zdd f n:=yba.mpr ⟨ih,yan a1⟩;rw [z] at this;cases this
   rw [ht] at this;cases this⟩
 obtain ⟨ok,es⟩:=zfG hc hrc hp hv.nd hall;have ex:=ziD ok;rw [es,<-zcy,<-zcy] at ex
 have hla:((zac r c g p).map plP).length<=100000:=by
  rw [yad]
  have:=zb4 (r:=r) (c:=c) (g:=g) (p:=p) |>.length_le
  rw [zbg] at this;omega
 show zaF [flr r c g,plD p.1 p.2] S=_;unfold mkL at e;dsimp only at e;have e0:zbN (zad 3) zbq 100000 [some (false,flr r c g),some (false,plD p.1 p.2),some (true,.lst [plD p.1 p.2]),some (false,.bl true),none,none] S=.nx [some (false,flr r c g),some (false,plD p.1 p.2),some (true,.lst (f.map plP)),some (false,.bl false),o,x] S:=e;generalize (zac r c g p).map plP=A at *;generalize f.map plP=FL at *;generalize plD p.1 p.2=pp at *;generalize flr r c g=F at *;simp [zaF,zas,zcH,zdN,e0,ex]
end S2
namespace S2
open PySem
open L2 hiding D
variable{r c:Nat}{g:Z1}{S:Sto}
noncomputable abbrev arD(r c:Nat)(g:Z1)(p:P2):D:=.lst ((zac r c g p).map plP)
def zkq{p:P2}(hp:p.1<r/\p.2<c):p∈zac r c g p:=(zaI hp).mpr .refl
def zee{p:P2}(hp:p.1<r/\p.2<c):∃q l,zac r c g p=q::l/\Conn r c g p q:=by
 cases h:zac r c g p with
 | nil=>have:=zkq (g:=g) hp;rw [h] at this;cases this
 | cons q l=>exact ⟨q,l,rfl,(zaI hp).mp (by rw [h];exact .head _)⟩
noncomputable def zbt(r c:Nat)(g:Z1)(p:P2):Bool:=decide ((zac r c g p).head?=some p)
theorem zeA:∀(L:List P2),(∀p∈L,p.1<r/\p.2<c)->zbi (.tup [0,1]) (zai eqD (zai ixD (zam 0) (zae (.int 0))) (zam 1)) (zad 0) [none,none] (L.map fun p=>.tup [arD r c g p,plP p]) S=.ok ((L.filter (zbt r c g)).map (arD r c g)) S
 | [],_=>rfl
 | p::L,hL=>by
  have ih:=zeA L fun q hq=>hL q (.tail _ hq)
  obtain ⟨q,l,ea,_⟩:=zee (g:=g) (hL p (.head _));have e2:=zrv (p:=q) (q:=p)
  have ef:zbt r c g p=decide (q=p):=by
   unfold zbt;rw [ea,ybH];exact ⟨fun z=>Option.some.inj z,fun z=>by rw [z];rfl⟩
  have e1:ixD (arD r c g p) (.int 0)=some (plP q):=by
   unfold arD;rw [ea];show atI _ 0=_;rw [show (0:Int)=((0:Nat):Int) from rfl,zbr];rfl
  rw [yat,ybI,ef];unfold zbi;have ep:(Tg.tup [0,1]).put [none,none] (.tup [arD r c g p,plP p])=some [some (false,arD r c g p),some (false,plP p)]:=rfl;rw [ep];dsimp only;generalize hA:arD r c g p=A at *;generalize hP:plP p=P at *;generalize plP q=Q at *
  by_cases h:q=p
  ·rw [yan h] at e2 ⊢;rw [if_pos rfl,yat,hA];simp [e1,e2,ih]
  ·rw [yau h] at e2 ⊢;rw [if_neg (by decide)];simp [e1,e2,ih]
def zih:∀(L:List P2),1<=r->c<=100->r*c<=60->(∀p∈L,p.1<r/\p.2<c)->zbi (.one 0) zj2 (eFn zbw [(zad 1),(zad 0)]) [none,some (false,flr r c g)] (L.map plP) S=.ok (L.map (arD r c g)) S:=by
 intro L h1 hc hrc hL
 have e:L.map (arD r c g)=(L.map plP).map fun d=>match zbC d with | some x=>arD r c g (x.1.toNat,x.2.toNat) | none=>.non:=by
  rw [ybk];apply List.map_congr_left;intro p _;show arD r c g p=arD r c g (((p.1:Int)).toNat,((p.2:Int)).toNat);rw [ya1,ya1]
 rw [e];apply zkc;intro d hd;obtain ⟨p,hp,rfl⟩:=yaq.mp hd;refine ⟨_,rfl,?_⟩;have ea:zbw [flr r c g,plD p.1 p.2] S=.ok (arD r c g p) S:=zcR (g:=g) (S:=S) h1 hc hrc (hL p hp)
 have e2:(match zbC (plP p) with | some x=>arD r c g (x.1.toNat,x.2.toNat) | none=>.non)=arD r c g p:=by
  show arD r c g (((p.1:Int)).toNat,((p.2:Int)).toNat)=_;rw [ya1,ya1]
 rw [e2];generalize arD r c g p=A at *;generalize flr r c g=F at *;simp [ea]
theorem zfv:∀L:List P2,zfr (L.map (arD r c g)) (L.map plP)=L.map fun p=>.tup [arD r c g p,plP p]
 | []=>rfl
 | p::L=>by
  rw [yat,yat,yat,<-zfv L];rfl
def zfM(h1:1<=r)(hr:r<=100)(hc:c<=100)(hrc:r*c<=60):zdR [flr r c g] S=.ok (.lst (((psN r c).filter (zbt r c g)).map (arD r c g))) S:=by
 have epl:=zc9 (g:=g) (S:=S) h1 hr hc;have e1:=zih (g:=g) (S:=S) (psN r c) h1 hc hrc (fun p hp=>za2.mp hp);have e2:=zeA (g:=g) (S:=S) (psN r c) (fun p hp=>za2.mp hp);rw [<-zfv] at e2;rw [<-ze3] at e1 e2
 have l0:(zfs r c).length<=100000:=by rw [ze4];omega
 have l1:((psN r c).map (arD r c g)).length<=100000:=by rw [yad,zbg];omega
 have l2:(((psN r c).filter (zbt r c g)).map (arD r c g)).length<=100000:=by
  rw [yad];have:=ybQ (zbt r c g) (psN r c);rw [zbg] at this;omega
 generalize ((psN r c).filter (zbt r c g)).map (arD r c g)=R at *;generalize (psN r c).map (arD r c g)=EV at *;generalize zfs r c=PL at *;generalize flr r c g=F at *;simp [zdR,zas,zgO,epl,e1,e2,l0,l1,l2]
end S2
namespace S2
open PySem
open L2 hiding D
variable{r c:Nat}{g:Z1}{S:Sto}
noncomputable def zaD(g:Z1)(A:List P2)(o:Option Int):Nat->Nat->Option Int:=fun i j=>if (i,j)∈A then o else g i j
theorem zdS{o:Option Int}:∀(A:List P2) (g:Z1),A.foldl (fun g q=>ze1 g q.1 q.2 o) g=zaD g A o
 | [],g=>by funext i j;rfl
 | q::A,g=>by
  rw [ybN,zdS A];funext i j;unfold zaD ze1
  by_cases h:(i,j)∈A
  ·rw [if_pos h,if_pos (.tail _ h)]
  ·rw [if_neg h]
   by_cases e:i=q.1/\j=q.2
   ·rw [if_pos e,if_pos (by rw [e.1,e.2];exact .head _)]
   ·rw [if_neg e,if_neg];intro z
    rcases yas.mp z with z | z
    ·exact e ⟨congrArg Prod.fst z,congrArg Prod.snd z⟩
    ·exact h z
def zh1{i j:Int}(h1:1<=r)(h:¬ ((0<=i/\i<r)/\0<=j/\j<c)):zaj [flr r c g,.tup [.int i,.int j]] S=.exc "NoPlace" S:=by
 have hp:=zbW (g:=g) (c:=c) (i:=i) (j:=j) (S:=S) h1;rw [yau h] at hp;generalize flr r c g=fg at *;generalize D.tup [.int i,.int j]=pp at *;simp [zaj,zas,zaR,hp]
def zhK{i j:Int}(h1:1<=r)(h:¬ ((0<=i/\i<r)/\0<=j/\j<c)):zbw [flr r c g,.tup [.int i,.int j]] S=.exc "NoPlace" S:=by
 have hp:=zh1 (g:=g) (S:=S) h1 h;generalize flr r c g=fg at *;generalize D.tup [.int i,.int j]=pp at *;simp [zbw,zas,zhA,hp]
def zla{i j:Int}{T N:D}(h1:1<=r)(h:¬ ((0<=i/\i<r)/\0<=j/\j<c)):za1 [T,flr r c g,.tup [.int i,.int j],N] S=.exc "NoPlace" S:=by
 have hp:=zhK (g:=g) (S:=S) h1 h;generalize flr r c g=fg at *;generalize D.tup [.int i,.int j]=pp at *;simp [za1,zas,zc4,hp,zhw,ztz]
theorem zfA{ts:Z2}{o:Option Int}{s1 s2:Option (Bool×D)}(ho:∀x,o=some x->0<=x/\x<ts.length)(h1:1<=r)(hr:r<=100)(hc:c<=100):∀(A:List P2),(∀q∈A,q.1<r/\q.2<c)->∀(g:Z1) (x:Option (Bool×D)),∃x',zcC (.one 5) zaY (A.map plP) [some (false,.tup (ts.map zaq)),s1,s2,some (false,oD o),some (false,flr r c g),x] S=.nx [some (false,.tup (ts.map zaq)),s1,s2,some (false,oD o),some (false,flr r c (A.foldl (fun g q=>ze1 g q.1 q.2 o) g)),x'] S
 | [],_,g,x=>⟨x,by simp [zcC]⟩
 | q::A,hA,g,x=>by
  obtain ⟨x',e⟩:=zfA ho h1 hr hc A (fun y hy=>hA y (.tail _ hy)) (ze1 g q.1 q.2 o) (some (false,plP q));refine ⟨x',?_⟩;have et:zaz [.tup (ts.map zaq),flr r c g,plP q,oD o] S=.ok (flr r c (ze1 g q.1 q.2 o)) S:=zcQ (g:=g) (o:=o) (S:=S) ho h1 (hA q (.head _)).1 (hA q (.head _)).2 hr hc;rw [yat,ybN]
  have eb:zaY [some (false,.tup (ts.map zaq)),s1,s2,some (false,oD o),some (false,flr r c g),some (false,plP q)] S=.nx [some (false,.tup (ts.map zaq)),s1,s2,some (false,oD o),some (false,flr r c (ze1 g q.1 q.2 o)),some (false,plP q)] S:=by
   generalize flr r c (ze1 g q.1 q.2 o)=F2 at *;generalize flr r c g=F at *;generalize ts.map zaq=td at *;generalize oD o=od at *;generalize plP q=pq at *;simp [zaY,et]
  unfold zcC;show (match zaY [some (false,.tup (ts.map zaq)),s1,s2,some (false,oD o),some (false,flr r c g),some (false,plP q)] S with | .nx ρ' S'=>zcC (.one 5) zaY (A.map plP) ρ' S' | .ct ρ' S'=>zcC (.one 5) zaY (A.map plP) ρ' S' | .bk ρ' S'=>.nx ρ' S' | o=>o)=_;rw [eb];exact e
def zkr{p q:P2}(h:q∈zac r c g p):q.1<r/\q.2<c:=za2.mp (zb4.subset h)
def zfo{p:P2}(hrc:r*c<=60):((zac r c g p).map plP).length<=100000:=by
 rw [yad]
 have:=zb4 (r:=r) (c:=c) (g:=g) (p:=p) |>.length_le
 rw [zbg] at this;omega
def zep{ts:Z2}{o:Option Int}{p:P2}(ho:∀x,o=some x->0<=x/\x<ts.length)(h1:1<=r)(hr:r<=100)(hc:c<=100)(hrc:r*c<=60)(hp:p.1<r/\p.2<c):za1 [.tup (ts.map zaq),flr r c g,plP p,oD o] S=.ok (flr r c (zaD g (zac r c g p) o)) S:=by
 have ea:=zcR (g:=g) (S:=S) h1 hc hrc hp;obtain ⟨x',e⟩:=zfA (S:=S) (s1:=some (false,flr r c g)) (s2:=some (false,plP p)) ho h1 hr hc (zac r c g p) (fun q hq=>zkr hq) g none;rw [zdS] at e;have hl:=zfo (r:=r) (c:=c) (g:=g) (p:=p) hrc;generalize (zac r c g p).map plP=A at *;generalize flr r c (zaD g (zac r c g p) o)=F2 at *;generalize flr r c g=F at *;generalize ts.map zaq=td at *;generalize oD o=od at *;generalize plP p=pp at *;simp [za1,zas,zc4,ea,e,hl]
def zkI{ts:Z2}{x:Int}{p:P2}(hx:(ts.length:Int)<=x)(h1:1<=r)(hp:p.1<r/\p.2<c):zaz [.tup (ts.map zaq),flr r c g,plP p,.int x] S=.exc "NoTile" S:=by
 have e1:zaj [flr r c g,plP p] S=.ok .non S:=zbV (g:=g) (S:=S) h1 hp.1 hp.2
 have e2:zbv [.tup (ts.map zaq),.int x] S=.ok (.bl false) S:=by
  have hl:((ts.map zaq).length:Int)<=x:=by rw [yad];exact hx
  have hn:¬ (x<((ts.map zaq).length:Int)):=by omega
  have hx0:0<=x:=by omega
  generalize ts.map zaq=td at *;simp [zbv,zas,zcd,zaX,zbe,zcu,hn,hx0]
 generalize flr r c g=F at *;generalize ts.map zaq=td at *;generalize plP p=pp at *;simp [zaz,zas,zbZ,e1,e2]
def zlb{ts:Z2}{x:Int}{p:P2}(hx:(ts.length:Int)<=x)(h1:1<=r)(hc:c<=100)(hrc:r*c<=60)(hp:p.1<r/\p.2<c):za1 [.tup (ts.map zaq),flr r c g,plP p,.int x] S=.exc "NoTile" S:=by
 have ea:=zcR (g:=g) (S:=S) h1 hc hrc hp;obtain ⟨q,l,eq,hq⟩:=zee (g:=g) hp;have hl:=zfo (r:=r) (c:=c) (g:=g) (p:=p) hrc;rw [eq,yat] at ea hl;have et:=zkI (g:=g) (S:=S) (p:=q) (ts:=ts) hx h1 (hq.inr hp);generalize flr r c g=F at *;generalize ts.map zaq=td at *;generalize plP p=pp at *;generalize plP q=qq at *;generalize l.map plP=L at *;simp [za1,zas,zc4,ea,hl,zcC,zaY,et]
variable{p:P2}{o:Option Int}
def zgC{q:P2}(h:q∈zac r c g p):zaD g (zac r c g p) o q.1 q.2=o:=if_pos h
def zi5{q:P2}(h:q ∉ zac r c g p):zaD g (zac r c g p) o q.1 q.2=g q.1 q.2:=if_neg h
def zfP{q n:P2}(hp:p.1<r/\p.2<c)(hq:q.1<r/\q.2<c)(h:Conn r c g q n):Conn r c (zaD g (zac r c g p) o) q n:=by
 induction h with
 | refl=>exact .refl
 | @step m n hm hn ih =>
  refine ih.step ?_;obtain ⟨a1,a2,a3,a4⟩:=zbI.mp hn;refine zbI.mpr ⟨a1,a2,a3,?_⟩;have hmr:=hm.inr hq
  by_cases h1:m∈zac r c g p
  ·have h2:n∈zac r c g p:=(zaI hp).mpr (((zaI hp).mp h1).step hn);rw [zgC h1,zgC h2]
  ·have h2:n ∉ zac r c g p:=fun z=>h1 ((zaI hp).mpr (((zaI hp).mp z).step (zbI.mpr ⟨zhL a1,hmr.1,hmr.2,a4.symm⟩)))
   rw [zi5 h1,zi5 h2,a4]
def zhZ(hp:p.1<r/\p.2<c):zaD (zaD g (zac r c g p) o) (zac r c (zaD g (zac r c g p) o) p) o=zaD g (zac r c g p) o:=by
 funext i j;show (if (i,j)∈zac r c (zaD g (zac r c g p) o) p then o else _)=_;split
 ·rename_i h;have e:=((zaI hp).mp h).num;rw [show zaD g (zac r c g p) o p.1 p.2=o from zgC (zkq hp)] at e;exact e.symm
 ·rfl
def zgL{α:Type}{l:List α}{P Q:α->Bool}{a:α}(h:∀x,Q x=true->P x=true)(hq:Q a=true)(hh:(l.filter P).head?=some a):(l.filter Q).head?=some a:=by
 rw [List.head?_filter] at hh ⊢;rw [List.find?_eq_some_iff_append] at hh ⊢;obtain ⟨_,as,bs,e,hn⟩:=hh;refine ⟨hq,as,bs,e,fun x hx=>?_⟩;have:=hn x hx
 cases hqx:Q x with
 | false=>rfl
 | true=>rw [h x hqx] at this;exact absurd this (by decide)
def zlX(hp:p.1<r/\p.2<c):((psN r c).filter (zbt r c (zaD g (zac r c g p) o))).length<=((psN r c).filter (zbt r c g)).length:=by
 rw [<-List.countP_eq_length_filter,<-List.countP_eq_length_filter];apply List.countP_mono_left;intro q hq h;have h':=yak h;have hqr:=za2.mp hq;refine yan ?_;unfold zac at h' ⊢;exact zgL (fun n hn=>zdw.mpr (zfP hp hqr (zdw.mp hn))) (zdw.mpr .refl) h'
def zoi(hp:p.1<r/\p.2<c){q:P2}(h:q∈zac r c g p):q∈zac r c (zaD g (zac r c g p) o) p:=(zaI hp).mpr (zfP hp hp ((zaI hp).mp h))
def zrn{q:P2}(hq:q.1<r/\q.2<c):∃f,f∈(psN r c).filter (zbt r c g)/\q∈zac r c g f:=by
 obtain ⟨f,l,e,hf⟩:=zee (g:=g) hq;have hfr:=hf.inr hq;refine ⟨f,yba.mpr ⟨za2.mpr hfr,yan ?_⟩,(zaI hfr).mpr (hf.symm hq)⟩;rw [zgX hq hf,e];rfl
def zoE{f f' q:P2}(hf:f∈(psN r c).filter (zbt r c g))(hf':f'∈(psN r c).filter (zbt r c g))(h:q∈zac r c g f)(h':q∈zac r c g f'):f=f':=by
 obtain ⟨a1,a2⟩:=yba.mp hf;obtain ⟨b1,b2⟩:=yba.mp hf';have r1:=za2.mp a1;have r2:=za2.mp b1;have e1:=zgX r1 ((zaI r1).mp h);have e2:=zgX r2 ((zaI r2).mp h');have x1:=yak a2;have x2:=yak b2;rw [<-e1] at x1;rw [<-e2,x1] at x2;exact Option.some.inj x2
noncomputable def zfz(r c:Nat)(g:Z1):List P2:=((psN r c).filter (zbt r c g)).flatMap (zac r c g)
def ziw:(zfz r c g).Nodup:=by
 unfold zfz List.Nodup;rw [List.pairwise_flatMap];refine ⟨fun f _=>zkp,?_⟩;refine ya9 (fun {f f'} hf hf' hne=>?_) (List.Pairwise.sublist yct zi3);intro x hx y hy e;subst e;exact hne (zoE hf hf' hx hy)
def zgp{q:P2}:q∈zfz r c g↔q∈psN r c:=by
 unfold zfz;rw [List.mem_flatMap];constructor
 ·rintro ⟨f,_,h⟩;exact zb4.subset h
 ·intro h;exact zrn (za2.mp h)
def zkG(hc:c<=100)(hrc:r*c<=60):zdC ((zfz r c g).map toI)=true/\zbd ((zfz r c g).map toI)=(psN r c).map toI:=by
 have hperm:(zfz r c g).Perm (psN r c):=(ybU ziw zi3).mpr fun q=>zgp
 have ok:zdC ((zfz r c g).map toI)=true:=by
  unfold zdC;rw [yab,yab,ybu];refine ⟨⟨yan (by rw [yad,hperm.length_eq,zbg];omega),fun x hx=>?_⟩,yan (zgK ziw)⟩;obtain ⟨q,hq,rfl⟩:=yaq.mp hx;have:=(za2.mp (zgp.mp hq)).2;apply yan;show -1000000<=(q.2:Int)/\(q.2:Int)<=1000000;omega
 refine ⟨ok,?_⟩;obtain ⟨_,sm,ndm⟩:=zdc ok;refine zcP ST.zcj (zbQ ?_) (zgA hc (List.Sublist.refl _)) ((za9 _).trans (hperm.map _));unfold List.Nodup at ndm ⊢;rw [ybr];exact ya9 (fun {a b} ha hb h e=>h (ST.zdY (sm a ha) (sm b hb) e)) ndm
def zlW(hc:c<=100)(hrc:r*c<=60):zdC (((psN r c).filter (zbt r c g)).map toI)=true/\zbd (((psN r c).filter (zbt r c g)).map toI)=((psN r c).filter (zbt r c g)).map toI:=by
 have hs:((psN r c).filter (zbt r c g)).Sublist (psN r c):=yct;have hnd:((psN r c).filter (zbt r c g)).Nodup:=List.Pairwise.sublist hs zi3
 have ok:zdC (((psN r c).filter (zbt r c g)).map toI)=true:=by
  unfold zdC;rw [yab,yab,ybu];refine ⟨⟨yan (by rw [yad];have:=hs.length_le;rw [zbg] at this;omega),fun x hx=>?_⟩,yan (zgK hnd)⟩;obtain ⟨q,hq,rfl⟩:=yaq.mp hx;have:=(za2.mp (hs.subset hq)).2;apply yan;show -1000000<=(q.2:Int)/\(q.2:Int)<=1000000;omega
 refine ⟨ok,?_⟩;obtain ⟨_,sm,ndm⟩:=zdc ok;refine zcP ST.zcj (zbQ ?_) (zgA hc hs) (za9 _);unfold List.Nodup at ndm ⊢;rw [ybr];exact ya9 (fun {a b} ha hb h e=>h (ST.zdY (sm a ha) (sm b hb) e)) ndm
end S2
namespace S2.L71
open PySem
open L2 hiding D
noncomputable def zrW:List (Str×Str):=[("NoPlace","FloorError"),("NoTile","FloorError")]
noncomputable def isL:Str->Str->Option Bool:=zr8 ["NoPlace","NoTile"] ["FloorError","NoPlace","NoTile","NoFill","Unlike","Nothing","NoText"]
noncomputable def zb1:Fs :=
  (zak (sFz [] (zbf 1 true (zeg [(eUn (zjN isL "NoFill") (zam 0)),(eUn (zjN isL "NoPlace") (zam 0)),(eUn (zjN isL "NoText") (zam 0)),(eUn (zjN isL "NoTile") (zam 0))])))
  (zak (sFz [] (zo7 1 (zeg [(eUn (zjN isL "Nothing") (zam 0)),(eUn (zjN isL "Unlike") (zam 0))])))
  (zak (sFz [] (sIf (eOr (zai neD (eMt zdv 1 (zae (.bl true))) (zae (.int 1))) (eUn zft (eUn (zjN isL "ValueError") (zam 0)))) (zak (sFz [] (zbG (zae (.str "wrong")))) sNx) sNx))
  (zak (sFz [] (zbG (zai ixD (zeg [(zae (.str "no fill")),(zae (.str "no place")),(zae (.str "no text")),(zae (.str "no tile")),(zae (.str "nothing")),(zae (.str "unlike"))]) (eMt zdr 1 (zae (.bl true))))))
  sNx))))
noncomputable def za7:List S2.D->Sto->Out S2.D:=zcS 2 false zb1
noncomputable def zbz:Fs :=
  (zak (sFz [] (zbf 5 false (zae .non)))
  (zak (sFz [] (zbf 6 false (zae .non)))
  (zak (sFz [] (zp7 (zo3 zrW) "FloorError" 7 5 (zak (sFz [2,3,1,2,3,4] (zbf 6 false (eIf (zai eqD (zam 0) (zae (.int 0))) (eFn zbw [(zad 2),(zad 3)]) (eFn za1 [(zad 1),(zad 2),(zad 3),(zad 4)])))) sNx)))
  (zak (sFz [] (sIf (zai zo8 (zam 5) (zae .non)) (zak (sFz [6] (zbG (zad 6))) sNx) sNx))
  (zak (sFz [5] (zbG (eFn za7 [(zad 5)])))
  sNx)))))
noncomputable def zao:List S2.D->Sto->Out S2.D:=zcS 8 false zbz
noncomputable def zfm:Fs :=
  (zak (sFz [9] (zo7 11 (zam 9))) sNx)
noncomputable def zcL:Fs :=
  (zak (sFz [1,13,14,6] (zbf 13 false (eFn zaz [(zad 1),(zad 13),(zad 14),(zad 6)]))) sNx)
noncomputable def zeI:Fs:=zak (sFz [1,4,5] (zbG (zai eqD (eFn zao [(zae (.int 1)),(zad 1),(zad 4),(zad 5),(zae (.int 2))]) (zae (.str "no tile"))))) sNx
noncomputable def zeJ:Fs:=zak (sFz [1,4,15,1,4,15] (sIf (eOr (zai neD (eFn zao [(zae (.int 0)),(zad 1),(zad 4),(zad 15),(zae (.int 0))]) (zae (.str "no place"))) (zai neD (eFn zao [(zae (.int 1)),(zad 1),(zad 4),(zad 15),(zae (.int 0))]) (zae (.str "no place")))) (zak (sFz [] (zbG (zae (.bl false)))) sNx) sNx)) zeI
noncomputable def zcN:Fs:=zak (sFz [2,3,0] (zbf 15 false (zai ixD (zeg [(zem [(eUn zog (zae (.int 1))),(zae (.int 0))]),(zem [(zad 2),(zae (.int 0))]),(zem [(zae (.int 0)),(zad 3)])]) (eFn zat [(zad 0),(zae (.int 95)),(zae (.int 3))])))) zeJ
noncomputable def zeL:Fs:=zak (sFz [5,12] (sIf (zai neD (zdi 1 (.one 0) (zcf 7) (zai zoe (zam 0) (eFn zbw [(zad 2),(zad 1)])) (zad 0) [5,12]) (zeg [])) (zak (sFz [] (zbG (zae (.bl false)))) sNx) sNx)) zcN
noncomputable def zeM:Fs:=zak (sFz [1,12,5,6,12] (sIf (eOr (zai neD (zam 12) (zam 13)) (eOr (zai neD (eFn zao [(zae (.int 1)),(zad 1),(zad 12),(zad 5),(zad 6)]) (zam 12)) (zai gtD (zaO zeu [(eFn zdR [(zad 12)])]) (zaO zeu [(zam 8)])))) (zak (sFz [] (zbG (zae (.bl false)))) sNx) sNx)) zeL
noncomputable def zg6:Fs:=zak (sFz [7] (zhi (.one 14) (za5 (zad 7)) zcL)) zeM
noncomputable def zg7:Fs:=zak (sFz [4] (zbf 13 false (zad 4))) zg6
noncomputable def zeN:Fs:=zak (sFz [1,4,5,6] (zbf 12 false (eFn zao [(zae (.int 1)),(zad 1),(zad 4),(zad 5),(zad 6)]))) zg7
noncomputable def zeO:Fs:=zak (sFz [10,11,4] (sIf (eOr (zai neD (zam 10) (eUn zeT (zad 10))) (zai neD (eUn zeT (zad 11)) (eFn zaE [(zad 4)]))) (zak (sFz [] (zbG (zae (.bl false)))) sNx) sNx)) zeN
noncomputable def zg8:Fs:=zak (sFz [8] (zhi (.one 9) (za5 (zad 8)) zfm)) zeO
noncomputable def zg9:Fs:=zak (sFz [] (zbf 11 true (zeg []))) zg8
noncomputable def zha:Fs:=zak (sFz [8] (zbf 10 true (zdi 1 (.one 0) (za5 (zad 8)) zj2 (zai ixD (zam 0) (zae (.int 0))) []))) zg9
noncomputable def zhb:Fs:=zak (sFz [4] (sIf (zai neD (zdi 1 (.one 0) (zcf 8) (zai neD (zam 0) (eFn zaF [(zad 1),(zai ixD (zam 0) (zae (.int 0)))])) (zad 0) [4]) (zeg [])) (zak (sFz [] (zbG (zae (.bl false)))) sNx) sNx)) zha
noncomputable def zgr:Fs:=zak (sFz [4] (zbf 8 true (eFn zdR [(zad 4)]))) zhb
noncomputable def ziy:Fs:=zak (sFz [1,4,5,6] (sIf (zai neD (eFn zao [(zae (.int 0)),(zad 1),(zad 4),(zad 5),(zad 6)]) (zam 7)) (zak (sFz [] (zbG (zae (.bl false)))) sNx) sNx)) zgr
noncomputable def zgs:Fs:=zak (sFz [4,5] (zbf 7 true (eFn zaF [(zad 4),(zad 5)]))) ziy
noncomputable def zeE:Fs:=zak (sFz [0] (zbf 6 false (zai ixD (zeg [(zae .non),(zae (.int 0)),(zae (.int 1))]) (eFn zat [(zad 0),(zae (.int 94)),(zae (.int 3))])))) zgs
noncomputable def zeF:Fs:=zak (sFz [0,2,0,3] (zbf 5 false (zem [(eFn zat [(zad 0),(zae (.int 92)),(zad 2)]),(eFn zat [(zad 0),(zae (.int 93)),(zad 3)])]))) zeE
noncomputable def zeG:Fs:=zak (sFz [0,1,2,3] (zbf 4 false (eFn zbc [(zad 0),(zae (.int 100)),(zad 1),(zad 2),(zad 3),(zae (.int 2))]))) zeF
noncomputable def zeH:Fs:=zak (sFz [0] (zbf 3 false (zai zdG (zae (.int 1)) (eFn zat [(zad 0),(zae (.int 91)),(zae (.int 4))])))) zeG
noncomputable def zeK:Fs:=zak (sFz [0] (zbf 2 false (zai zdG (zae (.int 1)) (eFn zat [(zad 0),(zae (.int 90)),(zae (.int 4))])))) zeH
noncomputable def zeP:Fs:=zak (sFz [] (zbf 1 false (zem [(zem [(zae (.int 0)),(zae (.int 0)),(zae (.int 0)),(zae (.int 0))]),(zem [(zae (.int 1)),(zae (.int 1)),(zae (.int 1)),(zae (.int 1))])]))) zeK
noncomputable def zj1:Fs :=
  zeP
noncomputable def zk2:List S2.D->Sto->Out S2.D:=zcS 16 false zj1
end S2.L71
namespace S2.L71
open PySem
open L2 hiding D
noncomputable abbrev Sl:=Option (Bool×S2.D)
noncomputable abbrev T2:List (List Int):=[[0,0,0,0],[1,1,1,1]]
def zen{S:Sto}:za7 [.exc "NoPlace"] S=.ok (.str "no place") S:=by
 have e1:isL "NoPlace" "NoFill" = some false:=by decide
 have e2:isL "NoPlace" "NoPlace" = some true:=by decide
 have e3:isL "NoPlace" "NoText" = some false:=by decide
 have e4:isL "NoPlace" "NoTile" = some false:=by decide
 have e5:isL "NoPlace" "Nothing" = some false:=by decide
 have e6:isL "NoPlace" "Unlike" = some false:=by decide
 have e7:isL "NoPlace" "ValueError" = some true:=by decide
 have c1:zdv [.bl false,.bl true,.bl false,.bl false,.bl false,.bl false] (.bl true)=some (.int 1):=by rfl
 have c2:zdr [.bl false,.bl true,.bl false,.bl false,.bl false,.bl false] (.bl true)=some (.int 1):=by rfl
 have c3:atI [D.str "no fill",.str "no place",.str "no text",.str "no tile",.str "nothing",.str "unlike"] 1=some (.str "no place"):=by rfl
 simp [za7,zas,zb1,e1,e2,e3,e4,e5,e6,e7,c1,c2,c3]
def zit{S:Sto}:za7 [.exc "NoTile"] S=.ok (.str "no tile") S:=by
 have e1:isL "NoTile" "NoFill" = some false:=by decide
 have e2:isL "NoTile" "NoPlace" = some false:=by decide
 have e3:isL "NoTile" "NoText" = some false:=by decide
 have e4:isL "NoTile" "NoTile" = some true:=by decide
 have e5:isL "NoTile" "Nothing" = some false:=by decide
 have e6:isL "NoTile" "Unlike" = some false:=by decide
 have e7:isL "NoTile" "ValueError" = some true:=by decide
 have c1:zdv [.bl false,.bl false,.bl false,.bl true,.bl false,.bl false] (.bl true)=some (.int 1):=by rfl
 have c2:zdr [.bl false,.bl false,.bl false,.bl true,.bl false,.bl false] (.bl true)=some (.int 3):=by rfl
 have c3:atI [D.str "no fill",.str "no place",.str "no text",.str "no tile",.str "nothing",.str "unlike"] 3=some (.str "no tile"):=by rfl
 simp [za7,zas,zb1,e1,e2,e3,e4,e5,e6,e7,c1,c2,c3]
section
variable{T F P N A:D}{S:Sto}
def do0(h:zbw [F,P] S=.ok A S):zao [.int 0,T,F,P,N] S=.ok A S:=by
 simp [zao,zas,zbz,h]
def do1(h:za1 [T,F,P,N] S=.ok A S):zao [.int 1,T,F,P,N] S=.ok A S:=by
 simp [zao,zas,zbz,h]
def zxU(h:zbw [F,P] S=.exc "NoPlace" S):zao [.int 0,T,F,P,N] S=.ok (.str "no place") S:=by
 have u:zo3 zrW "NoPlace" "FloorError" = true:=by decide
 simp [zao,zas,zbz,h,u,zen]
def zxS(h:za1 [T,F,P,N] S=.exc "NoPlace" S):zao [.int 1,T,F,P,N] S=.ok (.str "no place") S:=by
 have u:zo3 zrW "NoPlace" "FloorError" = true:=by decide
 simp [zao,zas,zbz,h,u,zen]
def zxT(h:za1 [T,F,P,N] S=.exc "NoTile" S):zao [.int 1,T,F,P,N] S=.ok (.str "no tile") S:=by
 have u:zo3 zrW "NoTile" "FloorError" = true:=by decide
 simp [zao,zas,zbz,h,u,zit]
end
def zru:eqD (.str "no tile") (.str "no tile")=some (.bl true):=zoI rfl (by show PyData.strOk _=true;decide +kernel)
def zqT:neD (.str "no place") (.str "no place")=some (.bl false):=zfb rfl (by show PyData.strOk _=true;decide +kernel)
def ztP{r c:Nat}{g:Z1}:(flr r c g).pl=true:=by
 show D.pls (zd6 r c g)=true;rw [D.pls_iff];intro d hd;obtain ⟨i,_,rfl⟩:=yaq.mp hd;show D.pls (zdQ c (g i))=true;rw [D.pls_iff];intro d hd;obtain ⟨j,_,rfl⟩:=yaq.mp hd
 cases g i j<;>rfl
def zrq{r c:Nat}{g:Z1}:(flr r c g).fit 9=true:=by
 show D.fits 8 (zd6 r c g)=true;rw [D.fits_iff];intro d hd;obtain ⟨i,_,rfl⟩:=yaq.mp hd;show D.fits 7 (zdQ c (g i))=true;rw [D.fits_iff];intro d hd;obtain ⟨j,_,rfl⟩:=yaq.mp hd
 cases g i j<;>simp [oD]
def ztj{r c:Nat}{g:Z1}:neD (flr r c g) (flr r c g)=some (.bl false):=zfb ztP zrq
variable{r c:Nat}{g:Z1}{S:Sto}{p:P2}{o:Option Int}{T:D}
def zpk{s0 s2 s3 s6 s7 s8 s9 s10 s11 s12 s13 s14 s15:Sl}(h1:1<=r)(hc:c<=100)(hrc:r*c<=60)(hp:p.1<r/\p.2<c) :
  zeI [s0,some (false,.tup (T2.map zaq)),s2,s3,some (false,flr r c g),some (false,plP p),s6,s7,s8,s9,s10,s11,s12,s13,s14,s15] S=.rt (.bl true) S:=by
 have e:=zxT (zlb (g:=g) (S:=S) (ts:=T2) (x:=2) (p:=p) (by decide) h1 hc hrc hp);have e2:=zru;generalize flr r c g=F at *;generalize plP p=P at *;generalize T2.map zaq=td at *;simp [zeI,e,e2]
def zpl{s0 s2 s3 s6 s7 s8 s9 s10 s11 s12 s13 s14:Sl}{i j:Int}(h1:1<=r)(hc:c<=100)(hrc:r*c<=60)(hp:p.1<r/\p.2<c)(ho:¬ ((0<=i/\i<r)/\0<=j/\j<c)) :
  zeJ [s0,some (false,.tup (T2.map zaq)),s2,s3,some (false,flr r c g),some (false,plP p),s6,s7,s8,s9,s10,s11,s12,s13,s14,some (false,.tup [.int i,.int j])] S=.rt (.bl true) S:=by
 have t22:=zpk (s0:=s0) (s2:=s2) (s3:=s3) (s6:=s6) (s7:=s7) (s8:=s8) (s9:=s9) (s10:=s10) (s11:=s11) (s12:=s12) (s13:=s13) (s14:=s14) (s15:=some (false,.tup [.int i,.int j])) (g:=g) (S:=S) h1 hc hrc hp;have e1:=zxU (T:=.tup (T2.map zaq)) (N:=.int 0) (zhK (g:=g) (S:=S) h1 ho);have e2:=zxS (zla (g:=g) (S:=S) (T:=.tup (T2.map zaq)) (N:=.int 0) h1 ho);have e3:=zqT;generalize flr r c g=F at *;generalize plP p=P at *;generalize D.tup [.int i,.int j]=Q at *;generalize T2.map zaq=td at *;simp [zeJ,e1,e2,e3,t22]
def zpm{l:List Int}{s6 s7 s8 s9 s10 s11 s12 s13 s14 s15:Sl}(h1:1<=r)(hc:c<=100)(hrc:r*c<=60)(hp:p.1<r/\p.2<c) :
  zcN [some (false,.scr l),some (false,.tup (T2.map zaq)),some (false,.int r),some (false,.int c),some (false,flr r c g),some (false,plP p),s6,s7,s8,s9,s10,s11,s12,s13,s14,s15] S=.rt (.bl true) S:=by
 have t21:=fun i j ho=>zpl (s0:=some (false,.scr l)) (s2:=some (false,.int r)) (s3:=some (false,.int c)) (s6:=s6) (s7:=s7) (s8:=s8) (s9:=s9) (s10:=s10) (s11:=s11) (s12:=s12) (s13:=s13) (s14:=s14) (i:=i) (j:=j) (g:=g) (S:=S) h1 hc hrc hp ho
 have p3:=zbU (l:=l) (S:=S) (k:=95) (many:=3) (by omega) (by omega);have pn:=zcz l 95 (many:=3) (by omega);generalize zcV l 95 3=q at *;have a1:=t21 (-1) 0 (by omega);have a2:=t21 (r:Int) 0 (by omega);have a3:=t21 0 (c:Int) (by omega);generalize flr r c g=F at *;generalize plP p=P at *;generalize T2.map zaq=td at *
 have hq:q=0\/q=1\/q=2:=by omega
 have x0:atI [D.tup [.int (-1),.int 0],.tup [.int r,.int 0],.tup [.int 0,.int c]] 0=some (.tup [.int (-1),.int 0]):=by rfl
 have x1:atI [D.tup [.int (-1),.int 0],.tup [.int r,.int 0],.tup [.int 0,.int c]] 1=some (.tup [.int r,.int 0]):=by rfl
 have x2:atI [D.tup [.int (-1),.int 0],.tup [.int r,.int 0],.tup [.int 0,.int c]] 2=some (.tup [.int 0,.int c]):=by rfl
 rcases hq with rfl | rfl | rfl
 ·simp [zcN,p3,x0,a1]
 ·simp [zcN,p3,x1,a2]
 ·simp [zcN,p3,x2,a3]
def zpn{l:List Int}{s6 s8 s9 s10 s11 s13 s14 s15:Sl}{b7:Bool}(h1:1<=r)(hc:c<=100)(hrc:r*c<=60)(hp:p.1<r/\p.2<c) :
  zeL [some (false,.scr l),some (false,.tup (T2.map zaq)),some (false,.int r),some (false,.int c),some (false,flr r c g),some (false,plP p),s6,some (b7,arD r c g p),s8,s9,s10,s11,some (false,flr r c (zaD g (zac r c g p) o)),s13,s14,s15] S=.rt (.bl true) S:=by
 have t20:=zpm (l:=l) (s6:=s6) (s7:=some (b7,arD r c g p)) (s8:=s8) (s9:=s9) (s10:=s10) (s11:=s11) (s12:=some (false,flr r c (zaD g (zac r c g p) o))) (s13:=s13) (s14:=s14) (s15:=s15) (g:=g) (S:=S) h1 hc hrc hp;have ea:=zcR (g:=zaD g (zac r c g p) o) (S:=S) h1 hc hrc hp
 have ec:zbi (.one 0) (zai zoe (zam 0) (eFn zbw [(zad 2),(zad 1)])) (zad 0) [none,some (false,plP p),some (false,flr r c (zaD g (zac r c g p) o))] ((zac r c g p).map plP) S=.ok [] S:=by
  rw [zbS (g:=id) (p:=fun _=>false)]
  ·rw [List.filter_eq_nil_iff.mpr (fun _ _ z=>by cases z)];rfl
  ·intro d hd;obtain ⟨q,hq,rfl⟩:=yaq.mp hd;refine ⟨_,rfl,?_,fun z=>by cases z⟩;have en:=zjs (l:=zac r c (zaD g (zac r c g p) o) p) (p:=q);rw [yan (zoi (o:=o) hp hq)] at en;generalize (zac r c (zaD g (zac r c g p) o) p).map plP=A2 at *;generalize flr r c (zaD g (zac r c g p) o)=F2 at *;generalize plP q=Q at *;generalize plP p=P at *;simp [ea,en]
 have e0:neD (.lst []) (.lst [])=some (.bl false):=zfb rfl rfl;unfold arD at t20 ⊢;generalize (zac r c g p).map plP=A at *;generalize flr r c (zaD g (zac r c g p) o)=F2 at *;generalize flr r c g=F at *;generalize plP p=P at *;generalize T2.map zaq=td at *;simp [zeL,ec,e0,t20]
def ho2(h:o=none\/o=some 0\/o=some 1):∀x,o=some x->0<=x/\x<T2.length:=by
 intro x e;show 0<=x/\x<2
 rcases h with rfl | rfl | rfl<;>cases e<;>omega
def zpo{l:List Int}{s9 s10 s11 s14 s15:Sl}{b7 b8:Bool}(h:o=none\/o=some 0\/o=some 1)(h1:1<=r)(hr:r<=100)(hc:c<=100)(hrc:r*c<=60)(hp:p.1<r/\p.2<c) :
  zeM [some (false,.scr l),some (false,.tup (T2.map zaq)),some (false,.int r),some (false,.int c),some (false,flr r c g),some (false,plP p),some (false,oD o),some (b7,arD r c g p),some (b8,.lst (((psN r c).filter (zbt r c g)).map (arD r c g))),s9,s10,s11,some (false,flr r c (zaD g (zac r c g p) o)),some (false,flr r c (zaD g (zac r c g p) o)),s14,s15] S=.rt (.bl true) S:=by
 have t19:=zpn (l:=l) (s6:=some (false,oD o)) (s8:=some (b8,.lst (((psN r c).filter (zbt r c g)).map (arD r c g)))) (s9:=s9) (s10:=s10) (s11:=s11) (s13:=some (false,flr r c (zaD g (zac r c g p) o))) (s14:=s14) (s15:=s15) (b7:=b7) (o:=o) (g:=g) (S:=S) h1 hc hrc hp;have e1:=ztj (r:=r) (c:=c) (g:=zaD g (zac r c g p) o);have e2:=do1 (zep (g:=zaD g (zac r c g p) o) (S:=S) (ts:=T2) (o:=o) (ho2 h) h1 hr hc hrc hp);rw [zhZ hp] at e2;have e3:=zfM (g:=zaD g (zac r c g p) o) (S:=S) h1 hr hc hrc;have hle:=zlX (g:=g) (o:=o) hp
 have hn:¬ ((((psN r c).filter (zbt r c g)).map (arD r c g)).length:Int)<((((psN r c).filter (zbt r c (zaD g (zac r c g p) o))).map (arD r c (zaD g (zac r c g p) o))).length:Int):=by
  rw [yad,yad];omega
 unfold arD at t19 ⊢;generalize ((psN r c).filter (zbt r c (zaD g (zac r c g p) o))).map (arD r c (zaD g (zac r c g p) o))=EV2 at *;generalize ((psN r c).filter (zbt r c g)).map (arD r c g)=EV at *;generalize (zac r c g p).map plP=A at *;generalize flr r c (zaD g (zac r c g p) o)=F2 at *;generalize flr r c g=F at *;generalize plP p=P at *;generalize T2.map zaq=td at *;generalize oD o=od at *;simp [zeM,e1,e2,e3,hn,t19]
theorem zhC{ts:Z2}{s0 s2 s3 s4 s5 s7 s8 s9 s10 s11 s12 s15:Sl}(ho:∀x,o=some x->0<=x/\x<ts.length)(h1:1<=r)(hr:r<=100)(hc:c<=100):∀(A:List P2),(∀q∈A,q.1<r/\q.2<c)->∀(g:Z1) (x:Sl),∃x',zcC (.one 14) zcL (A.map plP) [s0,some (false,.tup (ts.map zaq)),s2,s3,s4,s5,some (false,oD o),s7,s8,s9,s10,s11,s12,some (false,flr r c g),x,s15] S=.nx [s0,some (false,.tup (ts.map zaq)),s2,s3,s4,s5,some (false,oD o),s7,s8,s9,s10,s11,s12,some (false,flr r c (A.foldl (fun g q=>ze1 g q.1 q.2 o) g)),x',s15] S
 | [],_,g,x=>⟨x,by simp [zcC]⟩
 | q::A,hA,g,x=>by
  obtain ⟨x',e⟩:=zhC (s0:=s0) (s2:=s2) (s3:=s3) (s4:=s4) (s5:=s5) (s7:=s7) (s8:=s8) (s9:=s9) (s10:=s10) (s11:=s11) (s12:=s12) (s15:=s15) ho h1 hr hc A (fun y hy=>hA y (.tail _ hy)) (ze1 g q.1 q.2 o) (some (false,plP q));refine ⟨x',?_⟩;have et:zaz [.tup (ts.map zaq),flr r c g,plP q,oD o] S=.ok (flr r c (ze1 g q.1 q.2 o)) S:=zcQ (g:=g) (o:=o) (S:=S) ho h1 (hA q (.head _)).1 (hA q (.head _)).2 hr hc;rw [yat,ybN]
  have eb:zcL [s0,some (false,.tup (ts.map zaq)),s2,s3,s4,s5,some (false,oD o),s7,s8,s9,s10,s11,s12,some (false,flr r c g),some (false,plP q),s15] S=.nx [s0,some (false,.tup (ts.map zaq)),s2,s3,s4,s5,some (false,oD o),s7,s8,s9,s10,s11,s12,some (false,flr r c (ze1 g q.1 q.2 o)),some (false,plP q),s15] S:=by
   generalize flr r c (ze1 g q.1 q.2 o)=F2 at *;generalize flr r c g=F at *;generalize ts.map zaq=td at *;generalize oD o=od at *;generalize plP q=pq at *;simp [zcL,et]
  unfold zcC;show (match zcL [s0,some (false,.tup (ts.map zaq)),s2,s3,s4,s5,some (false,oD o),s7,s8,s9,s10,s11,s12,some (false,flr r c g),some (false,plP q),s15] S with | .nx ρ' S'=>zcC (.one 14) zcL (A.map plP) ρ' S' | .ct ρ' S'=>zcC (.one 14) zcL (A.map plP) ρ' S' | .bk ρ' S'=>.nx ρ' S' | o=>o)=_;rw [eb];exact e
def zpp{l:List Int}{s9 s10 s11 s12 s13 s14 s15:Sl}{b7 b8:Bool}(h:o=none\/o=some 0\/o=some 1)(h1:1<=r)(hr:r<=100)(hc:c<=100)(hrc:r*c<=60)(hp:p.1<r/\p.2<c) :
  zeN [some (false,.scr l),some (false,.tup (T2.map zaq)),some (false,.int r),some (false,.int c),some (false,flr r c g),some (false,plP p),some (false,oD o),some (b7,arD r c g p),some (b8,.lst (((psN r c).filter (zbt r c g)).map (arD r c g))),s9,s10,s11,s12,s13,s14,s15] S=.rt (.bl true) S:=by
 have e1:=do1 (zep (g:=g) (S:=S) (ts:=T2) (o:=o) (ho2 h) h1 hr hc hrc hp);obtain ⟨x',e2⟩:=zhC (ts:=T2) (s0:=some (false,.scr l)) (s2:=some (false,.int r)) (s3:=some (false,.int c)) (s4:=some (false,flr r c g)) (s5:=some (false,plP p)) (s7:=some (false,arD r c g p)) (s8:=some (b8,.lst (((psN r c).filter (zbt r c g)).map (arD r c g)))) (s9:=s9) (s10:=s10) (s11:=s11) (s12:=some (false,flr r c (zaD g (zac r c g p) o))) (s15:=s15) (S:=S) (ho2 h) h1 hr hc (zac r c g p) (fun q hq=>zkr hq) g s14;rw [zdS] at e2;have t18:=zpo (l:=l) (s9:=s9) (s10:=s10) (s11:=s11) (s14:=x') (s15:=s15) (b7:=false) (b8:=b8) (g:=g) (S:=S) h h1 hr hc hrc hp;have hl:=zfo (r:=r) (c:=c) (g:=g) (p:=p) hrc;unfold arD at e2 t18 ⊢;generalize hev:((psN r c).filter (zbt r c g)).map (fun p=>D.lst ((zac r c g p).map plP))=EV at *;generalize (zac r c g p).map plP=A at *;generalize flr r c (zaD g (zac r c g p) o)=F2 at *;generalize flr r c g=F at *;generalize plP p=P at *;generalize T2.map zaq=td at *;generalize oD o=od at *
 cases b7<;>simp [zeN,e1,zg7,zg6,e2,hl,t18]
def zpq{l:List Int}{s9 s12 s13 s14 s15:Sl}{b7 b8:Bool}(h:o=none\/o=some 0\/o=some 1)(h1:1<=r)(hr:r<=100)(hc:c<=100)(hrc:r*c<=60)(hp:p.1<r/\p.2<c) :
  zeO [some (false,.scr l),some (false,.tup (T2.map zaq)),some (false,.int r),some (false,.int c),some (false,flr r c g),some (false,plP p),some (false,oD o),some (b7,arD r c g p),some (b8,.lst (((psN r c).filter (zbt r c g)).map (arD r c g))),s9,some (true,.lst (((psN r c).filter (zbt r c g)).map plP)),some (true,.lst ((zfz r c g).map plP)),s12,s13,s14,s15] S=.rt (.bl true) S:=by
 have t15:=zpp (l:=l) (s9:=s9) (s10:=some (false,.lst (((psN r c).filter (zbt r c g)).map plP))) (s11:=some (false,.lst ((zfz r c g).map plP))) (s12:=s12) (s13:=s13) (s14:=s14) (s15:=s15) (b7:=b7) (b8:=b8) (g:=g) (S:=S) h h1 hr hc hrc hp;obtain ⟨k1,e1⟩:=zlW (r:=r) (c:=c) (g:=g) hc hrc;obtain ⟨k2,e2⟩:=zkG (r:=r) (c:=c) (g:=g) hc hrc;have v1:=ziD k1;rw [e1,<-zcy] at v1;have v2:=ziD k2;rw [e2,<-zcy,<-zcy] at v2;have ep:=zc9 (g:=g) (S:=S) h1 hr hc;rw [ze3] at ep;have n1:=zfZ (l:=(psN r c).filter (zbt r c g)) (m:=(psN r c).filter (zbt r c g));rw [yan rfl] at n1;have n2:=zfZ (l:=psN r c) (m:=psN r c);rw [yan rfl] at n2;have ep':zaE [flr r c g] S=.ok (.lst ((psN r c).map plP)) S:=ep;clear ep;generalize ((psN r c).filter (zbt r c g)).map (arD r c g)=EV at *;generalize arD r c g p=AR at *;generalize ((psN r c).filter (zbt r c g)).map plP=FI at *;generalize (zfz r c g).map plP=TO at *;generalize (psN r c).map plP=PL at *;generalize flr r c g=F at *;generalize plP p=P at *;generalize T2.map zaq=td at *;generalize oD o=od at *;simp [zeO,v1,v2,n1,n2,ep',t15]
def zkH{s0 s1 s2 s3 s4 s5 s6 s7 s8 s10 s12 s13 s14 s15 x:Sl}(hrc:r*c<=60):∃x',zcC (.one 9) zfm (((psN r c).filter (zbt r c g)).map (arD r c g)) [s0,s1,s2,s3,s4,s5,s6,s7,s8,x,s10,some (true,.lst []),s12,s13,s14,s15] S=.nx [s0,s1,s2,s3,s4,s5,s6,s7,s8,x',s10,some (true,.lst ((zfz r c g).map plP)),s12,s13,s14,s15] S:=by
 have hl0:(zfz r c g).length<=60:=by
  have hperm:(zfz r c g).Perm (psN r c):=(ybU ziw zi3).mpr fun q=>zgp
  rw [hperm.length_eq,zbg];exact hrc
 obtain ⟨ρ',e,x',rfl⟩:=zfi (tg:=.one 9) (body:=zfm) (S:=S) (arD r c g) (I:=fun q ρ=>∃x,ρ=[s0,s1,s2,s3,s4,s5,s6,s7,s8,x,s10,some (true,.lst ((q.flatMap (zac r c g)).map plP)),s12,s13,s14,s15]) ((psN r c).filter (zbt r c g)) (ρ:=[s0,s1,s2,s3,s4,s5,s6,s7,s8,x,s10,some (true,.lst []),s12,s13,s14,s15]) ⟨x,rfl⟩
  (by
   rintro q f zbk ρ hq ⟨x,rfl⟩;refine ⟨_,_,rfl,?_,some (false,arD r c g f),rfl⟩
   have hle:(q.flatMap (zac r c g)).length+(zac r c g f).length<=60:=by
    have:(zfz r c g)=q.flatMap (zac r c g)++(zac r c g f++zbk.flatMap (zac r c g)):=by
     unfold zfz;rw [<-hq,List.flatMap_append,List.flatMap_cons]
    rw [this] at hl0;simp only [yal] at hl0;omega
   have hle2:((q.flatMap (zac r c g)).map plP).length+((zac r c g f).map plP).length<=100000:=by rw [yad,yad];omega
   have ef:((q++[f]).flatMap (zac r c g)).map plP=(q.flatMap (zac r c g)).map plP++(zac r c g f).map plP:=by rw [List.flatMap_append,ybb];simp
   rw [ef];unfold arD;generalize (q.flatMap (zac r c g)).map plP=L1 at *;generalize (zac r c g f).map plP=L2 at *
   simp [zfm,hle2])
 exact ⟨x',e⟩
def zsB{l:List Int}{s8 s9 s10 s11 s12 s13 s14 s15:Sl}{b7:Bool}(h:o=none\/o=some 0\/o=some 1)(h1:1<=r)(hr:r<=100)(hc:c<=100)(hrc:r*c<=60)(hp:p.1<r/\p.2<c) :
  zgr [some (false,.scr l),some (false,.tup (T2.map zaq)),some (false,.int r),some (false,.int c),some (false,flr r c g),some (false,plP p),some (false,oD o),some (b7,arD r c g p),s8,s9,s10,s11,s12,s13,s14,s15] S=.rt (.bl true) S:=by
 have ea:=zfM (g:=g) (S:=S) h1 hr hc hrc
 have hin:∀f∈(psN r c).filter (zbt r c g),(f.1<r/\f.2<c)/\ixD (arD r c g f) (.int 0)=some (plP f):=by
  intro f hf;obtain ⟨a1,a2⟩:=yba.mp hf;refine ⟨za2.mp a1,?_⟩;have x:=yak a2
  cases e:zac r c g f with
  | nil=>rw [e] at x;cases x
  | cons q t =>
   rw [e] at x;have:q=f:=Option.some.inj x;subst this;unfold arD;rw [e];show atI _ 0=_;rw [show (0:Int)=((0:Nat):Int) from rfl,zbr];rfl
 have e10:zbi (.one 0) (zai neD (zam 0) (eFn zaF [(zad 1),(zai ixD (zam 0) (zae (.int 0)))])) (zad 0) [none,some (false,flr r c g)] (((psN r c).filter (zbt r c g)).map (arD r c g)) S=.ok [] S:=by
  rw [zbS (g:=id) (p:=fun _=>false)]
  ·rw [List.filter_eq_nil_iff.mpr (fun _ _ z=>by cases z)];rfl
  ·intro d hd;obtain ⟨f,hf,rfl⟩:=yaq.mp hd;refine ⟨_,rfl,?_,fun z=>by cases z⟩;obtain ⟨hfr,hix⟩:=hin f hf;have e1:=zdl (g:=g) (S:=S) h1 hr hc hrc hfr;have n1:=zfZ (l:=zac r c g f) (m:=zac r c g f);rw [yan rfl] at n1;unfold arD at hix ⊢;generalize (zac r c g f).map plP=A at *;generalize flr r c g=F at *;generalize plP f=Q at *;simp [hix,e1,n1]
 have e11:zbi (.one 0) zj2 (zai ixD (zam 0) (zae (.int 0))) [none] (((psN r c).filter (zbt r c g)).map (arD r c g)) S=.ok (((psN r c).filter (zbt r c g)).map plP) S:=by
  have:∀L:List P2,(∀f∈L,ixD (arD r c g f) (.int 0)=some (plP f))->zbi (.one 0) zj2 (zai ixD (zam 0) (zae (.int 0))) [none] (L.map (arD r c g)) S=.ok (L.map plP) S:=by
   intro L
   induction L with
   | nil=>intro _;rfl
   | cons f L ih =>
    intro hL;refine zij (ρ1:=[some (false,arD r c g f)]) rfl ?_ (ih fun q hq=>hL q (.tail _ hq));have hx:=hL f (.head _);generalize arD r c g f=A at *;simp [hx]
  exact this _ fun f hf=>(hin f hf).2
 obtain ⟨x',et⟩:=zkH (s0:=some (false,.scr l)) (s1:=some (false,.tup (T2.map zaq))) (s2:=some (false,.int r)) (s3:=some (false,.int c)) (s4:=some (false,flr r c g)) (s5:=some (false,plP p)) (s6:=some (false,oD o)) (s7:=some (b7,arD r c g p)) (s8:=some (false,.lst (((psN r c).filter (zbt r c g)).map (arD r c g)))) (s10:=some (true,.lst (((psN r c).filter (zbt r c g)).map plP))) (s12:=s12) (s13:=s13) (s14:=s14) (s15:=s15) (x:=s9) (g:=g) (S:=S) hrc;have t14:=zpq (l:=l) (s9:=x') (s12:=s12) (s13:=s13) (s14:=s14) (s15:=s15) (b7:=b7) (b8:=false) (g:=g) (S:=S) h h1 hr hc hrc hp;have e0:neD (.lst []) (.lst [])=some (.bl false):=zfb rfl rfl
 have hlE:(((psN r c).filter (zbt r c g)).map (arD r c g)).length<=100000:=by
  rw [yad];have:=ybQ (zbt r c g) (psN r c);rw [zbg] at this;omega
 have hlF:(((psN r c).filter (zbt r c g)).map plP).length<=100000:=by rw [yad] at hlE ⊢;exact hlE
 generalize ((psN r c).filter (zbt r c g)).map (arD r c g)=EV at *;generalize arD r c g p=AR at *;generalize ((psN r c).filter (zbt r c g)).map plP=FI at *;generalize (zfz r c g).map plP=TO at *;generalize flr r c g=F at *;generalize plP p=P at *;generalize T2.map zaq=td at *;generalize oD o=od at *;simp [zgr,ea,zhb,e10,e0,zha,e11,zg9,zg8,et,t14,hlE,hlF]
def zsC{l:List Int}{s7 s8 s9 s10 s11 s12 s13 s14 s15:Sl}(h:o=none\/o=some 0\/o=some 1)(h1:1<=r)(hr:r<=100)(hc:c<=100)(hrc:r*c<=60)(hp:p.1<r/\p.2<c) :
  zgs [some (false,.scr l),some (false,.tup (T2.map zaq)),some (false,.int r),some (false,.int c),some (false,flr r c g),some (false,plP p),some (false,oD o),s7,s8,s9,s10,s11,s12,s13,s14,s15] S=.rt (.bl true) S:=by
 have e1:zaF [flr r c g,plP p] S=.ok (arD r c g p) S:=zdl (g:=g) (S:=S) h1 hr hc hrc hp;have e2:zao [.int 0,.tup (T2.map zaq),flr r c g,plP p,oD o] S=.ok (arD r c g p) S:=do0 (zcR (g:=g) (S:=S) h1 hc hrc hp)
 have n1:neD (arD r c g p) (arD r c g p)=some (.bl false):=by
  have:=zfZ (l:=zac r c g p) (m:=zac r c g p);rwa [yan rfl] at this
 have t9:=zsB (l:=l) (s8:=s8) (s9:=s9) (s10:=s10) (s11:=s11) (s12:=s12) (s13:=s13) (s14:=s14) (s15:=s15) (b7:=true) (g:=g) (S:=S) h h1 hr hc hrc hp;generalize arD r c g p=AR at *;generalize flr r c g=F at *;generalize plP p=P at *;generalize T2.map zaq=td at *;generalize oD o=od at *;simp [zgs,e1,ziy,e2,n1,t9]
def zlH(l:List Int)(hl0:l.length<=63):zk2 [.scr l] []=.ok (.bl true) []:=by
 have q1:=zbU (l:=l) (S:=[]) (k:=90) (many:=4) (by omega) (by omega);have q2:=zbU (l:=l) (S:=[]) (k:=91) (many:=4) (by omega) (by omega);have b1:=zcz l 90 (many:=4) (by omega);have b2:=zcz l 91 (many:=4) (by omega);generalize zcV l 90 4=z1 at *;generalize zcV l 91 4=z2 at *;obtain ⟨u1,rfl⟩:=ya2 b1.1;obtain ⟨u2,rfl⟩:=ya2 b2.1;have fl:=ziT (l:=l) (at':=100) (m:=2) (ts:=T2.map zaq) (r:=1+(u1:Int)) (c:=1+(u2:Int)) (S:=[]) (by omega) (by decide) (by decide) (by omega) (by omega) (by omega) (by omega);rw [show (1+(u1:Int)).toNat=1+u1 by omega,show (1+(u2:Int)).toNat=1+u2 by omega] at fl;generalize zlr l 100 (T2.map zaq).length 2=g at *;have q3:=zbU (l:=l) (S:=[]) (k:=92) (many:=1+(u1:Int)) (by omega) (by omega);have q4:=zbU (l:=l) (S:=[]) (k:=93) (many:=1+(u2:Int)) (by omega) (by omega);have b3:=zcz l 92 (many:=1+(u1:Int)) (by omega);have b4:=zcz l 93 (many:=1+(u2:Int)) (by omega);generalize zcV l 92 (1+(u1:Int))=z3 at *;generalize zcV l 93 (1+(u2:Int))=z4 at *;obtain ⟨i,rfl⟩:=ya2 b3.1;obtain ⟨j,rfl⟩:=ya2 b4.1;have q5:=zbU (l:=l) (S:=[]) (k:=94) (many:=3) (by omega) (by omega);have b5:=zcz l 94 (many:=3) (by omega);generalize zcV l 94 3=z5 at *;have hrc:(1+u1)*(1+u2)<=60:=yar (yce (show 1+u1<=4 by omega) (show 1+u2<=4 by omega)) (by decide);have t7:=fun (o:Option Int) (h:o=none\/o=some 0\/o=some 1)=>zsC (l:=l) (s7:=none) (s8:=none) (s9:=none) (s10:=none) (s11:=none) (s12:=none) (s13:=none) (s14:=none) (s15:=none) (r:=1+u1) (c:=1+u2) (p:=(i,j)) (o:=o) (g:=g) (S:=[]) h (by omega) (by omega) (by omega) hrc ⟨by show i<1+u1;omega,by show j<1+u2;omega⟩
 have hq:z5=0\/z5=1\/z5=2:=by omega
 have x0:atI [D.non,.int 0,.int 1] 0=some .non:=by rfl
 have x1:atI [D.non,.int 0,.int 1] 1=some (.int 0):=by rfl
 have x2:atI [D.non,.int 0,.int 1] 2=some (.int 1):=by rfl
 have a0:=t7 none (.inl rfl);have a1:=t7 (some 0) (.inr (.inl rfl));have a2:=t7 (some 1) (.inr (.inr rfl));rw [show plP (i,j)=.tup [.int (i:Int),.int (j:Int)] from rfl,show ((1+u1:Nat):Int)=1+(u1:Int) by omega,show ((1+u2:Nat):Int)=1+(u2:Int) by omega] at a0 a1 a2;simp only [oD] at a0 a1 a2;have et:(D.tup [.tup [.int 0,.int 0,.int 0,.int 0],.tup [.int 1,.int 1,.int 1,.int 1]])=.tup (T2.map zaq):=rfl;have fl':zbc [.scr l,.int 100,.tup [.tup [.int 0,.int 0,.int 0,.int 0],.tup [.int 1,.int 1,.int 1,.int 1]],.int (1+(u1:Int)),.int (1+(u2:Int)),.int 2] []=.ok (flr (1+u1) (1+u2) g) []:=fl;rw [<-et] at a0 a1 a2;generalize flr (1+u1) (1+u2) g=F at *
 rcases hq with rfl | rfl | rfl
 ·simp [zk2,zas,zj1,zeP,zeK,q1,zeH,q2,zeG,fl',zeF,q3,q4,zeE,q5,x0,a0]
 ·simp [zk2,zas,zj1,zeP,zeK,q1,zeH,q2,zeG,fl',zeF,q3,q4,zeE,q5,x1,a1]
 ·simp [zk2,zas,zj1,zeP,zeK,q1,zeH,q2,zeG,fl',zeF,q3,q4,zeE,q5,x2,a2]
end S2.L71
namespace M71
open PySem L2 S2 S2.L71
noncomputable def top(i:Nat):Stmt:=PySem.Challenge.pw_floorfits_k71_whole_areas.main.body.getD i (.Pass ⟨0,0,0,0⟩)
noncomputable def T:Tab:=⟨[],["isinstance","int","bool","tuple","len","range","abs","zip","sorted","ValueError"],["FloorError","NoPlace","NoTile","NoFill","Unlike","Nothing","NoText"],[("NoPlace","FloorError"),("NoTile","FloorError")],["NoPlace","NoTile"],[],[],["found"]⟩
noncomputable def F0:Fn3:=⟨"",[],[],[]⟩
noncomputable def F1:Fn3:=F0.fn "is_whole" ⟨1,false,zaC⟩
def d1:zax (Gn T F0) false ["thing"] (top 9)=some zcm:=by rfl
def s1:FnScope ["thing"] ["thing"] (zab (top 9)):=⟨rfl,rfl,rfl,by decide +kernel,rfl,by decide +kernel,by decide +kernel⟩
noncomputable def F2:Fn3:=F1.fn "is_tuple_of" ⟨3,false,zaA⟩
def d2:zax (Gn T F1) false ["thing","least","most"] (top 10)=some zbn:=by rfl
def s2:FnScope ["thing","least","most"] ["thing","least","most"] (zab (top 10)):=⟨rfl,rfl,rfl,by decide +kernel,rfl,by decide +kernel,by decide +kernel⟩
noncomputable def F3:Fn3:=F2.fn "has_number" ⟨2,false,zaX⟩
def d3:zax (Gn T F2) false ["tiles","thing"] (top 11)=some zbe:=by rfl
def s3:FnScope ["tiles","thing"] ["tiles","thing"] (zab (top 11)):=⟨rfl,rfl,rfl,by decide +kernel,rfl,by decide +kernel,by decide +kernel⟩
noncomputable def F4:Fn3:=F3.fn "may_lie" ⟨2,false,zbv⟩
def d4:zax (Gn T F3) false ["tiles","thing"] (top 12)=some zcd:=by rfl
def s4:FnScope ["tiles","thing"] ["tiles","thing"] (zab (top 12)):=⟨rfl,rfl,rfl,by decide +kernel,rfl,by decide +kernel,by decide +kernel⟩
noncomputable def F5:Fn3:=F4.fn "size_of" ⟨1,false,zbP⟩
def d5:zax (Gn T F4) false ["floor","columns"] (top 13)=some zd8:=by rfl
def s5:FnScope ["floor","columns"] ["floor"] (zab (top 13)):=⟨rfl,rfl,rfl,by decide +kernel,rfl,by decide +kernel,by decide +kernel⟩
noncomputable def F6:Fn3:=F5.fn "places_of" ⟨1,true,zaE⟩
def d6:zax (Gn T F5) true ["floor","size","places","row","column"] (top 14)=some zcD:=by rfl
def s6:FnScope ["floor","size","places","row","column"] ["floor"] (zab (top 14)):=⟨rfl,rfl,rfl,by decide +kernel,rfl,by decide +kernel,by decide +kernel⟩
noncomputable def F7:Fn3:=F6.fn "number_at" ⟨2,false,zaS⟩
def d7:zax (Gn T F6) false ["floor","place"] (top 15)=some zcE:=by rfl
def s7:FnScope ["floor","place"] ["floor","place"] (zab (top 15)):=⟨rfl,rfl,rfl,by decide +kernel,rfl,by decide +kernel,by decide +kernel⟩
noncomputable def F8:Fn3:=F7.fn "has_place" ⟨2,false,zaT⟩
def d8:zax (Gn T F7) false ["floor","place","size"] (top 16)=some zcF:=by rfl
def s8:FnScope ["floor","place","size"] ["floor","place"] (zab (top 16)):=⟨rfl,rfl,rfl,by decide +kernel,rfl,by decide +kernel,by decide +kernel⟩
noncomputable def F9:Fn3:=F8.fn "refuse_outside" ⟨2,false,zaj⟩
def d9:zax (Gn T F8) false ["floor","place"] (top 17)=some zaR:=by rfl
def s9:FnScope ["floor","place"] ["floor","place"] (zab (top 17)):=⟨rfl,rfl,rfl,by decide +kernel,rfl,by decide +kernel,by decide +kernel⟩
noncomputable def F10:Fn3:=F9.fn "tile_at" ⟨2,false,zbu⟩
def d10:zax (Gn T F9) false ["floor","place"] (top 18)=some zd7:=by rfl
def s10:FnScope ["floor","place"] ["floor","place"] (zab (top 18)):=⟨rfl,rfl,rfl,by decide +kernel,rfl,by decide +kernel,by decide +kernel⟩
noncomputable def F11:Fn3:=F10.fn "with_number" ⟨3,false,zbl⟩
def d11:zax (Gn T F10) false ["floor","place","number","old","row"] (top 19)=some zb0:=by rfl
def s11:FnScope ["floor","place","number","old","row"] ["floor","place","number"] (zab (top 19)):=⟨rfl,rfl,rfl,by decide +kernel,rfl,by decide +kernel,by decide +kernel⟩
noncomputable def F12:Fn3:=F11.fn "with_tile" ⟨4,false,zaz⟩
def d12:zax (Gn T F11) false ["tiles","floor","place","number"] (top 20)=some zbZ:=by rfl
def s12:FnScope ["tiles","floor","place","number"] ["tiles","floor","place","number"] (zab (top 20)):=⟨rfl,rfl,rfl,by decide +kernel,rfl,by decide +kernel,by decide +kernel⟩
noncomputable def F13:Fn3:=F12.fn "neighbours" ⟨1,true,zbb⟩
def d13:zax (Gn T F12) true ["place","row","column"] (top 22)=some zcc:=by rfl
def s13:FnScope ["place","row","column"] ["place"] (zab (top 22)):=⟨rfl,rfl,rfl,by decide +kernel,rfl,by decide +kernel,by decide +kernel⟩
noncomputable def F14:Fn3:=F13.fn "alike_beside" ⟨2,true,zba⟩
def d14:zax (Gn T F13) true ["floor","place","number"] (top 23)=some zbK:=by rfl
def s14:FnScope ["floor","place","number"] ["floor","place"] (zab (top 23)):=⟨rfl,rfl,rfl,by decide +kernel,rfl,by decide +kernel,by decide +kernel⟩
noncomputable def F15:Fn3:=F14.fn "area" ⟨2,true,zbw⟩
def d15:zax (Gn T F14) true ["floor","place","found","waiting","here","near"] (top 24)=some zhA:=by rfl
def s15:FnScope ["floor","place","found","waiting","here","near"] ["floor","place"] (zab (top 24)):=⟨rfl,rfl,rfl,by decide +kernel,rfl,by decide +kernel,by decide +kernel⟩
noncomputable def F16:Fn3:=F15.fn "areas" ⟨1,true,zdR⟩
def d16:zax (Gn T F15) true ["floor","every"] (top 25)=some zgO:=by rfl
def s16:FnScope ["floor","every"] ["floor"] (zab (top 25)):=⟨rfl,rfl,rfl,by decide +kernel,rfl,by decide +kernel,by decide +kernel⟩
noncomputable def F17:Fn3:=F16.fn "poured" ⟨4,false,za1⟩
def d17:zax (Gn T F16) false ["tiles","floor","place","number","whole","each"] (top 26)=some zc4:=by rfl
def s17:FnScope ["tiles","floor","place","number","whole","each"] ["tiles","floor","place","number"] (zab (top 26)):=⟨rfl,rfl,rfl,by decide +kernel,rfl,by decide +kernel,by decide +kernel⟩
noncomputable def F18:Fn3:=F17.fn "_law_cell" ⟨2,false,za8⟩
def d18:zax (Gn T F17) false ["_law_script","_law_k"] (top 28)=some zbA:=by rfl
def s18:FnScope ["_law_script","_law_k"] ["_law_script","_law_k"] (zab (top 28)):=⟨rfl,rfl,rfl,by decide +kernel,rfl,by decide +kernel,by decide +kernel⟩
noncomputable def F19:Fn3:=F18.fn "_law_pick" ⟨3,false,zat⟩
def d19:zax (Gn T F18) false ["_law_script","_law_k","_law_many","_law_drawn"] (top 29)=some zcG:=by rfl
def s19:FnScope ["_law_script","_law_k","_law_many","_law_drawn"] ["_law_script","_law_k","_law_many"] (zab (top 29)):=⟨rfl,rfl,rfl,by decide +kernel,rfl,by decide +kernel,by decide +kernel⟩
noncomputable def F20:Fn3:=F19.fn "_law_floor" ⟨6,false,zbc⟩
def d20:zax (Gn T F19) false ["_law_script","_law_at","_law_tiles_here","_law_rows","_law_columns","_law_many","_law_made","_law_row","_law_line","_law_column","_law_here"] (top 31)=some zce:=by rfl
def s20:FnScope ["_law_script","_law_at","_law_tiles_here","_law_rows","_law_columns","_law_many","_law_made","_law_row","_law_line","_law_column","_law_here"] ["_law_script","_law_at","_law_tiles_here","_law_rows","_law_columns","_law_many"] (zab (top 31)):=⟨rfl,rfl,rfl,by decide +kernel,rfl,by decide +kernel,by decide +kernel⟩
noncomputable def F21:Fn3:=F20.fn "_law_word" ⟨1,false,za7⟩
def d21:zax (Gn T F20) false ["_law_kept","_law_kinds"] (top 33)=some zb1:=by rfl
def s21:FnScope ["_law_kept","_law_kinds"] ["_law_kept"] (zab (top 33)):=⟨rfl,rfl,rfl,by decide +kernel,rfl,by decide +kernel,by decide +kernel⟩
noncomputable def F22:Fn3:=F21.fn "_law_do" ⟨5,false,zao⟩
def d22:zax (Gn T F21) false ["_law_what","_law_tiles_here","_law_floor_here","_law_place","_law_number","_law_kept","_law_answer","e"] (top 34)=some zbz:=by rfl
def s22:FnScope ["_law_what","_law_tiles_here","_law_floor_here","_law_place","_law_number","_law_kept","_law_answer","e"] ["_law_what","_law_tiles_here","_law_floor_here","_law_place","_law_number"] (zab (top 34)):=⟨rfl,rfl,rfl,by decide +kernel,rfl,by decide +kernel,by decide +kernel⟩
noncomputable def F23:Fn3:=F22.fn "_law_area" ⟨2,true,zaF⟩
def d23:zax (Gn T F22) true ["_law_floor_here","_law_place","_law_found","_law_grown","_law_one","_law_near"] (top 35)=some zcH:=by rfl
def s23:FnScope ["_law_floor_here","_law_place","_law_found","_law_grown","_law_one","_law_near"] ["_law_floor_here","_law_place"] (zab (top 35)):=⟨rfl,rfl,rfl,by decide +kernel,rfl,by decide +kernel,by decide +kernel⟩
def d24:zax (Gn T F23) false ["_law_script","_law_tiles_here","_law_rows","_law_columns","_law_floor_here","_law_place","_law_number","_law_mine","_law_every","_law_row","_law_firsts","_law_together","_law_told","_law_due","_law_one","_law_out"] (top 36)=some zj1:=by rfl
def s24:FnScope ["_law_script","_law_tiles_here","_law_rows","_law_columns","_law_floor_here","_law_place","_law_number","_law_mine","_law_every","_law_row","_law_firsts","_law_together","_law_told","_law_due","_law_one","_law_out"] ["_law_script"] (zab (top 36)):=⟨rfl,rfl,rfl,by decide +kernel,rfl,by decide +kernel,by decide +kernel⟩
def gm{K:PySem.W.Frag}{x:Str}{st:Stmt}{f:Addr}{oc kV dc pm cd ct:Value}{od an:Option Addr}{sl:Array (Option Value)}(a:PySem.W.nsIn K mainGlobals x=some (some (.ref f)))(l:K.lookup f=some ⟨oc,od,.func (PySem.W.fnOf x x (zbL st) (zbB st) (zab st) .none kV dc pm an cd ct),sl⟩)(c:PySem.W.codeIn K cd x=true)(k:PySem.W.keepIn K (.ref f)=true)(i:PySem.W.isFn K (.ref f)=true):GFn K x st:=⟨f,a,oc,od,kV,dc,pm,an,cd,ct,sl,l,c,k,i⟩
def mm{K:PySem.W.Frag}{x q:Str}{st:Stmt}{f:Addr}{oc kV dc pm cd ct:Value}{od an:Option Addr}{sl:Array (Option Value)}{C:Addr}(a:PySem.W.findIn K (.ref C) x=some (some (.ref f)))(l:K.lookup f=some ⟨oc,od,.func (PySem.W.fnOf x q (zbL st) (zbB st) (zab st) .none kV dc pm an cd ct),sl⟩)(c:PySem.W.codeIn K cd q=true)(k:PySem.W.keepIn K (.ref f)=true)(i:PySem.W.isFn K (.ref f)=true):MFn K C x q st:=⟨f,a,oc,od,kV,dc,pm,an,cd,ct,sl,l,c,k,i⟩
def all_mk{l:PySem.W.OpenLaw}{w:PySem.World}{K:PySem.W.Frag}{h:Heap}{mg:Z6}{fa f24:Addr}(X:K.In h)(G:h.Ns mainGlobals mg)(hfa:mg "law" = some (.ref fa))
  {od24 an24:Option Addr} {sl24:Array (Option Value)} {oc24 kV24 dc24 pm24 cd24 ct24:Value}
  (a24:PySem.W.nsIn K mainGlobals "law" = some (some (.ref f24)))
  (l24:K.lookup f24=some ⟨oc24,od24,.func (PySem.W.fnOf "law" "law" (zbL (top 36)) (zbB (top 36)) (zab (top 36)) .none kV24 dc24 pm24 an24 cd24 ct24),sl24⟩) (c24:PySem.W.codeIn K cd24 "law" = true) (k24:PySem.W.keepIn K (.ref f24)=true)
  (z1:PySem.W.nsIn K mainGlobals "isinstance" = some none)
  (z2:PySem.W.nsIn K mainGlobals "int" = some none)
  (z3:PySem.W.nsIn K mainGlobals "bool" = some none)
  (z4:PySem.W.nsIn K mainGlobals "tuple" = some none)
  (z5:PySem.W.nsIn K mainGlobals "len" = some none)
  (z6:PySem.W.nsIn K mainGlobals "range" = some none)
  (z7:PySem.W.nsIn K mainGlobals "abs" = some none)
  (z8:PySem.W.nsIn K mainGlobals "zip" = some none)
  (z9:PySem.W.nsIn K mainGlobals "sorted" = some none)
  (z10:PySem.W.nsIn K mainGlobals "ValueError" = some none)
  {e0 e1 e2 e3 e4 e5 e6:Addr}
  (n0:PySem.W.nsIn K mainGlobals "FloorError" = some (some (.ref e0))) (x0:PySem.W.excIn K e0 bmV "ValueError.__new__" = true)
  (n1:PySem.W.nsIn K mainGlobals "NoPlace" = some (some (.ref e1))) (x1:PySem.W.excIn K e1 bmV "ValueError.__new__" = true)
  (n2:PySem.W.nsIn K mainGlobals "NoTile" = some (some (.ref e2))) (x2:PySem.W.excIn K e2 bmV "ValueError.__new__" = true)
  (n3:PySem.W.nsIn K mainGlobals "NoFill" = some (some (.ref e3))) (x3:PySem.W.excIn K e3 bmV "ValueError.__new__" = true)
  (n4:PySem.W.nsIn K mainGlobals "Unlike" = some (some (.ref e4))) (x4:PySem.W.excIn K e4 bmV "ValueError.__new__" = true)
  (n5:PySem.W.nsIn K mainGlobals "Nothing" = some (some (.ref e5))) (x5:PySem.W.excIn K e5 bmV "ValueError.__new__" = true)
  (n6:PySem.W.nsIn K mainGlobals "NoText" = some (some (.ref e6))) (x6:PySem.W.excIn K e6 bmV "ValueError.__new__" = true)
  {el1:Value} {ed1:Option Addr} {ec1:ClassData} {es1:Array (Option Value)} (lk1:K.lookup e1=some ⟨el1,ed1,.cls ec1,es1⟩) (mr1:ec1.mro=.ref e1::.ref e0::bmV)
  (ga1:PySem.W.findIn K (.ref e1) "__getattribute__" = some (some (.builtin "BaseException.__getattribute__"))) (gt1:PySem.W.findIn K (.ref e1) "__getattr__" = some none) (cc1:PySem.W.findIn K (.ref e1) "__class__" = some (some (.builtin "object.__class__")))
  {el2:Value} {ed2:Option Addr} {ec2:ClassData} {es2:Array (Option Value)} (lk2:K.lookup e2=some ⟨el2,ed2,.cls ec2,es2⟩) (mr2:ec2.mro=.ref e2::.ref e0::bmV)
  (ga2:PySem.W.findIn K (.ref e2) "__getattribute__" = some (some (.builtin "BaseException.__getattribute__"))) (gt2:PySem.W.findIn K (.ref e2) "__getattr__" = some none) (cc2:PySem.W.findIn K (.ref e2) "__class__" = some (some (.builtin "object.__class__")))
  (nd:[e0,e1,e2,e3,e4,e5,e6].Nodup)
  (p1:GFn K "is_whole" (top 9)) (p2:GFn K "is_tuple_of" (top 10)) (p3:GFn K "has_number" (top 11)) (p4:GFn K "may_lie" (top 12)) (p5:GFn K "size_of" (top 13)) (p6:GFn K "places_of" (top 14)) (p7:GFn K "number_at" (top 15)) (p8:GFn K "has_place" (top 16)) (p9:GFn K "refuse_outside" (top 17)) (p10:GFn K "tile_at" (top 18)) (p11:GFn K "with_number" (top 19)) (p12:GFn K "with_tile" (top 20)) (p13:GFn K "neighbours" (top 22)) (p14:GFn K "alike_beside" (top 23)) (p15:GFn K "area" (top 24)) (p16:GFn K "areas" (top 25)) (p17:GFn K "poured" (top 26)) (p18:GFn K "_law_cell" (top 28)) (p19:GFn K "_law_pick" (top 29)) (p20:GFn K "_law_floor" (top 31)) (p21:GFn K "_law_word" (top 33)) (p22:GFn K "_law_do" (top 34)) (p23:GFn K "_law_area" (top 35))
  : ∃fd:FuncData,(∀(s:Shared) (v:Value),BindsTo s fd ⟨[v],[]⟩ [("_law_script",v)])/\∀base:Heap,K.In base->base.Ns mainGlobals mg->FnOk l.prog w K mg base (CXE l.prog w) 24 fa fd ["_law_script"] (S2.zkM K):=by
 have e:=hfa.symm.trans (ybz X G a24);cases e;have U24:=zmQ (st:=(top 36)) l24 c24 k24;refine ⟨PySem.W.fnOf "law" "law" (zbL (top 36)) (zbB (top 36)) (zab (top 36)) .none kV24 dc24 pm24 an24 cd24 ct24,fun s v=>.of_eq rfl,fun base _ _=>?_⟩
 let cl:Cf:=⟨fun x=>(([("FloorError",e0),("NoPlace",e1),("NoTile",e2),("NoFill",e3),("Unlike",e4),("Nothing",e5),("NoText",e6)]:List (Str×Addr)).lookup x).getD 0,K,l.prog,w⟩
 have g0:GOk cl (Gn T F0) l.prog w K mg base 0:=zxL (cl:=cl) zds (zah (yaX X G z1) (zah (yaX X G z2) (zah (yaX X G z3) (zah (yaX X G z4) (zah (yaX X G z5) (zah (yaX X G z6) (zah (yaX X G z7) (zah (yaX X G z8) (zah (yaX X G z9) (zah (yaX X G z10) zds)))))))))) (zah ⟨ybz X G n0,x0⟩ (zah ⟨ybz X G n1,x1⟩ (zah ⟨ybz X G n2,x2⟩ (zah ⟨ybz X G n3,x3⟩ (zah ⟨ybz X G n4,x4⟩ (zah ⟨ybz X G n5,x5⟩ (zah ⟨ybz X G n6,x6⟩ zds))))))) (zah ⟨⟨_,_,x1⟩,_,_,_,_,lk1,zjw mr1⟩ (zah ⟨⟨_,_,x2⟩,_,_,_,_,lk2,zjw mr2⟩ zds)) (zah (zmO (K:=K) (c:="NoPlace") (cl:=cl) lk1 mr1 rfl ga1 gt1 cc1 (zah x0 (zah x1 (zah x2 (zah x3 (zah x4 (zah x5 (zah x6 zds))))))) (fun C hC=>⟨zhM (L:=[("FloorError",e0),("NoPlace",e1),("NoTile",e2),("NoFill",e3),("Unlike",e4),("Nothing",e5),("NoText",e6)]) (c:="NoPlace") nd hC (by simp),zhM (L:=[("FloorError",e0),("NoPlace",e1),("NoTile",e2),("NoFill",e3),("Unlike",e4),("Nothing",e5),("NoText",e6)]) (c:="FloorError") nd hC (by simp)⟩)) (zah (zmO (K:=K) (c:="NoTile") (cl:=cl) lk2 mr2 rfl ga2 gt2 cc2 (zah x0 (zah x1 (zah x2 (zah x3 (zah x4 (zah x5 (zah x6 zds))))))) (fun C hC=>⟨zhM (L:=[("FloorError",e0),("NoPlace",e1),("NoTile",e2),("NoFill",e3),("Unlike",e4),("Nothing",e5),("NoText",e6)]) (c:="NoTile") nd hC (by simp),zhM (L:=[("FloorError",e0),("NoPlace",e1),("NoTile",e2),("NoFill",e3),("Unlike",e4),("Nothing",e5),("NoText",e6)]) (c:="FloorError") nd hC (by simp)⟩)) zds)) zds;have g1:GOk cl (Gn T F1) l.prog w K mg base 1:=g0.addG X G p1 s1 rfl rfl rfl (fun _ _ _ _ _ _=>bb1 fun _=>rfl) d1;have g2:GOk cl (Gn T F2) l.prog w K mg base 2:=g1.addG X G p2 s2 rfl rfl rfl (fun _ _ _ _ _ _=>bb3 fun _ _ _=>rfl) d2;have g3:GOk cl (Gn T F3) l.prog w K mg base 3:=g2.addG X G p3 s3 rfl rfl rfl (fun _ _ _ _ _ _=>bb2 fun _ _=>rfl) d3;have g4:GOk cl (Gn T F4) l.prog w K mg base 4:=g3.addG X G p4 s4 rfl rfl rfl (fun _ _ _ _ _ _=>bb2 fun _ _=>rfl) d4;have g5:GOk cl (Gn T F5) l.prog w K mg base 5:=g4.addG X G p5 s5 rfl rfl rfl (fun _ _ _ _ _ _=>bb1 fun _=>rfl) d5;have g6:GOk cl (Gn T F6) l.prog w K mg base 6:=g5.addG X G p6 s6 rfl rfl rfl (fun _ _ _ _ _ _=>bb1 fun _=>rfl) d6;have g7:GOk cl (Gn T F7) l.prog w K mg base 7:=g6.addG X G p7 s7 rfl rfl rfl (fun _ _ _ _ _ _=>bb2 fun _ _=>rfl) d7;have g8:GOk cl (Gn T F8) l.prog w K mg base 8:=g7.addG X G p8 s8 rfl rfl rfl (fun _ _ _ _ _ _=>bb2 fun _ _=>rfl) d8;have g9:GOk cl (Gn T F9) l.prog w K mg base 9:=g8.addG X G p9 s9 rfl rfl rfl (fun _ _ _ _ _ _=>bb2 fun _ _=>rfl) d9;have g10:GOk cl (Gn T F10) l.prog w K mg base 10:=g9.addG X G p10 s10 rfl rfl rfl (fun _ _ _ _ _ _=>bb2 fun _ _=>rfl) d10;have g11:GOk cl (Gn T F11) l.prog w K mg base 11:=g10.addG X G p11 s11 rfl rfl rfl (fun _ _ _ _ _ _=>bb3 fun _ _ _=>rfl) d11;have g12:GOk cl (Gn T F12) l.prog w K mg base 12:=g11.addG X G p12 s12 rfl rfl rfl (fun _ _ _ _ _ _=>bb4 fun _ _ _ _=>rfl) d12;have g13:GOk cl (Gn T F13) l.prog w K mg base 13:=g12.addG X G p13 s13 rfl rfl rfl (fun _ _ _ _ _ _=>bb1 fun _=>rfl) d13;have g14:GOk cl (Gn T F14) l.prog w K mg base 14:=g13.addG X G p14 s14 rfl rfl rfl (fun _ _ _ _ _ _=>bb2 fun _ _=>rfl) d14;have g15:GOk cl (Gn T F15) l.prog w K mg base 15:=g14.addG X G p15 s15 rfl rfl rfl (fun _ _ _ _ _ _=>bb2 fun _ _=>rfl) d15;have g16:GOk cl (Gn T F16) l.prog w K mg base 16:=g15.addG X G p16 s16 rfl rfl rfl (fun _ _ _ _ _ _=>bb1 fun _=>rfl) d16;have g17:GOk cl (Gn T F17) l.prog w K mg base 17:=g16.addG X G p17 s17 rfl rfl rfl (fun _ _ _ _ _ _=>bb4 fun _ _ _ _=>rfl) d17;have g18:GOk cl (Gn T F18) l.prog w K mg base 18:=g17.addG X G p18 s18 rfl rfl rfl (fun _ _ _ _ _ _=>bb2 fun _ _=>rfl) d18;have g19:GOk cl (Gn T F19) l.prog w K mg base 19:=g18.addG X G p19 s19 rfl rfl rfl (fun _ _ _ _ _ _=>bb3 fun _ _ _=>rfl) d19;have g20:GOk cl (Gn T F20) l.prog w K mg base 20:=g19.addG X G p20 s20 rfl rfl rfl (fun _ _ _ _ _ _=>bb6 fun _ _ _ _ _ _=>rfl) d20;have g21:GOk cl (Gn T F21) l.prog w K mg base 21:=g20.addG X G p21 s21 rfl rfl rfl (fun _ _ _ _ _ _=>bb1 fun _=>rfl) d21;have g22:GOk cl (Gn T F22) l.prog w K mg base 22:=g21.addG X G p22 s22 rfl rfl rfl (fun _ _ _ _ _ _=>bb5 fun _ _ _ _ _=>rfl) d22;have g23:GOk cl (Gn T F23) l.prog w K mg base 23:=g22.addG X G p23 s23 rfl rfl rfl (fun _ _ _ _ _ _=>bb2 fun _ _=>rfl) d23;have G24:=zro (cl:=cl) (wo:=w) (P:=l.prog) U24 s24 g23 rfl rfl rfl d24;exact G24.imp (zq0 (cl:=cl) (fun l hl=>⟨[],zlH l hl⟩))
def walk{l:PySem.W.OpenLaw}{q:Program}{loose:List Str}{XP:(Str->Option Value)->Heap->Prop}{YP:PySem.World->Heap->Prop}{d:DefRec}{K:Params->PySem.W.Frag}(hn:l.most=some 63)(hdf:d.params.defaults=[])
  (hY:∀(w:PySem.World) (h:Heap),YP w h->(K w.params).In h)
  (F:∀(w:PySem.World) (mg:Z6) (fa:Addr) (h:Heap),(K w.params).In h->h.Ns mainGlobals mg->mg d.name=some (.ref fa) →
   ∃fd:FuncData,(∀(s:Shared) (u:Value),BindsTo s fd ⟨[u],[]⟩ [("_law_script",u)])/\∀base:Heap,(K w.params).In base->base.Ns mainGlobals mg->FnOk l.prog w (K w.params) mg base (CXE l.prog w) 24 fa fd ["_law_script"] (S2.zkM (K w.params))) :
  PySem.W.WalkO q loose XP YP l.row.toRowW d [] (fun f vs=>PySem.call f vs) :=
 L2.zm3 (n:=63) (k:=24) (x:="_law_script") (CX:=fun w=>CXE l.prog w) (sp:=fun w=>S2.zkM (K w.params)) hn (by decide) hdf ⟨rfl,by decide,by decide⟩ hY F (fun _ _ a ns hl hO hS=>⟨a,ns,rfl,hl,hO,hS,fun _=>rfl⟩) (by rintro _ _ _ _ _ ⟨_,_,_,_,_,_,_,_,_,_,_,_,_,_,z⟩;exact z)
end M71
namespace PySem.W.Fast
def tw13609466162455548509:=0
def tw1564048303409718087:=0
def tw16084212923874689134:=0
def tw5906504819854212962:=0
def tw9560417413249542378:=0
def tw990180807324346102:=0
def tw15192967469477920923:=0
def tw9256600274423761517:=0
def tw15264905363513365235:=0
def tw16944233906850699929:=0
def tw16374041784982035749:=0
def tw1943756210064914145:=0
def tw15125605195609027367:=0
def tw7382319423479578915:=0
def tw17826676011627569340:=0
def tw4548692561672099310:=0
def tw5102316540576514159:=0
def tw17118045382400522820:=0
def tw7253151997612981469:=0
def tw13427255378194264551:=0
def tw8930622660218862924:=0
def tw16281698456811906732:=0
def tw7374852634722229170:=0
def tw1753054011581900388:=0
def tw15523873374966038252:=0
def tw1250429865636025507:=0
def tw9132790566039357964:=0
def tw8621724297067309973:=0
def tw12998469013376198578:=0
def tw3818576346916702343:=0
def tw15478356213720423116:=0
def tw9429068457197521443:=0
def tw2247143606615905533:=0
def tw6906742942331948045:=0
def tw15692959576207067538:=0
def tw1265286350315456978:=0
def tw6759478259994594650:=0
def tw9416702773971754863:=0
def tw17533285234420765232:=0
def tw12806138669495660411:=0
def tw12713990344066200743:=0
def tw109898892180255574:=0
def tw4582958981542489286:=0
def tw8339294069054027914:=0
def tw7652836208510996587:=0
def tw13208621257498381496:=0
def tw15397912282470511467:=0
def tw5652136906453567981:=0
def tw6004840068474597100:=0
def tw6245209293395864288:=0
def tw18276078389668849772:=0
def tw4508523135564037239:=0
def tw15711188656224486900:=0
def tw1827605814607766017:=0
def tw17847928892975761003:=0
def tw1051968477171737932:=0
def tw10959135598908993195:=0
def tw15116394002159427731:=0
def tw14874351701816448674:=0
def tw15602278695943989453:=0
def tw13102434558032386758:=0
def tw14925484915275392536:=0
def tw12796986481881368703:=0
def tw11605702520046201939:=0
def tw3333731800995156989:=0
def tw3283763368236288530:=0
def tw15966809499603248082:=0
def tw8069069168599512925:=0
def tw16914521453299358075:=0
def tw11282164301766992265:=0
def tw3556261457374989001:=0
def tw16857597142173928392:=0
def tw8131318703285511021:=0
def tw11504847668073514305:=0
def tw6046071910055897693:=0
def tw49862162681659872:=0
def tw12142729386135304366:=0
def tw6736233620497890918:=0
def tw2994671376916253002:=0
def tw8901536709678086939:=0
def tw7296167086905320369:=0
def tw11878511636612757840:=0
def tw17927987053948606169:=0
def tw3170306978253762999:=0
def tw14529698696416331999:=0
def tw10595682242765546059:=0
def tw9972973181605303859:=0
def tw8902418470905352563:=0
def tw4391085876145338284:=0
def tw3911483812944714220:=0
def tw14435081164497874679:=0
def tw6877747339237497810:=0
def tw9740918213088775334:=0
def tw11694168565581737688:=0
def tw895245659567758572:=0
def tw11932471255316663377:=0
def tw16468688822123981278:=0
def tw17049749521955009134:=0
def tw2101865332619990226:=0
def tw16353497924140763222:=0
def tw18384794510182142003:=0
def tw17485179766744833298:=0
def tw16902469067791883106:=0
def tw1569645058318254850:=0
def tw14331093217589399575:=0
def tw1502461970655127196:=0
def tw14331083947835093385:=0
def tw7714981550642268671:=0
def tw1773339863839285510:=0
def tw2141800285626901748:=0
def tw1103865662586881776:=0
def tw322112396567305286:=0
def tw13283397648694459956:=0
def tw12493081080988378115:=0
def tw2971224775900775812:=0
def tw15134625585795240849:=0
def tw9532993922782420325:=0
def tw16217971937710722473:=0
def tw9985525592405797948:=0
def tw8788397985235345816:=0
def tw511725524138900934:=0
def tw2251007344797695912:=0
def tw16062246360867834362:=0
def tw16579778990630706553:=0
def tw12330975526526935338:=0
def tw6084460352826146866:=0
def tw7292508031815986594:=0
def tw8538192000865633192:=0
def tw531631029724052856:=0
def tw17379931147238997713:=0
def tw6085089592789651587:=0
def tw8715488969646855244:=0
def tw3286441772404050635:=0
def tw15177576042649868859:=0
def tw13665297447525286245:=0
def tw3944983871000125089:=0
def tw12070279772063754342:=0
def tw8194483607158682169:=0
def tw7426445289007565584:=0
def tw13064657097836754704:=0
def tw5066410441058348951:=0
def tw15651879555603623375:=0
def tw13985181784911687098:=0
def tw1226788718013892224:=0
def tw6528763586456045929:=0
def tw3105162195307970874:=0
def tw15211880163681244371:=0
def tw12614797065484196976:=0
def tw8472027078274229073:=0
def tw16754524588221462529:=0
def tw7219494357824438557:=0
def tw12187924915890654383:=0
def tw3231118300406233370:=0
def tw5253860079720681527:=0
def tw10983218003502536052:=0
def tw1484738979644398282:=0
def tw17532046684201652462:=0
def tw118272695733247443:=0
def tw16824891732360590328:=0
def tw10664760427245471878:=0
def tw7362902465421085733:=0
def tw6243298967149150285:=0
def tw4803756795196329894:=0
def tw4323742745694539516:=0
def tw11264209092279386743:=0
def tw6918303562850557828:=0
def tw2829666998109171913:=0
def tw14884147294408863602:=0
def tw14011209283482209347:=0
def tw13469853424391189402:=0
def tw13169570139935255647:=0
def tw12573588072115792693:=0
def tw7173166910516863367:=0
def tw13930990057210660167:=0
def tw9354030943984008593:=0
def tw7626060146330887869:=0
def tw544588005867981754:=0
def tw10001095639471112745:=0
def tw2807496267936899259:=0
def tw2475047800425884280:=0
def tw202235339671441481:=0
def tw16037220522747428226:=0
def tw15436050672507489179:=0
def tw13964734857399852385:=0
def tw12380969856188560533:=0
def tw5934826859680897354:=0
def tw3528930406834915237:=0
def tw2295894003695607739:=0
def tw16348914866928628679:=0
def tw14903811828323362989:=0
def tw12786442891360795644:=0
def tw12408053566295803794:=0
def tw2651090796392147455:=0
def tw9054715943768359327:=0
def tw88599494398314266:=0
def tw16249235699142396020:=0
def tw12074458147734659387:=0
def tw11695772578306398410:=0
def tw1023676804573179196:=0
def tw7782655382033877498:=0
def tw3611884621588072545:=0
def tw298368682086493077:=0
def tw18021879277652259875:=0
def tw16967567331630304561:=0
def tw16238501156673418257:=0
def tw15216912972983276591:=0
def tw9911495853592570624:=0
def tw9609209605844663434:=0
def tw956525082365285764:=0
def tw9552578641180307972:=0
def tw9515095377910352495:=0
def tw8895121963006579556:=0
def tw8723254365547363300:=0
def tw8511935900524926403:=0
def tw8199439936872880798:=0
def tw8104776148312883622:=0
def tw7957080111389311836:=0
def tw7740129201170133086:=0
def tw6874639107319356884:=0
def tw6454069971380992082:=0
def tw5821403395256459564:=0
def tw5774460243729757356:=0
def tw47499738684754260:=0
def tw4708910511002269032:=0
def tw4335334074878130780:=0
def tw4098359019499208827:=0
def tw4083706962522536908:=0
def tw4030525360212835152:=0
def tw3951419068977441561:=0
def tw394876943384827416:=0
def tw3706702502760397143:=0
def tw3628507607087127402:=0
def tw3475882147228305011:=0
def tw3421918540487030962:=0
def tw3395864471799043941:=0
def tw3105471101579026821:=0
def tw2542628180197493418:=0
def tw214173572507832211:=0
def tw2010335060365390278:=0
def tw1845624495193056046:=0
def tw18357782202335425447:=0
def tw1828340079579724666:=0
def tw18175728165186815781:=0
def tw18079467500768850948:=0
def tw17756940731402547619:=0
def tw17615848653533211957:=0
def tw17510509618439629381:=0
def tw17468206327179085943:=0
def tw17354989728531685978:=0
def tw17040501634377445141:=0
def tw16986094993697500561:=0
def tw16133370631774669420:=0
def tw15724178109262442699:=0
def tw15467370943453407525:=0
def tw1543411993258774061:=0
def tw1540774398639814775:=0
def tw15127290387097976082:=0
def tw14835760325536056433:=0
def tw14455756996286913071:=0
def tw14241916970768505184:=0
def tw13354121349563966001:=0
def tw1265608447977424951:=0
def tw12372079838596410888:=0
def tw11978610559658911918:=0
def tw11467438616762853638:=0
def tw11096541209097208627:=0
def tw10829481918542145223:=0
def tw10057060608992197462:=0
end PySem.W.Fast
open PySem PySem.W PyProof.Rows
set_option maxRecDepth 100000 in
set_option maxHeartbeats 0 in
theorem PySem.Challenge.cw_floorfits_k71_whole_areas_holds : PySem.Challenge.rw_floorfits_k71_whole_areas.Holds := by
 w_on;o_law;k_head;(case hw=>w_witness2)
 k_fill
 refine M71.walk (l:=PySem.Challenge.rw_floorfits_k71_whole_areas) rfl rfl (fun w h Y=>PySem.W.kIn_of Y) ?F
 case F =>
  intro w mg fa h KX G hmg;refine' M71.all_mk KX G hmg ?a24 ?l24 ?c24 ?k24 ?z1 ?z2 ?z3 ?z4 ?z5 ?z6 ?z7 ?z8 ?z9 ?z10 ?n0 ?x0 ?n1 ?x1 ?n2 ?x2 ?n3 ?x3 ?n4 ?x4 ?n5 ?x5 ?n6 ?x6 ?lk1 ?mr1 ?ga1 ?gt1 ?cc1 ?lk2 ?mr2 ?ga2 ?gt2 ?cc2 ?nd ?_ ?_ ?_ ?_ ?_ ?_ ?_ ?_ ?_ ?_ ?_ ?_ ?_ ?_ ?_ ?_ ?_ ?_ ?_ ?_ ?_ ?_ ?_
  (case a24=>k_is);(case l24=>k_is);(case c24=>k_is);(case k24=>k_is)
  (case z1=>k_is);(case z2=>k_is);(case z3=>k_is);(case z4=>k_is)
  (case z5=>k_is);(case z6=>k_is);(case z7=>k_is);(case z8=>k_is)
  (case z9=>k_is);(case z10=>k_is);(case n0=>k_is);(case x0=>k_exc)
  (case n1=>k_is);(case x1=>k_exc);(case n2=>k_is);(case x2=>k_exc)
  (case n3=>k_is);(case x3=>k_exc);(case n4=>k_is);(case x4=>k_exc)
  (case n5=>k_is);(case x5=>k_exc);(case n6=>k_is);(case x6=>k_exc)
  (case lk1=>k_is);(case mr1=>with_unfolding_all rfl);(case ga1=>k_is);(case gt1=>k_is)
  (case cc1=>k_is);(case lk2=>k_is);(case mr2=>with_unfolding_all rfl);(case ga2=>k_is)
  (case gt2=>k_is);(case cc2=>k_is);(case nd=>decide)
  all_goals ((first | refine' M71.gm ?a ?l ?c ?k ?i | refine' M71.mm ?a ?l ?c ?k ?i);(case a=>k_is);(case l=>k_is);(case c=>k_is);(case k=>k_is);(case i=>k_is))
#print axioms PySem.Challenge.cw_floorfits_k71_whole_areas_holds
