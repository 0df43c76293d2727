import PyProof.Rows.All
import Wide.All
import OpenK.AllK
import Wide.FinOn
import Lean
import PyProof.EqAt
import PyProof.EqKinds
import PyProof.TupleCall
import PyProof.StrWalks
import PyProof.FString5
import PyProof.Draws
import PyProof.EnumMake
import PySem.SetTable
import PyProof.TupleKey
import OpenK.KRaise
import OpenK.KOwn
import PyProof.Rows.TopTwo
import PyProof.RulesAs
import PyProof.RulesDel
import PyProof.ExcArgsOwn
import PyProof.ExcAttrAll.ValueError
import PyProof.Rows.CountFlat
import PyProof.SumWalk
import PyProof.Rows.SeqCalls
import KE.KEqDict
import PyProof.DictWalks
import PyProof.ZipIter
import KE.KRevIter
import PyProof.CollectIter
import PyProof.TupleOfGen
import PyProof.ListRange
import PyProof.WalkInts
import PyProof.AttrMissHeap
import KE.KDictOf
import KE.KDictSum
import PyProof.Rows.SortStr
import PySem.Challenge.RW_floorfits_k88_whole_albums
def yaa:=@Bool.and_eq_true
def yab:=@PySem.wpAny_bind
def yac:=@List.getElem?_eq_getElem
def yad:=@List.length_map
def yae:=@PySem.Heap.get?_push_of_some
def yaf:=@List.length_cons
def yag:=@List.getElem?_eq_some_iff
def yah:=@Nat.lt_of_lt_of_le
def yai:=@Nat.le_refl
def yaj:=@PySem.Heap.lt_size
def yak:=@List.mem_cons_of_mem
def yal:=@PySem.wpAny_pure
def yam:=@List.size_toArray
def yan:=@Option.map_eq_some_iff
def yao:=@List.getElem?_map
def yap:=@PySem.Heap.get?_push_size
def yaq:=@of_decide_eq_true
def yar:=@List.mem_cons_self
def yas:=@List.length_append
def yat:=@List.mem_cons
def yau:=@List.mem_map
def yav:=@Nat.ne_of_lt
def yaw:=@List.map_cons
def yax:=@Nat.le_trans
def yay:=@PySem.mem_of_lookup
def yaz:=@List.lookup_cons
def yaA:=@List.getElem?_set_self
def yaB:=@Option.some_ne_none
def yaC:=@decide_eq_true
def yaD:=@Nat.zero_le
def yaE:=@List.getElem?_append_left
def yaF:=@Array.getElem?_eq_getElem
def yaG:=@List.mem_append_right
def yaH:=@List.length_replicate
def yaI:=@List.length_set
def yaJ:=@Bool.false_eq_true
def yaK:=@List.getElem?_append_right
def yaL:=@List.getElem?_set_ne
def yaM:=@List.getD_eq_getElem?_getD
def yaN:=@List.mem_singleton
def yaO:=@PySem.W.mg_of
def yaP:=@Nat.lt_irrefl
def yaQ:=@decide_eq_false
def yaR:=@Nat.ne_of_gt
def yaS:=@Array.getElem?_toList
def yaT:=@Array.getElem?_eq_some_iff
def yaU:=@Array.length_toList
def yaV:=@decide_eq_true_eq
def yaW:=@PySem.wpAny_mono
def yaX:=@PySem.W.kia_one
def yaY:=@List.append_nil
def yaZ:=@PySem.wpAny_truthy_bool
def ya0:=@Array.mem_toList_iff
def ya1:=@PySem.Heap.size_push
def ya2:=@List.all_cons
def ya3:=@List.mem_append
def ya4:=@PySem.wpAny_Call_Name_kw
def ya5:=@List.mem_of_getElem?
def ya6:=@beq_eq_false_iff_ne
def ya7:=@List.nodup_cons
def ya8:=@List.of_mem_zip
def ya9:=@Bool.false_ne_true
def yba:=@List.pairwise_cons
def ybb:=@PySem.wpAny_holding
def ybc:=@List.getElem?_replicate
def ybd:=@PySem.F.plainAttrs_list
def ybe:=@Bool.not_eq_true'
def ybf:=@PySem.wpAny_loadPart_at
def ybg:=@Nat.le_succ
def ybh:=@PySem.F.slot_tuple_iterator_next
def ybi:=@List.mem_filterMap
def ybj:=@List.getElem?_drop
def ybk:=@Array.mem_of_getElem?
def ybl:=@PySem.wpAny_seqItems
def ybm:=@List.getElem?_of_mem
def ybn:=@List.foldl_cons
def ybo:=@PySem.codeAny_mono
def ybp:=@List.map_map
def ybq:=@PySem.wpAny_callSpecial?_slot
def ybr:=@beq_self_eq_true
def ybs:=@List.all_eq_true
def ybt:=@List.eq_nil_of_length_eq_zero
def ybu:=@List.mem_range
def ybv:=@PySem.W.cellsFrom_some
def ybw:=@PySem.Calls.callWith_builtin
def ybx:=@PySem.tupleKind_room_in1
def yby:=@PySem.W.callWith_K
def ybz:=@Nat.le_of_lt
def ybA:=@PyProof.Rows.callWith_type1
def ybB:=@List.length_singleton
def ybC:=@List.forIn_cons
def ybD:=@List.find?_cons
def ybE:=@PySem.codeAny_builtin
def ybF:=@PySem.F.called_set
def ybG:=@List.map_append
def ybH:=@beq_iff_eq
def ybI:=@if_false
def ybJ:=@PySem.wpAny_setState_of
def ybK:=@List.nodup_append
def ybL:=@PySem.wpAny_newFunctionEnv_cells
def ybM:=@PySem.F.excBase_ValueError
def ybN:=@PySem.Calls.evalArgs_plain
def ybO:=@List.mem_iff_getElem
def ybP:=@PySem.Around.under_plainId
def ybQ:=@List.filter_cons
def ybR:=@PySem.wpAny_call_entry
def ybS:=@Nat.succ_le_succ
def ybT:=@List.filterMap_cons
def ybU:=@PySem.wpAny_field
def ybV:=@PySem.F.args_tuple_add_2
def ybW:=@PySem.F.slot_list_append
def ybX:=@PySem.F.type_list_append
def ybY:=@PySem.F.slot_list_getattribute
def ybZ:=@PySem.wpAny_pyIter_tuple
def yb0:=@PySem.wpAny_passesOwn
def yb1:=@PySem.Calls.spliced_cons
def yb2:=@PySem.F.entry_tuple_add
def yb3:=@Int.emod_lt_of_pos
def yb4:=@List.contains_cons
def yb5:=@PySem.wpAny_setField_rec
def yb6:=@decide_eq_false_iff_not
def yb7:=@Int.eq_ofNat_of_zero_le
def yb8:=@PySem.F.slot_tuple_add
def yb9:=@PySem.wpAny_newObj_type
def yca:=@Nat.lt_succ_of_lt
def ycb:=@List.length_range
def ycc:=@List.append_assoc
def ycd:=@PySem.codeAny_call_function
def yce:=@PySem.F.slot_dict_pop
def ycf:=@PySem.F.slot_dict_get
def ycg:=@PySem.Heap.get?_update_self
def ych:=@PySem.F.typeOf_object_class
def yci:=@List.getElem?_toArray
def ycj:=@List.mem_iff_getElem?
def yck:=@if_true
def ycl:=@List.getElem_mem
def ycm:=@List.not_mem_nil
def ycn:=@List.isEmpty_iff
def yco:=@List.mem_append_left
def ycp:=@PySem.codeAny_call_builtin
def ycq:=@List.mem_filter
def ycr:=@PySem.wpAny_execs_nil
def ycs:=@PySem.W.plainGet_of
def yct:=@Int.emod_nonneg
def ycu:=@Bool.or_eq_true
def ycv:=@PySem.F.slot_zip_next
def ycw:=@List.mem_map_of_mem
def ycx:=@PyProof.Rows.assignInOrder_cons
def ycy:=@PySem.W.codeRec_of
def ycz:=@Option.isSome_some
def ycA:=@Nat.lt_of_le_of_lt
def ycB:=@Nat.lt_or_eq_of_le
def ycC:=@PySem.wpAny_pyIter_list
def ycD:=@PySem.Calls.spliced_nil
def ycE:=@Nat.le_of_succ_le
def ycF:=@Option.isSome_map
def ycG:=@PySem.wpAny_call
def ycH:=@Int.toNat_natCast
def ycI:=@List.ext_getElem?
def ycJ:=@List.foldl_append
def ycK:=@PySem.wpAny_standAt
def ycL:=@PySem.sizeLine_eq
def ycM:=@List.any_cons
def ycN:=@Bool.not_true
def ycO:=@Bool.and_self
def ycP:=@PySem.call_meets
noncomputable section
set_option Elab.async false
set_option linter.all false
set_option maxRecDepth 100000
set_option maxHeartbeats 4000000
abbrev Z1:=Nat->Nat->Option Int
abbrev Z2:=List (List Int)
abbrev Z3:=List (PySem.Addr×PySem.Obj)
abbrev Z4:=List (Option Int)
abbrev Z5:=PySem.Value->PySem.Shared->Prop
abbrev Z6:=PySem.Str->Option PySem.Value
def S2.bdI{c k:Nat}(h:c<=k)(hk:k<=1000000):-1000000<=(c:Int)/\(c:Int)<=1000000:=⟨Int.le_trans (by decide) (Int.natCast_nonneg c),Int.ofNat_le.mpr (yax h hk)⟩
def S2.bdN{c k:Nat}(h:c<=k)(hk:k<=1000000):0<=(c:Int)/\(c:Int)<=1000000:=⟨Int.natCast_nonneg c,Int.ofNat_le.mpr (yax h hk)⟩
local macro_rules | `(tactic| omega) => `(tactic| first | assumption | exact yax (by assumption) (by decide) | exact yah (by assumption) (by assumption) | exact yah (by assumption) (by decide) | exact ybz (by assumption) | exact S2.bdI (by assumption) (by decide) | exact yax (by assumption) (by assumption) | omega +splitDisjunctions)
namespace L2
open PySem PySem.Spec PyProof.Rows
noncomputable abbrev Key:=Sum Int Str
noncomputable def ziV:Key->Value->Bool
 | .inl k,v=>Value.isInt k v
 | .inr x,v=>Value.isStrOf x v
noncomputable def zwy(w:World):Key->Int
 | .inl k=>hashInt k
 | .inr x=>hashStr w x
theorem zaO:∀{k:Key} {v:Value},ziV k v=true->(∃i t,k=Sum.inl i/\v=Value.int i t)\/(∃x t,k=Sum.inr x/\v=Value.str x t)
 | .inl i,v,h=>by
  obtain ⟨t,e⟩:=Value.isInt_shape (k:=i) (v:=v) h;exact .inl ⟨i,t,rfl,e⟩
 | .inr x,v,h=>by
  obtain ⟨t,e⟩:=Value.isStrOf_shape (x:=x) (v:=v) h;exact .inr ⟨x,t,rfl,e⟩
def zkz(i:Int)(t:Tok):ziV (.inl i) (.int i t)=true:=by simp [ziV,Value.isInt]
def zky(x:Str)(t:Tok):ziV (.inr x) (.str x t)=true:=by simp [ziV,Value.isStrOf]
def zr9(a b:Int):decide ((Sum.inl a:Key)=Sum.inl b)=(a == b):=by
 by_cases e:a=b
 ·subst e;simp
 ·have h:¬ (Sum.inl a:Key)=Sum.inl b:=fun q=>e (Sum.inl.inj q)
  rw [yaQ h];exact (ya6.mpr e).symm
def zr6(a b:Str):decide ((Sum.inr a:Key)=Sum.inr b)=decide (a=b):=by
 by_cases e:a=b
 ·subst e;simp
 ·have h:¬ (Sum.inr a:Key)=Sum.inr b:=fun q=>e (Sum.inr.inj q)
  rw [yaQ h,yaQ e]
def zr8(a:Int)(b:Str):decide ((Sum.inl a:Key)=Sum.inr b)=false:=yaQ (fun q=>nomatch q)
def zr7(a:Str)(b:Int):decide ((Sum.inr a:Key)=Sum.inl b)=false:=yaQ (fun q=>nomatch q)
def zaA(prog:Program)(w:World):PySem.KeyKind prog w Key where
 is:=ziV
 hash:=zwy w
 inj:=fun v a b ha hb=>by
  rcases zaO ha with ⟨i,t,rfl,rfl⟩ | ⟨x,t,rfl,rfl⟩
  ·rcases zaO hb with ⟨j,u,rfl,e⟩ | ⟨y,u,rfl,e⟩
   ·injection e with e1 _;rw [e1]
   ·exact nomatch e
  ·rcases zaO hb with ⟨j,u,rfl,e⟩ | ⟨y,u,rfl,e⟩
   ·exact nomatch e
   ·injection e with e1 _;rw [e1]
 byValue:=fun k v h=>by
  rcases zaO h with ⟨i,t,rfl,rfl⟩ | ⟨x,t,rfl,rfl⟩<;>rfl
 pyHash:=fun hv h=>by
  rcases zaO hv with ⟨i,t,rfl,rfl⟩ | ⟨x,t,rfl,rfl⟩
  ·exact wpAny_pyHash_int h
  ·exact wpAny_pyHash_str h
 eqBool:=fun hu hv h=>by
  rcases zaO hu with ⟨i,t,rfl,rfl⟩ | ⟨x,t,rfl,rfl⟩
  ·rcases zaO hv with ⟨j,u,rfl,rfl⟩ | ⟨y,u,rfl,rfl⟩
   ·rw [zr9] at h;exact wpAny_eqBool_int h
   ·rw [zr8] at h;exact SeqAt.EqAt.int_str i t y u _ _ _ _ h
  ·rcases zaO hv with ⟨j,u,rfl,rfl⟩ | ⟨y,u,rfl,rfl⟩
   ·rw [zr7] at h;exact SeqAt.EqAt.str_int x t j u _ _ _ _ h
   ·rw [zr6] at h;exact wpAny_eqBool_str h
 «strs»:=fun k x t v h=>by
  rcases zaO h with ⟨i,u,rfl,e⟩ | ⟨y,u,rfl,e⟩
  ·exact nomatch e
  ·injection e with e1 _
   subst e1
   cases v<;>rfl
def zhb(prog:Program)(w:World)(i:Int)(t:Tok):(zaA prog w).is (.inl i) (.int i t)=true:=zkz i t
def zha(prog:Program)(w:World)(x:Str)(t:Tok):(zaA prog w).is (.inr x) (.str x t)=true:=zky x t
inductive V where
 | non | bl (b:Bool) | int (i:Int) | str (x:Str) | byt (b:Array UInt8) | flt (b:UInt64) | ref (a:Addr) | ty (n:String)
 deriving DecidableEq
noncomputable def zaW:V->Value->Prop
 | .non,u=>u=Value.none
 | .bl b,u=>u=Value.bool b
 | .int i,u=>∃t,u=Value.int i t
 | .str x,u=>∃t,u=Value.str x t
 | .byt b,u=>∃t,u=Value.bytes b t
 | .flt b,u=>∃t,u=Value.float b t
 | .ref a,u=>u=Value.ref a
 | .ty n,u=>u=Value.type n
noncomputable abbrev Vals:List V->List Value->Prop:=Paired zaW
theorem Vals.length(r:Vals xs us):xs.length=us.length:=Paired.length r
theorem Vals.get:∀{xs:List V} {us:List Value} {i:Nat} {x:V},Vals xs us->xs[i]?=some x->∃u,us[i]?=some u/\zaW x u
 | _,_,_,_,.nil,e=>by simp at e
 | _,_,0,_,.cons r _,e=>by simp at e;subst e;exact ⟨_,rfl,r⟩
 | _,_,i+1,x,.cons _ t,e=>by
  obtain ⟨u,h1,h2⟩:=Vals.get (i:=i) (x:=x) t (by simpa using e);exact ⟨u,by simpa using h1,h2⟩
theorem Vals.append:∀{xs ys:List V} {us ws:List Value},Vals xs us->Vals ys ws->Vals (xs++ys) (us++ws)
 | _,_,_,_,.nil,s=>s
 | _,_,_,_,.cons r t,s=>.cons r (Vals.append t s)
noncomputable def zfi:Option V->Option Value->Prop
 | some v,some u=>zaW v u
 | none,none=>True
 | _,_=>False
noncomputable def KV{κ:Type}:List (κ×V)->List (κ×Value)->Prop:=Paired fun (p:κ×V) (q:κ×Value)=>p.1=q.1/\zaW p.2 q.2
noncomputable def kV:Key->V
 | .inl i=>.int i
 | .inr x=>.str x
inductive HO where
 | lst (xs:List V)
 | tup (xs:List V)
 | dK (kvs:List (Key×V)) | dT (kvs:List (List Key×V))
 | set (S:Int->Bool) (n:Nat)
 | ins (C dx:Addr) (fs:List (Str×V))
 | own (x:Addr)
 | xd (fs:List (Str×V))
 | met (f x:Addr)
 | rng (lo hi:Int)
 | frz (o:Obj) (u:HO)
 | tbl (ps:Array Value)
 | ext (φ:Heap->Prop)
noncomputable abbrev Hp:=Addr->Option HO
noncomputable def upd(H:Hp)(a:Addr)(o:HO):Hp:=fun b=>if b=a then some o else H b
def zap:upd H a o a=some o:=by unfold upd;rw [if_pos rfl]
def zac(h:b≠a):upd H a o b=H b:=by unfold upd;rw [if_neg h]
def zn6{H:Hp}{a:Addr}{o u:HO}:upd (upd H a o) a u=upd H a u:=by
 funext b;unfold upd;split<;>rfl
def ztZ{H:Hp}{a b:Addr}{o u:HO}(h:H a=some o)(h':H b=some u)(d:o≠u):a≠b:=by
 intro e;subst e;rw [h] at h';exact d (Option.some.inj h')
def zaw{H:Hp}{a b:Addr}{o:HO}(h:H a=some o)(h':H b=none):a≠b:=by
 intro e;subst e;rw [h] at h';cases h'
noncomputable def zqg(h:Heap)(a:Addr)(items:Array Value):Prop:=∃o,h.get? a=some o/\o.cls=.type "tuple" /\ ∃n,o.data=.seq items n/\o.dict=none
theorem zqg.t{h:Heap}{a:Addr}{items:Array Value}:zqg h a items->IsTup h a items | ⟨o,e,c,n,d,_⟩=>⟨o,e,c,n,d⟩
def zqg.new(h:Heap)(items:Array Value):zqg (h.push { cls:=.type "tuple",data:=.seq items }) h.objs.size items:=⟨_,yap _ rfl,rfl,_,rfl,rfl⟩
section
variable(P:Program)(w:World)
def zaT(H:Hp)(h:Heap)(a:Addr):HO->Prop
 | .lst xs=>xs.length<=sizeLine/\∃(its:List Value) (n:Nat),Vals xs its/\h.get? a=some { cls:=.type "list",data:=.seq its.toArray n }
 | .tup xs=>xs.length<=sizeLine/\∃its:List Value,Vals xs its/\zqg h a its.toArray
 | .dK kvs=>kvs.length<=sizeLine/\(a == sysModules)=false/\∃vs,KV kvs vs/\h.DictOf (zaA P w) a vs
 | .dT kvs=>kvs.length<=sizeLine/\(a == sysModules)=false/\∃xs:List (List Key×Addr×Value),
   Paired (fun (p:List Key×V) (q:List Key×Addr×Value)=>p.1=q.1/\H q.2.1=some (.tup (p.1.map kV))/\zaW p.2 q.2.2) kvs xs ∧
   ∃o es ep,h.get? a=some o/\o.ExactDict/\o.data=.dict es ep/\es.toList=xs.map (entryOfKey (tupleKind (zaA P w)))/\(xs.map (·.1)).Nodup
 | .set S n=>h.SetOf (intKind P w) a S n
 | .ins C dx fs=>H dx=some (.own a)/\fs.length<=1000/\dx≠a/\h.get? a=some (PySem.W.instObj C dx) ∧
   ∃mA,h.Ns1 dx mA/\(∀f,zfi (fs.lookup f) (mA f))/\PySem.Within mA (fs.map (·.1))
 | .own _=>∃o,h.get? a=some o
 | .xd fs=>∃mA,h.Ns1 a mA/\∀f,zfi (fs.lookup f) (mA f)
 | .rng lo hi=>∃t u v,h.get? a=some { cls:=.type "range",data:=.fields #[.int lo t,.int hi u,.int 1 v] }
 | .frz o u=>h.get? a=some o/\zaT H h a u
 | .tbl ps=>h.get? a=some { cls:=.none,data:=.fields ps }
 | .met f x=>h.get? a=some (PySem.W.methodObj (.ref f) (.ref x))
 | .ext φ=>φ h/\(∃o,h.get? a=some o)/\∀h1 h2:Heap,φ h1->(∀o,h1.get? a=some o->h2.get? a=some o)->φ h2
noncomputable def HOk(H:Hp)(h:Heap):Prop:=∀a o,H a=some o->zaT P w H h a o
end
section
variable{P:Program}{w:World}{H H':Hp}{h h':Heap}{a:Addr}{o:HO}
theorem zaT.lt(x:zaT P w H h a o):a<h.objs.size:=by
 cases o with
 | lst xs=>obtain ⟨_,_,_,_,e⟩:=x;exact yaj e
 | tup xs=>obtain ⟨_,_,_,p⟩:=x;exact p.t.lt
 | dK kvs=>obtain ⟨_,_,_,_,o,_,_,e,_⟩:=x;exact yaj e
 | dT kvs=>obtain ⟨_,_,_,_,o,_,_,e,_⟩:=x;exact yaj e
 | set S n=>obtain ⟨o,_,_,_,e,_⟩:=x;exact yaj e
 | ins C dx fs=>obtain ⟨_,_,_,e,_⟩:=x;exact yaj e
 | own y=>obtain ⟨_,e⟩:=x;exact yaj e
 | xd fs=>obtain ⟨_,⟨_,_,_,e,_⟩,_⟩:=x;exact yaj e
 | rng lo hi=>obtain ⟨_,_,_,e⟩:=x;exact yaj e
 | frz ob u=>obtain ⟨e,_⟩:=x;exact yaj e
 | tbl ps=>exact yaj (show h.get? a=some _ from x)
 | met f y=>exact yaj (show h.get? a=some _ from x)
 | ext φ=>obtain ⟨_,⟨_,e⟩,_⟩:=x;exact yaj e
theorem Paired.mapP{α β:Type}{F G:α->β->Prop}:∀{l₁:List α} {l₂:List β},Paired F l₁ l₂->(∀a b,F a b->G a b)->Paired G l₁ l₂
 | _,_,.nil,_=>.nil
 | _,_,.cons r t,f=>.cons (f _ _ r) (Paired.mapP t f)
def zaT.stay(x:zaT P w H h a o)(k:∀b u,(b=a\/H b=some (.own a))->h.get? b=some u->h'.get? b=some u)
  (ho:∀b,H b=some (.own a)->H' b=some (.own a)) (ht:∀b xs,H b=some (.tup xs)->H' b=some (.tup xs)):zaT P w H' h' a o:=by
 induction o with
 | lst xs=>obtain ⟨z,its,n,r,e⟩:=x;exact ⟨z,its,n,r,k _ _ (.inl rfl) e⟩
 | tup xs=>obtain ⟨z,its,r,ob,e,c⟩:=x;exact ⟨z,its,r,ob,k _ _ (.inl rfl) e,c⟩
 | dK kvs=>obtain ⟨z,y,vs,r,ob,es,ep,e,c⟩:=x;exact ⟨z,y,vs,r,ob,es,ep,k _ _ (.inl rfl) e,c⟩
 | dT kvs =>
  obtain ⟨z,y,xs,r,ob,es,ep,e,c⟩:=x;exact ⟨z,y,xs,Paired.mapP r fun p q z=>⟨z.1,ht _ _ z.2.1,z.2.2⟩,ob,es,ep,k _ _ (.inl rfl) e,c⟩
 | set S n=>obtain ⟨ob,es,ep,t,e,c⟩:=x;exact ⟨ob,es,ep,t,k _ _ (.inl rfl) e,c⟩
 | ins C dx fs =>
  obtain ⟨d,z,ne,e,mA,⟨od,es,ep,e2,c⟩,r⟩:=x;exact ⟨ho _ d,z,ne,k _ _ (.inl rfl) e,mA,⟨od,es,ep,k _ _ (.inr d) e2,c⟩,r⟩
 | own y=>obtain ⟨ob,e⟩:=x;exact ⟨ob,k _ _ (.inl rfl) e⟩
 | xd fs=>obtain ⟨mA,⟨od,es,ep,e,c⟩,r⟩:=x;exact ⟨mA,⟨od,es,ep,k _ _ (.inl rfl) e,c⟩,r⟩
 | rng lo hi=>obtain ⟨t,u,v,e⟩:=x;exact ⟨t,u,v,k _ _ (.inl rfl) e⟩
 | frz ob u ih=>obtain ⟨e,q⟩:=x;exact ⟨k _ _ (.inl rfl) e,ih q⟩
 | tbl ps =>
  have e:h.get? a=some { cls:=.none,data:=.fields ps }:=x;show h'.get? a=some { cls:=.none,data:=.fields ps };exact k a _ (.inl rfl) e
 | met f y =>
  have e:h.get? a=some (PySem.W.methodObj (.ref f) (.ref y)):=x;show h'.get? a=some (PySem.W.methodObj (.ref f) (.ref y));exact k a _ (.inl rfl) e
 | ext φ=>obtain ⟨p,⟨o,e⟩,st⟩:=x;exact ⟨st _ _ p fun o q=>k _ _ (.inl rfl) q,⟨o,k _ _ (.inl rfl) e⟩,st⟩
theorem HOk.lt(x:HOk P w H h)(e:H a=some o):a<h.objs.size:=(x a o e).lt
def HOk.fresh(x:HOk P w H h)(e:h.objs.size<=a):H a=none:=by
 cases q:H a with
 | none=>rfl
 | some u=>exact absurd (yah (x.lt q) e) (yaP _)
def HOk.kept(x:HOk P w H h)(k:∀b u,h.get? b=some u->h'.get? b=some u):HOk P w H h':=fun a o e =>
 (x a o e).stay (fun b u _ q=>k b u q) (fun _ q=>q) fun _ _ q=>q
def HOk.laid(x:HOk P w H h)(k:∀b u,h.get? b=some u->h'.get? b=some u)(hp:h.objs.size<=a)(new:zaT P w (upd H a o) h' a o):HOk P w (upd H a o) h':=fun b u e=>by
 have hn:=x.fresh hp
 by_cases hb:b=a
 ·subst hb;rw [zap] at e;cases e;exact new
 ·rw [zac hb] at e
  exact (x b u e).stay (fun c v _ q=>k c v q) (fun c q=>by rw [zac (zaw q hn)];exact q) fun c xs q=>by rw [zac (zaw q hn)];exact q
end
noncomputable def Rd(H:Hp)(a:Addr)(u:HO):Prop:=H a=some u\/∃o,H a=some (.frz o u)
def Rd.ok(r:Rd H a u)(x:HOk P w H h):zaT P w H h a u:=by
 rcases r with r | ⟨o,r⟩
 ·exact x a u r
 ·obtain ⟨_,q⟩:=x a _ r;exact q
noncomputable def Mut:Option HO->Prop
 | some (.lst _)=>True
 | some (.dK _)=>True
 | some (.dT _)=>True
 | some (.set _ _)=>True
 | some (.ins _ _ _)=>True
 | some (.ext _)=>True
 | _=>False
section
variable{P:Program}{w:World}{H:Hp}{h h':Heap}{x e:Addr}{o':HO}
def HOk.write(ok:HOk P w H h)(mu:Mut (H x))(he:e=x\/H e=some (.own x))(k:∀b u,b≠e->h.get? b=some u->h'.get? b=some u)(heo:∃u,h'.get? e=some u)
  (new:zaT P w (upd H x o') h' x o'):HOk P w (upd H x o') h':=fun b u q=>by
 have nown:∀c y,H c=some (.own y)->c≠x:=fun c y r z=>by subst z;rwa [r] at mu
 have ntup:∀c xs,H c=some (.tup xs)->c≠x:=fun c xs r z=>by subst z;rwa [r] at mu
 by_cases hb:b=x
 ·subst hb;rw [zap] at q;cases q;exact new
 ·rw [zac hb] at q
  by_cases hbe:b=e
  ·have q':H b=some (.own x):=by
    rcases he with z | z
    ·exact absurd (hbe.trans z) hb
    ·rw [hbe];exact z
   rw [q] at q';cases q';obtain ⟨v,hv⟩:=heo;exact ⟨v,by rw [hbe];exact hv⟩
  ·refine (ok b u q).stay (fun c v hc r=>k c v ?_ r) (fun c r=>by rw [zac (nown c b r)];exact r) fun c xs r=>by rw [zac (ntup c xs r)];exact r
   rcases hc with rfl | hc
   ·exact hbe
   ·rintro rfl
    rcases he with z | z
    ·exact nown c b hc z
    ·rw [hc] at z;cases z;exact hb rfl
end
structure Un(fs ex:List Addr)(H H':Hp)(h h':Heap):Prop where
 keep:∀b o,h.get? b=some o->H b=none->b ∉ fs->b ∉ ex->h'.get? b=some o
 slot:∀b o,h.get? b=some o->H b=none->b∈fs->b ∉ ex->∃sl,h'.get? b=some { o with slots:=sl }
 free:∀b o,h.get? b=some o->H b=none->b ∉ ex->H' b=none
 there:∀b o,h.get? b=some o->b ∉ ex->∃o',h'.get? b=some o'
 tups:∀b xs,H b=some (.tup xs)->H' b=some (.tup xs)
 frzs:∀b o u,H b=some (.frz o u)->H' b=some (.frz o u)
 tbls:∀b ps,H b=some (.tbl ps)->∃more,H' b=some (.tbl (ps++more))
section
variable{fs fs' ex ex':List Addr}{H H1 H2:Hp}{h h1 h2 h':Heap}{a x e:Addr}{o:HO}
def Un.any(u:Un fs ex H H1 h h1)(q:h.get? b=some ob)(n:H b=none)(hx:b ∉ ex):∃sl,h1.get? b=some { ob with slots:=sl }:=by
 by_cases hb:b∈fs
 ·exact u.slot b ob q n hb hx
 ·exact ⟨ob.slots,u.keep b ob q n hb hx⟩
def Un.kept(k:∀b u,h.get? b=some u->h'.get? b=some u):Un fs ex H H h h' :=
 ⟨fun b ob q _ _ _=>k b ob q,fun b ob q _ _ _=>⟨ob.slots,k b ob q⟩,fun _ _ _ n _=>n,fun b ob q _=>⟨ob,k b ob q⟩,fun _ _ q=>q,fun _ _ _ q=>q,fun _ ps q=>⟨#[],by rw [q];simp⟩⟩
def Un.refl:Un fs ex H H h h:=Un.kept fun _ _ q=>q
def Un.laid(k:∀b u,h.get? b=some u->h'.get? b=some u)(hp:h.objs.size<=a)(hn:H a=none):Un fs ex H (upd H a o) h h' where
 keep:=fun b u q _ _ _=>k b u q
 slot:=fun b u q _ _ _=>⟨u.slots,k b u q⟩
 free:=fun b u q n _=>by rw [zac (yav (yah (yaj q) hp))];exact n
 there:=fun b u q _=>⟨u,k b u q⟩
 tups:=fun b xs q=>by rw [zac (zaw q hn)];exact q
 frzs:=fun b u xs q=>by rw [zac (zaw q hn)];exact q
 tbls:=fun b ps q=>⟨#[],by rw [zac (zaw q hn),q];simp⟩
def Un.write(mu:Mut (H x))(he:e=x\/H e=some (.own x))(k:∀b u,b≠e->h.get? b=some u->h'.get? b=some u)(heo:∃u,h'.get? e=some u):Un fs ex H (upd H x o) h h':=by
 have hx:∀b,H b=none->b≠x:=fun b n z=>by subst z;rwa [n] at mu
 have hb:∀b,H b=none->b≠e:=fun b n z=>by
  subst z
  rcases he with r | r
  ·exact hx b n r
  ·rw [n] at r;cases r
 have hm:∀b u,H b=some u->¬ Mut (some u)->b≠x:=fun b u q nm z=>by subst z;rw [q] at mu;exact nm mu
 refine ⟨fun b u q n _ _=>k b u (hb b n) q,fun b u q n _ _=>⟨u.slots,k b u (hb b n) q⟩,fun b u q n _=>by rw [zac (hx b n)];exact n,fun b u q _=>?_,
  fun b xs q=>by rw [zac (hm b _ q fun z=>z)];exact q,fun b u xs q=>by rw [zac (hm b _ q fun z=>z)];exact q,fun b ps q=>⟨#[],by rw [zac (hm b _ q fun z=>z),q];simp⟩⟩
 by_cases hbe:b=e
 ·subst hbe;exact heo
 ·exact ⟨u,k b u hbe q⟩
end
noncomputable def trk(h:Heap)(H:Hp):List Addr:=(List.range h.objs.size).filter fun a=>(H a).isSome
def zkJ(h:Heap)(H:Hp):Heap:=PySem.W.hideAll h (trk h H)
def zkI(h:Heap)(H:Hp):(zkJ h H).objs.size=h.objs.size:=PySem.W.hideAll_size _ _
def zmB(e:h.get? b=some o)(n:H b=none):(zkJ h H).get? b=some o :=
 PySem.W.hideAll_get _ e fun hm=>by
  have q:(H b).isSome=true:=(ycq.mp hm).2;rw [n] at q;simp at q
def zpj(e:(zkJ h H).get? b=some o):h.get? b=some o/\H b=none:=by
 have e':h.get? b=some o:=PySem.W.of_hideAll (trk h H) e;refine ⟨e',?_⟩
 cases q:H b with
 | none=>rfl
 | some x =>
  have hm:b∈trk h H:=ycq.mpr ⟨ybu.mpr (yaj e'),by simp [q]⟩;have z:(zkJ h H).get? b=none:=PySem.W.hideAll_none (trk h H) hm;rw [z] at e;cases e
noncomputable def zqd(g h:Heap)(L:Addr):List (Addr×Obj):=(List.range h.objs.size).filterMap fun a=>if a=L\/(g.get? a).isSome=true then none else (h.get? a).map fun o=>(a,o)
def za7(g h:Heap)(L d:Addr):List (Addr×Obj):=(zqd g h L).filter fun p=>decide (p.1≠d)
structure Mod(K:PySem.W.Frag)(mg:Z6)(base:Heap):Prop where
 kin:K.In base
 glob:base.Ns mainGlobals mg
 blt:∃mb,base.Ns builtinsNs mb/\∀x:Str,x ≠ "__name__" -> mb x=bootBuiltins x
 nolimit:base.NoLimit
structure Cx where
 prog:Program
 w:World
 K:PySem.W.Frag
 mg:Str->Option Value
 base:Heap
 A:Around
 N:List Str
 s₀:Shared
 H₀:Hp
 env:Env
 outer:List Env
 stack:List Env
 ex:List Addr
 fn:Str->Bool
 calm:Bool
 pn:List (Addr×Obj)
 xe:Value->Shared->Prop
noncomputable def frs(l:List Env):List Addr:=l.filterMap (·.frame)
noncomputable abbrev Cx.fs(X:Cx):List Addr:=frs X.outer
noncomputable def Vis(sc:Scope)(x:Str):Prop:=sc.names.lookup x=some .local\/sc.names.lookup x=some .cell\/sc.names.lookup x=some .free
noncomputable def Loc(sc:Scope)(x:Str):Prop:=sc.names.lookup x=some .local\/sc.names.lookup x=some .cell
noncomputable def zxe(env:Env)(h:Heap)(m:Z6)(x:Str)(u:Value):Prop :=
 (env.kindOf x=some .local/\m x=some u)\/((env.kindOf x=some .cell\/env.kindOf x=some .free)/\∃c,env.cells.lookup x=some c/\h.IsCell c (some u))
structure Cx.Ok(X:Cx):Prop where
 mod:Mod X.K X.mg X.base
 kind:X.env.scope.kind=.function
 glob:X.env.globals=mainGlobals
 blt:X.env.builtins=builtinsNs
 above:X.s₀.heap.objs.size<=X.env.locals
 inj:∀x y c,X.env.cells.lookup x=some c->X.env.cells.lookup y=some c->x=y
 has:∀x,(X.env.kindOf x=some .cell\/X.env.kindOf x=some .free)->∃c,X.env.cells.lookup x=some c
 cab:∀x c,X.fn x=true->X.env.cells.lookup x=some c->X.s₀.heap.objs.size<=c
 hd:X.calm=true->X.A.handled=none
 frames:X.A.frames=some X.stack
 stk:X.stack=X.outer\/(X.stack=X.env::X.outer/\X.env.frame=some X.env.locals)
 exf:∀b∈X.ex,b≠X.env.locals/\∀x c,X.env.cells.lookup x=some c->c≠b
 bs:∀b o,X.base.get? b=some o->X.s₀.heap.get? b=some o/\X.H₀ b=none
 bsz:X.base.objs.size<=X.s₀.heap.objs.size
 noex:∀b o,X.base.get? b=some o->b ∉ X.ex
 exfs:∀b∈X.ex,b ∉ X.fs
 funs:X.s₀.heap.FunFrames X.base X.outer
 frf:∀b∈X.fs,X.H₀ b=none
structure Inv(X:Cx)(pins:Z3)(σ:List (Option V))(H:Hp)(s:Shared):Prop where
 ok:X.Ok
 os:s.os=X.s₀.os
 bare:AllBare s.gens
 base:Un X.fs X.ex X.H₀ H X.s₀.heap s.heap
 loc:∃m,s.heap.Ns X.env.locals m/\∀(i:Nat) (x:Str) (v:V),X.N[i]?=some x->σ[i]?=some (some v)->Vis X.env.scope x->∃u,zaW v u/\zxe X.env s.heap m x u
 cell:∀x c,X.env.cells.lookup x=some c->∃v,s.heap.IsCell c v
 free:H X.env.locals=none
 freeC:∀x c,X.env.cells.lookup x=some c->H c=none
 pin:∀p∈X.pn++pins,s.heap.get? p.1=some p.2/\H p.1=none/\p.1≠X.env.locals/\p.1 ∉ X.fs/\∀v,p.2.data≠.cell v
 hok:HOk X.prog X.w H s.heap
 len:σ.length=X.N.length
section
variable{X:Cx}{pins:Z3}{σ:List (Option V)}{H H':Hp}{s:Shared}{h':Heap}
def Cx.Ok.nofr(ok:X.Ok)(e:X.base.get? b=some o):b ∉ X.fs:=fun hb=>by
 have:=(ok.funs.mem hb).1;rw [e] at this;cases this
theorem Inv.bs(I:Inv X pins σ H s):∀b o,X.base.get? b=some o->s.heap.get? b=some o/\H b=none:=fun b o e =>
 ⟨I.base.keep b o (I.ok.bs b o e).1 (I.ok.bs b o e).2 (I.ok.nofr e) (I.ok.noex b o e),I.base.free b o (I.ok.bs b o e).1 (I.ok.bs b o e).2 (I.ok.noex b o e)⟩
def Inv.bk(I:Inv X pins σ H s):∀b o,X.base.get? b=some o->s.heap.get? b=some o:=fun b o e=>(I.bs b o e).1
theorem Inv.mod(I:Inv X pins σ H s):Mod X.K X.mg X.base:=I.ok.mod
def Inv.kIn(I:Inv X pins σ H s):X.K.In s.heap:=I.ok.mod.kin.keeps I.bk
theorem Inv.lt(I:Inv X pins σ H s):X.env.locals<s.heap.objs.size:=let ⟨_,hn,_⟩:=I.loc;hn.lt
def Inv.sz(I:Inv X pins σ H s):X.s₀.heap.objs.size<=s.heap.objs.size:=yax I.ok.above (ybz I.lt)
def Inv.nofs(I:Inv X pins σ H s)(h:s.heap.objs.size<=a):a ∉ X.fs:=fun hb=>by
 obtain ⟨_,o,ho,_⟩:=I.ok.funs.mem hb;exact absurd (yah (yaj ho) (yax I.sz h)) (yaP _)
def Inv.cne(I:Inv X pins σ H s):∀x c,X.env.cells.lookup x=some c->c≠X.env.locals:=fun x c e z=>by
 obtain ⟨v,o,ho,hd⟩:=I.cell x c e;obtain ⟨m,⟨o',es,ep,ho',hd',_⟩,_⟩:=I.loc;rw [z,ho'] at ho;cases ho;rw [hd'] at hd;cases hd
theorem Inv.funs(I:Inv X pins σ H s):s.heap.FunFrames X.base X.outer:=by
 have all:∀(l:List Env),(∀b∈frs l,b∈X.fs)->X.s₀.heap.FunFrames X.base l->s.heap.FunFrames X.base l:=by
  intro l
  induction l with
  | nil=>intro _ _;trivial
  | cons env r ih =>
   intro hs hl;obtain ⟨hk,⟨L,o,hf,hn,ho,hd⟩,hr⟩:=hl;have hL:L∈X.fs:=hs L (by unfold frs;rw [ybT,hf];exact yar);obtain ⟨sl,e⟩:=I.base.slot L o ho (I.ok.frf L hL) hL fun z=>I.ok.exfs L z hL
   exact ⟨hk,⟨L,_,hf,hn,e,hd⟩,ih (fun b hb=>hs b (by unfold frs;rw [ybT,hf];exact yak _ hb)) hr⟩
 exact all X.outer (fun _ hb=>hb) I.ok.funs
theorem Inv.stack(I:Inv X pins σ H s):s.heap.FunFrames X.base X.stack:=by
 rcases I.ok.stk with e | ⟨e,hf⟩
 ·rw [e];exact I.funs
 ·rw [e];obtain ⟨m,hn,_⟩:=I.loc;refine .cons (by rw [I.ok.kind];decide) hf hn ?_ I.funs;exact Heap.get?_none_of_le (yax I.ok.bsz I.ok.above)
def Inv.stkSub(I:Inv X pins σ H s):∀b∈frs X.stack,b∈X.env.locals::X.fs:=fun b hb=>by
 rcases I.ok.stk with e | ⟨e,hf⟩
 ·rw [e] at hb;exact yak _ hb
 ·rw [e] at hb;unfold frs at hb;rwa [ybT,hf] at hb
def Inv.stkFree(I:Inv X pins σ H s):∀b∈frs X.stack,H b=none:=fun b hb=>by
 rcases yat.mp (I.stkSub b hb) with e | hb
 ·rw [e];exact I.free
 ·obtain ⟨_,o,ho,_⟩:=I.ok.funs.mem hb;exact I.base.free b o ho (I.ok.frf b hb) fun z=>I.ok.exfs b z hb
def Inv.step{g':Array GenState}{t':Nat}{d':Drawn}{ch:List Addr}(I:Inv X pins σ H s)
  (hch:∀b∈ch,(b∈X.ex\/X.s₀.heap.objs.size<=b)/\b≠X.env.locals/\(∀x c,X.env.cells.lookup x=some c->c≠b)/\∀p∈X.pn++pins,p.1≠b)
  (keep:∀b o,b≠X.env.locals->b ∉ X.fs->b ∉ ch->s.heap.get? b=some o->H b=none->h'.get? b=some o)
  (slot:∀b o,b≠X.env.locals->b∈X.fs->b ∉ ch->s.heap.get? b=some o->H b=none->∃sl,h'.get? b=some { o with slots:=sl }) (free:∀b o,b ∉ ch->s.heap.get? b=some o->H b=none->H' b=none)
  (there:∀b o,b ∉ ch->s.heap.get? b=some o->∃o',h'.get? b=some o')
  (tups:∀b xs,H b=some (.tup xs)->H' b=some (.tup xs)) (frzs:∀b o u,H b=some (.frz o u)->H' b=some (.frz o u)) (tbls:∀b ps,H b=some (.tbl ps)->∃more,H' b=some (.tbl (ps++more)))
  (ns:∀m,s.heap.Ns X.env.locals m->h'.Ns X.env.locals m) (hok:HOk X.prog X.w H' h') (hg:AllBare g') :
  Inv X pins σ H' { s with heap:=h',gens:=g',drawn:=d',toks:=t' }:=by
 have neL:∀b o,X.s₀.heap.get? b=some o->b≠X.env.locals:=fun b o e=>yav (yah (yaj e) I.ok.above)
 have neC:∀b o,X.s₀.heap.get? b=some o->b ∉ X.ex->b ∉ ch:=fun b o e hx hb=>by
  rcases (hch b hb).1 with z | z
  ·exact hx z
  ·exact absurd (yah (yaj e) z) (yaP _)
 have cellK:∀x c,X.env.cells.lookup x=some c->∀v,s.heap.IsCell c v->h'.IsCell c v:=fun x c e v ⟨o,ho,hd⟩=>by
  have nch:c ∉ ch:=fun z=>(hch c z).2.2.1 x c e rfl
  by_cases hc:c∈X.fs
  ·obtain ⟨sl,q⟩:=slot c o (I.cne x c e) hc nch ho (I.freeC x c e);exact ⟨_,q,hd⟩
  ·exact ⟨o,keep c o (I.cne x c e) hc nch ho (I.freeC x c e),hd⟩
 refine ⟨I.ok,I.os,hg,⟨fun b o e n hb hx=>?_,fun b o e n hb hx=>?_,fun b o e n hx=>?_,fun b o e hx=>?_,fun b xs e=>tups b xs (I.base.tups b xs e),fun b o xs e=>frzs b o xs (I.base.frzs b o xs e),fun b ps e=>?_⟩,?_,fun x c e=>?_,?_,fun x c e=>?_,fun p hp=>?_,hok,I.len⟩
 ·exact keep b o (neL b o e) hb (neC b o e hx) (I.base.keep b o e n hb hx) (I.base.free b o e n hx)
 ·obtain ⟨sl,e1⟩:=I.base.slot b o e n hb hx;obtain ⟨sl',e2⟩:=slot b _ (neL b o e) hb (neC b o e hx) e1 (I.base.free b o e n hx);exact ⟨sl',e2⟩
 ·obtain ⟨o',e1⟩:=I.base.there b o e hx;exact free b o' (neC b o e hx) e1 (I.base.free b o e n hx)
 ·obtain ⟨o',e1⟩:=I.base.there b o e hx;exact there b o' (neC b o e hx) e1
 ·obtain ⟨m1,e1⟩:=I.base.tbls b ps e;obtain ⟨m2,e2⟩:=tbls b _ e1;exact ⟨m1++m2,by rw [e2,Array.append_assoc]⟩
 ·obtain ⟨m,hn,hl⟩:=I.loc;refine ⟨m,ns m hn,fun i x v e1 e2 e3=>?_⟩;obtain ⟨u,r,l⟩:=hl i x v e1 e2 e3;refine ⟨u,r,?_⟩
  rcases l with l | ⟨k,c,e,z⟩
  ·exact .inl l
  ·exact .inr ⟨k,c,e,cellK x c e _ z⟩
 ·obtain ⟨v,z⟩:=I.cell x c e;exact ⟨v,cellK x c e v z⟩
 ·obtain ⟨m,⟨o,_,_,ho,_⟩,_⟩:=I.loc;exact free _ o (fun z=>(hch _ z).2.1 rfl) ho I.free
 ·obtain ⟨v,o,ho,hd⟩:=I.cell x c e;exact free c o (fun z=>(hch c z).2.2.1 x c e rfl) ho (I.freeC x c e)
 ·obtain ⟨e,n,ne,nf,d⟩:=I.pin p hp;have nch:p.1 ∉ ch:=fun z=>(hch p.1 z).2.2.2 p hp rfl
  exact ⟨keep p.1 p.2 ne nf nch e n,free p.1 p.2 nch e n,ne,nf,d⟩
def Inv.un(I:Inv X pins σ H s)(u:Un X.fs [] H H' s.heap h')(hok:HOk X.prog X.w H' h'):Inv X pins σ H' { s with heap:=h',toks:=t' }:=by
 obtain ⟨m,⟨o,es,ep,ho,r⟩,_⟩:=id I.loc;obtain ⟨sl,hL⟩:=u.any ho I.free (by simp)
 exact I.step (g':=s.gens) (d':=s.drawn) (ch:=[]) (fun _ z=>nomatch z) (fun b o _ hb _ e n=>u.keep b o e n hb (by simp)) (fun b o _ hb _ e n=>u.slot b o e n hb (by simp)) (fun b o _ e n=>u.free b o e n (by simp)) (fun b o _ e=>u.there b o e (by simp)) u.tups u.frzs u.tbls (fun m' hm=>by
  obtain ⟨o',es',ep',ho',r'⟩:=hm;rw [ho] at ho';cases ho'
  exact ⟨_,es',ep',hL,r'⟩) hok I.bare
def Inv.call(I:Inv X pins σ H s)(u:Un (frs X.stack) ch H H' s.heap h')(hok:HOk X.prog X.w H' h')(hg:AllBare g')
  (hch:∀b∈ch,(b∈X.ex\/X.s₀.heap.objs.size<=b)/\b≠X.env.locals/\(∀x c,X.env.cells.lookup x=some c->c≠b)/\∀p∈X.pn++pins,p.1≠b) :
  Inv X pins σ H' { s with heap:=h',gens:=g',drawn:=d',toks:=t' }:=by
 obtain ⟨m,⟨o,es,ep,ho,r⟩,_⟩:=id I.loc;obtain ⟨sl,hL⟩:=u.any ho I.free fun z=>(hch _ z).2.1 rfl
 exact I.step (ch:=ch) hch (fun b o hL hb hc e n=>u.keep b o e n (fun z=>(yat.mp (I.stkSub b z)).elim hL hb) hc) (fun b o _ _ hc e n=>u.any e n hc) (fun b o hc e n=>u.free b o e n hc) (fun b o hc e=>u.there b o e hc) u.tups u.frzs u.tbls (fun m' hm=>by
  obtain ⟨o',es',ep',ho',r'⟩:=hm;rw [ho] at ho';cases ho'
  exact ⟨_,es',ep',hL,r'⟩) hok hg
def Inv.turned(I:Inv X pins σ H s)(k:∀b o,b≠it->s.heap.get? b=some o->h'.get? b=some o)(hn:H it=none)(hL:it≠X.env.locals)
  (h1:it∈X.ex\/X.s₀.heap.objs.size<=it) (h2:∀x c,X.env.cells.lookup x=some c->c≠it) (h3:∀p∈X.pn++pins,p.1≠it):Inv X pins σ H { s with heap:=h',toks:=t' }:=by
 have nit:∀b u,H b=some u->b≠it:=fun b u e z=>by rw [z,hn] at e;cases e
 refine I.step (g':=s.gens) (d':=s.drawn) (ch:=[it]) (fun b hb=>?_) (fun b o _ _ hc e _=>k b o (fun z=>hc (by simp [z])) e) (fun b o _ _ hc e _=>⟨o.slots,k b o (fun z=>hc (by simp [z])) e⟩) (fun _ _ _ _ n=>n)
  (fun b o hc e=>⟨o,k b o (fun z=>hc (by simp [z])) e⟩) (fun _ _ e=>e) (fun _ _ _ e=>e) (fun b ps e=>⟨#[],by rw [e];simp⟩) (fun m hm=>?_) (fun b u e=>?_) I.bare
 ·have e:b=it:=by simpa using hb
  subst e;exact ⟨h1,hL,h2,h3⟩
 ·obtain ⟨o,es,ep,ho,r⟩:=hm;exact ⟨o,es,ep,k _ o (Ne.symm hL) ho,r⟩
 ·refine (I.hok b u e).stay (fun c v hc q=>k c v ?_ q) (fun _ q=>q) fun _ _ q=>q
  rcases hc with z | z
  ·rw [z];exact nit b u e
  ·exact nit c _ z
def Inv.tok(I:Inv X pins σ H s)(t:Nat):Inv X pins σ H { s with toks:=t }:=I.un (h':=s.heap) (t':=t) Un.refl I.hok
theorem Inv.kept(I:Inv X pins σ H s)(k:∀b u,s.heap.get? b=some u->h'.get? b=some u):Inv X pins σ H { s with heap:=h',toks:=t' }:=I.un (Un.kept k) (I.hok.kept k)
theorem Inv.laid(I:Inv X pins σ H s)(k:∀b u,s.heap.get? b=some u->h'.get? b=some u)(hp:s.heap.objs.size<=a)(new:zaT X.prog X.w (upd H a o) h' a o) :
  Inv X pins σ (upd H a o) { s with heap:=h',toks:=t' }:=I.un (Un.laid k hp (I.hok.fresh hp)) (I.hok.laid k hp new)
theorem Inv.write(I:Inv X pins σ H s)(mu:Mut (H x))(he:e=x\/H e=some (.own x))(k:∀b u,b≠e->s.heap.get? b=some u->h'.get? b=some u)(heo:∃u,h'.get? e=some u)
  (new:zaT X.prog X.w (upd H x o) h' x o):Inv X pins σ (upd H x o) { s with heap:=h',toks:=t' }:=I.un (Un.write mu he k heo) (I.hok.write mu he k heo new)
def Inv.pins_of(I:Inv X pins σ H s)(h:∀p∈pins',s.heap.get? p.1=some p.2/\H p.1=none/\p.1≠X.env.locals/\p.1 ∉ X.fs/\∀v,p.2.data≠.cell v):Inv X pins' σ H s :=
 ⟨I.ok,I.os,I.bare,I.base,I.loc,I.cell,I.free,I.freeC,fun p hp=>(ya3.mp hp).elim (fun z=>I.pin p (yco _ z)) (h p),I.hok,I.len⟩
def zfr{N:List Str}(hN:N.Nodup){i j:Nat}{x:Str}(a:N[i]?=some x)(b:N[j]?=some x):i=j:=by
 obtain ⟨h1,e1⟩:=yag.mp a;obtain ⟨h2,e2⟩:=yag.mp b;exact (List.getElem_inj hN).mp (e1.trans e2.symm)
def zf2{M:Model}{A:Around}{E:Z5}{i:Nat}{x:Str}{v:V}{u:Value}{Q:Unit->Shared->Prop}(I:Inv X pins σ H s)(hN:X.N.Nodup)(hi:X.N[i]?=some x)(hx:Loc X.env.scope x)(r:zaW v u)
  (h:∀s',Inv X pins (σ.set i (some v)) H s'->(∃a,Heap.SameBut a s.heap s'.heap/\(a=X.env.locals\/X.env.cells.lookup x=some a))->Q () s') (hf:X.fn x=true\/X.env.scope.names.lookup x=some .local):wpAny M A (storeName X.env x u) Q E s:=by
 obtain ⟨m,hn,hl⟩:=id I.loc
 have hcls:(X.env.scope.kind == .class||(X.env.scope.kind == .module&&X.env.locals != X.env.globals))=false:=by rw [I.ok.kind];rfl
 have hiσ:i<σ.length:=by rw [I.len];exact (yag.mp hi).1
 have cne:=I.cne
 have tracked:∀{a:Addr} {h':Heap},(∃o,s.heap.get? a=some o/\H a=none)->Heap.SameBut a s.heap h'->HOk X.prog X.w H h':=fun {a h'} ha hs b ob e=>by
  obtain ⟨_,_,hfree⟩:=ha;refine (I.hok b ob e).stay (fun c w' hc q=>(hs.2 c ?_).trans q) (fun _ q=>q) fun _ _ q=>q
  rintro rfl
  rcases hc with rfl | hc
  ·rw [hfree] at e;cases e
  ·rw [hfree] at hc;cases hc
 rcases hx with hk | hk
 ·refine wpAny_storeName_local hk hn (fun h' hn' hs=>?_) hcls;obtain ⟨oL,_,_,hoL,_⟩:=id hn;refine h _ ⟨I.ok,I.os,I.bare,⟨fun b o e n hb hx=>?_,fun b o e n hb hx=>?_,I.base.free,fun b o e hx=>?_,I.base.tups,I.base.frzs,I.base.tbls⟩,⟨_,hn',fun j y v' e1 e2 e3=>?_⟩,fun y c e=>?_,I.free,I.freeC,fun p hp=>?_,tracked ⟨oL,hoL,I.free⟩ hs,by simpa using I.len⟩ ⟨_,hs,.inl rfl⟩
  ·exact (hs.2 b (yav (yah (yaj e) I.ok.above))).trans (I.base.keep b o e n hb hx)
  ·obtain ⟨sl,e1⟩:=I.base.slot b o e n hb hx;exact ⟨sl,(hs.2 b (yav (yah (yaj e) I.ok.above))).trans e1⟩
  ·obtain ⟨o',e1⟩:=I.base.there b o e hx;exact ⟨o',(hs.2 b (yav (yah (yaj e) I.ok.above))).trans e1⟩
  ·by_cases hj:j=i
   ·subst hj;rw [hi] at e1;cases e1;rw [yaA hiσ] at e2;cases e2;exact ⟨u,r,.inl ⟨hk,by simp⟩⟩
   ·rw [yaL (Ne.symm hj)] at e2;obtain ⟨u',r',q⟩:=hl j y v' e1 e2 e3;refine ⟨u',r',?_⟩
    rcases q with ⟨k,e⟩ | ⟨k,c,e,z⟩
    ·refine .inl ⟨k,?_⟩;have:y≠x:=fun e=>hj (zfr hN e1 (e ▸ hi))
     simp [this,e]
    ·exact .inr ⟨k,c,e,z.sameBut hs (cne y c e)⟩
  ·obtain ⟨w',z⟩:=I.cell y c e;exact ⟨w',z.sameBut hs (cne y c e)⟩
  ·obtain ⟨e,n,ne,nf,d⟩:=I.pin p hp;exact ⟨(hs.2 p.1 ne).trans e,n,ne,nf,d⟩
 ·have hfn:X.fn x=true:=by
   rcases hf with z | z
   ·exact z
   ·rw [z] at hk;cases hk
  obtain ⟨c,hc⟩:=I.ok.has x (.inl hk);obtain ⟨w',z⟩:=I.cell x c hc;refine wpAny_storeName_cell I.ok.kind hk hc z (fun h' hc' hs=>?_);obtain ⟨oc,hoc,hocd⟩:=id z;refine h { s with heap:=h' } ⟨I.ok,I.os,I.bare,⟨fun b o e n hb hx=>?_,fun b o e n hb hx=>?_,I.base.free,fun b o e hx=>?_,I.base.tups,I.base.frzs,I.base.tbls⟩,⟨m,hn.sameBut hs (Ne.symm (cne x c hc)),fun j y v' e1 e2 e3=>?_⟩,fun y c' e=>?_,I.free,I.freeC,fun p hp=>?_,tracked ⟨oc,hoc,I.freeC x c hc⟩ hs,by simpa using I.len⟩ ⟨c,hs,.inr hc⟩
  ·exact (hs.2 b (yav (yah (yaj e) (I.ok.cab x c hfn hc)))).trans (I.base.keep b o e n hb hx)
  ·obtain ⟨sl,e1⟩:=I.base.slot b o e n hb hx;exact ⟨sl,(hs.2 b (yav (yah (yaj e) (I.ok.cab x c hfn hc)))).trans e1⟩
  ·obtain ⟨o',e1⟩:=I.base.there b o e hx;exact ⟨o',(hs.2 b (yav (yah (yaj e) (I.ok.cab x c hfn hc)))).trans e1⟩
  ·by_cases hj:j=i
   ·subst hj;rw [hi] at e1;cases e1;rw [yaA hiσ] at e2;cases e2;exact ⟨u,r,.inr ⟨.inl hk,c,hc,hc'⟩⟩
   ·rw [yaL (Ne.symm hj)] at e2;obtain ⟨u',r',q⟩:=hl j y v' e1 e2 e3;refine ⟨u',r',?_⟩
    rcases q with q | ⟨k,c',e,z'⟩
    ·exact .inl q
    ·refine .inr ⟨k,c',e,z'.sameBut hs ?_⟩;rintro rfl;exact hj (zfr hN e1 (I.ok.inj _ _ _ e hc ▸ hi))
  ·by_cases hcc:c'=c
   ·subst hcc;exact ⟨_,hc'⟩
   ·obtain ⟨w2,z2⟩:=I.cell y c' e;exact ⟨w2,z2.sameBut hs hcc⟩
  ·obtain ⟨e,n,ne,nf,d⟩:=I.pin p hp;refine ⟨(hs.2 p.1 ?_).trans e,n,ne,nf,d⟩;intro q;rw [q,hoc] at e;have q':oc=p.2:=Option.some.inj e;exact d w' (by rw [<-q'];exact hocd)
def zcT{M:Model}{A:Around}{E:Z5}{i:Nat}{x:Str}{v:V}{u:Value}{Q:Unit->Shared->Prop}(I:Inv X pins σ H s)(hN:X.N.Nodup)(hi:X.N[i]?=some x)(hx:Loc X.env.scope x)(r:zaW v u)
  (h:∀s',Inv X pins (σ.set i (some v)) H s'->Q () s') (hf:X.fn x=true\/X.env.scope.names.lookup x=some .local):wpAny M A (storeName X.env x u) Q E s :=
 zf2 I hN hi hx r (fun s' I' _=>h s' I') hf
def Inv.call'(I:Inv X pins σ H s)(ho:s'.os=s.os)(u:Un (frs X.stack) ch H H' s.heap s'.heap)(hok:HOk X.prog X.w H' s'.heap)(hg:AllBare s'.gens)
  (hch:∀b∈ch,(b∈X.ex\/X.s₀.heap.objs.size<=b)/\b≠X.env.locals/\(∀x c,X.env.cells.lookup x=some c->c≠b)/\∀p∈X.pn++pins,p.1≠b):Inv X pins σ H' s':=by
 obtain ⟨h',g',d',t',o'⟩:=s';have e:o'=s.os:=ho;subst e;exact I.call (g':=g') (t':=t') (d':=d') u hok hg hch
end
noncomputable abbrev XK:=Value->Option Addr->Hp->Prop
noncomputable abbrev St:=List (Option V)
noncomputable abbrev VK:=V->Hp->Prop
noncomputable abbrev TE:=St->Hp->VK->Prop
noncomputable abbrev TT:=St->Hp->(Bool->Hp->Prop)->Prop
noncomputable abbrev TA:=St->Hp->(List V->Hp->Prop)->Prop
structure Ends where
 nx:St->Hp->Prop
 rt:VK
 bk:St->Hp->Prop:=fun _ _=>False
 ct:St->Hp->Prop:=fun _ _=>False
noncomputable abbrev TS:=Ends->St->Hp->Prop
noncomputable def EP(X:Cx)(pins:Z3)(σ:St)(Q:VK)(u:Value)(s':Shared):Prop:=∃v H',Inv X pins σ H' s'/\zaW v u/\Q v H'
noncomputable def TP(X:Cx)(pins:Z3)(σ:St)(Q:Bool->Hp->Prop)(b:Bool)(s':Shared):Prop:=∃H',Inv X pins σ H' s'/\Q b H'
noncomputable def AP(X:Cx)(pins:Z3)(σ:St)(Q:List V->Hp->Prop)(us:List Value)(s':Shared):Prop:=∃vs H',Inv X pins σ H' s'/\Vals vs us/\Q vs H'
noncomputable def SP(X:Cx)(pins:Z3)(D:Ends)(f:Flow)(s':Shared):Prop :=
 match f with
 | .next=>∃σ' H',Inv X pins σ' H' s'/\D.nx σ' H'
 | .brk=>∃σ' H',Inv X pins σ' H' s'/\D.bk σ' H'
 | .cont=>∃σ' H',Inv X pins σ' H' s'/\D.ct σ' H'
 | .ret u=>∃v σ' H',Inv X pins σ' H' s'/\zaW v u/\D.rt v H'
noncomputable def PE(X:Cx)(e:Expr)(t:TE):Prop :=
 ∀(pins:Z3) (s:Shared) (σ:St) (H:Hp) (Q:VK),Inv X pins σ H s->t σ H Q->wpAny (model X.prog X.w) X.A (eval e X.env) (EP X pins σ Q) X.xe s
noncomputable def PT(X:Cx)(e:Expr)(t:TT):Prop :=
 ∀(pins:Z3) (s:Shared) (σ:St) (H:Hp) (Q:Bool->Hp->Prop),Inv X pins σ H s->t σ H Q->wpAny (model X.prog X.w) X.A (isTrue e X.env (eval e X.env)) (TP X pins σ Q) X.xe s
noncomputable def PW(X:Cx)(e:Expr)(t:TT):Prop :=
 ∀(whole:Sem Value) (pins:Z3) (s:Shared) (σ:St) (H:Hp) (Q:Bool->Hp->Prop),Inv X pins σ H s->t σ H Q->wpAny (model X.prog X.w) X.A (isTrue e X.env whole) (TP X pins σ Q) X.xe s
def PW.pt(h:PW X e t):PT X e t:=h _
noncomputable def PA(X:Cx)(es:List Expr)(t:TA):Prop :=
 ∀(pos:Pos) (pins:Z3) (s:Shared) (σ:St) (H:Hp) (Q:List V->Hp->Prop),Inv X pins σ H s->t σ H Q->wpAny (model X.prog X.w) X.A (spliced (backTo pos (starEach es X.env))) (AP X pins σ Q) X.xe s
noncomputable def PS(X:Cx)(st:Stmt)(t:TS):Prop :=
 ∀(pins:Z3) (s:Shared) (σ:St) (H:Hp) (D:Ends),Inv X pins σ H s->t D σ H->wpAny (model X.prog X.w) X.A (exec st X.env) (SP X pins D) X.xe s
noncomputable def PSs(X:Cx)(st:List Stmt)(t:TS):Prop :=
 ∀(pins:Z3) (s:Shared) (σ:St) (H:Hp) (D:Ends),Inv X pins σ H s->t D σ H->wpAny (model X.prog X.w) X.A (execs st X.env) (SP X pins D) X.xe s
def thn{α:Type}{t:Sem α}{Q Q':α->Shared->Prop}(h:wpAny M A t Q E s)(hQ:∀a s,Q a s->Q' a s):wpAny M A t Q' E s:=yaW h hQ fun _ _ x=>x
section
variable{X:Cx}
noncomputable def ztm(i:Nat):TE:=fun σ H Q=>∃v,σ[i]?=some (some v)/\Q v H
noncomputable def tC(v:V):TE:=fun _ H Q=>Q v H
def zaU{i:Nat}{x:Str}{pos:Pos}(hN:X.N[i]?=some x)(hv:Vis X.env.scope x)(hd:(x == ("__debug__":Str))=false:=by decide)(hcd:(x == ("__classdict__":Str))=false:=by decide):PE X (.Name x pos) (ztm i):=by
 intro pins s σ H Q I h;obtain ⟨v,e,h⟩:=h;obtain ⟨m,hn,hl⟩:=I.loc;obtain ⟨u,r,l⟩:=hl i x v hN e hv;have fin:EP X pins σ Q u s:=⟨v,H,I,r,h⟩
 rcases l with ⟨hk,hm⟩ | ⟨hk,c,hc,hcell⟩
 ·exact wpAny_Name (wpAny_loadName_local I.ok.kind hk hn hm fin) hd
 ·rcases hk with hk | hk
  ·exact wpAny_Name (wpAny_loadName_cell I.ok.kind hk hc hcell fin) hd
  ·exact wpAny_Name (wpAny_loadName_free I.ok.kind hk hc hcell fin hcd) hd
def znA{i j pos}:PE X (.Constant (.int i) j pos) (tC (.int i)):=fun _ _ _ H _ I h=>wpAny_Constant_int ⟨.int i,H,I.tok _,⟨_,rfl⟩,h⟩
def zpd{b j pos}:PE X (.Constant (.bool b) j pos) (tC (.bl b)):=fun _ _ _ H _ I h=>Constant_bool ⟨.bl b,H,I,rfl,h⟩
def zkc{j pos}:PE X (.Constant .none j pos) (tC .non):=fun _ _ _ H _ I h=>Constant_none ⟨.non,H,I,rfl,h⟩
def zkb{x j pos}:PE X (.Constant (.str x) j pos) (tC (.str x)):=fun _ _ _ H _ I h=>Calls.Constant_str ⟨.str x,H,I.tok _,⟨_,rfl⟩,h⟩
noncomputable def Gl(X:Cx)(x:Str):Prop:=X.env.kindOf x=some .globalImplicit
def zcI{E:Z5}{pins:Z3}{s:Shared}{σ:St}{H:Hp}{x:Str}{u:Value}{pos:Pos}{Q:Z5}(I:Inv X pins σ H s)(hg:Gl X x)(hm:X.mg x=some u)(h:Q u s)
  (hd:(x == ("__debug__":Str))=false:=by decide):wpAny (model X.prog X.w) X.A (eval (.Name x pos) X.env) Q E s :=
 Calls.Name_function_global I.ok.kind hg (Calls.loadGlobal_global (by rw [I.ok.glob];exact I.mod.glob.keeps I.bk) hm h) hd
def zgr{E:Z5}{pins:Z3}{s:Shared}{σ:St}{H:Hp}{x:Str}{u:Value}{pos:Pos}{Q:Z5}(I:Inv X pins σ H s)(hg:Gl X x)(hm:X.mg x=none)(hv:bootBuiltins x=some u)(h:Q u s)
  (hn:x ≠ "__name__":=by decide) (hd:(x == ("__debug__":Str))=false:=by decide):wpAny (model X.prog X.w) X.A (eval (.Name x pos) X.env) Q E s:=by
 obtain ⟨mb,h1,h2⟩:=I.mod.blt;exact Calls.Name_function_global I.ok.kind hg (Calls.loadGlobal_builtin (by rw [I.ok.glob];exact I.mod.glob.keeps I.bk) hm (by rw [I.ok.blt];exact h1.keeps I.bk) ((h2 x hn).trans hv) h) hd
def zg7{x:Str}{v:V}{u:Value}{pos:Pos}(hg:Gl X x)(hm:X.mg x=some u)(r:zaW v u)(hd:(x == ("__debug__":Str))=false:=by decide):PE X (.Name x pos) (tC v) :=
 fun _ _ _ H _ I h=>zcI I hg hm ⟨v,H,I,r,h⟩ hd
def zg9{x:Str}{v:V}{u:Value}{pos:Pos}(hg:Gl X x)(hm:X.mg x=none)(hv:bootBuiltins x=some u)(r:zaW v u)(hn:x ≠ "__name__":=by decide)(hd:(x == ("__debug__":Str))=false:=by decide):PE X (.Name x pos) (tC v) :=
 fun _ _ _ H _ I h=>zgr I hg hm hv ⟨v,H,I,r,h⟩ hn hd
variable{a b:Expr}{ta tb:TE}{pos:Pos}
noncomputable def PC(X:Cx)(op:CmpOp)(a b:Expr)(t:TE):Prop :=
 ∀(pins:Z3) (s:Shared) (σ:St) (H:Hp) (Q:VK),Inv X pins σ H s->t σ H Q →
  wpAny (model X.prog X.w) X.A (eval a X.env) (fun v s₁=>wpAny (model X.prog X.w) X.A (eval b X.env) (fun u s₂=>wpAny (model X.prog X.w) X.A (compareOp op v u) (EP X pins σ Q) X.xe s₂) X.xe s₁) X.xe s
def zsZ(b:Expr){op:CmpOp}(h:op≠.In)(h2:op≠.NotIn):behindInMarks op b=false:=by
 have e1:(op == CmpOp.In)=false:=by cases op<;>first | rfl | exact absurd rfl h
 have e2:(op == CmpOp.NotIn)=false:=by cases op<;>first | rfl | exact absurd rfl h2
 cases b<;>simp [behindInMarks,e1,e2]
noncomputable def tB(t:TE):TT:=fun σ H Q=>t σ H fun x H1=>∃c,x=.bl c/\Q c H1
def znB{op:CmpOp}{t:TE}(h:PC X op a b t)(h1:behindInMarks op b=false):PE X (.Compare a [op] [b] pos) t:=fun pins s σ H Q I hw=>wpAny_Compare1 (h pins s σ H Q I hw) h1
def znv{op:CmpOp}{t:TE}(h:PC X op a b t)(h1:behindInMarks op b=false):PT X (.Compare a [op] [b] pos) (tB t):=by
 intro pins s σ H Q I hw;refine wpAny_isTrue_Compare1 (thn (h pins s σ H _ I hw) fun v s1 h1=>thn h1 fun u s2 h2=>thn h2 fun c s3 ⟨x,H1,I1,r1,q1⟩=>?_) h1;obtain ⟨d,rfl,q⟩:=q1;cases r1;exact yaZ ⟨H1,I1,q⟩
def zrn{e:Expr}{t:TE}(h:PE X e t)(he:∀whole,isTrue e X.env whole=(do let v ← whole;standAt e.pos;holding [v] (truthy v)):=by intro _;rfl):PT X e (tB t):=by
 intro pins s σ H Q I hw;refine isTrue_plain (thn (h pins s σ H _ I hw) fun v s1 ⟨x,H1,I1,r1,q1⟩=>?_) (he _);obtain ⟨d,rfl,q⟩:=q1;cases r1;exact yaZ ⟨H1,I1,q⟩
variable{tA tB':TT}{za7:List Expr}
noncomputable def zu7(t u:TT):TT:=fun σ H Q=>t σ H fun c H1=>if c=true then u σ H1 Q else Q false H1
noncomputable def tOr(t u:TT):TT:=fun σ H Q=>t σ H fun c H1=>if c=true then Q true H1 else u σ H1 Q
noncomputable def zu5(t:TT):TT:=fun σ H Q=>t σ H fun c H1=>Q (!c) H1
def zoW(ha:PT X a tA):PW X (.BoolOp .And [a] pos) tA:=by
 intro wh pins s σ H Q I h;refine isTrue_and (thn (ha pins s σ H Q I h) fun c s1 e=>?_)
 cases c with
 | true=>exact isTrue_and_nil e
 | false=>exact e
def znt(ha:PT X a tA):PW X (.BoolOp .Or [a] pos) tA:=by
 intro wh pins s σ H Q I h;refine isTrue_or (thn (ha pins s σ H Q I h) fun c s1 e=>?_)
 cases c with
 | false=>exact isTrue_or_nil e
 | true=>exact e
def zrl(ha:PT X a tA)(hb:PW X (.BoolOp .And (b::za7) pos) tB'):PW X (.BoolOp .And (a::b::za7) pos) (zu7 tA tB'):=by
 intro wh pins s σ H Q I h;refine isTrue_and (thn (ha pins s σ H _ I h) fun c s1 ⟨H1,I1,q1⟩=>?_)
 cases c with
 | true=>exact hb wh pins s1 σ H1 Q I1 q1
 | false=>exact ⟨H1,I1,q1⟩
def ztK(ha:PT X a tA)(hb:PW X (.BoolOp .Or (b::za7) pos) tB'):PW X (.BoolOp .Or (a::b::za7) pos) (tOr tA tB'):=by
 intro wh pins s σ H Q I h;refine isTrue_or (thn (ha pins s σ H _ I h) fun c s1 ⟨H1,I1,q1⟩=>?_)
 cases c with
 | true=>exact ⟨H1,I1,q1⟩
 | false=>exact hb wh pins s1 σ H1 Q I1 q1
def zro(ha:PT X a tA):PT X (.UnaryOp .Not a pos) (zu5 tA):=by
 intro pins s σ H Q I h;exact isTrue_not (ha pins s σ H (fun c H1=>Q (!c) H1) I h)
noncomputable def ztu(ta tb:TE):TE:=fun σ H Q=>ta σ H fun x H1=>∃c,x=.bl c/\if c=true then tb σ H1 Q else Q (.bl false) H1
noncomputable def zwn(ta tb:TE):TE:=fun σ H Q=>ta σ H fun x H1=>∃c,x=.bl c/\if c=true then Q (.bl true) H1 else tb σ H1 Q
noncomputable def zto(ta:TE):TE:=fun σ H Q=>ta σ H fun x H1=>∃c,x=.bl c/\Q (.bl (!c)) H1
def zrw{op}(h:PE X a t):PE X (.BoolOp op [a] pos) t:=fun pins s σ H Q I hw=>BoolOp_one (h pins s σ H Q I hw)
def zrA(ha:PE X a ta)(hb:PE X (.BoolOp .And (b::za7) pos) tb):PE X (.BoolOp .And (a::b::za7) pos) (ztu ta tb):=by
 intro pins s σ H Q I h;refine BoolOp_and (thn (ha pins s σ H _ I h) fun v s1 ⟨x,H1,I1,r1,q1⟩=>?_);obtain ⟨c,rfl,q1⟩:=q1;cases r1;refine yaZ ?_
 cases c with
 | true=>exact hb pins s1 σ H1 Q I1 q1
 | false=>exact ⟨.bl false,H1,I1,rfl,q1⟩
def ztM(ha:PE X a ta)(hb:PE X (.BoolOp .Or (b::za7) pos) tb):PE X (.BoolOp .Or (a::b::za7) pos) (zwn ta tb):=by
 intro pins s σ H Q I h;refine BoolOp_or (thn (ha pins s σ H _ I h) fun v s1 ⟨x,H1,I1,r1,q1⟩=>?_);obtain ⟨c,rfl,q1⟩:=q1;cases r1;refine yaZ ?_
 cases c with
 | false=>exact hb pins s1 σ H1 Q I1 q1
 | true=>exact ⟨.bl true,H1,I1,rfl,q1⟩
def zrx(ha:PE X a ta):PE X (.UnaryOp .Not a pos) (zto ta):=by
 intro pins s σ H Q I h;refine UnaryOp_ (thn (ha pins s σ H _ I h) fun v s1 ⟨x,H1,I1,r1,q1⟩=>?_);obtain ⟨c,rfl,q1⟩:=q1;cases r1;exact not_of (yaZ ⟨.bl (!c),H1,I1,rfl,q1⟩)
noncomputable def tIf(t:TT)(ta tb:TE):TE:=fun σ H Q=>t σ H fun c H1=>if c=true then ta σ H1 Q else tb σ H1 Q
def zl9(hc:PT X c tA)(ha:PE X a ta)(hb:PE X b tb):PE X (.IfExp c a b pos) (tIf tA ta tb):=by
 intro pins s σ H Q I h;refine wpAny_IfExp (thn (hc pins s σ H _ I h) fun d s1 ⟨H1,I1,q1⟩=>?_)
 cases d with
 | true=>exact ha pins s1 σ H1 Q I1 q1
 | false=>exact hb pins s1 σ H1 Q I1 q1
end
noncomputable def SqL(K:PySem.W.Frag)(H:Hp)(a:Addr)(xs:List V):Prop :=
 Rd H a (.lst xs) ∨
  ∃(o:Obj) (its:Array Value) (n:Nat),K.lookup a=some o/\o.cls=.type "list" /\ o.dict=none/\o.data=.seq its n/\its.size<=sizeLine/\Vals xs its.toList
noncomputable def SqT(K:PySem.W.Frag)(H:Hp)(a:Addr)(xs:List V):Prop :=
 Rd H a (.tup xs) ∨
  ∃(o:Obj) (its:Array Value) (n:Nat),K.lookup a=some o/\o.cls=.type "tuple" /\ o.data=.seq its n/\its.size<=sizeLine/\Vals xs its.toList
noncomputable def zxd:Value->Option V
 | .none=>some .non
 | .bool b=>some (.bl b)
 | .int i _=>some (.int i)
 | .str x _=>some (.str x)
 | .bytes b _=>some (.byt b)
 | .float b _=>some (.flt b)
 | .ref a=>some (.ref a)
 | .type n=>some (.ty n)
 | _=>none
def zaW.abs(r:zaW x u):zxd u=some x:=by
 cases x with
 | non=>cases r;rfl
 | bl _=>cases r;rfl
 | int _=>obtain ⟨t,rfl⟩:=r;rfl
 | str _=>obtain ⟨t,rfl⟩:=r;rfl
 | byt _=>obtain ⟨t,rfl⟩:=r;rfl
 | flt _=>obtain ⟨t,rfl⟩:=r;rfl
 | ref _=>cases r;rfl
 | ty _=>cases r;rfl
theorem zaW.inj(r:zaW x u)(q:zaW y u):x=y:=Option.some.inj (r.abs.symm.trans q.abs)
theorem Vals.inj:∀{xs ys:List V} {us:List Value},Vals xs us->Vals ys us->xs=ys
 | _,_,_,.nil,.nil=>rfl
 | _,_,_,.cons r t,.cons r' t'=>by rw [r.inj r',Vals.inj t t']
section
variable{X:Cx}{pins:Z3}{σ:St}{H:Hp}{s:Shared}{a:Addr}{xs ys:List V}
def SqL.of{K:PySem.W.Frag}(h:H a=some (.lst xs)):SqL K H a xs:=.inl (.inl h)
def SqT.of{K:PySem.W.Frag}(h:H a=some (.tup xs)):SqT K H a xs:=.inl (.inl h)
theorem Inv.list(I:Inv X pins σ H s)(h:SqL X.K H a xs):∃its:List Value,Vals xs its/\PlainL s.heap a its.toArray/\xs.length<=sizeLine:=by
 rcases h with h | ⟨o,its,n,hk,hc,hd,hs,hz,r⟩
 ·obtain ⟨z,its,n,r,e⟩:=h.ok I.hok;exact ⟨its,r,⟨_,n,e,rfl,rfl,rfl⟩,z⟩
 ·refine ⟨its.toList,r,⟨o,n,I.kIn a o hk,hc,hd,by simpa using hs⟩,?_⟩;have e:=r.length;simp only [yaU] at e;omega
def Inv.tuple(I:Inv X pins σ H s)(h:SqT X.K H a xs):∃its:List Value,Vals xs its/\IsTup s.heap a its.toArray/\xs.length<=sizeLine:=by
 rcases h with h | ⟨o,its,n,hk,hc,hs,hz,r⟩
 ·obtain ⟨z,its,r,p⟩:=h.ok I.hok;exact ⟨its,r,p.t,z⟩
 ·refine ⟨its.toList,r,⟨o,I.kIn a o hk,hc,n,by simpa using hs⟩,?_⟩;have e:=r.length;simp only [yaU] at e;omega
def Inv.list_inj(I:Inv X pins σ H s)(h:SqL X.K H a xs)(h':SqL X.K H a ys):xs=ys:=by
 obtain ⟨its,r,⟨o,n,e,_,_,d⟩,_⟩:=I.list h;obtain ⟨its',r',⟨o',n',e',_,_,d'⟩,_⟩:=I.list h';rw [e] at e';cases e';rw [d] at d'
 injection d' with d1 _
 have:its=its':=by simpa using congrArg Array.toList d1
 subst this;exact r.inj r'
def Inv.tuple_inj(I:Inv X pins σ H s)(h:SqT X.K H a xs)(h':SqT X.K H a ys):xs=ys:=by
 obtain ⟨its,r,⟨o,e,_,n,d⟩,_⟩:=I.tuple h;obtain ⟨its',r',⟨o',e',_,n',d'⟩,_⟩:=I.tuple h';rw [e] at e';cases e';rw [d] at d'
 injection d' with d1 _
 have:its=its':=by simpa using congrArg Array.toList d1
 subst this;exact r.inj r'
end
section
variable{X:Cx}{st:Stmt}{za7:List Stmt}{t u:TS}{e:Expr}{te:TE}{pos:Pos}
noncomputable def zqB:TS:=fun D σ H=>D.nx σ H
noncomputable def zwm(t u:TS):TS:=fun D σ H=>t { D with nx:=u D } σ H
def zo0:PSs X [] zqB:=fun _ _ σ H _ I h=>ycr ⟨σ,H,I,h⟩
def zl3(h1:PS X st t)(h2:PSs X za7 u):PSs X (st::za7) (zwm t u):=by
 intro pins s σ H D I h;refine wpAny_execs_cons (thn (h1 pins s σ H { D with nx:=u D } I h) fun f s1 q=>?_)
 cases f with
 | next =>
  obtain ⟨σ',H',I',q⟩:=q;exact h2 pins s1 σ' H' D I' q
 | ret v=>exact q
 | brk=>exact q
 | cont=>exact q
def zg4(h1:PS X st t):PSs X [st] t:=by
 intro pins s σ H D I h;refine wpAny_execs_cons (thn (h1 pins s σ H D I h) fun f s1 q=>?_)
 cases f with
 | next=>exact ycr q
 | ret v=>exact q
 | brk=>exact q
 | cont=>exact q
def zo3:PS X (.Pass pos) zqB:=fun _ _ σ H _ I h=>wpAny_Pass ⟨σ,H,I,h⟩
def Inv.quiet(I:Inv X pins σ H s):interactive X.env=false:=by simp [interactive,I.ok.kind]
noncomputable def zts(te:TE):TS:=fun D σ H=>te σ H fun _ H1=>D.nx σ H1
def zec(he:PE X e te)(hs:swapsWith e none pos.line X.env=pure false:=by rfl):PS X (.Expr e pos) (zts te):=by
 intro pins s σ H D I h;exact wpAny_Expr_any (thn (he pins s σ H _ I h) fun v s1 ⟨x,H1,I1,r1,q1⟩=>⟨σ,H1,I1,q1⟩) I.quiet hs
noncomputable def zqA(te:TE):TS:=fun D σ H=>te σ H D.rt
def zge(he:PE X e te):PS X (.Return (some e) pos) (zqA te):=by
 intro pins s σ H D I h;exact wpAny_Return_some (thn (he pins s σ H _ I h) fun v s1 ⟨x,H1,I1,r1,q1⟩=>⟨x,σ,H1,I1,r1,q1⟩)
noncomputable def ztn:TS:=fun D _ H=>D.rt .non H
def zo2:PS X (.Return none pos) ztn:=fun _ _ σ H _ I h=>wpAny_Return_none ⟨.non,σ,H,I,rfl,h⟩
noncomputable def zwq(c:TT)(t u:TS):TS:=fun D σ H=>c σ H fun b H1=>if b=true then t D σ H1 else u D σ H1
def ztL(hc:PT X c tc)(ha:PSs X a t)(hb:PSs X b u):PS X (.If c a b pos) (zwq tc t u):=by
 intro pins s σ H D I h;refine wpAny_If (thn (hc pins s σ H _ I h) fun d s1 ⟨H1,I1,q1⟩=>?_)
 cases d with
 | true=>exact ha pins s1 σ H1 D I1 q1
 | false=>exact hb pins s1 σ H1 D I1 q1
end
noncomputable abbrev TG:=V->St->Hp->(St->Hp->Prop)->Prop
noncomputable abbrev TGs:=List V->St->Hp->(St->Hp->Prop)->Prop
noncomputable def PG(X:Cx)(target:Expr)(t:TG):Prop :=
 ∀(pins:Z3) (s:Shared) (σ:St) (H:Hp) (v:V) (u:Value) (Q:St->Hp->Prop),Inv X pins σ H s->zaW v u->t v σ H Q →
  wpAny (model X.prog X.w) X.A (assign target X.env u) (fun _ s'=>∃σ' H',Inv X pins σ' H' s'/\Q σ' H') X.xe s
noncomputable def PGs(X:Cx)(ts:List Expr)(t:TGs):Prop :=
 ∀(pins:Z3) (s:Shared) (σ:St) (H:Hp) (vs:List V) (us:List Value) (Q:St->Hp->Prop),Inv X pins σ H s->Vals vs us->t vs σ H Q →
  wpAny (model X.prog X.w) X.A (assignInOrder ((assignEach ts X.env).map (·.2)) us) (fun _ s'=>∃σ' H',Inv X pins σ' H' s'/\Q σ' H') X.xe s
noncomputable abbrev TSet:=V->V->V->Hp->(Hp->Prop)->Prop
noncomputable def zvX(X:Cx)(t:TSet):Prop :=
 ∀(pins:Z3) (s:Shared) (σ:St) (H:Hp) (o i v:V) (ov iv u:Value) (Q:Hp->Prop),Inv X pins σ H s->zaW o ov->zaW i iv->zaW v u->t o i v H Q →
  wpAny (model X.prog X.w) X.A (setItem ov iv u) (fun _ s'=>∃H',Inv X pins σ H' s'/\Q H') X.xe s
section
variable{X:Cx}{pos:Pos}
noncomputable def zkO(i:Nat):TG:=fun v σ H Q=>Q (σ.set i (some v)) H
def zka{i:Nat}{x:Str}(hN:X.N.Nodup)(hi:X.N[i]?=some x)(hx:Loc X.env.scope x)(hf:X.fn x=true\/X.env.scope.names.lookup x=some .local):PG X (.Name x pos) (zkO i):=by
 intro pins s σ H v u Q I r h;exact wpAny_assign_Name (zcT I hN hi hx r (fun s' I'=>⟨_,H,I',h⟩) hf)
noncomputable def zw8:TGs:=fun vs σ H Q=>vs=[]/\Q σ H
noncomputable def zui(t:TG)(u:TGs):TGs:=fun vs σ H Q=>∃v r,vs=v::r/\t v σ H fun σ' H'=>u r σ' H' Q
def zpa:PGs X [] zw8:=by
 intro pins s σ H vs us Q I r h;obtain ⟨e,h⟩:=h;subst e;cases r;exact assignInOrder_nil ⟨σ,H,I,h⟩
def zl7{e:Expr}{es:List Expr}{t:TG}{u:TGs}(h1:PG X e t)(h2:PGs X es u)
  (hs:(assignEach (e::es) X.env).map (·.2)=assign e X.env::(assignEach es X.env).map (·.2):=by rfl):PGs X (e::es) (zui t u):=by
 intro pins s σ H vs us Q I r h;obtain ⟨v,vr,e1,h⟩:=h;subst e1
 cases r with
 | cons r rr =>
  rw [hs];refine ycx (thn (h1 pins s σ H _ _ _ I r h) fun _ s1 ⟨σ1,H1,I1,q1⟩=>?_);exact h2 pins s1 σ1 H1 _ _ Q I1 rr q1
noncomputable def zw6(K:PySem.W.Frag)(n:Nat)(t:TGs):TG:=fun v σ H Q=>∃a xs,v=.ref a/\SqT K H a xs/\xs.length=n/\t xs σ H Q
def zru{es:List Expr}{k:Nat}{t:TGs}{n:Nat}(hc:X.calm=true)(h:PGs X es t)
  (hn:(assignEach es X.env).length=n:=by rfl) (hst:(assignEach es X.env).findIdx? (·.1)=none:=by rfl):PG X (.Tuple es k pos) (zw6 X.K n t):=by
 intro pins s σ H v u Q I r hw;obtain ⟨a,xs,e1,hq,hl,hw⟩:=hw;subst e1;cases r;obtain ⟨its,rv,ht,hz⟩:=I.tuple hq;refine assign_Tuple_tuple (I.ok.hd hc) ht (by simp [hn,<-hl,rv.length]) hst fun h' hx=>?_
 have I1:Inv X pins σ H { s with heap:=h' }:=I.kept (t':=s.toks) fun b o e=>hx b o (yav (yaj e)) e
 exact h pins _ σ H xs _ Q I1 (by simpa using rv) hw
noncomputable def zw7(to ti:TE)(t:TSet):TG:=fun v σ H Q=>to σ H fun o H1=>ti σ H1 fun i H2=>t o i v H2 fun H3=>Q σ H3
def zrv{o i:Expr}{to ti:TE}{t:TSet}(ho:PE X o to)(hi:PE X i ti)(hs:zvX X t)
  (ha:∀v,assign (.Subscript o i pos) X.env v=(do
   let ov ← holding [v] (eval o X.env)
   let iv ← holding [v,ov] (eval i X.env)
   standAt pos
   holding [v,ov,iv] (setItem ov iv v)
   release [v,ov,iv] []):=by intro _;rfl):PG X (.Subscript o i pos) (zw7 to ti t):=by
 intro pins s σ H v u Q I r h;rw [ha];refine yab (ybb (thn (ho pins s σ H _ I h) fun ov s1 ⟨x,H1,I1,r1,q1⟩=>?_));refine yab (ybb (thn (hi pins s1 σ H1 _ I1 q1) fun iv s2 ⟨y,H2,I2,r2,q2⟩=>?_));refine yab (ycK (yab (ybb (thn (hs pins s2 σ H2 x y v ov iv u _ I2 r1 r2 r q2) fun _ s3 ⟨H3,I3,q3⟩=>?_))));exact wpAny_release ⟨σ,H3,I3,q3⟩
noncomputable def zqn(te:TE)(g:TG):TS:=fun D σ H=>te σ H fun x H1=>g x σ H1 D.nx
def znx{tg e:Expr}{te:TE}{g:TG}(he:PE X e te)(hg:PG X tg g)(hs:swapsWithSole [tg] e pos.line X.env=pure false:=by rfl)(hw:swappedStores [tg] e X.env=pure none:=by rfl)
  (h1:(assignEach [tg] X.env).map (·.2)=[assign tg X.env]:=by rfl):PS X (.Assign [tg] e pos) (zqn te g):=by
 intro pins s σ H D I h;refine wpAny_Assign_stores (thn (he pins s σ H _ I h) fun v s1 ⟨x,H1,I1,r1,q1⟩=>?_) hs hw;rw [h1];exact thn (hg pins s1 σ H1 x v _ I1 r1 q1) fun _ s2 q=>q
def znw{i:Nat}{x:Str}{e:Expr}{te:TE}{pos':Pos}(hN:X.N.Nodup)(hi:X.N[i]?=some x)(hx:Loc X.env.scope x)(he:PE X e te)(hs:swapsWith e (some (.Name x pos')) pos.line X.env=pure false:=by rfl)(hf:X.fn x=true\/X.env.scope.names.lookup x=some .local) :
  PS X (.Assign [.Name x pos'] e pos) (zqn te (zkO i)):=by
 intro pins s σ H D I h;refine wpAny_Assign_Name (thn (he pins s σ H _ I h) fun v s1 ⟨y,H1,I1,r1,q1⟩=>?_) hs;exact zcT I1 hN hi hx r1 (fun s2 I2=>⟨_,H1,I2,q1⟩) hf
noncomputable def zu4(i j:Nat)(ta:TA):TS:=fun D σ H=>ta σ H fun vs H1=>∃v w,vs=[v,w]/\D.nx ((σ.set i (some v)).set j (some w)) H1
def zrp{i j:Nat}{x y:Str}{a b:Expr}{ta:TA}{px py pt:Pos}{kt k2 pt2}(hc:X.calm=true)(hN:X.N.Nodup)(hi:X.N[i]?=some x)(hj:X.N[j]?=some y)(hij:i≠j)
  (hx:X.env.scope.names.lookup x=some .local) (hy:X.env.scope.names.lookup y=some .local) (ha:PA X [a,b] ta)
  (hw:swappedStores [.Tuple [.Name x px,.Name y py] kt pt] (.Tuple [a,b] k2 pt2) X.env=pure (some [x,y]))
  (hs:swapsWithSole [.Tuple [.Name x px,.Name y py] kt pt] (.Tuple [a,b] k2 pt2) pos.line X.env=pure false:=by rfl) :
  PS X (.Assign [.Tuple [.Name x px,.Name y py] kt pt] (.Tuple [a,b] k2 pt2) pos) (zu4 i j ta):=by
 intro pins s σ H D I h;rw [exec_Assign_arm];refine yab (ycK ?_);rw [hs];refine yab (yal ?_);rw [if_neg (by decide)];refine yab (Tuple_ (thn (ha _ pins s σ H _ I h) fun us s1 ⟨vs,H1,I1,r1,q1⟩=>?_));obtain ⟨v,w,e1,q1⟩:=q1;subst e1
 obtain ⟨u1,u2,rfl,rv,rw'⟩:∃u1 u2,us=[u1,u2]/\zaW v u1/\zaW w u2:=by
  cases r1 with
  | cons p q =>
   cases q with
   | cons p' q' =>
    cases q';exact ⟨_,_,rfl,p,p'⟩
 refine yb9 ?_ (by show 2<=sizeLine;decide);have I2:Inv X pins σ H1 { s1 with heap:=s1.heap.push { cls:=.type "tuple",data:=.seq [u1,u2].toArray } }:=I1.kept (t':=s1.toks) fun b o e=>yae _ e
 rw [hw];refine yab (yal ?_);show wpAny (model X.prog X.w) X.A (do rule "assign.swapped-stores";let items ← unpackItems (.ref s1.heap.objs.size) 2 none;assignInOrder [fun v=>bindName X.env y v,fun v=>bindName X.env x v] items.reverse;pure Flow.next) _ _ _;refine yab (wpAny_rule (yab (unpackItems_tuple (items:=#[u1,u2]) (I.ok.hd hc) (IsTup.new s1.heap _) fun h' hx'=>?_)));have I3:=I2.kept (h':=h') (t':=s1.toks) fun b o e=>hx' b o (yav (yaj e)) e
 show wpAny _ _ (assignInOrder [fun v=>bindName X.env y v,fun v=>bindName X.env x v] [u2,u1] >>= fun _=>pure Flow.next) _ _ _;refine yab (ycx (wpAny_bindName (zcT I3 hN hj (.inl hy) rw' (fun s2 I4=>?_) (.inr hy))));refine ycx (wpAny_bindName (zcT I4 hN hi (.inl hx) rv (fun s3 I5=>assignInOrder_nil (yal ?_)) (.inr hx)));rw [List.set_comm _ _ (Ne.symm hij)] at I5;exact ⟨_,H1,I5,q1⟩
end
structure It where
 go:Nat->Hp->Prop
 yld:Nat->Hp->V->Hp->Prop
 stop:Nat->Hp->Prop
noncomputable def zlu(X:Cx)(pins:Z3)(H:Hp)(b:Addr):Prop :=
 H b=none/\b≠X.env.locals/\b ∉ X.fs/\(b∈X.ex\/X.s₀.heap.objs.size<=b)/\(∀x c,X.env.cells.lookup x=some c->c≠b)/\∀p∈X.pn++pins,p.1≠b
def Inv.fpOk(I:Inv X pins σ H s)(hb:s.heap.objs.size<=b)(hn:H' b=none):zlu X pins H' b:=by
 refine ⟨hn,yaR (yah I.lt hb),I.nofs hb,.inr (yax I.sz hb),fun x c e z=>?_,fun p hp z=>?_⟩
 ·obtain ⟨v,q⟩:=I.cell x c e;exact absurd (yah q.lt (by rw [z];exact hb)) (yaP _)
 ·exact absurd (yah (yaj (I.pin p hp).1) (by rw [z];exact hb)) (yaP _)
structure Turn(P:Program)(w:World)(K:PySem.W.Frag)(tg:Expr)(J:It)(fp:List Addr)(it:Addr)(tn:Nat->Heap->Prop):Prop where
 mem:it∈fp
 obj:∀i h,tn i h->∀b∈fp,∃o,h.get? b=some o/\∀v,o.data≠.cell v
 keep:∀i h h',tn i h->(∀b∈fp,∀o,h.get? b=some o->h'.get? b=some o)->tn i h'
 item:∀(X:Cx),X.prog=P->X.w=w->X.K=K->X.calm=true->∀(i:Nat) (pins:Z3) (s:Shared) (σ:St) (H:Hp) (E:Z5),Inv X pins σ H s->(∀b∈fp,zlu X pins H b)->tn i s.heap->J.go i H →
  wpAny (model P w) X.A (pyNext (.ref it)) (fun r s1=>∃u,r=some u ∧
   wpAny (model P w) X.A (letOwnedTupleGo tg (.ref it) u) (fun _ s2=>∃x H',Inv X pins σ H' s2/\zaW x u/\J.yld i H x H'/\tn (i+1) s2.heap/\∀b∈fp,H' b=none) E s1) E s
 done:∀(X:Cx),X.prog=P->X.w=w->X.K=K->X.calm=true->∀(i:Nat) (pins:Z3) (s:Shared) (σ:St) (H:Hp) (E:Z5),Inv X pins σ H s->(∀b∈fp,zlu X pins H b)->tn i s.heap->J.stop i H →
  wpAny (model P w) X.A (pyNext (.ref it)) (fun r s1=>r=none/\Inv X pins σ H s1) E s
 self:∀(A:Around) (i:Nat) (s:Shared) (Q:Z5) (E:Z5),tn i s.heap->Q (.ref it) s->wpAny (model P w) A (pyIter (.ref it)) Q E s
noncomputable abbrev TI:=St->Hp->(It->Hp->Prop)->Prop
noncomputable def PIE(X:Cx)(pins:Z3)(σ:St)(tg:Expr)(R:It->Hp->Prop)(itv:Value)(s2:Shared):Prop :=
 ∃(it:Addr) (fp:List Addr) (tn:Nat->Heap->Prop) (J:It) (H':Hp),itv=.ref it/\Inv X pins σ H' s2/\Turn X.prog X.w X.K tg J fp it tn/\tn 0 s2.heap/\(∀b∈fp,zlu X pins H' b)/\R J H'
noncomputable def PI(X:Cx)(tg iter:Expr)(wi:TI):Prop :=
 ∀(pins:Z3) (s:Shared) (σ:St) (H:Hp) (R:It->Hp->Prop),Inv X pins σ H s->wi σ H R →
  wpAny (model X.prog X.w) X.A (eval iter X.env) (fun v s1=>wpAny (model X.prog X.w) X.A (pyIter v) (PIE X pins σ tg R) X.xe s1) X.xe s
def zkL (ho : s.heap.get? it = some o) (hc : o.cls = .type n) (hd : o.data = .fields vs)
    (hn : ["enumerate", "zip", "dict_itemiterator", "dict_reverseitemiterator", "odict_iterator", "itertools.zip_longest", "itertools.pairwise"].contains n = false) (hQ : Q () s) : wpAny M A (letOwnedTupleGo tg (.ref it) u) Q E s := by
  unfold letOwnedTupleGo
  cases tg <;> first
    | exact yal hQ
    | (cases u <;> first
        | exact yal hQ
        | (refine yab (wpAny_load ho ?_)
           rw [hc, hd];show wpAny M A (if (["enumerate", "zip", "dict_itemiterator", "dict_reverseitemiterator", "odict_iterator", "itertools.zip_longest", "itertools.pairwise"].contains n && vs[0]? == some (rawInt _)) = true then _ else _) Q E s;rw [if_neg (by intro h; rw [hn, Bool.false_and] at h; cases h)]
           exact yal hQ))
noncomputable def Itl(K:PySem.W.Frag)(a:Addr):It :=
 ⟨fun i H=>∃xs x,SqL K H a xs/\xs[i]?=some x,fun i H x H'=>H'=H/\∀xs,SqL K H a xs->xs[i]?=some x,fun i H=>∃xs,SqL K H a xs/\xs.length<=i⟩
noncomputable def Itt(K:PySem.W.Frag)(a:Addr):It :=
 ⟨fun i H=>∃xs x,SqT K H a xs/\xs[i]?=some x,fun i H x H'=>H'=H/\∀xs,SqT K H a xs->xs[i]?=some x,fun i H=>∃xs,SqT K H a xs/\xs.length<=i⟩
noncomputable def Itr(lo:Int)(n:Nat):It:=⟨fun i _=>i<n,fun i H x H'=>H'=H/\x=.int (lo+i),fun i _=>n<=i⟩
theorem zji{P:Program}{K:PySem.W.Frag}(a it:Addr):Turn P w K tg (Itl K a) [it] it (fun i h=>h.IsListIter it a i) where
 mem:=by simp
 obj:=fun i h st b hb=>by
  have e:b=it:=by simpa using hb
  subst e;obtain ⟨o,e,c,d⟩:=st;exact ⟨o,e,fun v z=>by rw [d] at z;cases z⟩
 keep:=fun i h h' st k=>st.at fun o e=>k it (by simp) o e
 item:=by
  intro X hP hw hK hc i pins s σ H E I hf st hg;subst hP hw hK;obtain ⟨xs,x,hq,hx⟩:=hg;obtain ⟨its,rv,p,hz⟩:=I.list hq;obtain ⟨u,hu,ru⟩:=rv.get hx;obtain ⟨f0,f1,f2,f3,f4,f5⟩:=hf it (by simp);refine wpAny_pyNext_list_item st p.isList (x:=u) (by simpa using hu) fun h' st' sb=>?_
  have I1:Inv X pins σ H { s with heap:=h' }:=I.turned (t':=s.toks) (fun b o hb e=>(sb.2 b hb).trans e) f0 f1 f3 f4 f5;obtain ⟨o,e,c,d⟩:=id st';exact ⟨u,rfl,zkL (s:={ s with heap:=h' }) e c d (by decide) ⟨x,H,I1,ru,⟨rfl,fun ys hy=>by rw [I.list_inj hy hq];exact hx⟩,st',fun b hb=>(hf b hb).1⟩⟩
 done:=by
  intro X hP hw hK hc i pins s σ H E I hf st hg;subst hP hw hK;obtain ⟨xs,hq,hx⟩:=hg;obtain ⟨its,rv,p,hz⟩:=I.list hq;obtain ⟨f0,f1,f2,f3,f4,f5⟩:=hf it (by simp);have hl:=rv.length;exact wpAny_pyNext_list_end (I.ok.hd hc) st p.isList (by simp;omega) fun h' eb=>⟨rfl,I.turned (t':=s.toks) (fun b o hb e=>eb b o hb e) f0 f1 f3 f4 f5⟩
 self:=fun _ _ _ _ _ st h=>wpAny_pyIter_listiter st h
def ziB{P:Program}{K:PySem.W.Frag}(a it:Addr):Turn P w K tg (Itt K a) [it] it (fun i h=>h.IsTupleIter it a i) where
 mem:=by simp
 obj:=fun i h st b hb=>by
  have e:b=it:=by simpa using hb
  subst e;obtain ⟨o,e,c,d⟩:=st;exact ⟨o,e,fun v z=>by rw [d] at z;cases z⟩
 keep:=fun i h h' st k=>st.at fun o e=>k it (by simp) o e
 item:=by
  intro X hP hw hK hc i pins s σ H E I hf st hg;subst hP hw hK;obtain ⟨xs,x,hq,hx⟩:=hg;obtain ⟨its,rv,p,hz⟩:=I.tuple hq;obtain ⟨u,hu,ru⟩:=rv.get hx;obtain ⟨f0,f1,f2,f3,f4,f5⟩:=hf it (by simp);refine wpAny_pyNext_tuple_item st (show s.heap.IsTuple a its.toArray from p) (x:=u) (by simpa using hu) fun h' st' sb=>?_
  have I1:Inv X pins σ H { s with heap:=h' }:=I.turned (t':=s.toks) (fun b o hb e=>(sb.2 b hb).trans e) f0 f1 f3 f4 f5;obtain ⟨o,e,c,d⟩:=id st';exact ⟨u,rfl,zkL (s:={ s with heap:=h' }) e c d (by decide) ⟨x,H,I1,ru,⟨rfl,fun ys hy=>by rw [I.tuple_inj hy hq];exact hx⟩,st',fun b hb=>(hf b hb).1⟩⟩
 done:=by
  intro X hP hw hK hc i pins s σ H E I hf st hg;subst hP hw hK;obtain ⟨xs,hq,hx⟩:=hg;obtain ⟨its,rv,p,hz⟩:=I.tuple hq;obtain ⟨f0,f1,f2,f3,f4,f5⟩:=hf it (by simp);have hl:=rv.length;exact wpAny_pyNext_tuple_end (I.ok.hd hc) st (show s.heap.IsTuple a its.toArray from p) (by simp;omega) fun h' eb=>⟨rfl,I.turned (t':=s.toks) (fun b o hb e=>eb b o hb e) f0 f1 f3 f4 f5⟩
 self:=fun _ _ _ _ _ st h=>wpAny_pyIter_tupleiter st h
theorem ziC{P:Program}{K:PySem.W.Frag}(it:Addr)(lo:Int)(n:Nat):Turn P w K tg (Itr lo n) [it] it (fun i h=>IsRangeIter h it (lo+(i:Nat)*1) ((n:Int)-(i:Nat)) 1) where
 mem:=by simp
 obj:=fun i h st b hb=>by
  have e:b=it:=by simpa using hb
  subst e
  exact ⟨_,st,fun v z=>by
   have z':Data.fields _=Data.cell v:=z
   cases z'⟩
 keep:=fun i h h' st k=>k it (by simp) _ st
 item:=by
  intro X hP hw hK hc i pins s σ H E I hf st hg;subst hP hw hK;obtain ⟨f0,f1,f2,f3,f4,f5⟩:=hf it (by simp);have W:=Walks.range (prog:=X.prog) (w:=X.w) (I.ok.hd hc) it lo 1 n;refine W.item i s _ _ hg st fun v h' tk hv st' kk=>?_
  obtain ⟨t,rfl⟩:=hv;have I1:Inv X pins σ H { s with heap:=h',toks:=tk }:=I.turned (fun b o hb e=>kk b o (by simpa using hb) e) f0 f1 f3 f4 f5;refine ⟨_,rfl,zkL (s:={ s with heap:=h',toks:=tk }) (n:="range_iterator") st' rfl rfl (by decide) ⟨.int (lo+i),H,I1,⟨t,?_⟩,⟨rfl,rfl⟩,st',fun b hb=>(hf b hb).1⟩⟩;rw [Int.mul_one]
 done:=by
  intro X hP hw hK hc i pins s σ H E I hf st hg;subst hP hw hK;obtain ⟨f0,f1,f2,f3,f4,f5⟩:=hf it (by simp);exact wpAny_pyNext_range_end (I.ok.hd hc) st (by have:n<=i:=hg;omega) fun h' eb=>⟨rfl,I.turned (t':=s.toks) (fun b o hb e=>eb b o hb e) f0 f1 f3 f4 f5⟩
 self:=fun _ _ _ _ _ st h=>wpAny_pyIter_rangeiter st h
section
variable{X:Cx}{tg:Expr}
noncomputable def zuh(K:PySem.W.Frag)(tl:TE):TI:=fun σ H R=>tl σ H fun x H1=>∃a,x=.ref a/\(∃xs,SqL K H1 a xs)/\R (Itl K a) H1
noncomputable def zw2(K:PySem.W.Frag)(tl:TE):TI:=fun σ H R=>tl σ H fun x H1=>∃a,x=.ref a/\(∃xs,SqT K H1 a xs)/\R (Itt K a) H1
def zo8(hl:PE X l tl):PI X tg l (zuh X.K tl):=by
 intro pins s σ H R I h;refine thn (hl pins s σ H _ I h) fun v s1 ⟨x,H1,I1,r1,q1⟩=>?_
 obtain ⟨a,e,⟨xs,hq⟩,q⟩:=q1;subst e;cases r1;obtain ⟨its,rv,p,hz⟩:=I1.list hq;refine ycC p.isList ?_;refine ⟨s1.heap.objs.size,[s1.heap.objs.size],_,_,H1,rfl,I1.kept (t':=s1.toks) fun b o e=>yae _ e,zji a _,⟨_,yap _ rfl,rfl,rfl⟩,fun b hb=>?_,q⟩
 have e:b=s1.heap.objs.size:=by simpa using hb
 subst e;exact I1.fpOk (yai _) (I1.hok.fresh (yai _))
def zrs(hl:PE X l tl):PI X tg l (zw2 X.K tl):=by
 intro pins s σ H R I h;refine thn (hl pins s σ H _ I h) fun v s1 ⟨x,H1,I1,r1,q1⟩=>?_
 obtain ⟨a,e,⟨xs,hq⟩,q⟩:=q1;subst e;cases r1;obtain ⟨its,rv,p,hz⟩:=I1.tuple hq;refine ybZ (show s1.heap.IsTuple a its.toArray from p) ?_;refine ⟨s1.heap.objs.size,[s1.heap.objs.size],_,_,H1,rfl,I1.kept (t':=s1.toks) fun b o e=>yae _ e,ziB a _,⟨_,yap _ rfl,rfl,rfl⟩,fun b hb=>?_,q⟩
 have e:b=s1.heap.objs.size:=by simpa using hb
 subst e;exact I1.fpOk (yai _) (I1.hok.fresh (yai _))
theorem zlY{pins:Z3}{σ:St}{H:Hp}{s:Shared}{R:It->Hp->Prop}{E:Z5}{lo hi:Int}{t u v:Tok}{tk:Nat}(I:Inv X pins σ H s)(h1:-(2 ^ 62)<=lo)(h2:lo<2 ^ 62)(h3:-(2 ^ 62)<=hi)(h4:hi<2 ^ 62)
  (q:R (Itr lo (hi-lo).toNat) H):wpAny (model X.prog X.w) X.A (pyIter (.ref s.heap.objs.size)) (PIE X pins σ tg R) E { s with heap:=s.heap.push { cls:=.type "range",data:=.fields #[.int lo t,.int hi u,.int 1 v] },toks:=tk }:=by
 refine wpAny_pyIter_range (IsRange.new ..) (small_one h1 h2 h3 h4) ?_;have I1:Inv X pins σ H { s with heap:=s.heap.push { cls:=.type "range",data:=.fields #[.int lo t,.int hi u,.int 1 v] },toks:=tk }:=I.kept fun b o e=>yae _ e
 refine ⟨(s.heap.push { cls:=.type "range",data:=.fields #[.int lo t,.int hi u,.int 1 v] }).objs.size,[(s.heap.push { cls:=.type "range",data:=.fields #[.int lo t,.int hi u,.int 1 v] }).objs.size],_,_,H,rfl,
  I1.kept (t':=tk) fun b o e=>yae _ e,ziC _ lo (hi-lo).toNat,?_,fun b hb=>?_,q⟩
 ·have e1:lo+((0:Nat):Int)*1=lo:=by simp
  have e2:(((hi-lo).toNat:Nat):Int)-((0:Nat):Int)=Builtin.Range.rangeSize lo hi 1:=by rw [rangeSize_one];split<;>omega
  show IsRangeIter _ _ (lo+((0:Nat):Int)*1) ((((hi-lo).toNat:Nat):Int)-((0:Nat):Int)) 1;rw [e1,e2];exact yap _ rfl
 ·have e:b=(s.heap.push { cls:=.type "range",data:=.fields #[.int lo t,.int hi u,.int 1 v] }).objs.size:=by simpa using hb
  subst e;exact I1.fpOk (yai _) (I1.hok.fresh (yai _))
noncomputable def zug(ta:TA):TI:=fun σ H R=>ta σ H fun vs H1=>∃j:Int,vs=[.int j]/\-(2 ^ 62)<=j/\j<2 ^ 62/\R (Itr 0 j.toNat) H1
theorem zj9{a:Expr}{ta:TA}{p pos:Pos}(hg:Gl X "range")(hm:X.mg "range" = none)(ha:PA X [a] ta)(hs:starEach [a] X.env=[(false,eval a X.env)]:=by rfl):PI X tg (.Call (.Name "range" p) [a] [] pos) (zug ta):=by
 intro pins s σ H R I h;refine Call_ (zgr I hg hm boot_range (ybA (thn (ha pos pins s σ H _ I h) fun us s1 ⟨vs,H1,I1,r1,q1⟩=>?_) hs rfl));obtain ⟨j,e,q1,q2,q⟩:=q1;subst e
 cases r1 with
 | cons r rr =>
  cases rr;obtain ⟨t,rfl⟩:=r;exact call_range_1 (zlY I1 (by omega) (by omega) q1 q2 (by simpa using q))
noncomputable def zwr(wi:TI)(g:TG)(tb:TS):TS:=fun D σ H=>wi σ H fun J H1=>∃W:Nat->Nat->St->Hp->Prop,(∃m,W 0 m σ H1)/\∀i m σ H,W i m σ H →
 (J.stop i H/\D.nx σ H)\/(J.go i H/\∃N:St->Hp->Prop,(∀σ' H',N σ' H'->∃m',m'<m/\W (i+1) m' σ' H')/\∀x H',J.yld i H x H'->g x σ H' fun σ2 H2=>tb { D with nx:=N,ct:=N,bk:=D.nx } σ2 H2)
noncomputable def zgh(fp:List Addr)(h:Heap):List (Addr×Obj):=fp.filterMap fun b=>(h.get? b).map fun o=>(b,o)
def zcW(hb:b∈fp)(e:h.get? b=some o):(b,o)∈zgh fp h:=ybi.mpr ⟨b,hb,by rw [e];rfl⟩
def zki(hp:p∈zgh fp h):p.1∈fp/\h.get? p.1=some p.2:=by
 obtain ⟨b,hb,e⟩:=ybi.mp hp
 cases q:h.get? b with
 | none=>rw [q] at e;cases e
 | some o =>
  rw [q] at e;have e':(b,o)=p:=Option.some.inj e;subst e';exact ⟨hb,q⟩
def Inv.pinned(I:Inv X pins σ H s)(hf:∀b∈fp,zlu X pins H b)(ho:∀b∈fp,∃o,s.heap.get? b=some o/\∀v,o.data≠.cell v):Inv X (pins++zgh fp s.heap) σ H s :=
 I.pins_of fun p hp=>(ya3.mp hp).elim (fun z=>I.pin p (yaG _ z)) fun z=>by
  obtain ⟨hb,e⟩:=zki z;obtain ⟨f0,f1,f2,_⟩:=hf p.1 hb;obtain ⟨o,e',d⟩:=ho p.1 hb;rw [e] at e';cases e';exact ⟨e,f0,f1,f2,d⟩
def Inv.unpinned(I:Inv X (pins++pl) σ H s):Inv X pins σ H s:=I.pins_of fun p hp=>I.pin p (yaG _ (yco _ hp))
def zrq{iter:Expr}{body:List Stmt}{wi:TI}{g:TG}{tb:TS}{pos:Pos}(hp:PassesOwn (model X.prog X.w) X.A X.env X.xe)(hc:X.calm=true)(hi:PI X tg iter wi)(hg:PG X tg g)(hb:PSs X body tb)
  (hs:∀x,foldedSetIterable iter X.env x=pure x:=by intro _;rfl):PS X (.For tg iter body [] pos) (zwr wi g tb):=by
 intro pins s σ H D I h;refine wpAny_For (thn (hi pins s σ H _ I h) fun v s1 h1=>thn h1 fun itv s2 h2=>?_) hs;obtain ⟨it,fp,tn,J,H2,e,I2,T,st2,f2,W,⟨m0,w0⟩,zn7⟩:=h2;subst e;have stat:∀{H':Hp},(∀b∈fp,H' b=none)->∀b∈fp,zlu X pins H' b:=fun hn b hb=>⟨hn b hb,(f2 b hb).2⟩
 refine codeAny_forLoop_any (fun n s'=>∃i σ' H',Inv X pins σ' H' s'/\tn i s'.heap/\(∀b∈fp,H' b=none)/\W i n σ' H') ?_ m0 ⟨0,σ,H2,I2,st2,fun b hb=>(f2 b hb).1,w0⟩;rintro n s3 ⟨i,σ3,H3,I3,st3,fr3,w3⟩
 rcases zn7 i n σ3 H3 w3 with ⟨stop,qn⟩ | ⟨go,N,hN,step⟩
 ·refine yb0 hp (thn (T.done X rfl rfl rfl hc i pins s3 σ3 H3 X.xe I3 (stat fr3) st3 stop) fun r s4 ⟨hr,I4⟩=>?_);subst hr;exact ycr ⟨σ3,H3,I4,qn⟩
 ·refine yb0 hp (thn (T.item X rfl rfl rfl hc i pins s3 σ3 H3 X.xe I3 (stat fr3) st3 go) fun r s4 ⟨u,hr,h4⟩=>?_);subst hr;refine yb0 hp (thn h4 fun _ s5 ⟨x,H5,I5,r5,y5,st5,fr5⟩=>?_);have I5':=I5.pinned (stat fr5) (T.obj _ _ st5);refine yb0 hp (thn (hg _ s5 σ3 H5 x u _ I5' r5 (step x H5 y5)) fun _ s6 ⟨σ6,H6,I6,q6⟩=>?_);refine yb0 hp (thn (hb _ s6 σ6 H6 _ I6 q6) fun f s7 q7=>?_)
  have again:∀{σ7:St} {H7:Hp},Inv X (pins++zgh fp s5.heap) σ7 H7 s7->N σ7 H7->∃m,m<n/\∃i σ' H',Inv X pins σ' H' s7/\tn i s7.heap/\(∀b∈fp,H' b=none)/\W i m σ' H':=fun {σ7 H7} I7 n7=>by
   obtain ⟨m',hm,w7⟩:=hN σ7 H7 n7;refine ⟨m',hm,i+1,σ7,H7,I7.unpinned,T.keep _ _ _ st5 fun b hb o e=>(I7.pin (b,o) (yaG _ (yaG _ (zcW hb e)))).1,fun b hb=>?_,w7⟩;obtain ⟨o,e,d⟩:=T.obj _ _ st5 b hb;exact (I7.pin (b,o) (yaG _ (yaG _ (zcW hb e)))).2.1
  cases f with
  | next=>obtain ⟨σ7,H7,I7,n7⟩:=q7;exact again I7 n7
  | cont=>obtain ⟨σ7,H7,I7,n7⟩:=q7;exact again I7 n7
  | brk=>obtain ⟨σ7,H7,I7,q7⟩:=q7;exact ⟨σ7,H7,I7.unpinned,q7⟩
  | ret v=>obtain ⟨x7,σ7,H7,I7,r7,q7⟩:=q7;exact ⟨x7,σ7,H7,I7.unpinned,r7,q7⟩
end
noncomputable abbrev R2:=V->V->Hp->VK->Prop
noncomputable def OpR(X:Cx)(f:Value->Value->Sem Value)(r:R2):Prop :=
 ∀(pins:Z3) (s:Shared) (σ:St) (H:Hp) (x y:V) (v u:Value) (Q:VK),Inv X pins σ H s->zaW x v->zaW y u->r x y H Q →
  wpAny (model X.prog X.w) X.A (f v u) (EP X pins σ Q) X.xe s
noncomputable def zdt(X:Cx)(f:Value)(r:List V->Hp->VK->Prop):Prop :=
 ∀(pins:Z3) (s:Shared) (σ:St) (H:Hp) (xs:List V) (us:List Value) (Q:VK),Inv X pins σ H s->Vals xs us->r xs H Q →
  wpAny (model X.prog X.w) X.A (call f us) (EP X pins σ Q) X.xe s
noncomputable def tOp(r:R2)(ta tb:TE):TE:=fun σ H Q=>ta σ H fun x H1=>tb σ H1 fun y H2=>r x y H2 Q
noncomputable def rI(C:Int->Int->Prop)(g:Int->Int->V):R2:=fun x y H Q=>∃i j,x=.int i/\y=.int j/\C i j/\Q (g i j) H
noncomputable def rI0(g:Int->Int->V):R2:=fun x y H Q=>∃i j,x=.int i/\y=.int j/\Q (g i j) H
section
variable{X:Cx}{a b c:Expr}{ta tb tc:TE}{pos:Pos}
def zuw(ha:PE X a ta)(hb:PE X b tb){pins:Z3}{s:Shared}{σ:St}{H:Hp}{R:V->V->Hp->Prop}(I:Inv X pins σ H s)
  (h:ta σ H fun x H1=>tb σ H1 fun y H2=>R x y H2) {Q:Z5} {f:Value->Value->Sem Value}
  (hf:∀v u s2 x y H2,Inv X pins σ H2 s2->zaW x v->zaW y u->R x y H2->wpAny (model X.prog X.w) X.A (f v u) Q X.xe s2) :
  wpAny (model X.prog X.w) X.A (eval a X.env) (fun v s₁=>wpAny (model X.prog X.w) X.A (eval b X.env) (fun u s₂=>wpAny (model X.prog X.w) X.A (f v u) Q X.xe s₂) X.xe s₁) X.xe s:=by
 refine thn (ha pins s σ H _ I h) fun v s1 ⟨x,H1,I1,r1,q1⟩=>?_
 refine thn (hb pins s1 σ H1 _ I1 q1) fun u s2 ⟨y,H2,I2,r2,q2⟩=>?_
 exact hf v u s2 x y H2 I2 r1 r2 q2
def ztN(ho:OpR X (binaryOp op) r)(ha:PE X a ta)(hb:PE X b tb):PE X (.BinOp a op b pos) (tOp r ta tb):=by
 intro pins s σ H Q I h;exact wpAny_BinOp (zuw ha hb I h fun v u s2 x y H2 I2 rx ry q=>ho pins s2 σ H2 x y v u Q I2 rx ry q)
def opI{f:Value->Value->Sem Value}{C:Int->Int->Prop}{g:Int->Int->Int}
  (rule:∀(i j:Int) (t u:Tok) (s:Shared) (Q:Z5) (E:Z5),C i j->Q (.int (g i j) s.toks) { s with toks:=s.toks+1 }->wpAny (model X.prog X.w) X.A (f (.int i t) (.int j u)) Q E s) :
  OpR X f (rI C fun i j=>.int (g i j)):=by
 intro pins s σ H x y v u Q I rx ry h;obtain ⟨i,j,rfl,rfl,hc,q⟩:=h;obtain ⟨t,rfl⟩:=rx;obtain ⟨t',rfl⟩:=ry;exact rule i j t t' s _ _ hc ⟨.int (g i j),H,I.tok _,⟨_,rfl⟩,q⟩
def zva{f:Value->Value->Sem Value}{g:Int->Int->Int}
  (rule:∀(i j:Int) (t u:Tok) (s:Shared) (Q:Z5) (E:Z5),Q (.int (g i j) s.toks) { s with toks:=s.toks+1 }->wpAny (model X.prog X.w) X.A (f (.int i t) (.int j u)) Q E s) :
  OpR X f (rI0 fun i j=>.int (g i j)):=by
 intro pins s σ H x y v u Q I rx ry h;obtain ⟨i,j,rfl,rfl,q⟩:=h;obtain ⟨t,rfl⟩:=rx;obtain ⟨t',rfl⟩:=ry;exact rule i j t t' s _ _ ⟨.int (g i j),H,I.tok _,⟨_,rfl⟩,q⟩
def zsY{f:Value->Value->Sem Value}{g:Int->Int->Bool}
  (rule:∀(i j:Int) (t u:Tok) (s:Shared) (Q:Z5) (E:Z5),Q (.bool (g i j)) s->wpAny (model X.prog X.w) X.A (f (.int i t) (.int j u)) Q E s) :
  OpR X f (rI0 fun i j=>.bl (g i j)):=by
 intro pins s σ H x y v u Q I rx ry h;obtain ⟨i,j,rfl,rfl,q⟩:=h;obtain ⟨t,rfl⟩:=rx;obtain ⟨t',rfl⟩:=ry;exact rule i j t t' s _ _ ⟨.bl (g i j),H,I,rfl,q⟩
noncomputable def zxf(i j:Int):Prop:=0<j/\j<1073741824
noncomputable def zuF(i j:Int):Prop:=(-(2 ^ 64)<i/\i<2 ^ 64)\/(-(2 ^ 64)<j/\j<2 ^ 64)
def zuF.ok(h:zuF i j):IntMulOk i j:=by
 rcases h with ⟨h1,h2⟩ | ⟨h1,h2⟩
 ·exact .of_left (intBits_le_64 h1 h2)
 ·exact .of_right (intBits_le_64 h1 h2)
def zrJ:OpR X (binaryOp .Add) (rI0 fun i j=>.int (i+j)):=zva fun _ _ _ _ _ _ _ q=>add_int q
def zrD:OpR X (binaryOp .Sub) (rI0 fun i j=>.int (i-j)):=zva fun _ _ _ _ _ _ _ q=>sub_int q
def zrE:OpR X (binaryOp .Mult) (rI zuF fun i j=>.int (i*j)):=opI fun _ _ _ _ _ _ _ hc q=>mul_int q hc.ok
theorem zph:OpR X (binaryOp .FloorDiv) (rI zxf fun i j=>.int (i / j)):=opI fun i j _ _ _ _ _ hc q=>by
 have h1:(0:Int)<j:=hc.1;have h2:j<1073741824:=hc.2;exact floordiv_int (by omega) (by rw [Int.fdiv_eq_ediv_of_nonneg i (by omega)];exact q) (.inl (PyProof.noPylong_small (by omega)))
theorem zrF:OpR X (binaryOp .Mod) (rI (fun _ j=>0<j) fun i j=>.int (i % j)):=opI fun i j _ _ _ _ _ hc q=>by
 have h1:(0:Int)<j:=hc;exact mod_int' (by omega) (by rw [Int.fmod_eq_emod_of_nonneg i (by omega)];exact q)
end
section
variable{X:Cx}{a b c:Expr}{ta tb tc:TE}{pos:Pos}
def zsq(I:Inv X pins σ H s)(q:Q (.bl k) H)(e:k=k'):EP X pins σ Q (.bool k') s:=by
 subst e;exact ⟨.bl k,H,I,rfl,q⟩
def ztT:OpR X (compareOp .Lt) (rI0 fun i j=>.bl (decide (i<j))):=zsY fun _ _ _ _ _ _ _ q=>lt_int q
def ztU:OpR X (compareOp .LtE) (rI0 fun i j=>.bl (decide (i<=j))):=zsY fun _ _ _ _ _ _ _ q=>le_int q
def ztV:OpR X (compareOp .Gt) (rI0 fun i j=>.bl (decide (j<i))):=zsY fun _ _ _ _ _ _ _ q=>gt_int q
def ztW:OpR X (compareOp .GtE) (rI0 fun i j=>.bl (decide (j<=i))):=zsY fun _ _ _ _ _ _ _ q=>ge_int q
def zrH:OpR X (compareOp .Is) (fun x y H Q=>y=.non/\Q (.bl (decide (x=.non))) H):=by
 intro pins s σ H x y v u Q I rx ry h;obtain ⟨rfl,q⟩:=h;cases ry;refine is_none_gen (zsq I q ?_)
 cases x<;>first
  | (cases rx;rfl)
  | (obtain ⟨t,rfl⟩:=rx;rfl)
def zpc(ho:OpR X (compareOp op) r)(ha:PE X a ta)(hb:PE X b tb)(hm:behindInMarks op b=false):PE X (.Compare a [op] [b] pos) (tOp r ta tb):=by
 intro pins s σ H Q I h;exact wpAny_Compare1 (zuw ha hb I h fun v u s2 x y H2 I2 rx ry q=>ho pins s2 σ H2 x y v u Q I2 rx ry q) hm
noncomputable def zoh(t:TE):TT:=fun σ H Q=>t σ H fun x H'=>∃k,x=.bl k/\Q k H'
def zoZ(ho:OpR X (compareOp op) r)(ha:PE X a ta)(hb:PE X b tb)(hm:behindInMarks op b=false):PT X (.Compare a [op] [b] pos) (zoh (tOp r ta tb)):=by
 intro pins s σ H Q I h
 refine wpAny_isTrue_Compare1 (thn (ha pins s σ H _ I h) fun v s1 ⟨x,H1,I1,r1,q1⟩=>thn (hb pins s1 σ H1 _ I1 q1) fun u s2 ⟨y,H2,I2,r2,q2⟩ =>
  thn (ho pins s2 σ H2 x y v u _ I2 r1 r2 q2) fun c s3 ⟨z,H3,I3,r3,k,e,q3⟩=>?_) hm
 subst e;cases r3;exact yaZ ⟨H3,I3,q3⟩
noncomputable def zjt(r r':R2)(ta tb tc:TE):TE:=fun σ H Q=>ta σ H fun x H1=>tb σ H1 fun y H2=>r x y H2 fun z H3=>∃k,z=.bl k ∧
 (if k=true then tc σ H3 fun w' H4=>r' y w' H4 Q else Q (.bl false) H3)
def zme{op op':CmpOp}{r r':R2}(ho:OpR X (compareOp op) r)(ho':OpR X (compareOp op') r')(ha:PE X a ta)(hb:PE X b tb)(hc:PE X c tc)
  (hm:lastMarks [op,op'] [b,c]=false:=by with_unfolding_all rfl):PE X (.Compare a [op,op'] [b,c] pos) (zjt r r' ta tb tc):=by
 intro pins s σ H Q I h
 refine Compare_chain (thn (ha pins s σ H _ I h) fun v s1 ⟨x,H1,I1,r1,q1⟩=>chain_link (thn (hb pins s1 σ H1 _ I1 q1) fun u s2 ⟨y,H2,I2,r2,q2⟩ =>
  thn (ho pins s2 σ H2 x y v u _ I2 r1 r2 q2) fun d s3 ⟨z,H3,I3,r3,k,e,q3⟩=>?_)) hm
 subst e;cases r3;refine yaZ ?_
 cases k with
 | false=>exact ite_ff ⟨.bl false,H3,I3,rfl,q3⟩
 | true=>exact ite_tt (chain_last (thn (hc pins s3 σ H3 _ I3 q3) fun w' s4 ⟨z',H4,I4,r4,q4⟩=>ho' pins s4 σ H4 y z' u w' Q I4 r2 r4 q4))
def zl2{op op':CmpOp}{r r':R2}(ho:OpR X (compareOp op) r)(ho':OpR X (compareOp op') r')(ha:PE X a ta)(hb:PE X b tb)(hc:PE X c tc)
  (hm:lastMarks [op,op'] [b,c]=false:=by with_unfolding_all rfl):PT X (.Compare a [op,op'] [b,c] pos) (zoh (zjt r r' ta tb tc)):=by
 intro pins s σ H Q I h
 refine isTrue_chain (thn (ha pins s σ H _ I h) fun v s1 ⟨x,H1,I1,r1,q1⟩=>test_link (thn (hb pins s1 σ H1 _ I1 q1) fun u s2 ⟨y,H2,I2,r2,q2⟩ =>
  thn (ho pins s2 σ H2 x y v u _ I2 r1 r2 q2) fun d s3 ⟨z,H3,I3,r3,k,e,q3⟩=>?_)) hm
 subst e;cases r3;refine yaZ ?_
 cases k with
 | false =>
  obtain ⟨k',e',q'⟩:=q3;cases e';exact ite_ff ⟨H3,I3,q'⟩
 | true =>
  refine ite_tt (test_last (thn (hc pins s3 σ H3 _ I3 q3) fun w' s4 ⟨z',H4,I4,r4,q4⟩=>thn (ho' pins s4 σ H4 y z' u w' _ I4 r2 r4 q4) fun d' s5 ⟨z2,H5,I5,r5,k2,e2,q5⟩=>?_));subst e2;cases r5;exact yaZ ⟨H5,I5,q5⟩
def zia:(sizeLine:Nat)<2 ^ 63:=by rw [ycL];decide
def ziP:OpR X (binaryOp .Add) (fun x y H Q=>∃i j,x=.str i/\y=.str j/\i.length+j.length<=sizeLine/\Q (.str (i++j)) H):=by
 intro pins s σ H x y v u Q I rx ry h;obtain ⟨i,j,rfl,rfl,hz,q⟩:=h;obtain ⟨t,rfl⟩:=rx;obtain ⟨t',rfl⟩:=ry;exact add_str (fun t' tk=>⟨.str (i++j),H,I.tok _,⟨_,rfl⟩,q⟩) hz
def zfW(r:Vals [x] us):∃u,us=[u]/\zaW x u:=by
 cases r with
 | cons r1 r2=>cases r2;exact ⟨_,rfl,r1⟩
end
structure ObjM(h:Heap)(x dx C:Addr)(mA:Z6):Prop where
 obj:h.get? x=some (PySem.W.instObj C dx)
 ns:h.Ns1 dx mA
 ne:dx≠x
def zkr{h:Heap}{mA:Z6}(n:h.Ns1 dx mA):∃od,h.get? dx=some od/\∀name,PySem.W.lookIn name od=some (mA name):=by
 obtain ⟨o,es,ep,ho,hd,hk,_,hm⟩:=n;refine ⟨o,ho,fun name=>?_⟩;have e:=hm name;unfold nsFind findBy at e;rw [<-Array.find?_toList] at e;unfold PySem.W.lookIn;rw [hd];dsimp only;split
 ·rename_i y q;rw [q] at e;exact congrArg some e
 ·rename_i q;rw [q] at e
  have a:es.toList.any (·.refKey)=false:=by
   rw [List.any_eq_false];intro y hy;obtain ⟨z,t,hkey⟩:=hk y (ya0.mp hy);simp [DictEntry.refKey,hkey]
  have a':¬ es.toList.any (·.refKey)=true:=by rw [a];exact ya9
  rw [if_neg a'];exact congrArg some e
def ObjM.look(I:ObjM h x dx C mA):∃od,PySem.W.InstAt h x (PySem.W.instObj C dx) C (some od)/\∀name,PySem.W.lookIn name od=some (mA name) :=
 let ⟨od,ho,hl⟩:=zkr I.ns
 ⟨od,⟨I.obj,rfl,rfl,ho⟩,hl⟩
section
variable{prog:Program}{w:World}{A:Around}{E:Z5}{s:Shared}{K:PySem.W.Frag}{x dx C f:Addr}{mA:Z6}{name:Str}{v:Value}
def zpL{expr:Bool}{Q:Z5}(X:K.In s.heap)(I:ObjM s.heap x dx C mA)(hg:PySem.W.plainGet K C name=true)(hh:PySem.W.hasDictIn K C=true)
  (ha:PySem.W.findIn K (.ref C) name=some none) (hv:mA name=some v) (hv':PySem.W.handedIn v=true) (h:Q v { s with toks:=s.toks+1 }) :
  wpAny (model prog w) A (getAttr (.ref x) name expr) Q E s:=by
 obtain ⟨od,J,hl⟩:=I.look;exact PySem.W.get_value X J (ycs hg).1 (PySem.W.findObj_own hh ha rfl (by rw [hl,hv])) hv' h
def zmC(X:K.In s.heap)(I:ObjM s.heap x dx C mA)(hg:PySem.W.plainGet K C name=true)
  (hf:PySem.W.findIn K (.ref C) name=some (some (.ref f))) (ht:PySem.W.isFn K (.ref f)=true) (hv:mA name=none) (h:Q (.ref f,[.ref x]) s) :
  wpAny (model prog w) A (getMethod (.ref x) name pl) Q E s:=by
 obtain ⟨od,J,hl⟩:=I.look;exact PySem.W.method_fn X J (ycs hg).1 (ycs hg).2 hf (ybH.mp ht) (by show (PySem.W.lookIn name od).map (·.isSome)=some false;rw [hl,hv];rfl) h
theorem zoF{ns:List Str}{Q:Unit->Shared->Prop}(X:K.In s.heap)(I:ObjM s.heap x dx C mA)
  (hs:PySem.W.findIn K (.ref C) "__setattr__" = some (some (.builtin "object.__setattr__"))) (hp:PySem.W.plainOver K C=true) (ht:PySem.W.takerIn K C name=some none) (hh:PySem.W.hasDictIn K C=true)
  (hw:PySem.Within mA ns) (hsz:ns.length<=sizeLine)
  (h:∀h',ObjM h' x dx C (fun y=>if y=name then some v else mA y)->Heap.SameBut dx s.heap h'->Q () { s with heap:=h',toks:=s.toks+2 }) :
  wpAny (model prog w) A (setAttr (.ref x) name v) Q E s:=by
 obtain ⟨od,J,hl⟩:=I.look;refine PySem.W.set_plain X J hs (PySem.W.osa_open (s:={ s with toks:=s.toks+1 }) (r:=none) X J hp ht fun b=>?_);obtain ⟨cd,hc,hd'⟩:=PySem.W.any_some hh;have hx:s.heap.get? x=some ⟨.ref C,some dx,.plain,#[]⟩:=I.obj;refine yab (yal (yab (yab (wpAny_loadPart hx (yab (PySem.W.Looks.here (s:={ s with toks:=s.toks+1 }) (PySem.W.looks_clsIn X hc) ?_))))));rw [hd'];refine yal (a:=some dx) (yab (yal (yab ?_)));refine wpAny_nsSet1 (s:={ s with toks:=s.toks+1 }) I.ns fun h' hn2 hs2=>?_
 obtain ⟨oD,esD,epD,hoD,hdD,hcD⟩:=hn2.count (PySem.Within.cons name v hw);refine yab (wpAny_lookBehind hoD (by rw [hdD];exact pastItsLine_dict (yax hcD (by rw [yaf];omega))) ?_);exact yal (h _ ⟨(hs2.2 _ (Ne.symm I.ne)).trans I.obj,hn2,I.ne⟩ hs2)
def zmr{R:Result->Shared->Prop}{vs:List Value}{kw:List (Str×Value)}(X:K.In s.heap)(hm:PySem.W.makesIn K C=true)
  (hi:PySem.W.findIn K (.ref C) "__init__" = some (some (.ref f))) (hf:PySem.W.typeIn K (.ref f)=some (.type "function"))
  (h:codeAny (model prog w) (A.under (.builtin "type.__call__" ⟨.ref C::vs,kw⟩)) (.call (.ref f) ⟨.ref (s.heap.objs.size+1)::vs,kw⟩) (PySem.W.InitBack (s.heap.objs.size+1) R)
   { s with heap:=(s.heap.push PySem.W.emptyDict).push (PySem.W.instObj C s.heap.objs.size) }) :
  codeAny (model prog w) A (.call (.ref C) ⟨vs,kw⟩) R s:=by
 obtain ⟨hh,g,d,t,os⟩:=s;exact PySem.W.make_core (PySem.W.makes_of X hm) (PySem.W.looks_findIn X hi) (fun self=>PySem.W.bind_fn X self hf) (.inl rfl) h
end
noncomputable def zc7(f:Str)(v:V):List (Str×V)->List (Str×V)
 | []=>[(f,v)]
 | (g,x)::r=>if g=f then (g,v)::r else (g,x)::zc7 f v r
theorem zeg(f g:Str)(v:V):∀fs:List (Str×V),(zc7 f v fs).lookup g=if g=f then some v else fs.lookup g
 | []=>by
  show List.lookup g [(f,v)]=_
  by_cases h:g=f
  ·have hb:(g == f)=true:=ybH.mpr h;simp only [List.lookup,hb,if_pos h]
  ·have hb:(g == f)=false:=ya6.mpr h;simp only [List.lookup,hb,if_neg h]
 | (k,x)::r=>by
  have ih:=zeg f g v r;rw [show zc7 f v ((k,x)::r)=(if k=f then (k,v)::r else (k,x)::zc7 f v r) from rfl]
  by_cases hk:k=f
  ·rw [if_pos hk]
   by_cases h:g=k
   ·have hb:(g == k)=true:=ybH.mpr h;simp only [List.lookup,hb,if_pos (h.trans hk)]
   ·have hb:(g == k)=false:=ya6.mpr h;simp only [List.lookup,hb,if_neg (fun e:g=f=>h (e.trans hk.symm))]
  ·rw [if_neg hk]
   by_cases h:g=k
   ·have hb:(g == k)=true:=ybH.mpr h;simp only [List.lookup,hb,if_neg (fun e:g=f=>hk (h.symm.trans e))]
   ·have hb:(g == k)=false:=ya6.mpr h;simp only [List.lookup,hb];exact ih
theorem zei(f:Str)(v:V):∀fs:List (Str×V),f∈(zc7 f v fs).map (·.1)/\∀g,g∈fs.map (·.1)->g∈(zc7 f v fs).map (·.1)
 | []=>⟨by simp [zc7],fun g h=>by simp at h⟩
 | (k,x)::r=>by
  obtain ⟨i1,i2⟩:=zei f v r;rw [show zc7 f v ((k,x)::r)=(if k=f then (k,v)::r else (k,x)::zc7 f v r) from rfl]
  by_cases hk:k=f
  ·rw [if_pos hk];subst hk;exact ⟨by simp,fun g h=>by simpa using h⟩
  ·rw [if_neg hk];refine ⟨?_,fun g h=>?_⟩
   ·rw [yaw];exact yak _ i1
   ·rw [yaw] at h ⊢
    rcases yat.mp h with e | e
    ·exact yat.mpr (.inl e)
    ·exact yak _ (i2 g e)
theorem zeh(f:Str)(v:V):∀fs:List (Str×V),(zc7 f v fs).length<=fs.length+1
 | []=>by simp [zc7]
 | (k,x)::r=>by
  have ih:=zeh f v r;rw [show zc7 f v ((k,x)::r)=(if k=f then (k,v)::r else (k,x)::zc7 f v r) from rfl]
  by_cases hk:k=f
  ·rw [if_pos hk,yaf,yaf];omega
  ·rw [if_neg hk,yaf,yaf];omega
def zfi.some_of(r:zfi (some v) o):∃u,o=some u/\zaW v u:=by
 cases o with
 | none=>exact (show False from r).elim
 | some u=>exact ⟨u,rfl,r⟩
def zfi.none_of(r:zfi none o):o=none:=by
 cases o with
 | none=>rfl
 | some u=>exact (show False from r).elim
def zkK(r:zaW v u):PySem.W.handedIn u=true:=by
 cases v with
 | non=>cases (show u=Value.none from r);rfl
 | bl b=>cases (show u=Value.bool b from r);rfl
 | int i=>obtain ⟨t,e⟩:=(show ∃t,u=Value.int i t from r);cases e;rfl
 | str x=>obtain ⟨t,e⟩:=(show ∃t,u=Value.str x t from r);cases e;rfl
 | byt b=>obtain ⟨t,e⟩:=(show ∃t,u=Value.bytes b t from r);cases e;rfl
 | flt b=>obtain ⟨t,e⟩:=(show ∃t,u=Value.float b t from r);cases e;rfl
 | ref a=>cases (show u=Value.ref a from r);rfl
 | ty n=>cases (show u=Value.type n from r);rfl
section
variable{P:Program}{w:World}{H H':Hp}{h h':Heap}{a C dx:Addr}{fs fs':List (Str×V)}
def zfy(hok:HOk P w H h)(e:H a=some (.ins C dx fs)):∃mA,ObjM h a dx C mA/\(∀f,zfi (fs.lookup f) (mA f))/\PySem.Within mA (fs.map (·.1))/\fs.length<=1000/\H dx=some (.own a):=by
 obtain ⟨d,z,ne,ob,mA,n,r,q⟩:=(show zaT P w H h a (.ins C dx fs) from hok a _ e);exact ⟨mA,⟨ob,n,ne⟩,r,q,z,d⟩
end
structure Cls(K:PySem.W.Frag)(C:Addr):Prop where
 pg:PySem.W.plainGet K C Str.empty=true
 hd:PySem.W.hasDictIn K C=true
 po:PySem.W.plainOver K C=true
 sa:PySem.W.findIn K (.ref C) "__setattr__" = some (some (.builtin "object.__setattr__"))
def Cls.get{K:PySem.W.Frag}(c:Cls K C)(f:Str):PySem.W.plainGet K C f=true:=c.pg
noncomputable def zcj(K:PySem.W.Frag)(C:Addr)(f:Str):Prop:=PySem.W.findIn K (.ref C) f=some none
def zcj.taker{K:PySem.W.Frag}(n:zcj K C f):PySem.W.takerIn K C f=some none:=by
 unfold PySem.W.takerIn;rw [show PySem.W.findIn K (.ref C) f=some none from n];rfl
structure Meth(K:PySem.W.Frag)(C:Addr)(m:Str)(f:Addr):Prop where
 at_:PySem.W.findIn K (.ref C) m=some (some (.ref f))
 fn:PySem.W.isFn K (.ref f)=true
 kp:PySem.W.keepIn K (.ref f)=true
section
variable{X:Cx}{pins:Z3}{σ:St}{H:Hp}{s:Shared}{a C dx:Addr}{fs:List (Str×V)}{f:Str}{v:V}{A:Around}{E:Z5}
def ziZ(I:Inv X pins σ H s)(e:H a=some (.ins C dx fs))(c:Cls X.K C)(n:zcj X.K C f)(l:fs.lookup f=some v)
  (h:∀u s',Inv X pins σ H s'->zaW v u->Q u s'):wpAny (model X.prog X.w) A (getAttr (.ref a) f b) Q E s:=by
 obtain ⟨mA,O,r,_,_,_⟩:=zfy I.hok e;obtain ⟨u,hu,ru⟩:=zfi.some_of (v:=v) (o:=mA f) (by rw [<-l];exact r f);exact zpL I.kIn O (c.get f) c.hd n hu (zkK ru) (h u _ (I.tok _) ru)
def ze3(I:Inv X pins σ H s)(e:H a=some (.ins C dx fs))(c:Cls X.K C)(k:Meth X.K C m g)(l:fs.lookup m=none)
  (h:Q (.ref g,[.ref a]) s):wpAny (model X.prog X.w) A (getMethod (.ref a) m pl) Q E s:=by
 obtain ⟨mA,O,r,_,_,_⟩:=zfy I.hok e;have hn:mA m=none:=zfi.none_of (by rw [<-l];exact r m);exact zmC I.kIn O (c.get m) k.at_ k.fn hn h
def ziG(I:Inv X pins σ H s)(e:H a=some (.ins C dx fs))(c:Cls X.K C)(n:zcj X.K C f)(hl:fs.length<1000)(ry:zaW y u)
  (h:∀s',Inv X pins σ (upd H a (.ins C dx (zc7 f y fs))) s'->Q () s'):wpAny (model X.prog X.w) A (setAttr (.ref a) f u) Q E s:=by
 obtain ⟨mA,O,r,wi,_,ho⟩:=zfy I.hok e
 have hz:(fs.map (·.1)).length<=sizeLine:=by rw [yad,ycL];omega
 refine zoF I.kIn O c.sa c.po n.taker c.hd wi hz fun h' O' sb=>h _ ?_
 have hd:∃o,h'.get? dx=some o:=let ⟨o,_,_,e',_⟩:=O'.ns;⟨o,e'⟩
 refine I.write (x:=a) (e:=dx) (by rw [e];exact True.intro) (.inr ho) (fun b q hb z=>(sb.2 b hb).trans z) hd ?_;refine ⟨by rw [zac O.ne];exact ho,?_,O.ne,O'.obj,_,O'.ns,fun g=>?_,fun g hg=>?_⟩
 ·have:=zeh f y fs;omega
 ·show zfi ((zc7 f y fs).lookup g) (if g=f then some u else mA g);rw [zeg]
  by_cases q:g=f
  ·rw [if_pos q,if_pos q];exact ry
  ·rw [if_neg q,if_neg q];exact r g
 ·by_cases q:g=f
  ·rw [q];exact (zei f y fs).1
  ·refine (zei f y fs).2 g (wi g fun z=>hg ?_);show (if g=f then some u else mA g)=none;rw [if_neg q];exact z
def Inv.made(I:Inv X pins σ H s):Inv X pins σ (upd (upd H s.heap.objs.size (.own (s.heap.objs.size+1))) (s.heap.objs.size+1) (.ins C s.heap.objs.size []))
  { s with heap:=(s.heap.push PySem.W.emptyDict).push (PySem.W.instObj C s.heap.objs.size) }:=by
 have e1:(s.heap.push PySem.W.emptyDict).get? s.heap.objs.size=some PySem.W.emptyDict:=yap s.heap rfl
 have e2:((s.heap.push PySem.W.emptyDict).push (PySem.W.instObj C s.heap.objs.size)).get? (s.heap.objs.size+1)=some (PySem.W.instObj C s.heap.objs.size):=by
  have:=yap (s.heap.push PySem.W.emptyDict) (o:=PySem.W.instObj C s.heap.objs.size) rfl
  rwa [ya1] at this
 have e3:(s.heap.push PySem.W.emptyDict).Ns s.heap.objs.size (fun _=>none):=⟨PySem.W.emptyDict,#[],_,e1,rfl,(fun e he=>absurd he (by simp)),fun _=>rfl⟩;have I1:=I.laid (a:=s.heap.objs.size) (o:=.own (s.heap.objs.size+1)) (h':=s.heap.push PySem.W.emptyDict) (t':=s.toks) (fun b u q=>yae _ q) (yai _) ⟨_,e1⟩;refine I1.laid (a:=s.heap.objs.size+1) (o:=.ins C s.heap.objs.size []) (t':=s.toks) (fun b u q=>yae _ q) (Nat.le_of_eq (ya1 _ _)) ?_;have ne:s.heap.objs.size≠s.heap.objs.size+1:=yav (Nat.lt_succ_self _);refine ⟨by rw [zac ne,zap],yaD _,ne,e2,fun _=>none,(Heap.Ns1.of_empty e3).at fun o q=>yae _ q,fun _=>True.intro,fun y hy=>absurd rfl hy⟩
def zp5(hb:attributeBase e f env (eval e env)=eval e env)
  (h:wpAny (model prog w) A (eval e env) (fun o s₁=>wpAny (model prog w) A (getAttr o f true) Q E s₁) E s):wpAny (model prog w) A (eval (.Attribute e f pos) env) Q E s :=
 Attribute_any_ h (by rw [arm_eval_Attribute,hb])
end
noncomputable def ztq(K:PySem.W.Frag)(ta:TE)(f:Str):TE:=fun σ H Q=>ta σ H fun x H1=>∃a C dx fs v,x=.ref a/\H1 a=some (.ins C dx fs)/\Cls K C/\zcj K C f/\fs.lookup f=some v/\Q v H1
noncomputable def zwt(K:PySem.W.Frag)(ta tv:TE)(f:Str):TS:=fun D σ H=>tv σ H fun y H1=>ta σ H1 fun x H2=>∃a C dx fs,x=.ref a/\H2 a=some (.ins C dx fs)/\Cls K C/\zcj K C f/\fs.length<1000 ∧
 D.nx σ (upd H2 a (.ins C dx (zc7 f y fs)))
section
variable{X:Cx}{o e value:Expr}{f:Str}{pos pos' tpos:Pos}{ta tv:TE}
def zbR(he:PE X e ta)(hb:attributeBase e f X.env (eval e X.env)=eval e X.env):PE X (.Attribute e f pos) (ztq X.K ta f):=by
 intro pins s σ H Q I h;refine zp5 hb (thn (he pins s σ H _ I h) fun u s1 ⟨x,H1,I1,rx,a,C,dx,fs,v,ex,ea,c,n,l,q⟩=>?_);subst ex;obtain rfl:u=Value.ref a:=rx;exact ziZ I1 ea c n l fun u' s2 I2 ru=>⟨v,H1,I2,ru,q⟩
def zj5(ha:PE X o ta)(hv:PE X value tv)(hs:swapsWith value (some (.Attribute o f pos')) pos.line X.env=pure false):PS X (.Assign [.Attribute o f pos'] value pos) (zwt X.K ta tv f):=by
 intro pins s σ H D I h;refine plainObj_wpAny_Assign_Attribute (thn (hv pins s σ H _ I h) fun u s1 ⟨y,H1,I1,ry,q⟩=>thn (ha pins s1 σ H1 _ I1 q) fun ov s2 ⟨x,H2,I2,rx,a,C,dx,fs,ex,ea,c,n,l,q2⟩=>?_) hs;subst ex;obtain rfl:ov=Value.ref a:=rx;exact ziG I2 ea c n l ry fun s3 I3=>⟨σ,_,I3,q2⟩
end
section
variable{X:Cx}{pins:Z3}{σ:St}{H:Hp}{s:Shared}{A:Around}{E:Z5}{Q:Z5}{c:Value}{b:Bool}
inductive TyOf(K:PySem.W.Frag)(H:Hp):V->Value->Prop where
 | non:TyOf K H .non (.type "NoneType")
 | bl (x:Bool):TyOf K H (.bl x) (.type "bool")
 | int (i:Int):TyOf K H (.int i) (.type "int")
 | str (x:Str):TyOf K H (.str x) (.type "str")
 | flt (x:UInt64):TyOf K H (.flt x) (.type "float")
 | lst {a:Addr} {xs:List V} (e:H a=some (.lst xs)):TyOf K H (.ref a) (.type "list")
 | frz {a:Addr} {o:Obj} {xs:List V} (e:H a=some (.frz o (.lst xs))):TyOf K H (.ref a) (.type "list")
 | tup {a:Addr} {xs:List V} (e:H a=some (.tup xs)):TyOf K H (.ref a) (.type "tuple")
 | dK {a:Addr} {kvs:List (Key×V)} (e:H a=some (.dK kvs)):TyOf K H (.ref a) (.type "dict")
 | dT {a:Addr} {kvs:List (List Key×V)} (e:H a=some (.dT kvs)):TyOf K H (.ref a) (.type "dict")
 | ins {a C dx:Addr} {fs:List (Str×V)} (e:H a=some (.ins C dx fs)) (cl:Cls K C) (ha:PySem.W.findIn K (.ref C) "__class__" = some (some (.builtin "object.__class__")))
   (hn:PySem.W.specialIn K (.builtin "object.__class__") "__get__" = some (some (.builtin "getset_descriptor.__get__"))) (htk:PySem.W.takesIn K (.builtin "object.__class__")=some true)
   (hm:PySem.W.mroIn K C (.type "object")=some true):TyOf K H (.ref a) (.ref C)
def zkD{x:V}{u t:Value}(I:Inv X pins σ H s)(rx:zaW x u)(ty:TyOf X.K H x t)(e:PySem.W.kitOne X.K t c=some b)(h:∀tk,Q (.bool b) { s with toks:=tk }) :
  wpAny (model X.prog X.w) A (call (.builtin "isinstance") [u,c]) Q E s:=by
 cases ty with
 | non=>cases (show u=Value.none from rx);exact yaX PySem.W.kitx_none I.kIn True.intro e (fun z=>nomatch z) h
 | bl y=>cases (show u=Value.bool y from rx);exact yaX PySem.W.kitx_bool I.kIn True.intro e (fun z=>nomatch z) h
 | int i=>obtain ⟨t,q⟩:=(show ∃t,u=Value.int i t from rx);cases q;exact yaX PySem.W.kitx_int I.kIn True.intro e (fun z=>nomatch z) h
 | str y=>obtain ⟨t,q⟩:=(show ∃t,u=Value.str y t from rx);cases q;exact yaX PySem.W.kitx_str I.kIn True.intro e (fun z=>nomatch z) h
 | flt y=>obtain ⟨t,q⟩:=(show ∃t,u=Value.float y t from rx);cases q;exact yaX PySem.W.kitx_float I.kIn True.intro e (fun z=>nomatch z) h
 | @lst a xs ea =>
  cases (show u=Value.ref a from rx);obtain ⟨_,_,n,_,h1⟩:=(show zaT X.prog X.w H s.heap a (.lst xs) from I.hok a _ ea);exact yaX PySem.W.kitx_list I.kIn ⟨_,h1,rfl⟩ e (fun z=>nomatch z) h
 | @frz a ob xs ea =>
  cases (show u=Value.ref a from rx);obtain ⟨_,_,_,n,_,h1⟩:=(show zaT X.prog X.w H s.heap a (.frz ob (.lst xs)) from I.hok a _ ea);exact yaX PySem.W.kitx_list I.kIn ⟨_,h1,rfl⟩ e (fun z=>nomatch z) h
 | @tup a xs ea =>
  cases (show u=Value.ref a from rx);obtain ⟨_,_,_,p⟩:=(show zaT X.prog X.w H s.heap a (.tup xs) from I.hok a _ ea);obtain ⟨o,h1,h2,_⟩:=p;exact yaX PySem.W.kitx_tuple I.kIn ⟨o,h1,h2⟩ e (fun z=>nomatch z) h
 | @dK a kvs ea =>
  cases (show u=Value.ref a from rx);obtain ⟨_,_,vs,_,p⟩:=(show zaT X.prog X.w H s.heap a (.dK kvs) from I.hok a _ ea);obtain ⟨o,es,ep,h1,h2,_⟩:=p;exact yaX PySem.W.kitx_dict I.kIn ⟨o,h1,h2.1⟩ e (fun z=>nomatch z) h
 | @dT a kvs ea =>
  cases (show u=Value.ref a from rx);obtain ⟨_,_,xs,_,o,es,ep,h1,h2,_⟩:=(show zaT X.prog X.w H s.heap a (.dT kvs) from I.hok a _ ea);exact yaX PySem.W.kitx_dict I.kIn ⟨o,h1,h2.1⟩ e (fun z=>nomatch z) h
 | @ins a C dx fs ea cl ha hn htk hm =>
  cases (show u=Value.ref a from rx);obtain ⟨mA,O,_⟩:=zfy I.hok ea;obtain ⟨od,J,_⟩:=O.look;exact yaX (PySem.W.kitx_own (cl.get _) cl.hd ha hn htk hm) I.kIn J e (fun z=>nomatch z) h
end
structure Room(k:Nat)(A:Around):Prop where
 hd:A.handled=none
 dp:A.depth+3*k+5<recursionLimit
 un:A.units+16*k+200<cLine
theorem Room.mono(r:Room k A)(h:j<=k):Room j A:=⟨r.hd,by have:=r.dp;omega,by have:=r.un;omega⟩
theorem Room.deeper(r:Room (k+1) A)(env:Env):Room k (A.deeper env) :=
 ⟨r.hd,by have:=r.dp;show A.depth+1+3*k+5<_;omega,by have:=r.un;show A.units+3+16*k+200<_;omega⟩
def ziT{A:Around}:(A.under (.builtin "type.__call__" ⟨.ref C::us,kw⟩)).depth=A.depth+1:=by
 first | rfl | simp [Around.under,Code.weight,Code.isCreation,Code.isGuard,Code.isCaller,Code.frames,Code.isFrame,guardIds]
def ziS{A:Around}:(A.under (.builtin "type.__call__" ⟨.ref C::us,kw⟩)).units=A.units+1:=by
 first | rfl | simp [Around.under,Code.cUnits,Code.frames,Code.isFrame]
theorem Room.make(r:Room (k+1) A)(C:Addr)(us:List Value)(kw:List (Str×Value)):Room k (A.under (.builtin "type.__call__" ⟨.ref C::us,kw⟩)) :=
 ⟨r.hd,by have:=r.dp;rw [ziT];omega,by have:=r.un;rw [ziS];omega⟩
theorem Room.depth(r:Room k A):A.depth<recursionLimit:=by have:=r.dp;omega
theorem Room.units(r:Room k A):A.units+64<cLine:=by have:=r.un;omega
noncomputable def zsX:TA:=fun _ H Q=>Q [] H
noncomputable def zok(ta:TE)(tr:TA):TA:=fun σ H Q=>ta σ H fun x H1=>tr σ H1 fun xs H2=>Q (x::xs) H2
section
variable{X:Cx}{e:Expr}{es:List Expr}{te:TE}{t:TA}{pos:Pos}
def zbS:PA X [] zsX:=fun _ _ _ _ H Q I h=>ycD ⟨[],H,I,.nil,h⟩
def zaX(ha:PE X e te)(hr:PA X es t)(hs:starEach (e::es) X.env=(false,eval e X.env)::starEach es X.env:=by rfl):PA X (e::es) (zok te t):=by
 intro pos pins s σ H Q I h;rw [hs];show wpAny _ _ (spliced ((false,eval e X.env)::backTo pos (starEach es X.env))) _ _ s;refine yb1 (thn (ha pins s σ H _ I h) fun u s1 ⟨x,H1,I1,r1,q1⟩=>?_);exact thn (hr pos pins s1 σ H1 _ I1 q1) fun us s2 ⟨xs,H2,I2,r2,q2⟩=>⟨x::xs,H2,I2,.cons r1 r2,q2⟩
noncomputable def zwl(t:TA):TE:=fun σ H Q=>t σ H fun xs H1=>xs.length<=sizeLine/\∀p,H1 p=none->Q (.ref p) (upd H1 p (.tup xs))
noncomputable def zwo(t:TA):TE:=fun σ H Q=>t σ H fun xs H1=>xs.length<=sizeLine/\∀p,H1 p=none->Q (.ref p) (upd H1 p (.lst xs))
def zny{x1}(h:PA X es t):PE X (.Tuple es x1 pos) (zwl t):=by
 intro pins s σ H Q I hq;refine wpAny_Tuple_spliced (thn (h pos pins s σ H _ I hq) fun us s1 ⟨xs,H1,I1,r,z,q⟩=>⟨by rw [<-r.length];exact z,?_⟩);have hf:H1 s1.heap.objs.size=none:=I1.hok.fresh (yai _);refine ⟨.ref s1.heap.objs.size,upd H1 s1.heap.objs.size (.tup xs),I1.laid (t':=s1.toks) (fun b u e=>yae _ e) (yai _) ?_,rfl,q _ hf⟩;exact ⟨z,us,r,⟨_,yap _ rfl,rfl,_,rfl,rfl⟩⟩
def znz(h:PA X es t):PE X (.List es pos) (zwo t):=by
 intro pins s σ H Q I hq;refine wpAny_List_spliced (thn (h pos pins s σ H _ I hq) fun us s1 ⟨xs,H1,I1,r,z,q⟩=>⟨by rw [<-r.length];exact z,?_⟩);have hf:H1 s1.heap.objs.size=none:=I1.hok.fresh (yai _);refine ⟨.ref s1.heap.objs.size,upd H1 s1.heap.objs.size (.lst xs),I1.laid (t':=s1.toks) (fun b u e=>yae _ e) (yai _) ?_,rfl,q _ hf⟩;exact ⟨z,us,0,r,yap _ rfl⟩
end
noncomputable abbrev Sp:=List V->Hp->VK->XK->Prop
noncomputable abbrev CXT:=List Env->Hp->Shared->XK->Value->Shared->Prop
structure Env0(P:Program)(w:World)(K:PySem.W.Frag)(mg:Z6)(base:Heap)(A:Around)(outer:List Env)(s:Shared)(H:Hp):Prop where
 frames:A.frames=some outer
 mod:Mod K mg base
 bs:∀b o,base.get? b=some o->s.heap.get? b=some o/\H b=none
 bsz:base.objs.size<=s.heap.objs.size
 funs:s.heap.FunFrames base outer
 frf:∀b∈frs outer,H b=none
 hok:HOk P w H s.heap
 bare:AllBare s.gens
noncomputable def CE(outer:List Env)(P:Program)(w:World)(H:Hp)(s:Shared)(Q:VK)(u:Value)(s':Shared):Prop :=
 ∃v H',s'.os=s.os/\AllBare s'.gens/\Un (frs outer) [] H H' s.heap s'.heap/\HOk P w H' s'.heap/\zaW v u/\Q v H'
noncomputable def CR(CX:CXT)(outer:List Env)(P:Program)(w:World)(H:Hp)(s:Shared)(Q:VK)(E:XK)(r:Result)(s':Shared):Prop :=
 match r with
 | .ok (.ret u)=>CE outer P w H s Q u s'
 | .ok _=>False
 | .error e=>CX outer H s E e s'
structure FnOk(P:Program)(w:World)(K:PySem.W.Frag)(mg:Z6)(base:Heap)(CX:CXT)(k:Nat)(f:Addr)(fd:FuncData)(ps:List Str)(sp:Sp):Prop where
 len:∀vs H Q E,sp vs H Q E->vs.length=ps.length
 run:∀(A:Around) (outer:List Env) (s:Shared) (H:Hp) (args:Args) (us:List Value) (vs:List V) (Q:VK) (E:XK),Room k A->Env0 P w K mg base A outer s H->BindsTo s fd args (ps.zip us)->Vals vs us->sp vs H Q E →
  codeAny (model P w) A (.call (.ref f) args) (CR CX outer P w H s Q E) s
theorem FnOk.mono{P:Program}{K:PySem.W.Frag}{j k:Nat}(F:FnOk P w K mg base CX j f fd ps sp)(h:j<=k) :
  FnOk P w K mg base CX k f fd ps sp:=⟨F.len,fun A outer s H args us vs Q E hr=>F.run A outer s H args us vs Q E (hr.mono h)⟩
def FnOk.imp{P:Program}{K:PySem.W.Frag}{k:Nat}(F:FnOk P w K mg base CX k f fd ps sp)
  (h:∀vs H Q E,sp' vs H Q E->sp vs H Q E):FnOk P w K mg base CX k f fd ps sp' :=
 ⟨fun vs H Q E q=>F.len vs H Q E (h _ _ _ _ q),fun A outer s H args us vs Q E hr he hb hv hs=>F.run A outer s H args us vs Q E hr he hb hv (h _ _ _ _ hs)⟩
def Env0.make{P:Program}{K:PySem.W.Frag}{A:Around}(e:Env0 P w K mg base A outer s H)(C:Addr)(us:List Value)(kw:List (Str×Value)) :
  Env0 P w K mg base (A.under (.builtin "type.__call__" ⟨.ref C::us,kw⟩)) outer s H:=⟨by first | exact e.frames | (simpa [Around.under,Code.envs,Code.isFrame,pushEnvs] using e.frames),e.mod,e.bs,e.bsz,e.funs,e.frf,e.hok,e.bare⟩
section
variable{X:Cx}{pins:Z3}{σ:St}{H:Hp}{s s':Shared}
def Inv.env0(I:Inv X pins σ H s):Env0 X.prog X.w X.K X.mg X.base X.A X.stack s H :=
 ⟨I.ok.frames,I.ok.mod,I.bs,yax I.ok.bsz I.sz,I.stack,I.stkFree,I.hok,I.bare⟩
def Inv.after(I:Inv X pins σ H s)(h:CE X.stack X.prog X.w H s Q u s'):EP X pins σ Q u s':=by
 obtain ⟨v,H',os,bare,un,hok,r,q⟩:=h;obtain ⟨hh,g,d,t,os'⟩:=s';obtain rfl:os'=s.os:=os;exact ⟨v,H',I.call (h':=hh) (g':=g) (d':=d) (t':=t) (ch:=[]) un hok bare (fun b z=>absurd z (by simp)),r,q⟩
end
noncomputable def zcx(K:PySem.W.Frag)(fd:FuncData)(ps:List Str)(ds:List Value):Prop :=
 ∀(s:Shared) (us:List Value),K.In s.heap->(us++ds).length=ps.length->BindsTo s fd ⟨us,[]⟩ (ps.zip (us++ds))
def zcx.all{K:PySem.W.Frag}{ps:List Str}(h:∀us:List Value,us.length=ps.length->bindArgs fd ⟨us,[]⟩=pure (ps.zip us)):zcx K fd ps []:=fun s us _ hl=>by
 rw [yaY] at hl ⊢;exact .of_eq (h us hl)
noncomputable def zn2(CX:CXT)(X:Cx)(E:XK):Prop:=∀(pins:Z3) (σ:St) (H:Hp) (s:Shared) (e:Value) (s':Shared),Inv X pins σ H s->CX X.stack H s E e s'->X.xe e s'
section
variable{X:Cx}{CX:CXT}{k:Nat}{f C:Addr}{fd:FuncData}{ps:List Str}{sp:Sp}{dvs:List V}{ds:List Value}{E:XK}{x m:Str}{p pos apos:Pos}{e o:Expr}{es:List Expr}{ta:TE}{t:TA}
structure Mk(K:PySem.W.Frag)(C f:Addr):Prop where
 makes:PySem.W.makesIn K C=true
 init:PySem.W.findIn K (.ref C) "__init__" = some (some (.ref f))
 fn:PySem.W.isFn K (.ref f)=true
 kp:PySem.W.keepIn K (.ref C)=true
end
structure FnScope(N P:List Str)(sc:Scope):Prop where
 kind:sc.kind=.function
 co:sc.isCoroutine=false
 gen:sc.isGenerator=false
 nd:N.Nodup
 pre:N.take P.length=P
 par:∀x∈P,sc.names.lookup x=some .local\/sc.names.lookup x=some .cell
 nofree:∀y∈sc.names,y.2≠.free
theorem zgO{kindOf:Str->Option NameKind}:∀{binds:List (Str×Value)} {m:Z6},(∀v,(x,v) ∉ binds)->bindL kindOf binds m x=m x
 | [],_,_=>rfl
 | (n,v)::r,m,h=>by
  unfold bindL;rw [zgO fun w hw=>h w (yak _ hw)];split
  ·have:x≠n:=by rintro rfl;exact h v yar
   simp [this]
  ·rfl
theorem zgQ{kindOf:Str->Option NameKind}:∀{binds:List (Str×Value)} {m:Z6},(∀v,(x,v) ∉ binds)->bindC kindOf binds m x=m x
 | [],_,_=>rfl
 | (n,v)::r,m,h=>by
  unfold bindC;rw [zgQ fun w hw=>h w (yak _ hw)];split
  ·rfl
  ·have:x≠n:=by rintro rfl;exact h v yar
   simp [this]
theorem zgP{kindOf:Str->Option NameKind}:∀{P:List Str} {vs:List Value} {i:Nat} {m:Z6},P.Nodup->P[i]?=some x->vs[i]?=some v->kindOf x=some .local →
  bindL kindOf (P.zip vs) m x=some v
 | [],_,_,_,_,h,_,_=>by simp at h
 | _::_,[],_,_,_,_,h,_=>by simp at h
 | p::P,w::vs,0,m,nd,h1,h2,hk=>by
  simp at h1 h2;subst h1;subst h2;show bindL kindOf ((p,w)::P.zip vs) m p=_;unfold bindL;rw [zgO fun v hv=>(ya7.mp nd).1 (ya8 hv).1,if_pos hk];simp
 | p::P,w::vs,i+1,m,nd,h1,h2,hk=>by
  show bindL kindOf ((p,w)::P.zip vs) m x=_;unfold bindL;exact zgP (i:=i) (ya7.mp nd).2 (by simpa using h1) (by simpa using h2) hk
theorem zgR{kindOf:Str->Option NameKind}:∀{P:List Str} {vs:List Value} {i:Nat} {m:Z6},P.Nodup->P[i]?=some x->vs[i]?=some v->kindOf x≠some .local →
  bindC kindOf (P.zip vs) m x=some v
 | [],_,_,_,_,h,_,_=>by simp at h
 | _::_,[],_,_,_,_,h,_=>by simp at h
 | p::P,w::vs,0,m,nd,h1,h2,hk=>by
  simp at h1 h2;subst h1;subst h2;show bindC kindOf ((p,w)::P.zip vs) m p=_;unfold bindC;rw [zgQ fun v hv=>(ya7.mp nd).1 (ya8 hv).1,if_neg hk];simp
 | p::P,w::vs,i+1,m,nd,h1,h2,hk=>by
  show bindC kindOf ((p,w)::P.zip vs) m x=_;unfold bindC;exact zgR (i:=i) (ya7.mp nd).2 (by simpa using h1) (by simpa using h2) hk
noncomputable def zcy(N:List Str)(vs:List V):St:=vs.map some++List.replicate (N.length-vs.length) none
noncomputable def zgI(CX:CXT)(P:Program)(w:World)(K:PySem.W.Frag)(mg:Z6)(base:Heap)(N:List Str)(qual:Str)(scope:Scope)(f:Addr)(cd:Value)(A:Around)(outer:List Env)(s:Shared)(H:Hp)(E:XK):Cx where
 prog:=P
 w:=w
 K:=K
 mg:=mg
 base:=base
 A:=A.deeper (envOfC qual scope s.heap.objs.size f cd)
 N:=N
 s₀:=s
 H₀:=H
 env:=envOfC qual scope s.heap.objs.size f cd
 outer:=outer
 stack:=envOfC qual scope s.heap.objs.size f cd::outer
 ex:=[]
 calm:=true
 fn:=fun _=>true
 pn:=[]
 xe:=fun e s'=>wpAny (model P w) (A.deeper (envOfC qual scope s.heap.objs.size f cd)) (leaving (envOfC qual scope s.heap.objs.size f cd) e) (fun _ s''=>CX outer H s E e s'') (fun e' s''=>CX outer H s E e' s'') s'
def zit{sc:Scope}(h:sc.names.lookup x=some .cell):∃c,(cellsFrom n sc.names []).lookup x=some c:=by
 have q:=ybv sc.names n [] (.inl h);exact Option.isSome_iff_exists.mp q
theorem zem{P:Program}{K:PySem.W.Frag}{N ps:List Str}{scope:Scope}{A:Around}{s s1:Shared}{vs:List V}
  (S:FnScope N ps scope) (hd:A.handled=none) (e0:Env0 P w K mg base A outer s H) (hl:vs.length=ps.length) (r:Vals vs us)
  (x:InCallC s s.heap.objs.size (bindL (envOfC qual scope s.heap.objs.size f cd).kindOf (ps.zip us) fun _=>none) (cellsFrom (s.heap.objs.size+1) scope.names []) (bindC (envOfC qual scope s.heap.objs.size f cd).kindOf (ps.zip us) fun _=>none) s1) :
  Inv (zgI CX P w K mg base N qual scope f cd A outer s H E) [] (zcy N vs) H s1:=by
 have hpl:ps.length<=N.length:=by have:=congrArg List.length S.pre;rw [List.length_take] at this;omega
 obtain ⟨h1,tk,rfl,hk⟩:=x.done;have noA:∀b:Addr,b ∉ (zgI CX P w K mg base N qual scope f cd A outer s H E).ex:=fun b z=>absurd (show b∈([]:List Addr) from z) (by simp)
 refine ⟨⟨e0.mod,S.kind,rfl,rfl,yai _,fun y z c h1 h2=>?_,fun y hy=>?_,fun y c _ h=>?_,fun _=>hd,Around.frames_deeper e0.frames,.inr ⟨rfl,rfl⟩,fun b z=>absurd z (noA b),e0.bs,e0.bsz,fun b _ _=>noA b,fun b z=>absurd z (noA b),e0.funs,e0.frf⟩,
  rfl,e0.bare,Un.kept hk,⟨_,x.toInCall.ns,fun i y v h1 h2 h3=>?_⟩,fun y c h=>⟨_,x.cell y c h⟩,e0.hok.fresh (yai _),fun y c h=>?_,fun p hp=>absurd (show p∈([]:Z3) from hp) (by simp),e0.hok.kept hk,?_⟩
 ·exact name_of_addr x.apart (yay h1) (yay h2)
 ·have hy:scope.names.lookup y=some .cell\/scope.names.lookup y=some .free:=hy
  rcases hy with hy | hy
  ·exact zit hy
  ·exact absurd rfl (S.nofree _ (yay hy))
 ·exact ybz (x.above y c (yay h))
 ·have hi:i<vs.length:=by
   unfold zcy at h2
   by_cases hi:i<vs.length
   ·exact hi
   ·rw [yaK (by simpa using hi)] at h2;rw [ybc] at h2
    split at h2<;>cases h2
  have ha:vs[i]?=some v:=by
   unfold zcy at h2;rw [yaE (by simpa using hi),yao] at h2
   cases e:vs[i]? with
   | none=>rw [e] at h2;cases h2
   | some a=>rw [e] at h2;cases h2;rfl
  obtain ⟨u,hu,rv⟩:=r.get ha
  have hp:ps[i]?=some y:=by
   rw [<-S.pre,List.getElem?_take_of_lt (by omega)];exact h1
  have ndP:ps.Nodup:=by rw [<-S.pre];exact S.nd.sublist (List.take_sublist _ _)
  refine ⟨u,rv,?_⟩
  rcases S.par y (ya5 hp) with k | k
  ·exact .inl ⟨k,zgP ndP hp hu k⟩
  ·obtain ⟨c,e⟩:=zit (n:=s.heap.objs.size+1) k;refine .inr ⟨.inl k,c,e,?_⟩;have q:=x.cell y c e;rw [zgR ndP hp hu (by show scope.names.lookup y≠_;rw [k];decide)] at q;exact q
 ·exact e0.hok.fresh (ybz (x.above y c (yay h)))
 ·unfold zcy;show _=N.length;rw [yas,yad,yaH];omega
def zsl{CX:CXT}{P:Program}{w:World}{K:PySem.W.Frag}{mg:Z6}{base:Heap}{k:Nat}{f:Addr}{name qual:Str}{params:Arguments}{body:List Stmt}{scope:Scope}{dV kV doc pm cdv ct oc:Value}{an od:Option Addr}
  {osl:Array (Option Value)} {N ps:List Str} {sp:Sp} (lk:K.lookup f=some ⟨oc,od,.func (PySem.W.fnOf name qual params body scope dV kV doc pm an cdv ct),osl⟩) (hcd:PySem.W.codeIn K cdv qual=true) (S:FnScope N ps scope)
  (len:∀vs H Q E,sp vs H Q E->vs.length=ps.length)
  (hbody:∀(A:Around) (outer:List Env) (s:Shared) (H:Hp) (vs:List V) (Q:VK) (E:XK),Room k (A.deeper (envOfC qual scope s.heap.objs.size f cdv))->sp vs H Q E →
   ∃t,PSs (zgI CX P w K mg base N qual scope f cdv A outer s H E) body t/\t { nx:=fun _ H'=>Q .non H',rt:=Q } (zcy N vs) H) :
  FnOk P w K mg base CX (k+1) f (PySem.W.fnOf name qual params body scope dV kV doc pm an cdv ct) ps sp:=by
 refine ⟨len,fun A outer s H args us vs Q E hr e0 hb r hsp=>?_⟩;have hl:=len _ _ _ _ hsp;have KX:K.In s.heap:=e0.mod.kin.keeps fun b o e=>(e0.bs b o e).1
 have lim:s.heap.NoLimit:=e0.mod.nolimit.keeps fun b o e=>(e0.bs b o e).1
 have hkind:∀y∈ps.zip us,scope.names.lookup y.1=some .local\/(scope.names.lookup y.1=some .cell/\((cellsFrom (s.heap.objs.size+1) scope.names []).lookup y.1).isSome=true):=fun ⟨n,v⟩ hy=>by
  rcases S.par n (ya8 hy).1 with q | q
  ·exact .inl q
  ·exact .inr ⟨q,ybv _ _ _ (.inl q)⟩
 refine ycd hr.depth (KX _ _ lk) rfl S.co S.gen rfl (ycy KX hcd) (hb _ _ _ _ ?_);refine ybL S.kind hkind fun env he s1 x=>?_
 subst he;refine ⟨lim.keeps x.toInCall.keep,codeAny_func ?_⟩;obtain ⟨t,ht,hq⟩:=hbody A outer s H vs Q E (hr.deeper _) hsp;have I:Inv (zgI CX P w K mg base N qual scope f cdv A outer s H E) [] (zcy N vs) H s1:=zem S hr.hd e0 hl r x;refine yaW (ht [] s1 (zcy N vs) H _ I hq) (fun fl s' hs=>?_) fun e s' hs=>hs
 have fin:∀{σ':St} {H':Hp} {v:V} {u:Value},Inv (zgI CX P w K mg base N qual scope f cdv A outer s H E) [] σ' H' s'->zaW v u->Q v H'->CE outer P w H s Q u s' :=
  fun {σ' H' v u} J rv q=>⟨v,H',J.os,J.bare,J.base,J.hok,rv,q⟩
 cases fl with
 | ret u =>
  obtain ⟨v,σ',H',J,rv,q⟩:=hs;exact fin J rv q
 | next =>
  obtain ⟨σ',H',J,q⟩:=hs;exact fin (v:=V.non) (u:=Value.none) J rfl q
 | brk =>
  obtain ⟨_,_,_,q⟩:=hs;exact False.elim q
 | cont =>
  obtain ⟨_,_,_,q⟩:=hs;exact False.elim q
section
variable{X:Cx}{x:Str}{p pos:Pos}{e:Expr}{es:List Expr}{t:TA}{id T:String}{r:List V->Hp->VK->Prop}
noncomputable def tCB(r:List V->Hp->VK->Prop)(t:TA):TE:=fun σ H Q=>t σ H fun vs H1=>r vs H1 Q
def zcq(hc:zdt X (.builtin id) r)(hg:Gl X x)(hm:X.mg x=none)(hv:bootBuiltins x=some (.builtin id))(ha:PA X (e::es) t)(hn:x ≠ "__name__":=by decide)(hdb:(x == ("__debug__":Str))=false:=by decide)
  (he:starEach (e::es) X.env=(false,eval e X.env)::starEach es X.env:=by rfl) (hpl:(backTo pos (starEach es X.env)).any (·.1)=false:=by rfl):PE X (.Call (.Name x p) (e::es) [] pos) (tCB r t):=by
 intro pins s σ H Q I h;refine ya4 (zgr I hg hm hv ?_ hn hdb);exact PyProof.Rows.callWith_builtin1 (thn (ha pos pins s σ H _ I h) fun us s1 ⟨vs,H1,I1,r1,q1⟩=>hc pins s1 σ H1 vs us Q I1 r1 q1) he hpl
def zed(hc:zdt X (.type T) r)(hg:Gl X x)(hm:X.mg x=none)(hv:bootBuiltins x=some (.type T))(ha:PA X (e::es) t)(hn:x ≠ "__name__":=by decide)(hdb:(x == ("__debug__":Str))=false:=by decide)
  (he:starEach (e::es) X.env=(false,eval e X.env)::starEach es X.env:=by rfl) (hpl:(backTo pos (starEach es X.env)).any (·.1)=false:=by rfl):PE X (.Call (.Name x p) (e::es) [] pos) (tCB r t):=by
 intro pins s σ H Q I h;refine ya4 (zgr I hg hm hv ?_ hn hdb);exact ybA (thn (ha pos pins s σ H _ I h) fun us s1 ⟨vs,H1,I1,r1,q1⟩=>hc pins s1 σ H1 vs us Q I1 r1 q1) he hpl
end
end L2
namespace HT
open PySem PyProof.Rows
section
open PySem.SeqAt
open PySem.AutoSeq1 (wpAny_loadPart')
open PySem.MeetsSeq PySem.MeetsSeq2 PySem.MeetsSeq3
end
section
variable{prog:Program}{w:World}{A:Around}{E:Z5}{s:Shared}
def zp0{t b:Addr}{vs ws:List Value}{Q:Z5}(ht:IsTup s.heap t vs.toArray)(hb:IsTup s.heap b ws.toArray)(hv:vs≠[])
  (h1:ws=[]->Q (.ref t) s) (h2:ws≠[]->Q (.ref s.heap.objs.size) { s with heap:=s.heap.push { cls:=.type "tuple",data:=.seq (vs++ws).toArray } })
  (hsz:vs.length+ws.length<=sizeLine):wpAny (model prog w) A (binaryOp .Add (.ref t) (.ref b)) Q E s:=by
 obtain ⟨⟨cls,dd,data,sl⟩,ho,hc,n,hd⟩:=id ht;obtain ⟨⟨cls2,dd2,data2,sl2⟩,ho2,hc2,n2,hd2⟩:=id hb;simp only at hc hd hc2 hd2;subst hc hd hc2 hd2
 have e:vs.toArray++ws.toArray=(vs++ws).toArray:=by simp
 by_cases hw:ws=[]
 ·exact concat_meets ⟨_,ho,rfl⟩ ⟨_,ho2,rfl⟩ noFill_tuple_add seq_tuple_add yb8 yb2 (ybV _ _)
   (tuple_addW1 t b vs.toArray ws.toArray n n2 dd dd2 sl sl2 (by simpa using hv) (by simp [hw])) ⟨ho,ho2,h1 hw⟩
 ·refine concat_meets ⟨_,ho,rfl⟩ ⟨_,ho2,rfl⟩ noFill_tuple_add seq_tuple_add yb8 yb2 (ybV _ _)
   (tuple_addW2 t b vs.toArray ws.toArray n n2 dd dd2 sl sl2 (by simpa using hv) (by simpa using hw) (by rw [yam,yam];exact hsz)) ⟨ho,ho2,?_⟩
  rw [e];exact h2 hw
noncomputable def sIx(n d:Nat):Option Int->Nat
 | none=>d
 | some v=>if v<0 then (v+(n:Int)).toNat else min v.toNat n
end
end HT
namespace L2
open PySem PySem.Spec PyProof.Rows
noncomputable abbrev TO:=St->Hp->(Option Int->Hp->Prop)->Prop
section
variable{X:Cx}{e:Expr}{te:TE}{lo hi:Option Expr}{tl th:TO}{pos p2:Pos}
noncomputable def ztH(K:PySem.W.Frag):R2:=fun x y H Q=>∃a b xs ys,x=.ref a/\y=.ref b/\SqT K H a xs/\SqT K H b ys/\xs≠[]/\xs.length+ys.length<=sizeLine ∧
 (ys=[]->Q (.ref a) H)/\(ys≠[]->∀p,H p=none->Q (.ref p) (upd H p (.tup (xs++ys))))
def Vals.nil_iff(r:Vals xs us):us=[]↔xs=[]:=by
 cases r with
 | nil=>simp
 | cons _ _=>simp
def zpi:OpR X (binaryOp .Add) (ztH X.K):=by
 intro pins s σ H x y v u Q I rx ry h;obtain ⟨a,b,xs,ys,rfl,rfl,ha,hb,hx,hz,q1,q2⟩:=h;cases rx;cases ry;obtain ⟨its,r1,p1,_⟩:=I.tuple ha;obtain ⟨its2,r2,p2,_⟩:=I.tuple hb;refine HT.zp0 p1 p2 (fun z=>hx (r1.nil_iff.mp z)) (fun z=>⟨.ref a,H,I,rfl,q1 (r2.nil_iff.mp z)⟩) (fun z=>?_) (by rw [<-r1.length,<-r2.length];exact hz);refine ⟨.ref s.heap.objs.size,_,I.laid (t':=s.toks) (o:=.tup (xs++ys)) (fun b ob q=>yae _ q) (yai _) ?_,rfl,q2 (fun w=>z (r2.nil_iff.mpr w)) _ (I.hok.fresh (yai _))⟩;exact ⟨by rw [yas];exact hz,_,r1.append r2,zqg.new _ _⟩
end
noncomputable def ixN(n:Nat)(i:Int):Option Nat:=if 0<=i then (if i<n then some i.toNat else none) else if -(n:Int)<=i then some (i+n).toNat else none
def atI{α:Type}(xs:List α)(i:Int):Option α:=(ixN xs.length i).bind fun j=>xs[j]?
theorem zpE(h:ixN n i=some j):seqIndex? i n=some j/\j<n/\-(n:Int)<=i/\i<n:=by
 unfold ixN at h
 by_cases h0:0<=i
 ·rw [if_pos h0] at h
  by_cases h1:i<n
  ·rw [if_pos h1] at h;have e:i.toNat=j:=Option.some.inj h;exact ⟨by rw [seqIndex_of h0 h1,e],by omega,by omega,h1⟩
  ·rw [if_neg h1] at h;cases h
 ·rw [if_neg h0] at h
  by_cases h1:-(n:Int)<=i
  ·rw [if_pos h1] at h;have e:(i+n).toNat=j:=Option.some.inj h;exact ⟨by rw [seqIndex_neg (by omega) h1,e],by omega,h1,by omega⟩
  ·rw [if_neg h1] at h;cases h
def zlp{α:Type}{xs:List α}{v:α}(h:atI xs i=some v):∃j,seqIndex? i xs.length=some j/\xs[j]?=some v/\j<xs.length/\-(xs.length:Int)<=i/\i<xs.length:=by
 unfold atI at h
 cases e:ixN xs.length i with
 | none=>rw [e] at h;cases h
 | some j =>
  rw [e] at h;obtain ⟨h1,h2,h3,h4⟩:=zpE e;exact ⟨j,h1,h,h2,h3,h4⟩
noncomputable def zhz(b:Expr):Prop:=∀o i,subscripted b false o i=operate [o,i] (getItem o i)
noncomputable def IxR(X:Cx)(r:R2):Prop :=
 ∀(value slice:Expr) (pins:Z3) (s:Shared) (σ:St) (H:Hp) (x y:V) (v u:Value) (Q:VK),Inv X pins σ H s->zaW x v->zaW y u->r x y H Q →
  subscripted slice false v u=operate [v,u] (getItem v u)->wpAny (model X.prog X.w) X.A (subscriptTail value slice v u) (EP X pins σ Q) X.xe s
noncomputable def MtR(X:Cx)(id:String)(r:V->List V->Hp->VK->Prop):Prop :=
 ∀(pins:Z3) (s:Shared) (σ:St) (H:Hp) (x:V) (xs:List V) (v:Value) (us:List Value) (Q:VK),Inv X pins σ H s->zaW x v->Vals xs us->r x xs H Q →
  wpAny (model X.prog X.w) X.A (call (.builtin id) (v::us)) (EP X pins σ Q) X.xe s
section
variable{X:Cx}{a b:Expr}{ta tb:TE}{pos:Pos}
def ztO(hr:IxR X r)(ha:PE X a ta)(hb:PE X b tb)(hs:zhz b):PE X (.Subscript a b pos) (tOp r ta tb):=by
 intro pins s σ H Q I h;exact Subscript_ (zuw ha hb I h fun v u s2 x y H2 I2 rx ry q=>hr a b pins s2 σ H2 x y v u Q I2 rx ry q (hs _ _))
noncomputable def zww(K:PySem.W.Frag):R2:=fun x y H Q=>∃p xs i v,x=.ref p/\y=.int i/\SqL K H p xs/\atI xs i=some v/\Q v H
noncomputable def zwv(K:PySem.W.Frag):R2:=fun x y H Q=>∃p xs i v,x=.ref p/\y=.int i/\SqT K H p xs/\atI xs i=some v/\Q v H
theorem zkB:IxR X (zww X.K):=by
 intro value slice pins s σ H x y v u Q I rx ry h hs;obtain ⟨p,xs,i,z,rfl,rfl,hq,he,q⟩:=h;cases rx;obtain ⟨t,rfl⟩:=ry;obtain ⟨its,r,pl,hz⟩:=I.list hq;obtain ⟨j,h1,h2,h3,h4,h5⟩:=zlp he;obtain ⟨w,ew,rw'⟩:=r.get h2;have hl:=r.length;have hn:=zia;have fin:EP X pins σ Q w s:=⟨z,H,I,rw',q⟩
 by_cases h0:0<=i
 ·have hj:i.toNat=j:=by
   rw [seqIndex_of h0 h5] at h1;exact Option.some.inj h1
  exact item_listR pl.isList h0 (by omega) (by rw [hj];simpa using ew) fin hs
 ·have hj:(i+(its.toArray.size:Int)).toNat=j:=by
   rw [seqIndex_neg (by omega) h4] at h1;rw [yam,<-hl];exact Option.some.inj h1
  exact subscriptTail_builtinR (x:=w) pl.isList.typeIs slot_list_getitem.lookup
   (wpAny_getItem_list_neg (Q:=fun r s'=>r=w/\EP X pins σ Q r s') pl.isList (by omega) (by rw [yam]<;>omega) (by omega) (by rw [hj];simpa using ew) ⟨rfl,fin⟩) hs
theorem zse:IxR X (zwv X.K):=by
 intro value slice pins s σ H x y v u Q I rx ry h hs;obtain ⟨p,xs,i,z,rfl,rfl,hq,he,q⟩:=h;cases rx;obtain ⟨t,rfl⟩:=ry;obtain ⟨its,r,pl,hz⟩:=I.tuple hq;obtain ⟨j,h1,h2,h3,h4,h5⟩:=zlp he;obtain ⟨w,ew,rw'⟩:=r.get h2;have hl:=r.length;have hn:=zia;have fin:EP X pins σ Q w s:=⟨z,H,I,rw',q⟩
 exact subscriptTail_builtinR (x:=w) pl.typeIs slot_tuple_getitem.lookup
  (getItem_tuple (j:=j) (Q:=fun r s'=>r=w/\EP X pins σ Q r s') pl (by omega) (by omega) (by rw [yam,<-hl];exact h1) (by simpa using ew) ⟨rfl,fin⟩) hs
theorem zb5:zdt X (.builtin "len") (fun xs H Q=>∃p ys,xs=[.ref p]/\(SqL X.K H p ys\/SqT X.K H p ys)/\Q (.int ys.length) H):=by
 intro pins s σ H xs us Q I r h;obtain ⟨p,ys,rfl,hq,q⟩:=h;obtain ⟨u,rfl,rx⟩:=zfW r;cases rx;have hn:=zia
 rcases hq with hq | hq
 ·obtain ⟨its,r',pl,hz⟩:=I.list hq;have hlen:=r'.length;exact Calls.call_len_list pl.isList (by simp only [yam]<;>omega) ⟨.int ys.length,H,I.tok _,⟨s.toks+1,by rw [yam,hlen]⟩,q⟩
 ·obtain ⟨its,r',pl,hz⟩:=I.tuple hq;have hlen:=r'.length;exact len_tuple pl (by simp only [yam]<;>omega) ⟨.int ys.length,H,I.tok _,⟨s.toks+1,by rw [yam,hlen]⟩,q⟩
theorem zgL:zdt X (.builtin "len") (fun xs H Q=>∃z,xs=[.str z]/\z.length<=sizeLine/\Q (.int z.length) H):=by
 intro pins s σ H xs us Q I r h;obtain ⟨z,rfl,hz,q⟩:=h;obtain ⟨u,rfl,t,rfl⟩:=zfW r;have hn:=zia;exact len_str (by omega) ⟨.int z.length,H,I.tok _,⟨_,rfl⟩,q⟩
theorem zds:zdt X (.type "tuple") (fun xs H Q=>∃p ys,xs=[.ref p]/\((SqL X.K H p ys/\∀l,H l=none->Q (.ref l) (upd H l (.tup ys)))\/(SqT X.K H p ys/\Q (.ref p) H))):=by
 intro pins s σ H xs us Q I r h;obtain ⟨p,ys,rfl,h⟩:=h;obtain ⟨u,rfl,rx⟩:=zfW r;cases rx
 rcases h with ⟨hq,q⟩ | ⟨hq,q⟩
 ·obtain ⟨its,r',pl,hz⟩:=I.list hq;have hlen:=r'.length;refine call_tuple_list pl.isList (fun h' kp=>?_) (by simp only [yam]<;>omega);have I1:Inv X pins σ H { s with heap:=h' }:=I.kept (t':=s.toks) kp
  have I2:Inv X pins σ (upd H h'.objs.size (.tup ys)) { s with heap:=h'.push { cls:=.type "tuple",data:=.seq its.toArray } } :=
   I1.laid (t':=s.toks) (fun b o e=>yae _ e) (yai _) (show zaT X.prog X.w _ _ _ (.tup ys) from ⟨hz,its,r',zqg.new _ _⟩)
  exact ⟨.ref h'.objs.size,_,I2,rfl,q _ (I1.hok.fresh (yai _))⟩
 ·obtain ⟨its,r',pl,hz⟩:=I.tuple hq;exact call_tuple_same pl ⟨.ref p,H,I,rfl,q⟩
noncomputable def tyV(K:PySem.W.Frag)(T:String)(x:V)(H:Hp):Prop:=match x with
 | .str _=>T = "str"
 | .int _=>T = "int"
 | .ref p=>(T = "list" /\ ∃xs,SqL K H p xs)\/(T = "tuple" /\ ∃o,K.lookup p=some o/\o.cls=.type "tuple" /\ o.dict=none) ∨
   (T = "dict" /\ ((∃kvs,H p=some (.dK kvs))\/∃kvs,H p=some (.dT kvs)))\/(T = "set" /\ ∃S n,H p=some (.set S n))
 | _=>False
def zna(I:Inv X pins σ H s)(r:zaW x v)(ty:tyV X.K T x H) :
  s.TypeIs v T/\∀a,v=.ref a->∃ob,s.heap.get? a=some ob/\ob.dict=none:=by
 cases x with
 | str z =>
  obtain ⟨t,rfl⟩:=r;cases (show T = "str" from ty);exact ⟨typeIs_str s z t,fun _ e=>nomatch e⟩
 | int i =>
  obtain ⟨t,rfl⟩:=r;cases (show T = "int" from ty);exact ⟨typeIs_int s i t,fun _ e=>nomatch e⟩
 | ref p =>
  cases r
  rcases ty with ⟨rfl,xs,hq⟩ | ⟨rfl,o,hk,hc,hd⟩ | ⟨rfl,hk⟩ | ⟨rfl,S,n,hk⟩
  ·obtain ⟨its,_,pl,_⟩:=I.list hq;refine ⟨pl.isList.typeIs,fun a e=>?_⟩;cases e;obtain ⟨o,n,e,c,hd,_⟩:=pl;exact ⟨o,e,hd⟩
  ·refine ⟨⟨o,I.kIn p o hk,hc⟩,fun a e=>?_⟩;cases e;exact ⟨o,I.kIn _ o hk,hd⟩
  ·have z:∃o,s.heap.get? p=some o/\o.ExactDict:=by
    rcases hk with ⟨kvs,hk⟩ | ⟨kvs,hk⟩
    ·obtain ⟨_,_,_,_,o,_,_,e,ex,_⟩:=I.hok p _ hk;exact ⟨o,e,ex⟩
    ·obtain ⟨_,_,_,_,o,_,_,e,ex,_⟩:=I.hok p _ hk;exact ⟨o,e,ex⟩
   obtain ⟨o,e,ex⟩:=z;refine ⟨⟨o,e,ex.1⟩,fun a e2=>?_⟩;cases e2;exact ⟨o,e,ex.2.1⟩
  ·obtain ⟨o,_,_,_,e,ex,_⟩:=I.hok p _ hk;refine ⟨⟨o,e,ex.1⟩,fun a e2=>?_⟩;cases e2;exact ⟨o,e,ex.2.1⟩
 | _=>exact False.elim ty
noncomputable def zws(K:PySem.W.Frag)(T:String)(r:V->List V->Hp->VK->Prop)(to:TE):TE:=fun σ H Q=>to σ H fun x H1=>tyV K T x H1/\r x [] H1 Q
noncomputable def tBM(K:PySem.W.Frag)(T:String)(r:V->List V->Hp->VK->Prop)(to:TE)(t:TA):TE:=fun σ H Q=>to σ H fun x H1=>tyV K T x H1/\t σ H1 fun xs H2=>r x xs H2 Q
variable{o e:Expr}{es:List Expr}{to:TE}{t:TA}{name:Str}{apos cpos:Pos}{T id:String}{r:V->List V->Hp->VK->Prop}
def zrz(pa:PlainAttrs T)(slot:Slot T name id)(hty:typeOf (.builtin id)=pure (.type "method_descriptor"))(hm:MtR X id r)(ho:PE X o to)
  (hbase:attributeBase o name X.env (eval o X.env)=eval o X.env:=by rfl) (hline:(apos.endLine == cpos.line)=true:=by rfl):PE X (.Call (.Attribute o name apos) [] [] cpos) (zws X.K T r to):=by
 intro pins s σ H Q I h;refine wpAny_Call_method0_late hbase hline (thn (ho pins s σ H _ I h) fun v s1 ⟨x,H1,I1,r1,ty,q1⟩=>?_);obtain ⟨h1,h2⟩:=zna I1 r1 ty;exact ⟨T,id,pa,slot,hty,h1,h2,ybw rfl (PySem.evalArgs_none (hm pins s1 σ H1 x [] v [] Q I1 r1 .nil q1))⟩
def zmg(pa:PlainAttrs T)(slot:Slot T name id)(hty:typeOf (.builtin id)=pure (.type "method_descriptor"))(hm:MtR X id r)(ho:PE X o to)(ha:PA X (e::es) t)
  (hbase:attributeBase o name X.env (eval o X.env)=eval o X.env:=by rfl)
  (hfew:((backTo cpos (starEach (e::es) X.env)).all (fun x=>!x.1)&&(backToKw cpos (keywordEach [] X.env)).all (fun x=>x.1.isSome)
   && decide ((e::es).length+([]:List Keyword).length+(if ([]:List Keyword).isEmpty then 0 else 1)<30))=true:=by rfl)
  (hline:(apos.endLine == cpos.line)=true:=by rfl) (hs:starEach (e::es) X.env=(false,eval e X.env)::starEach es X.env:=by rfl) (hplain:(backTo cpos (starEach es X.env)).any (·.1)=false:=by rfl) :
  PE X (.Call (.Attribute o name apos) (e::es) [] cpos) (tBM X.K T r to t):=by
 intro pins s σ H Q I h;refine wpAny_Call_method_late hbase hfew hline rfl (thn (ho pins s σ H _ I h) fun v s1 ⟨x,H1,I1,r1,ty,q1⟩=>?_);obtain ⟨h1,h2⟩:=zna I1 r1 ty;refine ⟨T,id,pa,slot,hty,h1,h2,?_⟩;have hA:=ha cpos pins s1 σ H1 _ I1 q1;rw [hs] at hA ⊢;refine ybw (by show (false||(backTo cpos (starEach es X.env)).any (·.1))=false;rw [hplain]<;>rfl) (ybN ?_);exact thn hA fun us s2 ⟨vs,H2,I2,r2,q2⟩=>hm pins s2 σ H2 x vs v us Q I2 r1 r2 q2
end
noncomputable def MtM(X:Cx)(id:String)(r:V->List V->Hp->VK->Prop):Prop :=
 ∀(pins:Z3) (s:Shared) (σ:St) (H:Hp) (x:V) (xs:List V) (v:Value) (us:List Value) (Q:VK),Inv X pins σ H s->zaW x v->Vals xs us->r x xs H Q →
  wpAny (model X.prog X.w) X.A (call (.builtin id) (v::us)) (EP X pins σ Q) X.xe s
theorem Vals.one:∀{x:V} {us:List Value},Vals [x] us->∃u,us=[u]/\zaW x u
 | _,_,.cons r .nil=>⟨_,rfl,r⟩
theorem Vals.zero:∀{us:List Value},Vals [] us->us=[]
 | _,.nil=>rfl
theorem Vals.dropLast{xs:List V}{us:List Value}(h:Vals xs us):Vals xs.dropLast us.dropLast:=by
 induction h with
 | nil=>exact .nil
 | cons r t ih =>
  cases t with
  | nil=>exact .nil
  | cons q t'=>exact .cons r ih
def zi2{α:Type}(l:List α):l.eraseIdx (l.length-1)=l.dropLast:=by
 induction l with
 | nil=>rfl
 | cons a r ih =>
  cases r with
  | nil=>rfl
  | cons b r =>
   have e:(a::b::r).length-1=((b::r).length-1)+1:=by
    have h1:(a::b::r).length=r.length+2:=rfl;have h2:(b::r).length=r.length+1:=rfl;omega
   rw [e,List.eraseIdx_cons_succ,ih]
   all_goals rfl
section
variable{X:Cx}{pins:Z3}{σ:St}{H:Hp}{s:Shared}{l b:Addr}{xs ys zs:List V}
def Inv.lset{its its':List Value}{n:Nat}{f:Array Value->Array Value}{t':Nat}(I:Inv X pins σ H s)(hH:H l=some (.lst xs))
  (e:s.heap.get? l=some { cls:=.type "list",data:=.seq its.toArray n }) (hf:f its.toArray=its'.toArray) (hv:Vals ys its') (hz:ys.length<=sizeLine) :
  Inv X pins σ (upd H l (.lst ys)) { s with heap:=s.heap.update l (Obj.mapSeq f),toks:=t' }:=by
 have q:=PySem.IsL.update e f;rw [hf] at q;refine I.write (x:=l) (e:=l) (by rw [hH];exact trivial) (.inl rfl) (fun b' u hb hu=>(Heap.get?_update_other s.heap (Obj.mapSeq f) (Ne.symm hb)).trans hu) ⟨_,q⟩ ?_;exact ⟨hz,its',_,hv,q⟩
def Inv.lnew(I:Inv X pins σ H s)(hv:Vals ys its)(hz:ys.length<=sizeLine) :
  Inv X pins σ (upd H s.heap.objs.size (.lst ys)) { s with heap:=s.heap.push { cls:=.type "list",data:=.seq its.toArray },toks:=t' } :=
 I.laid (fun _ _ q=>yae _ q) (yai _) ⟨hz,its,0,hv,yap _ rfl⟩
theorem Inv.fresh(I:Inv X pins σ H s):H s.heap.objs.size=none:=I.hok.fresh (yai _)
def Inv.lstM(I:Inv X pins σ H s)(hH:H l=some (.lst xs)):xs.length<=sizeLine/\∃(its:List Value) (n:Nat),Vals xs its/\xs.length=its.length/\s.heap.get? l=some { cls:=.type "list",data:=.seq its.toArray n }:=by
 obtain ⟨z,its,n,r,e⟩:=I.hok l _ hH;exact ⟨z,its,n,r,r.length,e⟩
end
section
variable{X:Cx}
noncomputable def zoQ:V->List V->Hp->VK->Prop:=fun x vs H Q=>∃l xs y,x=.ref l/\vs=[y]/\H l=some (.lst xs)/\xs.length<sizeLine/\Q .non (upd H l (.lst (xs++[y])))
theorem zef:MtM X "list.append" zoQ:=by
 intro pins s σ H x vs v us Q I rx rv h;obtain ⟨l,xs,y,rfl,rfl,hH,hz,q⟩:=h;cases rx;obtain ⟨u,rfl,ru⟩:=rv.one;obtain ⟨z,its,n,r,hl,e⟩:=I.lstM hH;refine ycP F.slot_list_append ⟨_,e,rfl⟩ F.entry_list_append (F.args_list_append_2 _ _) (PySem.list_append l its.toArray n u (by rw [yam];omega)) ⟨e,?_⟩;refine ⟨.non,_,I.lset (its':=its++[u]) hH e (by simp) (r.append (.cons ru .nil)) ?_,rfl,q⟩;rw [yas,ybB];omega
noncomputable def zwu:V->List V->Hp->VK->Prop:=fun x vs H Q=>∃l xs y,x=.ref l/\vs=[]/\H l=some (.lst xs)/\xs[xs.length-1]?=some y/\Q y (upd H l (.lst xs.dropLast))
theorem zr1:MtM X "list.pop" zwu:=by
 intro pins s σ H x vs v us Q I rx rv h;obtain ⟨l,xs,y,rfl,rfl,hH,hy,q⟩:=h;cases rx;have hus:=rv.zero;subst hus;obtain ⟨z,its,n,r,hl,e⟩:=I.lstM hH;obtain ⟨u,hu,ru⟩:=r.get hy
 have hy':its.toArray[its.toArray.size-1]?=some u:=by
  show its.toArray[its.length-1]?=some u;rw [<-yaS,<-hl];exact hu
 refine ycP F.slot_list_pop ⟨_,e,rfl⟩ F.entry_list_pop (F.args_list_pop_1 _) (MeetsSeq.list_pop_last l its.toArray n u hy' (by rw [yam];omega)) ⟨e,?_⟩;refine ⟨y,_,I.lset (its':=its.dropLast) hH e ?_ r.dropLast ?_,ru,q⟩
 ·show its.toArray.eraseIdxIfInBounds (its.toArray.size-1)=its.dropLast.toArray;rw [yam,List.eraseIdxIfInBounds_toArray,zi2]
 ·rw [List.length_dropLast];omega
noncomputable def zwx:R2:=fun x y H Q=>∃l b xs zs,x=.ref l/\y=.ref b/\H l=some (.lst xs)/\H b=some (.lst zs)/\xs.length+zs.length<=sizeLine/\∀p,H p=none->Q (.ref p) (upd H p (.lst (xs++zs)))
theorem zrI:OpR X (binaryOp .Add) zwx:=by
 intro pins s σ H x y v u Q I rx ry h;obtain ⟨l,b,xs,zs,rfl,rfl,hH,hB,hz,q⟩:=h;cases rx;cases ry;obtain ⟨z,its,n,r,hl,e⟩:=I.lstM hH;obtain ⟨z2,its2,n2,r2,hl2,e2⟩:=I.lstM hB;refine PySem.P.add_list e e2 ?_ (by rw [yam,yam];omega)
 have ea:its.toArray++its2.toArray=(its++its2).toArray:=by simp
 rw [ea];exact ⟨.ref _,_,I.lnew (t':=s.toks) (r.append r2) (by rw [yas];omega),rfl,q _ I.fresh⟩
end
end L2
namespace Att
open PySem PySem.W PySem.Calls PyProof.Rows
def zen:∀(ns:List Int) (vs:List Value),WellAll P h vs (ns.map WData.int)->IntsAre vs ns:=by
 intro ns
 induction ns with
 | nil =>
  intro vs w;rw [List.map_nil] at w;cases w;exact .nil
 | cons n ns ih =>
  intro vs w;rw [yaw] at w
  cases w with
  | cons a b =>
   cases a;exact .cons _ _ (ih _ b)
theorem zjJ{l:OpenLaw}(hn:l.most=some n){P:Params}{h:Heap}
  (hpre:l.row.toRowW.claim.pre args=true) (hwl:WellAll P h vals args) :
  ∃a vs ns,vals=[Value.ref a]/\args=[WData.list (ns.map WData.int)]/\h.get? a=some { cls:=.type "list",data:=.seq vs.toArray }/\IntsAre vs ns/\ns.length<=n:=by
 have hsh:WShape.hasAll [] args [.list .int]=true:=(pre_splitW hpre).1;have hc:l.pre.holds [] { args:=args }=true:=(pre_splitW hpre).2;obtain ⟨d,r,rfl,h1,h2⟩:=hasAllW_cons hsh;obtain rfl:=hasAllW_nil h2;obtain ⟨xs,rfl,h3⟩:=hasW_list h1;obtain ⟨ns,rfl⟩:=items_int h3
 have hlen:ns.length<=n:=by
  unfold OpenLaw.pre at hc
  have h4:(WTm.not (.lt (.lit (.int (n:Int))) (.len (.arg 0)))).holds [] { args:=[.list (ns.map .int)] }=true:=by
   have h4:=(holds_andW hc).1;rwa [hn] at h4
  have h5:=condW_of h4 (w_not (w_lt w_lit (w_len_list (w_arg rfl))));rw [yad] at h5;refine Nat.le_of_not_lt fun q=>?_
  have q':(n:Int)<((ns.length:Nat):Int):=by omega
  first
   | (rw [yaC q'] at h5;exact absurd h5 (by decide))
   | (simp at h5;omega)
 cases hwl with
 | cons w1 w2 =>
  cases w2
  cases w1 with
  | list ho hall=>exact ⟨_,_,ns,rfl,rfl,ho,zen ns _ hall,hlen⟩
def zj8(l:OpenLaw)(args:List WData):l.row.toRowW.claim.post args (.bool true) args=true :=
 postW_of (r:=l.row.toRowW) (X:=(true == true))
  (show WShape.has [] (.bool true) .bool=true by first | rfl | decide | simp [WShape.has,WShape.arms,WShape.armsAll])
  (show (WTm.eq .res (.lit (.bool true))).value [] { args:=args,res:=some (.bool true),after:=args }=some (.bool (true == true)) from w_eq_bool (w_res rfl) w_lit) rfl
def zhy{l:OpenLaw}{n:Nat}{q:Program}{loose:List Str}{XP:(Str->Option Value)->Heap->Prop}{YP:World->Heap->Prop}{d:DefRec}
  (hn:l.most=some n) (hdf:d.params.defaults=[])
  (call:∀(w:World) (s₀ s₁:Shared) (mg mb:Z6) (fa:Addr) (o:Obj) (pm cd doc:Value) (a:Addr) (vs:List Value) (ns:List Int),
   Ground q loose [] XP w s₀ mg mb s₁.heap->YP w s₁.heap →
   s₁.heap.get? fa=some o->o.data=.func (docDef d.name d.params d.body d.scope pm cd doc)->s₁.heap.CodeRec cd d.name->mg d.name=some (.ref fa) →
   s₁.heap.get? a=some { cls:=.type "list",data:=.seq vs.toArray }->IntsAre vs ns->ns.length<=n->s₁.gens=#[] →
   codeAny (model l.prog w) callerA (.call (.ref fa) ⟨[.ref a],[]⟩) (fun r s'=>r=.ok (.ret (.bool true))/\OldK s₁.heap s'.heap/\s'.os=s₁.os/\AllBare s'.gens) s₁) :
  WalkO q loose XP YP l.row.toRowW d [] (fun f vs=>PySem.call f vs):=by
 intro w s₀ s₁ mg mb G Y fa o pm cd doc dV kV ho hd hcd hD hmg hg args vals as hpre hlay hrd hwl hlo;obtain rfl:dV=.none:=Dflts.none hD hdf;obtain rfl:kV=.none:=Dflts.noKw hD;obtain ⟨a,vs,ns,rfl,rfl,hobj,hints,hlen⟩:=zjJ hn hpre hwl;refine enter_call (ybo (call w s₀ s₁ mg mb fa o pm cd doc a vs ns G Y ho (fd_plain hd) hcd hmg hobj hints hlen hg) fun r s' hq=>?_);obtain ⟨rfl,h2,h3,h4⟩:=hq;exact ⟨.inl ⟨.bool true,.bool true,[],rfl,fun _=>rfl,.bool true,zj8 l _,fun _=>⟨List.Pairwise.nil,fun _ hm=>(nomatch hm)⟩⟩,h2,h3,h4⟩
end Att
namespace L2
open PySem PySem.Spec PyProof.Rows
theorem zfV:∀{vs:List Value} {ns:List Int},IntsAre vs ns->Vals (ns.map V.int) vs
 | _,_,.nil=>.nil
 | _,_,.cons n t h=>.cons ⟨t,rfl⟩ (zfV h)
noncomputable def zaY(s:Stmt):Arguments:=match s with
 | .FunctionDef _ a _ _ _ _ _ _ _ _=>a
 | _=>{ posonlyargs:=[],args:=[],vararg:=none,kwonlyargs:=[],kw_defaults:=[],kwarg:=none,defaults:=[] }
noncomputable def zaM(s:Stmt):List Stmt:=match s with
 | .FunctionDef _ _ b _ _ _ _ _ _ _=>b
 | _=>[]
noncomputable def zag(s:Stmt):Scope:=match s with
 | .FunctionDef _ _ _ _ _ _ sc _ _ _=>sc
 | _=>{ kind:=.function,names:=[],isGenerator:=false,isCoroutine:=false }
structure Fun(K:PySem.W.Frag)(x qual:Str)(st:Stmt)(f:Addr)(fd:FuncData):Prop where
 ex:∃(oc:Value) (od:Option Addr) (kV doc pm:Value) (an:Option Addr) (cdv ct:Value) (osl:Array (Option Value)),
  fd=PySem.W.fnOf x qual (zaY st) (zaM st) (zag st) .none kV doc pm an cdv ct/\K.lookup f=some ⟨oc,od,.func fd,osl⟩/\PySem.W.codeIn K cdv qual=true
 kp:PySem.W.keepIn K (.ref f)=true
section
variable{P:Program}{w:World}{K:PySem.W.Frag}{mg:Z6}{base:Heap}
def Fun.binds{x qual:Str}{st:Stmt}{f:Addr}{fd:FuncData}{ps:List Str}(F:Fun K x qual st f fd)
  (h:∀(kV doc pm:Value) (an:Option Addr) (cdv ct:Value) (us:List Value),us.length=ps.length->bindArgs (PySem.W.fnOf x qual (zaY st) (zaM st) (zag st) .none kV doc pm an cdv ct) ⟨us,[]⟩=pure (ps.zip us)):zcx K fd ps []:=by
 obtain ⟨oc,od,kV,doc,pm,an,cdv,ct,osl,rfl,lk,hcd⟩:=F.ex;exact .all (h kV doc pm an cdv ct)
def zgw{x qual:Str}{st:Stmt}{f:Addr}{oc:Value}{od an:Option Addr}{osl:Array (Option Value)}{kV doc pm cdv ct:Value}(l:K.lookup f=some ⟨oc,od,.func (PySem.W.fnOf x qual (zaY st) (zaM st) (zag st) .none kV doc pm an cdv ct),osl⟩)
  (c:PySem.W.codeIn K cdv qual=true) (k:PySem.W.keepIn K (.ref f)=true):Fun K x qual st f (PySem.W.fnOf x qual (zaY st) (zaM st) (zag st) .none kV doc pm an cdv ct):=⟨⟨oc,od,kV,doc,pm,an,cdv,ct,osl,rfl,l,c⟩,k⟩
end
def znL{A B:Prop}(h:B):if false=true then A else B:=by
 rw [if_neg ya9];exact h
def znK{A B:Prop}(h:A):if true=true then A else B:=by
 rw [if_pos rfl];exact h
noncomputable def Its(x:Str):It:=⟨fun i _=>i<x.cps.size,fun i H v H'=>H'=H/\∃c,x.cps[i]?=some c/\v=.str ⟨#[c]⟩,fun i _=>i=x.cps.size⟩
def zhL{P:Program}{w:World}{K:PySem.W.Frag}{tg:Expr}(it:Addr)(x:Str)(t:Tok)(ty:String)(ht:["enumerate","zip","dict_itemiterator","dict_reverseitemiterator","odict_iterator","itertools.zip_longest","itertools.pairwise"].contains ty=false)
  (W:∀A:Around,A.handled=none->Walks P w A it [it] [it] x.cps.size (SignAt x) (fun i h=>h.IsStrIter it ty x t i))
  (Ws:∀(A:Around) (i:Nat) (s:Shared) (Q:Z5) (E:Z5),s.heap.IsStrIter it ty x t i->Q (.ref it) s->wpAny (model P w) A (pyIter (.ref it)) Q E s):Turn P w K tg (Its x) [it] it (fun i h=>h.IsStrIter it ty x t i) where
 mem:=by simp
 obj:=fun i h st b hb=>by
  have e:b=it:=by simpa using hb
  subst e;obtain ⟨o,e,c,d⟩:=st;exact ⟨o,e,fun v z=>by rw [d] at z;cases z⟩
 keep:=fun i h h' st k=>by
  obtain ⟨o,e,r⟩:=st;exact ⟨o,k it (by simp) o e,r⟩
 item:=by
  intro X hP hw hK hc i pins s σ H E I hf st hg;subst hP hw hK;obtain ⟨f0,f1,f2,f3,f4,f5⟩:=hf it (by simp);refine (W X.A (I.ok.hd hc)).item i s _ _ hg st fun v h' tk hv st' kk=>?_
  obtain ⟨c,u,hx,rfl⟩:=hv;have I1:Inv X pins σ H { s with heap:=h',toks:=tk }:=I.turned (fun b o hb e=>kk b o (by simpa using hb) e) f0 f1 f3 f4 f5;obtain ⟨o,e,c',d⟩:=id st';exact ⟨_,rfl,zkL (s:={ s with heap:=h',toks:=tk }) e c' d ht ⟨.str ⟨#[c]⟩,H,I1,⟨u,rfl⟩,⟨rfl,c,hx,rfl⟩,st',fun b hb=>(hf b hb).1⟩⟩
 done:=by
  intro X hP hw hK hc i pins s σ H E I hf st hg;subst hP hw hK;obtain ⟨f0,f1,f2,f3,f4,f5⟩:=hf it (by simp);have hi:i=x.cps.size:=hg;subst hi;exact (W X.A (I.ok.hd hc)).done s _ _ st fun h' tk kk=>⟨rfl,I.turned (fun b o hb e=>kk b o (by simpa using hb) e) f0 f1 f3 f4 f5⟩
 self:=fun A i s Q E st h=>Ws A i s Q E st h
noncomputable def zw3(tl:TE):TI:=fun σ H R=>tl σ H fun v H1=>∃x,v=.str x/\R (Its x) H1
def zrt{X:Cx}{tg l:Expr}{tl:TE}(hl:PE X l tl):PI X tg l (zw3 tl):=by
 intro pins s σ H R I h;refine thn (hl pins s σ H _ I h) fun v s1 ⟨x,H1,I1,r1,q1⟩=>?_
 obtain ⟨z,e,q⟩:=q1;subst e;obtain ⟨t,rfl⟩:=r1
 have fp:∀b∈[s1.heap.objs.size],zlu X pins H1 b:=fun b hb=>by
  have e:b=s1.heap.objs.size:=by simpa using hb
  subst e;exact I1.fpOk (yai _) (I1.hok.fresh (yai _))
 cases ha:z.cps.all (·<128)
 ·exact wpAny_pyIter_wide ha ⟨s1.heap.objs.size,[s1.heap.objs.size],_,_,H1,rfl,I1.kept (t':=s1.toks) fun b o e=>yae _ e,zhL _ z t "str_iterator" (by decide) (fun A hA=>Walks.strWide hA _ z t) (fun A i s Q E st h=>wpAny_pyIter_striter_wide st h),⟨_,yap _ rfl,rfl,rfl⟩,fp,q⟩
 ·exact wpAny_pyIter_ascii ha ⟨s1.heap.objs.size,[s1.heap.objs.size],_,_,H1,rfl,I1.kept (t':=s1.toks) fun b o e=>yae _ e,zhL _ z t "str_ascii_iterator" (by decide) (fun A hA=>Walks.strAscii hA _ z t) (fun A i s Q E st h=>wpAny_pyIter_striter_ascii st h),⟨_,yap _ rfl,rfl,rfl⟩,fp,q⟩
def zrG{X:Cx}:OpR X (compareOp .LtE) (fun x y H Q=>∃a b,x=.str a/\y=.str b/\Q (.bl (!decide (b.cps.toList<a.cps.toList))) H):=by
 intro pins s σ H x y v u Q I rx ry h;obtain ⟨a,b,rfl,rfl,q⟩:=h;obtain ⟨t,rfl⟩:=rx;obtain ⟨t',rfl⟩:=ry;exact PySem.P.le_str ⟨.bl (!decide (b.cps.toList<a.cps.toList)),H,I,rfl,q⟩
def zfb(h:∀y∈scope.names,y.2=.free->∃c,env.cells.lookup y.1=some c) :
  ∃cl,closureFor scope env=pure cl/\(∀y c,cl.lookup y=some c->env.cells.lookup y=some c)/\∀y,(y,NameKind.free)∈scope.names->∃c,cl.lookup y=some c:=by
 unfold closureFor
 have key:∀(l:List (Str×NameKind)) (cs:List (Str×Addr)),(∀y∈l,y.2=.free->∃c,env.cells.lookup y.1=some c)->(∀y c,cs.lookup y=some c->env.cells.lookup y=some c) →
   ∃cl,(forIn l cs fun (x:Str×NameKind) (r:List (Str×Addr))=>(if (x.2 == NameKind.free)=true then (do let c ← cellOf env x.1;pure (ForInStep.yield ((x.1,c)::r))) else pure (ForInStep.yield r):Sem (ForInStep (List (Str×Addr)))))=pure cl ∧
    (∀y c,cl.lookup y=some c->env.cells.lookup y=some c)/\(∀y,(y,NameKind.free)∈l->∃c,cl.lookup y=some c)/\(∀y c,cs.lookup y=some c->∃c',cl.lookup y=some c'):=by
  intro l
  induction l with
  | nil=>intro cs _ hc;exact ⟨cs,rfl,hc,fun y hy=>by simp at hy,fun y c e=>⟨c,e⟩⟩
  | cons p l ih =>
   intro cs hl hc;obtain ⟨n,k⟩:=p
   by_cases hk:(k == NameKind.free)=true
   ·have ek:k=.free:=eq_of_beq hk;obtain ⟨c,ec⟩:=hl (n,k) yar ek
    obtain ⟨cl,e1,e2,e3,e4⟩:=ih ((n,c)::cs) (fun y hy=>hl y (yak _ hy)) (fun y c' e=>by
     rw [yaz] at e
     cases hq:y == n with
     | true=>rw [hq] at e;cases e;rw [eq_of_beq hq];exact ec
     | false=>rw [hq] at e;exact hc y c' e)
    refine ⟨cl,?_,e2,fun y hy=>?_,fun y c' e=>?_⟩
    ·rw [ybC];show ((if (k == NameKind.free)=true then _ else _) >>= _)=_;rw [if_pos hk]
     have ecell:cellOf env n=pure c:=by unfold cellOf;rw [ec]
     show (cellOf env n >>= _) >>= _=_;rw [ecell];simpa using e1
    ·rcases yat.mp hy with z | hy
     ·cases z;exact e4 n c (by rw [yaz];simp)
     ·exact e3 y hy
    ·cases hq:y == n with
     | true=>exact e4 y c (by rw [yaz,hq])
     | false=>exact e4 y c' (by rw [yaz,hq];exact e)
   ·obtain ⟨cl,e1,e2,e3,e4⟩:=ih cs (fun y hy=>hl y (yak _ hy)) hc;refine ⟨cl,?_,e2,fun y hy=>?_,e4⟩
    ·rw [ybC];show ((if (k == NameKind.free)=true then _ else _) >>= _)=_;rw [if_neg hk];simpa using e1
    ·rcases yat.mp hy with z | hy
     ·cases z;exact absurd rfl hk
     ·exact e3 y hy
 obtain ⟨cl,e1,e2,e3,_⟩:=key scope.names [] h (fun y c e=>by simp at e);refine ⟨cl,?_,e2,e3⟩;show ((forIn scope.names [] _:Sem (List (Str×Addr))) >>= _)=_;have e1':=congrArg (fun m=>m >>= (pure:List (Str×Addr)->Sem (List (Str×Addr)))) e1;simpa using e1
noncomputable def PIf(X:Cx)(ifs:List Expr)(t:TT):Prop :=
 ∀(pins:Z3) (s:Shared) (σ:St) (H:Hp) (Q:Bool->Hp->Prop),Inv X pins σ H s->t σ H Q →
  wpAny (model X.prog X.w) X.A (forIn ifs true fun c r=>if r=true then do let ok ← isTrue c X.env (eval c X.env);pure (ForInStep.yield ok) else pure (ForInStep.yield r)) (TP X pins σ Q) X.xe s
noncomputable def zwk:TT:=fun _ H Q=>Q true H
def zo7:PIf X [] zwk:=fun _ _ _ H _ I h=>wpAny_tests_nil ⟨H,I,h⟩
def zo6(h:PT X c t):PIf X [c] t:=fun pins s σ H Q I hw=>wpAny_tests_one (h pins s σ H Q I hw)
theorem zdM{scope:Scope}{env:Env}:∀{names:List (Str×NameKind)} {y:Str},(y,NameKind.free)∈names->(∀z∈names,z.1=y->z.2=.free) →
  (names.map fun (n,k)=>if (k == NameKind.free&&env.scope.kind == .function&&env.kindOf n == some .cell) then (n,NameKind.cell) else (n,k)).lookup y=some .cell ∨
  (names.map fun (n,k)=>if (k == NameKind.free&&env.scope.kind == .function&&env.kindOf n == some .cell) then (n,NameKind.cell) else (n,k)).lookup y=some .free
 | [],_,h,_=>by simp at h
 | (n,k)::r,y,h,u=>by
  rw [yaw];show List.lookup y ((if (k == NameKind.free&&env.scope.kind == .function&&env.kindOf n == some .cell)=true then (n,NameKind.cell) else (n,k))::_)=_\/List.lookup y ((if (k == NameKind.free&&env.scope.kind == .function&&env.kindOf n == some .cell)=true then (n,NameKind.cell) else (n,k))::_)=_
  cases hq:y == n with
  | true =>
   have e:n=y:=(eq_of_beq hq).symm;have ek:k=.free:=u (n,k) yar e
   by_cases hc:(k == NameKind.free&&env.scope.kind == .function&&env.kindOf n == some .cell)=true
   ·rw [if_pos hc];left;simp [yaz,hq]
   ·rw [if_neg hc];right;simp [yaz,hq,ek]
  | false =>
   have hy:(y,NameKind.free)∈r:=by
    rcases yat.mp h with z | z
    ·cases z;simp at hq
    ·exact z
   have ih:=zdM (scope:=scope) (env:=env) hy fun z hz=>u z (yak _ hz)
   by_cases hc:(k == NameKind.free&&env.scope.kind == .function&&env.kindOf n == some .cell)=true
   ·rw [if_pos hc];simpa [yaz,hq] using ih
   ·rw [if_neg hc];simpa [yaz,hq] using ih
def Inv.track(I:Inv X pins σ H s)(hn:H D=none)(h1:X.s₀.heap.objs.size<=D)(h2:D≠X.env.locals)(h3:∀x c,X.env.cells.lookup x=some c->c≠D)(h4:∀p∈X.pn++pins,p.1≠D)
  (new:zaT X.prog X.w (upd H D o) s.heap D o):Inv X pins σ (upd H D o) s:=by
 have nD:∀b u,H b=some u->b≠D:=fun b u e=>zaw e hn
 obtain ⟨h',g',d',t',o'⟩:=s;refine I.step (h':=h') (g':=g') (d':=d') (t':=t') (ch:=[D]) (fun b hb=>?_) (fun b o _ _ _ e _=>e) (fun b o _ _ _ e _=>⟨o.slots,e⟩) (fun b o hc e n=>?_) (fun b o _ e=>⟨o,e⟩) (fun b xs e=>?_) (fun b o u e=>?_) (fun b ps e=>?_) (fun m hm=>hm) (fun b u e=>?_) I.bare
 ·have e:b=D:=by simpa using hb
  subst e;exact ⟨.inr h1,h2,h3,h4⟩
 ·rw [zac (fun z=>hc (by simp [z]))];exact n
 ·rw [zac (nD _ _ e)];exact e
 ·rw [zac (nD _ _ e)];exact e
 ·exact ⟨#[],by rw [zac (nD _ _ e),e];simp⟩
 ·by_cases hb:b=D
  ·subst hb;rw [zap] at e;cases e;exact new
  ·rw [zac hb] at e
   exact (I.hok b u e).stay (fun _ _ _ q=>q) (fun c q=>by rw [zac (nD _ _ q)];exact q) fun c xs q=>by rw [zac (nD _ _ q)];exact q
section
variable{X:Cx}{elt iter:Expr}{x:Str}{px pos:Pos}{ifs:List Expr}{scope:Scope}{caps:List (Str×Nat)}{wi:TI}{tt:TT}{te:TE}
noncomputable abbrev lob(its:List Value)(k:Nat):Obj:={ cls:=.type "list",data:=.seq its.toArray k }
end
section
variable{prog:Program}{w:World}{A:Around}{R:Result->Shared->Prop}{s:Shared}
theorem zms(I:Nat->Shared->Prop)
  (zn7:∀n s,I n s->wpAny (model prog w) A (pyNext it) (fun r s₁=>match r with
   | none=>R (.ok .next) s₁
   | some v=>wpAny (model prog w) A (letOwnedTupleGo target it v) (fun _ s₀=>wpAny (model prog w) A (assign target env v) (fun _ s₂ =>
     wpAny (model prog w) A (forIn ifs true fun c r=>if r=true then do let ok ← isTrue c env (eval c env);pure (ForInStep.yield ok) else pure (ForInStep.yield r)) (fun ok s₃ =>
      if ok=true then wpAny (model prog w) A (eval elt env) (fun x s₄ =>
       wpAny (model prog w) A (call (.builtin "list.append") [acc,x]) (fun _ s₅=>∃m,m<n/\I m s₅) (notedBy (model prog w) A env fun e s'=>R (.error e) s') s₄) (notedBy (model prog w) A env fun e s'=>R (.error e) s') s₃
      else ∃m,m<n/\I m s₃) (notedBy (model prog w) A env fun e s'=>R (.error e) s') s₂) (notedBy (model prog w) A env fun e s'=>R (.error e) s') s₀) (notedBy (model prog w) A env fun e s'=>R (.error e) s') s₁) (notedBy (model prog w) A env fun e s'=>R (.error e) s') s)
  (n:Nat) (h:I n s):codeAny (model prog w) A (.compLoop (.ListComp elt [⟨target,iter,ifs,0⟩] scope pos) 0 it acc env) R s:=by
 refine codeAny_loop rfl I (fun n s hI=>?_) n h;show wpAny _ A ((compTurn (.ListComp elt [⟨target,iter,ifs,0⟩] scope pos) 0 it acc env).onRaise (fun x=>do noteFrame x env;theTreesLotGoes x)) _ _ s;refine wpAny_noted ?_;rw [compTurn_list];refine yab (ycK (yab (yaW (zn7 n s hI) (fun r s₁ h₁=>?_) fun _ _ h'=>h')))
 cases r with
 | none=>exact yal h₁
 | some v =>
  refine yab (yaW h₁ (fun _ s₀ h₀=>?_) fun _ _ h'=>h');refine yab (yaW h₀ (fun _ s₂ h₂=>yab (yaW h₂ (fun ok s₃ h₃=>?_) fun _ _ h'=>h')) fun _ _ h'=>h')
  cases ok with
  | false=>exact yal ⟨rfl,h₃⟩
  | true =>
   exact yab (yab (yaW h₃ (fun x s₄ h₄=>yab (yaW h₄ (fun _ s₅ h₅=>yal (yal ⟨rfl,h₅⟩)) fun _ _ h'=>h')) fun _ _ h'=>h'))
end
theorem za3:∀(names:List (Str×NameKind)) (n:Nat) (acc:List (Str×Addr)),cellsFrom n names acc=cellsFrom n names []++acc
 | [],_,_=>rfl
 | (x,k)::r,n,acc=>by
  unfold cellsFrom;split
  ·rw [za3 r (n+1) ((x,n)::acc),za3 r (n+1) [(x,n)]];simp
  ·exact za3 r n acc
theorem zcu:∀(names:List (Str×NameKind)) (n:Nat) {x:Str} {c:Addr},(x,c)∈cellsFrom n names []->(x,NameKind.cell)∈names
 | [],_,_,_,h=>by cases h
 | (y,k)::r,n,x,c,h=>by
  unfold cellsFrom at h;split at h
  ·rename_i hk;rw [za3] at h
   rcases ya3.mp h with h | h
   ·exact yak _ (zcu r _ h)
   ·rw [yaN] at h;cases h;rw [ybH.mp hk];exact yar
  ·exact yak _ (zcu r _ h)
theorem zbO{α:Type}:∀{l m:List (Str×α)},(l++m).lookup x=(l.lookup x).or (m.lookup x)
 | [],m=>rfl
 | (y,a)::l,m=>by
  rw [List.cons_append,yaz,yaz]
  cases x == y with
  | true=>rfl
  | false=>exact zbO
theorem zbM:∀(names:List (Str×NameKind)) (n:Nat) {x:Str},(x,NameKind.cell)∈names->∃c,(cellsFrom n names []).lookup x=some c
 | [],_,_,h=>by cases h
 | (y,k)::r,n,x,h=>by
  unfold cellsFrom;split
  ·rename_i hk;rw [za3,zbO]
   rcases yat.mp h with e | h
   ·cases e
    cases hq:(cellsFrom (n+1) r []).lookup y with
    | some c=>exact ⟨c,rfl⟩
    | none=>exact ⟨n,by simp [yaz]⟩
   ·obtain ⟨c,e⟩:=zbM r (n+1) h;rw [e];exact ⟨c,rfl⟩
  ·rename_i hk
   rcases yat.mp h with e | h
   ·cases e;exact absurd rfl hk
   ·exact zbM r n h
def zb6{M:Model}{A:Around}{E:Z5}{s:Shared}{scope:Scope}{globals:Addr}{closure:List (Str×Addr)}{qual:Str}{func:Option Addr}{code:Value}{outer:Env}{builtins:Addr}{Q:Env->Shared->Prop}
  (hQ:∀h',h'.Ns s.heap.objs.size (fun _=>none)->(∀b o,s.heap.get? b=some o->h'.get? b=some o)->CellsOk h' (s.heap.objs.size+1) (cellsFrom (s.heap.objs.size+1) scope.names []) →
   Q (newEnv scope s.heap.objs.size globals (cellsFrom (s.heap.objs.size+1) scope.names []++closure) qual func code (some outer) builtins) { s with heap:=h' }) :
  wpAny M A (newFunctionEnv scope globals closure [] qual func code (some outer) builtins) Q E s:=by
 simp only [newFunctionEnv,ycz,yck];refine yab (wpAny_alloc ?_);refine yab (wpAny_layCells _ (fun name kind cells=>by cases hkc:kind == NameKind.cell<;>simp [hkc]) _ _ _ _ ?_);have ok:=cellsFrom_ok scope.names (s.heap.push { cls:=.type "dict",data:=.dict #[] }) (s.heap.objs.size+1) [] ⟨fun _ _ hm=>(nomatch hm),List.Pairwise.nil⟩ (by rw [ya1];exact yai _);rw [ya1] at ok;rw [show ({ s with heap:=s.heap.push { cls:=.type "dict",data:=.dict #[] } }:Shared).heap.objs.size=s.heap.objs.size+1 from ya1 ..];rw [za3];simp only [List.forIn_nil];refine yab (yal (yal ?_));exact hQ _ ((Heap.Ns.new s.heap (.type "dict")).keeps (pushCells_keeps _ _)) (fun b o e=>pushCells_keeps _ _ b o (yae _ e)) ok
structure CompScopeG(sc scope:Scope)(N:List Str)(xs:List Str)(caps:List (Str×Nat)):Prop where
 nd:(scope.names.map (·.1)).Nodup
 kind:scope.kind=.function
 names:∀y∈scope.names,y.2=.local->scope.names.lookup y.1=some .local
 free:∀y∈scope.names,y.2=.free->sc.names.lookup y.1=some .cell\/sc.names.lookup y.1=some .free
 cap:∀p∈caps,N[p.2]?=some p.1/\(p.1,NameKind.free)∈scope.names/\sc.names.lookup p.1≠some .local
 uniq:∀p∈caps,∀z∈scope.names,z.1=p.1->z.2=.free
noncomputable def za6(X:Cx)(xs:List Str)(caps:List (Str×Nat))(scope:Scope)(cl:List (Str×Addr))(C:Addr)(s:Shared)(H:Hp)(ex:List Addr):Cx :=
 { X with N:=xs++caps.map (·.1),s₀:=s,H₀:=H,env:=compEnvC scope cl C X.env,outer:=X.stack,ex:=ex,fn:=fun x=>decide (scope.names.lookup x=some .cell),pn:=[],xe:=fun _ _=>False }
noncomputable abbrev capσ(σ:St)(n:Nat)(caps:List (Str×Nat)):St:=List.replicate n none++caps.map fun p=>(σ[p.2]?).join
noncomputable def zhO(wi:TI)(g:TG)(tt:TT)(te:TE)(n:Nat)(caps:List (Str×Nat)):TE:=fun σ H Q=>wi σ H fun J H1=>∃W:Nat->Nat->List V->St->Hp->Prop,(∃m,W 0 m [] (capσ σ n caps) H1)/\∀i m ys σ' H,W i m ys σ' H →
 ys.length<=sizeLine/\((J.stop i H/\∀p,H p=none->Q (.ref p) (upd H p (.lst ys))) ∨
 (J.go i H/\∀x H',J.yld i H x H'->g x σ' H' fun σ2 H2=>tt σ2 H2 fun ok H3=>if ok=true then te σ2 H3 fun y H4=>∃m',m'<m/\W (i+1) m' (ys++[y]) σ2 H4 else ∃m',m'<m/\W (i+1) m' ys σ2 H3))
section
variable{X:Cx}{elt iter tg:Expr}{xs:List Str}{pos:Pos}{ifs:List Expr}{scope:Scope}{caps:List (Str×Nat)}{wi:TI}{g:TG}{tt:TT}{te:TE}
structure OwnC(X:Cx)(scope:Scope)(lo:Nat)(h:Heap)(cl:List (Str×Addr)):Prop where
 sort:∀y c,cl.lookup y=some c->X.env.cells.lookup y=some c\/(h.IsCell c none/\lo<=c)
 inj:∀y z c,cl.lookup y=some c->cl.lookup z=some c->y=z
 has:∀y,((y,NameKind.free)∈scope.names\/(y,NameKind.cell)∈scope.names)->∃c,cl.lookup y=some c
 own:∀y c,scope.names.lookup y=some .cell->cl.lookup y=some c->lo<=c
 free:∀y,(y,NameKind.free)∈scope.names->∃c,cl.lookup y=some c/\X.env.cells.lookup y=some c
def zga(h:(relabel scope env).names.lookup y=some .cell\/(relabel scope env).names.lookup y=some .free):(y,NameKind.free)∈scope.names\/(y,NameKind.cell)∈scope.names:=by
 have go:∀k,(relabel scope env).names.lookup y=some k->(k=.cell\/k=.free)->(y,NameKind.free)∈scope.names\/(y,NameKind.cell)∈scope.names:=fun k e hk=>by
  have hm:=yay e;obtain ⟨⟨n,k0⟩,hp,e2⟩:=yau.mp hm
  by_cases hq:(k0 == .free&&env.scope.kind == .function&&env.kindOf n == some .cell)=true
  ·have e3:(n,NameKind.cell)=(y,k):=by rw [<-e2];show _=if _ then _ else _;rw [if_pos hq]
   cases e3
   have:k0=.free:=by simp only [yaa] at hq;exact eq_of_beq hq.1.1
   subst this;exact .inl hp
  ·have e3:(n,k0)=(y,k):=by rw [<-e2];show _=if _ then _ else _;rw [if_neg hq]
   cases e3
   rcases hk with rfl | rfl
   ·exact .inr hp
   ·exact .inl hp
 rcases h with h | h
 ·exact go _ h (.inl rfl)
 ·exact go _ h (.inr rfl)
theorem zgk:∀{l:List (Str×NameKind)},(l.map (·.1)).Nodup->∀{x:Str} {a b:NameKind},(x,a)∈l->(x,b)∈l->a=b
 | [],_,_,_,_,h,_=>by cases h
 | p::l,nd,x,a,b,h,h'=>by
  rw [yaw,ya7] at nd
  rcases yat.mp h with h | h<;>rcases yat.mp h' with h' | h'
  ·rw [<-h'] at h;exact (Prod.mk.inj h).2
  ·exact absurd (yau.mpr ⟨_,h',by rw [<-h]⟩) nd.1
  ·exact absurd (yau.mpr ⟨_,h,by rw [<-h']⟩) nd.1
  ·exact zgk nd.2 h h'
def zkg{X:Cx}{scope:Scope}{lo n:Nat}{h:Heap}{cl:List (Str×Addr)}(nd:(scope.names.map (·.1)).Nodup)(hn:lo<=n)(hinj:∀x y c,X.env.cells.lookup x=some c->X.env.cells.lookup y=some c->x=y)
  (hcl:∀y c,cl.lookup y=some c->X.env.cells.lookup y=some c) (hlo:∀y c,X.env.cells.lookup y=some c->c<lo) (hhas:∀y,(y,NameKind.free)∈scope.names->∃c,cl.lookup y=some c) (ok:CellsOk h n (cellsFrom n scope.names [])) :
  OwnC X scope lo h (cellsFrom n scope.names []++cl):=by
 have sort:∀y c,(cellsFrom n scope.names []++cl).lookup y=some c->((cellsFrom n scope.names []).lookup y=some c)\/((cellsFrom n scope.names []).lookup y=none/\cl.lookup y=some c):=fun y c e=>by
  rw [zbO] at e
  cases hq:(cellsFrom n scope.names []).lookup y with
  | some c'=>rw [hq] at e;exact .inl e
  | none=>rw [hq] at e;exact .inr ⟨rfl,e⟩
 refine ⟨fun y c e=>?_,fun y z c e e'=>?_,fun y hy=>?_,fun y c hy e=>?_,fun y hy=>?_⟩
 ·rcases sort y c e with z | ⟨_,z⟩
  ·have:=ok.empty y c (yay z);exact .inr ⟨this.1,yax hn this.2⟩
  ·exact .inl (hcl y c z)
 ·rcases sort y c e with a | ⟨_,a⟩<;>rcases sort z c e' with b | ⟨_,b⟩
  ·exact name_of_addr ok.apart (yay a) (yay b)
  ·have h1:=(ok.empty y c (yay a)).2;have h2:=hlo z c (hcl z c b);exact absurd (yah h2 (yax hn h1)) (yaP _)
  ·have h1:=(ok.empty z c (yay b)).2;have h2:=hlo y c (hcl y c a);exact absurd (yah h2 (yax hn h1)) (yaP _)
  ·exact hinj y z c (hcl y c a) (hcl z c b)
 ·rw [zbO]
  cases hq:(cellsFrom n scope.names []).lookup y with
  | some c=>exact ⟨c,rfl⟩
  | none =>
   rcases hy with hy | hy
   ·exact hhas y hy
   ·obtain ⟨c,e⟩:=zbM scope.names n hy;rw [hq] at e;cases e
 ·obtain ⟨c',e'⟩:=zbM scope.names n (yay hy);rw [zbO,e'] at e;have:c'=c:=Option.some.inj e;subst this;exact yax hn (ok.empty y c' (yay e')).2
 ·obtain ⟨c,e⟩:=hhas y hy;refine ⟨c,?_,hcl y c e⟩;rw [zbO]
  cases hq:(cellsFrom n scope.names []).lookup y with
  | some c' =>
   have:=zcu scope.names n (yay hq);cases zgk nd hy this
  | none=>exact e
theorem zk9(S:CompScopeG X.env.scope scope X.N xs caps)(hu:∀p∈caps,∀z∈scope.names,z.1=p.1->z.2=.free)
  (I:Inv X pins σ H s) (hcl:OwnC X scope s.heap.objs.size s'.heap cl)
  (hf:∀b∈fp,zlu X pins H b) (hlt:∀b∈fp,b<s.heap.objs.size) (hC:s.heap.objs.size<=C) (ho:s'.os=s.os) (hg:s'.gens=s.gens) (hk:∀b o,s.heap.get? b=some o->s'.heap.get? b=some o) (hn:s'.heap.Ns C (fun _=>none)) :
  Inv (za6 X xs caps scope cl C s H fp) [] (capσ σ xs.length caps) H s':=by
 have cellK:∀y c,cl.lookup y=some c->∃v,s'.heap.IsCell c v:=fun y c e=>by
  rcases hcl.sort y c e with z | z
  ·obtain ⟨v,o,q,d⟩:=I.cell y c z;exact ⟨v,o,hk _ _ q,d⟩
  ·exact ⟨none,z.1⟩
 refine ⟨⟨I.ok.mod,S.kind,I.ok.glob,I.ok.blt,hC,hcl.inj,fun y hy=>hcl.has y (zga hy),fun y c z e=>hcl.own y c (yaq z) e,I.ok.hd,I.ok.frames,.inl rfl,fun b hb=>⟨yav (yah (hlt b hb) hC),fun y c e=>(hcl.sort y c e).elim (fun z=>(hf b hb).2.2.2.2.1 y c z) fun z=>yaR (yah (hlt b hb) z.2)⟩,
  I.bs,yax I.ok.bsz I.sz,fun b o e hb=>?_,fun b hb hm=>?_,I.stack,I.stkFree⟩,ho,by rw [hg];exact I.bare,Un.kept hk,⟨_,hn,fun i y v h1 h2 h3=>?_⟩,fun y c e=>cellK y c e,I.hok.fresh hC,fun y c e=>(hcl.sort y c e).elim (I.freeC y c) fun z=>I.hok.fresh z.2,fun p hp=>absurd (show p∈([]:Z3) from hp) (by simp),I.hok.kept hk,?_⟩
 ·rcases (hf b hb).2.2.2.1 with z | z
  ·exact I.ok.noex b o e z
  ·exact absurd (yah (yaj e) (yax I.ok.bsz z)) (yaP _)
 ·rcases yat.mp (I.stkSub b hm) with z | z
  ·exact (hf b hb).2.1 z
  ·exact (hf b hb).2.2.1 z
 ·have hi:¬ i<xs.length:=fun hi=>by
   have h2':(capσ σ xs.length caps)[i]?=some (some v):=h2;rw [yaE (by rw [yaH];exact hi),ybc] at h2'
   split at h2'<;>cases h2'
  ·have h1':(caps.map (·.1))[i-xs.length]?=some y:=by
    have h1':(xs++caps.map (·.1))[i]?=some y:=h1;rwa [yaK (by omega)] at h1'
   rw [yao] at h1'
   have h2':(caps.map fun p=>(σ[p.2]?).join)[i-xs.length]?=some (some v):=by
    have h2':(capσ σ xs.length caps)[i]?=some (some v):=h2;rw [yaK (by rw [yaH];omega),yaH] at h2';exact h2'
   rw [yao] at h2'
   cases hp:caps[i-xs.length]? with
   | none=>rw [hp] at h1';cases h1'
   | some p =>
    rw [hp] at h1' h2';have ey:p.1=y:=Option.some.inj h1';have ev:(σ[p.2]?).join=some v:=Option.some.inj h2';subst ey;have hmem:p∈caps:=ya5 hp;obtain ⟨c1,c2,c3⟩:=S.cap p hmem
    have eσ:σ[p.2]?=some (some v):=by
     cases q:σ[p.2]? with
     | none=>rw [q] at ev;cases ev
     | some w=>rw [q] at ev;have:w=some v:=ev;rw [this]
    have hfr:=S.free _ c2 rfl;have hv:Vis X.env.scope p.1:=hfr.elim (fun z=>.inr (.inl z)) (fun z=>.inr (.inr z));obtain ⟨m,_,hl⟩:=I.loc;obtain ⟨u,r,l⟩:=hl p.2 p.1 v c1 eσ hv;refine ⟨u,r,.inr ⟨zdM (scope:=scope) (env:=X.env) c2 (hu p hmem),?_⟩⟩;obtain ⟨c,ec,ec2⟩:=hcl.free p.1 c2;refine ⟨c,ec,?_⟩
    rcases l with ⟨z,_⟩ | ⟨_,c',ec',hcell⟩
    ·exact absurd z c3
    ·have:c'=c:=by rw [ec2] at ec';exact (Option.some.inj ec').symm
     subst this;obtain ⟨o,q,d⟩:=hcell;exact ⟨o,hk _ _ q,d⟩
 ·simp [za6,capσ]
theorem zgK{use:Option (Value->Sem Unit)}{Qf:Z5}{R:VK}{pins:Z3}{s:Shared}{σ:St}{H:Hp}(hc:X.calm=true)(S:CompScopeG X.env.scope scope X.N xs caps)(hi:PI X tg iter wi)(hg:∀cl C s H fp,PG (za6 X xs caps scope cl C s H fp) tg g)
  (ht:∀cl C s H fp,PIf (za6 X xs caps scope cl C s H fp) ifs tt) (he:∀cl C s H fp,PE (za6 X xs caps scope cl C s H fp) elt te)
  (hs:∀v,foldedSetIterable iter X.env v=pure v) (I:Inv X pins σ H s) (h:zhO wi g tt te xs.length caps σ H R)
  (fin:∀(D C:Addr) (s4:Shared) (m4:Z6) (H6:Hp) (r:Flow),s4.heap.Ns C m4->(∀{σ':St} {H7:Hp} {s5:Shared} {h':Heap},Inv X pins σ' H7 s5->Heap.SameBut C s5.heap h'->H7 C=none->Inv X pins σ' H7 { s5 with heap:=h' })->H6 C=none->C≠X.env.locals->(∀y c,X.env.cells.lookup y=some c->C≠c)->Inv X pins σ H6 s4->R (.ref D) H6->compPost (model X.prog X.w) X.A X.xe use Qf (.ref D) C (.ok r) s4) :
  wpAny (model X.prog X.w) X.A (comprehension (.ListComp elt [⟨tg,iter,ifs,0⟩] scope pos) scope X.env (firstIterPos [⟨tg,iter,ifs,0⟩] pos) (newList []) false (eval iter X.env) use) Qf X.xe s:=by
 obtain ⟨cl,hclos,hcl,hhas⟩:=zfb (scope:=scope) (env:=X.env) fun y hy hf=>I.ok.has y.1 (S.free y hy hf)
 refine wpAny_comprehension_free (use:=use) rfl hs hclos S.kind S.names (thn (hi pins s σ H _ I h) fun v s1 h1=>thn h1 fun itv s2 h2=>?_);obtain ⟨it,fp,tn,J,H2,rfl,I2,T,st2,f2,W,⟨m0,w0⟩,zn7⟩:=h2;refine yb9 (zb6 (fun h₁ hns₁ hsb₁ hok₁=>?_));dsimp only at hns₁ hsb₁ hok₁ ⊢;generalize hHp:s2.heap.push { cls:=.type "list",dict:=none,data:=.seq ([]:List Value).toArray }=Hq at hns₁ hsb₁ hok₁ ⊢
 have hCe:Hq.objs.size=s2.heap.objs.size+1:=by rw [<-hHp,ya1]
 have hDC:s2.heap.objs.size≠Hq.objs.size:=by rw [hCe];exact yav (Nat.lt_succ_self _)
 have hC:s2.heap.objs.size<=Hq.objs.size:=by rw [hCe];exact ybg _
 have old:∀b o,s2.heap.get? b=some o->h₁.get? b=some o:=fun b o e=>hsb₁ b o (hHp ▸ yae _ e)
 have hacc:h₁.get? s2.heap.objs.size=some (lob [] 0):=hsb₁ _ _ (hHp ▸ yap _ rfl)
 have cellX:∀y c,X.env.cells.lookup y=some c->c<s2.heap.objs.size:=fun y c e=>by obtain ⟨v,q⟩:=I2.cell y c e;exact q.lt
 have oc:=zkg (X:=X) (lo:=s2.heap.objs.size+1) S.nd (by rw [hCe];exact ybg _) I.ok.inj hcl (fun y c e=>yca (cellX y c e)) hhas hok₁;generalize hcl2:cellsFrom (Hq.objs.size+1) scope.names []++cl=cl2 at oc ⊢;have oc':OwnC X scope s2.heap.objs.size h₁ cl2:=⟨fun y c e=>(oc.sort y c e).imp id fun z=>⟨z.1,ycE z.2⟩,oc.inj,oc.has,fun y c a e=>ycE (oc.own y c a e),oc.free⟩
 have hlt:∀b∈fp,b<s2.heap.objs.size:=fun b hb=>by obtain ⟨o,e,_⟩:=T.obj 0 _ st2 b hb;exact yaj e
 generalize hY:za6 X xs caps scope cl2 Hq.objs.size s2 H2 fp=Y;have PEY:PE Y elt te:=hY ▸ he cl2 _ s2 H2 fp;have PIY:PIf Y ifs tt:=hY ▸ ht cl2 _ s2 H2 fp;have PGY:PG Y tg g:=hY ▸ hg cl2 _ s2 H2 fp
 have I3:Inv Y [] (capσ σ xs.length caps) H2 { s2 with heap:=h₁ }:=by
  rw [<-hY];exact zk9 S S.uniq I2 oc' f2 hlt hC rfl rfl old hns₁
 have eYenv:Y.env=compEnvC scope cl2 Hq.objs.size X.env:=by rw [<-hY];rfl
 have eYloc:Y.env.locals=Hq.objs.size:=by rw [eYenv];rfl
 have eYfs:Y.fs=frs X.stack:=by rw [<-hY];rfl
 have eYprog:Y.prog=X.prog:=by rw [<-hY];rfl
 have eYw:Y.w=X.w:=by rw [<-hY];rfl
 have eYK:Y.K=X.K:=by rw [<-hY];rfl
 have eYA:Y.A=X.A:=by rw [<-hY];rfl
 have eYc:Y.calm=true:=by rw [<-hY];exact hc
 have eYex:Y.ex=fp:=by rw [<-hY];rfl
 have eYs:Y.s₀=s2:=by rw [<-hY];rfl
 have eYH:Y.H₀=H2:=by rw [<-hY];rfl
 have eYpn:Y.pn=[]:=by rw [<-hY];rfl
 have eYcell:∀y c,Y.env.cells.lookup y=some c->X.env.cells.lookup y=some c\/s2.heap.objs.size+1<=c:=fun y c e=>(oc.sort y c (by rwa [eYenv] at e)).imp id (·.2)
 have eYxe:∀e s',¬ Y.xe e s':=fun e s' z=>by rwa [<-hY] at z
 have stkX:∀b∈frs X.stack,b<s2.heap.objs.size:=fun b hb=>by
  rcases yat.mp (I2.stkSub b hb) with z | z
  ·rw [z];exact I2.lt
  ·refine Nat.not_le.mp fun hle=>I2.nofs hle z
 have pinX:∀p∈X.pn++pins,p.1<s2.heap.objs.size:=fun p hp=>yaj (I2.pin p hp).1
 have fpY:∀{H':Hp} {its:List Value} {k:Nat},(∀b∈fp,H' b=none)->∀b∈fp,zlu Y [(s2.heap.objs.size,lob its k)] H' b:=fun {H' its k} hn b hb=>by
  refine ⟨hn b hb,by rw [eYloc];exact yav (yah (hlt b hb) hC),?_,.inl (by rw [eYex];exact hb),fun y c e=>(eYcell y c e).elim (fun z=>(f2 b hb).2.2.2.2.1 y c z) fun z=>yaR (yah (hlt b hb) (ycE z)),fun p hp=>?_⟩
  ·rw [eYfs];intro hm
   rcases yat.mp (I2.stkSub b hm) with z | z
   ·exact (f2 b hb).2.1 z
   ·exact (f2 b hb).2.2.1 z
  ·rw [eYpn] at hp
   have e:p=(s2.heap.objs.size,lob its k):=by simpa using hp
   rw [e];exact yaR (hlt b hb)
 have pinD:∀{H':Hp} {σ':St} {s':Shared} {its:List Value} {k:Nat},Inv Y [] σ' H' s'->s'.heap.get? s2.heap.objs.size=some (lob its k)->H' s2.heap.objs.size=none->Inv Y [(s2.heap.objs.size,lob its k)] σ' H' s':=fun {H' σ' s' its k} I' e n =>
  I'.pins_of fun p hp=>by
   have ep:p=(s2.heap.objs.size,lob its k):=by simpa using hp
   subst ep;refine ⟨e,n,by rw [eYloc];exact hDC,?_,fun v z=>?_⟩
   ·rw [eYfs];exact fun hm=>yaP _ (stkX _ hm)
   ·have z':Data.seq its.toArray k=Data.cell v:=z;cases z'
 have loop:codeAny (model X.prog X.w) X.A (.compLoop (.ListComp elt [⟨tg,iter,ifs,0⟩] scope pos) 0 (.ref it) (.ref s2.heap.objs.size) (compEnvC scope cl2 Hq.objs.size X.env))
   (compPost (model X.prog X.w) X.A X.xe use Qf (.ref s2.heap.objs.size) Hq.objs.size) { s2 with heap:=h₁ }:=by
  refine zms (fun n s'=>∃i σx H' ys its k,Inv Y [(s2.heap.objs.size,lob its k)] σx H' s'/\tn i s'.heap/\(∀b∈fp,H' b=none)/\Vals ys its/\W i n ys σx H') ?_ m0
   ⟨0,capσ σ xs.length caps,H2,[],[],0,pinD I3 hacc (I2.hok.fresh (yai _)),T.keep _ _ _ st2 fun b hb o e=>old b o e,fun b hb=>(f2 b hb).1,.nil,w0⟩
  rintro n s3 ⟨i,σx,H3,ys,its,k,J3,st3,fr3,rv,w3⟩;obtain ⟨hz,hcase⟩:=zn7 i n ys σx H3 w3
  rcases hcase with ⟨stop,q⟩ | ⟨go,step⟩
  ·have hd:=T.done Y eYprog eYw eYK eYc i _ s3 _ H3 (notedBy (model X.prog X.w) X.A (compEnvC scope cl2 Hq.objs.size X.env) fun e s'=>compPost (model X.prog X.w) X.A X.xe use Qf (.ref s2.heap.objs.size) Hq.objs.size (.error e) s') J3 (fpY fr3) st3 stop;rw [eYA] at hd;refine thn hd fun r s4 ⟨hr,J4⟩=>?_
   subst hr;obtain ⟨m4,hn4,_⟩:=J4.loc
   have hn4':s4.heap.Ns Hq.objs.size m4:=by rw [<-eYloc];exact hn4
   have hnC:H3 Hq.objs.size=none:=by rw [<-eYloc];exact J4.free
   have hk5:HOk X.prog X.w H3 s4.heap:=by rw [<-eYprog,<-eYw];exact J4.hok
   have u5:Un (frs X.stack) fp H2 H3 s2.heap s4.heap:=by
    have ub:=J4.base;rwa [eYfs,eYex,eYH,eYs] at ub
   have J5:Inv X pins σ H3 s4:=I2.call' (s':=s4) (ch:=fp) (by have:=J4.os;rwa [eYs] at this) u5 hk5 J4.bare fun b hb=>⟨(f2 b hb).2.2.2.1,(f2 b hb).2.1,(f2 b hb).2.2.2.2.1,(f2 b hb).2.2.2.2.2⟩
   have hp4:=J4.pin (s2.heap.objs.size,lob its k) (yaG _ yar);have hD5:s4.heap.get? s2.heap.objs.size=some (lob its k):=hp4.1;have J6:Inv X pins σ (upd H3 s2.heap.objs.size (.lst ys)) s4:=J5.track hp4.2.1 I2.sz (yaR I2.lt) (fun y c e=>yav (cellX y c e)) (fun p hp=>yav (pinX p hp)) (show zaT X.prog X.w _ s4.heap _ (.lst ys) from ⟨hz,its,k,rv,hD5⟩);have hCloc:Hq.objs.size≠X.env.locals:=yaR (yah I2.lt hC);exact fin _ Hq.objs.size s4 m4 _ _ hn4' (fun {σ'} {H7} {s5} {h'} J sb' hn=>J.turned (t':=s5.toks) (it:=Hq.objs.size) (fun b o hb e=>(sb'.2 b hb).trans e) hn hCloc (.inr (yax I2.sz hC)) (fun y c e=>yav (yah (cellX y c e) hC)) (fun p hp=>yav (yah (pinX p hp) hC))) (by rw [zac (Ne.symm hDC)];exact hnC) hCloc (fun y c e=>yaR (yah (cellX y c e) hC)) J6 (q _ hp4.2.1)
  ·have hd:=T.item Y eYprog eYw eYK eYc i _ s3 _ H3 (notedBy (model X.prog X.w) X.A (compEnvC scope cl2 Hq.objs.size X.env) fun e s'=>compPost (model X.prog X.w) X.A X.xe use Qf (.ref s2.heap.objs.size) Hq.objs.size (.error e) s') J3 (fpY fr3) st3 go;rw [eYA] at hd;refine thn hd fun r s4 ⟨u,hr,h4⟩=>?_
   subst hr;refine thn h4 fun _ s5 ⟨v4,H4,J4,r4,y4,st5,fr4⟩=>?_
   have J4':=J4.pinned (fp:=fp) (fpY fr4) (T.obj _ _ st5);have ha:=PGY _ s5 σx H4 v4 u _ J4' r4 (step v4 H4 y4);rw [eYprog,eYw,eYA,eYenv] at ha;refine yaW ha (fun _ s5' ⟨σ5,H5,J5',q5⟩=>?_) fun e s' z=>(eYxe _ _ z).elim
   have ht5:=PIY _ s5' σ5 H5 _ J5' q5;rw [eYprog,eYw,eYA,eYenv] at ht5;refine yaW ht5 (fun ok s6 ⟨H6,J6,q6⟩=>?_) fun e s' z=>(eYxe _ _ z).elim
   have back:∀{H7:Hp} {s7:Shared},Inv Y ([(s2.heap.objs.size,lob its k)]++zgh fp s5.heap) σ5 H7 s7->tn (i+1) s7.heap/\∀b∈fp,H7 b=none:=fun {H7 s7} J7 =>
    ⟨T.keep _ _ _ st5 fun b hb o e=>(J7.pin (b,o) (yaG _ (yaG _ (zcW hb e)))).1,fun b hb=>by
     obtain ⟨o,e,d⟩:=T.obj _ _ st5 b hb
     exact (J7.pin (b,o) (yaG _ (yaG _ (zcW hb e)))).2.1⟩
   cases ok with
   | false =>
    rw [if_neg ya9] at q6;rw [if_neg ya9];obtain ⟨m',hm',w6⟩:=q6;exact ⟨m',hm',i+1,σ5,H6,ys,its,k,J6.unpinned,(back J6).1,(back J6).2,rv,w6⟩
   | true =>
    rw [if_pos rfl] at q6;rw [if_pos rfl];have he6:=PEY _ s6 _ H6 _ J6 q6;rw [eYprog,eYw,eYA,eYenv] at he6;refine yaW he6 (fun u7 s7 ⟨v7,H7,J7,r7,m',hm',w7⟩=>?_) fun e s' z=>(eYxe _ _ z).elim
    obtain ⟨st7,fr7⟩:=back J7;have hp7:=(J7.unpinned).pin (s2.heap.objs.size,lob its k) (yaG _ yar);have hl:=rv.length;refine append_at (hsz:=by show its.toArray.size<=sizeLine;rw [yam];omega) hp7.1 fun h8 sb8 hD8=>?_
    have J7':Inv Y [] σ5 H7 s7:=J7.unpinned.pins_of fun p hp=>absurd hp (by simp)
    have J8:Inv Y [] σ5 H7 { s7 with heap:=h8 }:=J7'.turned (t':=s7.toks) (it:=s2.heap.objs.size) (fun b o hb e=>(sb8.2 b hb).trans e) hp7.2.1 (by rw [eYloc];exact hDC) (.inr (by rw [eYs];exact yai _)) (fun y c e=>(eYcell y c e).elim (fun z=>yav (cellX y c z)) fun z=>yaR z) (fun p hp=>by rw [eYpn] at hp;simp at hp)
    have hD8':h8.get? s2.heap.objs.size=some (lob (its++[u7]) (k+1)):=by rw [hD8];simp [lob]
    exact ⟨m',hm',i+1,σ5,H7,ys++[v7],its++[u7],k+1,pinD J8 hD8' hp7.2.1,T.keep _ _ _ st7 fun b hb o e=>(sb8.2 b (yav (hlt b hb))).trans e,fr7,rv.append (.cons r7 .nil),w7⟩
 exact codeAny_compStart_list loop (T.self X.A 0 _ _ _ (T.keep _ _ _ st2 fun b hb o e=>old b o e) loop)
def zmd(hc:X.calm=true)(S:CompScopeG X.env.scope scope X.N xs caps)(hi:PI X tg iter wi)(hg:∀cl C s H fp,PG (za6 X xs caps scope cl C s H fp) tg g)
  (ht:∀cl C s H fp,PIf (za6 X xs caps scope cl C s H fp) ifs tt) (he:∀cl C s H fp,PE (za6 X xs caps scope cl C s H fp) elt te)
  (hs:∀v,foldedSetIterable iter X.env v=pure v:=by intro _;rfl):PE X (.ListComp elt [⟨tg,iter,ifs,0⟩] scope pos) (zhO wi g tt te xs.length caps):=by
 intro pins s σ H Q I h;rw [eval_ListComp];exact zgK (use:=none) hc S hi hg ht he hs I h fun D C s4 m4 H6 r hn tr hC _ _ J6 q=>⟨m4,hn,fun h5 sb=>⟨.ref D,H6,tr J6 sb hC,rfl,q⟩⟩
def zl4(hc:X.calm=true)(S:CompScopeG X.env.scope scope X.N xs caps)(hN0:X.N.Nodup)(hi0:X.N[k0]?=some y0)(hx0:Loc X.env.scope y0)(hi:PI X tg iter wi)(hg:∀cl C s H fp,PG (za6 X xs caps scope cl C s H fp) tg g)
  (ht:∀cl C s H fp,PIf (za6 X xs caps scope cl C s H fp) ifs tt) (he:∀cl C s H fp,PE (za6 X xs caps scope cl C s H fp) elt te)
  (hsw:swapsWith (.ListComp elt [⟨tg,iter,ifs,0⟩] scope pos) (some (.Name y0 py)) spos.line X.env=pure true)
  (hf0:X.fn y0=true\/X.env.scope.names.lookup y0=some .local)
  (hs:∀v,foldedSetIterable iter X.env v=pure v):PS X (.Assign [.Name y0 py] (.ListComp elt [⟨tg,iter,ifs,0⟩] scope pos) spos) (zqn (zhO wi g tt te xs.length caps) (zkO k0)):=by
 intro pins s σ H DD I h;rw [exec_Assign_Name_used _ _ _ _ hsw];refine yab (ycK (yab ?_));show wpAny _ X.A (do let _ ← comprehension (.ListComp elt [⟨tg,iter,ifs,0⟩] scope pos) scope X.env _ (newList []) false (eval iter X.env) (some (assign (.Name y0 py) X.env))) _ _ s;refine yab (yaW (zgK (use:=some (assign (.Name y0 py) X.env)) (Qf:=fun _ s'=>SP X pins DD .next s') hc S hi hg ht he hs I h fun D C s4 m4 H6 r hn tr hC hl hce J6 q=>?_) (fun _ s' hq=>yal (yal hq)) fun _ _ e=>e);show wpAny _ X.A (assign (.Name y0 py) X.env (.ref D)) _ X.xe s4;refine wpAny_assign_Name (zf2 (i:=k0) J6 hN0 hi0 hx0 (v:=.ref D) rfl (fun s5 J7 ⟨a,sb,ha⟩=>?_) hf0);have haC:C≠a:=ha.elim (fun z=>by rw [z];exact hl) fun z=>hce _ _ z
 exact ⟨m4,hn.sameBut sb haC,fun h' sb'=>⟨_,_,tr J7 sb' hC,q⟩⟩
end
section
variable{κ:Type}[DecidableEq κ]
noncomputable def zd5(kvs:List (κ×V))(k:κ):Option V:=(kvs.find? fun kv=>decide (kv.1=k)).map (·.2)
noncomputable def zfo(kvs:List (κ×V))(k:κ)(v:V):List (κ×V) :=
 if (kvs.any fun kv=>decide (kv.1=k))=true then kvs.map (fun kv=>if kv.1=k then (kv.1,v) else kv) else kvs++[(k,v)]
noncomputable def zeA(kvs:List (κ×V))(k:κ):List (κ×V):=kvs.filter fun kv=>decide (kv.1≠k)
def zcR{p:κ×V}{r:List (κ×V)}{k:κ}(e:p.1=k):zd5 (p::r) k=some p.2:=by simp [zd5,ybD,e]
def zcS{p:κ×V}{r:List (κ×V)}{k:κ}(e:¬ p.1=k):zd5 (p::r) k=zd5 r k:=by simp [zd5,ybD,e]
theorem zdU(k:κ):∀kvs:List (κ×V),(kvs.any fun kv=>decide (kv.1=k))=(zd5 kvs k).isSome
 | []=>rfl
 | p::r=>by
  rw [ycM]
  by_cases e:p.1=k
  ·simp only [zcR e,yaC e,Bool.true_or,ycz]
  ·rw [zcS e,yaQ e,Bool.false_or];exact zdU k r
theorem zc8(kvs:List (κ×V))(k:κ)(v:V):(zfo kvs k v).length<=kvs.length+1:=by
 unfold zfo;split
 ·rw [yad];omega
 ·rw [yas,yaf,List.length_nil];omega
def zl1{kvs:List (κ×V)}{k:κ}(v:V)(h:zd5 kvs k=none):zfo kvs k v=kvs++[(k,v)]:=by
 unfold zfo;rw [zdU,h];exact if_neg (by decide)
def zfi.isSome_eq{o:Option V}{u:Option Value}(r:zfi o u):o.isSome=u.isSome:=by
 cases o with
 | none=>cases u with
  | none=>rfl
  | some _=>exact (show False from r).elim
 | some _=>cases u with
  | none=>exact (show False from r).elim
  | some _=>rfl
theorem zfi.getD{o:Option V}{u:Option Value}{d:V}{d':Value}(r:zfi o u)(rd:zaW d d'):zaW (o.getD d) (u.getD d'):=by
 cases o with
 | none=>cases u with
  | none=>exact rd
  | some _=>exact (show False from r).elim
 | some _=>cases u with
  | none=>exact (show False from r).elim
  | some _=>exact r
def KV.val{kvs:List (κ×V)}{vs:List (κ×Value)}(r:KV kvs vs)(k:κ):zfi (zd5 kvs k) (valueAt vs k):=by
 unfold KV at r
 induction r with
 | nil=>exact True.intro
 | @cons p q ps qs h t ih =>
  obtain ⟨h1,h2⟩:=h
  by_cases e:p.1=k
  ·have e':q.1=k:=h1.symm.trans e
   have b:valueAt (q::qs) k=some q.2:=by simp [valueAt,ybD,e']
   rw [zcR e,b];exact h2
  ·have e':¬ q.1=k:=fun z=>e (h1.trans z)
   have b:valueAt (q::qs) k=valueAt qs k:=by simp [valueAt,ybD,e']
   rw [zcS e,b];exact ih
theorem KV.any{kvs:List (κ×V)}{vs:List (κ×Value)}(r:KV kvs vs)(k:κ):(kvs.any fun kv=>decide (kv.1=k))=vs.any fun kv=>decide (kv.1=k):=by
 unfold KV at r
 induction r with
 | nil=>rfl
 | cons h t ih=>rw [ycM,ycM,ih,h.1]
def KV.repl{kvs:List (κ×V)}{vs:List (κ×Value)}(r:KV kvs vs)(k:κ){y:V}{u:Value}(ry:zaW y u) :
  KV (kvs.map fun kv=>if kv.1=k then (kv.1,y) else kv) (vs.map fun kv=>if kv.1=k then (kv.1,u) else kv):=by
 unfold KV at r ⊢
 induction r with
 | nil=>exact .nil
 | @cons p q ps qs h t ih =>
  rw [yaw,yaw];refine .cons ?_ ih;obtain ⟨h1,h2⟩:=h
  by_cases e:p.1=k
  ·rw [if_pos e,if_pos (h1.symm.trans e)];exact ⟨h1,ry⟩
  ·rw [if_neg e,if_neg (fun z=>e (h1.trans z))];exact ⟨h1,h2⟩
def KV.put{kvs:List (κ×V)}{vs:List (κ×Value)}(r:KV kvs vs)(k:κ){y:V}{u:Value}(ry:zaW y u):KV (zfo kvs k y) (stored vs k u):=by
 unfold zfo stored;rw [r.any k]
 by_cases e:(vs.any fun kv=>decide (kv.1=k))=true
 ·rw [if_pos e,if_pos e];exact r.repl k ry
 ·rw [if_neg e,if_neg e];exact Paired.snoc r ⟨rfl,ry⟩
def KV.drop{kvs:List (κ×V)}{vs:List (κ×Value)}(r:KV kvs vs)(k:κ):KV (zeA kvs k) (without vs k):=by
 unfold KV at r ⊢;unfold zeA without
 induction r with
 | nil=>exact .nil
 | @cons p q ps qs h t ih =>
  obtain ⟨h1,h2⟩:=h;rw [ybQ,ybQ]
  by_cases e:p.1=k
  ·have a:¬ decide (p.1≠k)=true:=by simp [e]
   have b:¬ decide (q.1≠k)=true:=by simp [h1.symm.trans e]
   rw [if_neg a,if_neg b];exact ih
  ·have e':¬ q.1=k:=fun z=>e (h1.trans z)
   have a:decide (p.1≠k)=true:=by simp [e]
   have b:decide (q.1≠k)=true:=by simp [e']
   rw [if_pos a,if_pos b];exact .cons ⟨h1,h2⟩ ih
def KV.keys{kvs:List (κ×V)}{vs:List (κ×Value)}(r:KV kvs vs):kvs.map (·.1)=vs.map (·.1):=by
 unfold KV at r
 induction r with
 | nil=>rfl
 | cons h t ih=>rw [yaw,yaw,ih,h.1]
theorem KV.length{kvs:List (κ×V)}{vs:List (κ×Value)}(r:KV kvs vs):kvs.length=vs.length:=Paired.length r
def zmL(kvs:List (κ×V))(k:κ):(zeA kvs k).length<=kvs.length:=List.length_filter_le _ _
end
def zfu{P:Program}{w:World}{k:Key}{u:Value}(r:zaW (kV k) u):(zaA P w).is k u=true:=by
 cases k with
 | inl i=>obtain ⟨t,e⟩:=(show ∃t,u=Value.int i t from r);subst e;exact zhb P w i t
 | inr x=>obtain ⟨t,e⟩:=(show ∃t,u=Value.str x t from r);subst e;exact zha P w x t
theorem zgt{P:Program}{w:World}:∀{ks:List Key} {us:List Value},Vals (ks.map kV) us->ItemsAre (zaA P w) ks us
 | [],_,r=>by rw [List.map_nil] at r;cases r;exact .nil
 | k::ks,_,r=>by
  rw [yaw] at r
  cases r with
  | cons h t=>exact .cons (zfu h) (zgt t)
noncomputable abbrev KT(H:Hp):List (List Key×V)->List (List Key×Addr×Value)->Prop:=Paired fun p q=>p.1=q.1/\H q.2.1=some (.tup (p.1.map kV))/\zaW p.2 q.2.2
def KT.val{H:Hp}{kvs:List (List Key×V)}{xs:List (List Key×Addr×Value)}(r:KT H kvs xs)(k:List Key):zfi (zd5 kvs k) ((atKey xs k).map (·.2)):=by
 induction r with
 | nil=>exact True.intro
 | @cons p q ps qs h t ih =>
  obtain ⟨h1,_,h2⟩:=h
  by_cases e:p.1=k
  ·have e':q.1=k:=h1.symm.trans e
   have b:atKey (q::qs) k=some q.2:=by simp [atKey,ybD,e']
   rw [zcR e,b];exact h2
  ·have e':¬ q.1=k:=fun z=>e (h1.trans z)
   have b:atKey (q::qs) k=atKey qs k:=by simp [atKey,ybD,e']
   rw [zcS e,b];exact ih
def KT.repl{H:Hp}{kvs:List (List Key×V)}{xs:List (List Key×Addr×Value)}(r:KT H kvs xs)(k:List Key){y:V}{u:Value}(ry:zaW y u) :
  KT H (kvs.map fun kv=>if kv.1=k then (kv.1,y) else kv) (xs.map (putAt k u)):=by
 induction r with
 | nil=>exact .nil
 | @cons p q ps qs h t ih =>
  rw [yaw,yaw];refine .cons ?_ ih;obtain ⟨h1,h2,h3⟩:=h;unfold putAt
  by_cases e:p.1=k
  ·rw [if_pos e,if_pos (h1.symm.trans e)];exact ⟨h1,h2,ry⟩
  ·rw [if_neg e,if_neg (fun z=>e (h1.trans z))];exact ⟨h1,h2,h3⟩
def KT.put{H:Hp}{kvs:List (List Key×V)}{xs:List (List Key×Addr×Value)}(r:KT H kvs xs)(k:List Key){b:Addr}{y:V}{u:Value}(hb:H b=some (.tup (k.map kV)))(ry:zaW y u) :
  KT H (zfo kvs k y) (storedH xs k b u):=by
 have e:(kvs.any fun kv=>decide (kv.1=k))=(atKey xs k).isSome:=by
  rw [zdU,(r.val k).isSome_eq,ycF]
 unfold zfo storedH;rw [e]
 by_cases q:(atKey xs k).isSome=true
 ·rw [if_pos q,if_pos q];exact r.repl k ry
 ·rw [if_neg q,if_neg q];exact Paired.snoc r ⟨rfl,hb,ry⟩
def KT.keeps{H H':Hp}{kvs:List (List Key×V)}{xs:List (List Key×Addr×Value)}(r:KT H kvs xs)(ht:∀b ys,H b=some (.tup ys)->H' b=some (.tup ys)):KT H' kvs xs :=
 Paired.mapP r fun _ _ z=>⟨z.1,ht _ _ z.2.1,z.2.2⟩
section
variable{P:Program}{w:World}{H:Hp}{h:Heap}{a:Addr}
def zrc{u:HO}(ok:HOk P w H h)(e:Rd H a u):zaT P w H h a u:=e.ok ok
def zeR{kvs:List (Key×V)}(ok:HOk P w H h)(e:Rd H a (.dK kvs)):kvs.length<=sizeLine/\(a == sysModules)=false/\∃vs,KV kvs vs/\h.DictOf (zaA P w) a vs :=
 show zaT P w H h a (.dK kvs) from zrc ok e
def zpV{kvs:List (Key×V)}(ok:HOk P w H h)(e:H a=some (.dK kvs)):kvs.length<=sizeLine/\(a == sysModules)=false/\∃vs,KV kvs vs/\h.DictOf (zaA P w) a vs:=zeR ok (.inl e)
def zeZ{ks:List Key}(ok:HOk P w H h)(e:H a=some (.tup (ks.map kV))):(tupleKind (zaA P w)).is h ks a:=by
 obtain ⟨_,its,r,o,h1,h2,n,h3,_⟩:=(show zaT P w H h a (.tup (ks.map kV)) from ok a _ e);exact ⟨o,its.toArray,n,h1,h2,h3,by simpa using zgt r⟩
def zhp{kvs:List (List Key×V)}(ok:HOk P w H h)(e:Rd H a (.dT kvs)):kvs.length<=sizeLine/\(a == sysModules)=false ∧
  ∃xs,KT H kvs xs/\h.DictOfH (tupleKind (zaA P w)) a xs:=by
 obtain ⟨z,y,xs,r,o,es,ep,h1,h2,h3,h4,h5⟩:=(show zaT P w H h a (.dT kvs) from zrc ok e);refine ⟨z,y,xs,r,o,es,ep,h1,h2,h3,h4,fun x hx=>?_,h5⟩
 have all:∀{l:List (List Key×V)} {m:List (List Key×Addr×Value)},KT H l m->∀x∈m,(tupleKind (zaA P w)).is h x.1 x.2.1:=by
  intro l m q
  induction q with
  | nil=>intro x hx;exact nomatch hx
  | @cons p q ps qs hq t ih =>
   intro x hx
   rcases yat.mp hx with e | hx
   ·subst e;exact zeZ ok (by rw [<-hq.1];exact hq.2.1)
   ·exact ih x hx
 exact all r x hx
def zur{kvs:List (List Key×V)}(ok:HOk P w H h)(e:H a=some (.dT kvs)):kvs.length<=sizeLine/\(a == sysModules)=false ∧
  ∃xs,KT H kvs xs/\h.DictOfH (tupleKind (zaA P w)) a xs:=zhp ok (.inl e)
end
noncomputable def zhB(H:Hp)(a:Addr)(y:V)(r:Option V):Prop :=
 (∃kvs k,Rd H a (.dK kvs)/\y=kV k/\r=zd5 kvs k)\/∃kvs k b,Rd H a (.dT kvs)/\y=.ref b/\H b=some (.tup (k.map kV))/\r=zd5 kvs k
noncomputable def zqh(H:Hp)(a:Addr)(y v:V)(H':Hp):Prop :=
 (∃kvs k,H a=some (.dK kvs)/\y=kV k/\kvs.length<sizeLine/\H'=upd H a (.dK (zfo kvs k v))) ∨
 ∃kvs k b,H a=some (.dT kvs)/\y=.ref b/\H b=some (.tup (k.map kV))/\kvs.length<sizeLine/\H'=upd H a (.dT (zfo kvs k v))
theorem zhB.k{H:Hp}{a:Addr}{kvs:List (Key×V)}{k:Key}(e:H a=some (.dK kvs)):zhB H a (kV k) (zd5 kvs k):=.inl ⟨kvs,k,.inl e,rfl,rfl⟩
theorem zqh.k{H:Hp}{a:Addr}{kvs:List (Key×V)}{k:Key}{v:V}(e:H a=some (.dK kvs))(hl:kvs.length<sizeLine):zqh H a (kV k) v (upd H a (.dK (zfo kvs k v))):=.inl ⟨kvs,k,e,rfl,hl,rfl⟩
section
variable{X:Cx}{pins:Z3}{σ:St}{H:Hp}{s:Shared}{a:Addr}{y v:V}{u r:Value}{o:Option V}{A:Around}{E:Z5}
def Inv.big(I:Inv X pins σ H s):sysModules<s.heap.objs.size:=by
 have h:mainGlobals<s.heap.objs.size:=(I.mod.glob.keeps I.bk).lt;exact Nat.lt_trans (by decide) h
def zgH{Q:Z5}(hu:A.units+1<cLine)(I:Inv X pins σ H s)(g:zhB H a y (some v))(ry:zaW y u)(h:∀w' s',Inv X pins σ H s'->zaW v w'->Q w' s') :
  wpAny (model X.prog X.w) A (getItem (.ref a) u) Q E s:=by
 rcases g with ⟨kvs,k,e,ey,l⟩ | ⟨kvs,k,b,e,ey,eb,l⟩
 ·subst ey;obtain ⟨z,hd,vs,rel,dd⟩:=zeR I.hok e;obtain ⟨w',hw,rw'⟩:=zfi.some_of (v:=v) (o:=valueAt vs k) (by rw [l];exact rel.val k);exact wpAny_getItem_of (zfu ry) dd.mapOf hw (h w' _ (I.tok _) rw')
 ·subst ey;cases (show u=Value.ref b from ry);obtain ⟨z,hd,xs,rel,dd⟩:=zhp I.hok e;obtain ⟨w',hw,rw'⟩:=zfi.some_of (v:=v) (o:=(atKey xs k).map (·.2)) (by rw [l];exact rel.val k);obtain ⟨p,hp,hp2⟩:=yan.mp hw;refine wpAny_getItem_heap (ybx hu) (zeZ I.hok eb) dd hp ?_;rw [hp2];exact h w' _ (I.tok _) rw'
def zvS{Q:Z5}(hu:A.units+1<cLine)(I:Inv X pins σ H s)(g:zhB H a y o)(ry:zaW y u)(h:∀s',Inv X pins σ H s'->Q (.bool o.isSome) s') :
  wpAny (model X.prog X.w) A (compareOp .In u (.ref a)) Q E s:=by
 rcases g with ⟨kvs,k,e,ey,l⟩ | ⟨kvs,k,b,e,ey,eb,l⟩
 ·subst ey;obtain ⟨z,hd,vs,rel,dd⟩:=zeR I.hok e;refine wpAny_in_of (zfu ry) hd dd.mapOf ?_;rw [<-(rel.val k).isSome_eq,<-l];exact h _ (I.tok _)
 ·subst ey;cases (show u=Value.ref b from ry);obtain ⟨z,hd,xs,rel,dd⟩:=zhp I.hok e;refine wpAny_in_heap (ybx hu) (zeZ I.hok eb) hd dd ?_;have q:=(rel.val k).isSome_eq;rw [ycF] at q;rw [<-q,<-l];exact h _ (I.tok _)
def zk5{Q:Z5}(hu:A.units+1<cLine)(I:Inv X pins σ H s)(g:zhB H a y o)(ry:zaW y u)(h:∀s',Inv X pins σ H s'->Q (.bool (!o.isSome)) s') :
  wpAny (model X.prog X.w) A (compareOp .NotIn u (.ref a)) Q E s:=by
 rcases g with ⟨kvs,k,e,ey,l⟩ | ⟨kvs,k,b,e,ey,eb,l⟩
 ·subst ey;obtain ⟨z,hd,vs,rel,dd⟩:=zeR I.hok e;refine wpAny_notIn_of (zfu ry) hd dd.mapOf ?_;rw [<-(rel.val k).isSome_eq,<-l];exact h _ (I.tok _)
 ·subst ey;cases (show u=Value.ref b from ry);obtain ⟨z,hd,xs,rel,dd⟩:=zhp I.hok e;refine wpAny_notIn_heap (ybx hu) (zeZ I.hok eb) hd dd ?_;have q:=(rel.val k).isSome_eq;rw [ycF] at q;rw [<-q,<-l];exact h _ (I.tok _)
def zhs{h':Heap}{t':Nat}{ob:HO}(I:Inv X pins σ H s)(mu:Mut (H a))(hs:Heap.SameBut a s.heap h')(he:∃q,h'.get? a=some q)(new:zaT X.prog X.w (upd H a ob) h' a ob) :
  Inv X pins σ (upd H a ob) { s with heap:=h',toks:=t' } :=
 I.write (x:=a) (e:=a) mu (.inl rfl) (fun b q hb z=>(hs.2 b hb).trans z) he new
def znT{P:Program}{w:World}{H':Hp}{h':Heap}{kvs:List (Key×V)}{vs:List (Key×Value)}(z:kvs.length<=sizeLine)(hd:(a == sysModules)=false)(rel:KV kvs vs)(dd:h'.DictOf (zaA P w) a vs) :
  zaT P w H' h' a (.dK kvs):=⟨z,hd,vs,rel,dd⟩
def zgG{H':Hp}{Q:Unit->Shared->Prop}(hu:A.units+1<cLine)(I:Inv X pins σ H s)(g:zqh H a y v H')(ry:zaW y u)(rv:zaW v r)(h:∀s',Inv X pins σ H' s'->Q () s') :
  wpAny (model X.prog X.w) A (setItem (.ref a) u r) Q E s:=by
 rcases g with ⟨kvs,k,e,ey,l,eH⟩ | ⟨kvs,k,b,e,ey,eb,l,eH⟩
 ·subst ey eH;obtain ⟨z,hd,vs,rel,dd⟩:=zpV I.hok e
  have hz:vs.length<=sizeLine:=by rw [<-rel.length];exact z
  have hl:(zfo kvs k v).length<=sizeLine:=by have:=zc8 kvs k v;omega
  refine wpAny_setItem_pairs (hsz:=hz) (zfu ry) dd fun h' dd' hs=>h _ ?_
  have he:∃q,h'.get? a=some q:=let ⟨q,_,_,hq,_⟩:=dd';⟨q,hq⟩
  exact zhs I (by rw [e];exact True.intro) hs he (znT hl hd (rel.put k rv) dd')
 ·subst ey eH;cases (show u=Value.ref b from ry);obtain ⟨z,hd,xs,rel,dd⟩:=zur I.hok e
  have hz:xs.length<=sizeLine:=by rw [<-Paired.length rel];exact z
  have hl:(zfo kvs k v).length<=sizeLine:=by have:=zc8 kvs k v;omega
  refine wpAny_setItem_heap (hsz:=hz) (ybx hu) (zeZ I.hok eb) dd fun h' dd' hs=>h _ ?_
  obtain ⟨q,es,ep,hq,h2,h3,h4,_,h5⟩:=dd';refine zhs I (by rw [e];exact True.intro) hs ⟨q,hq⟩ ⟨hl,hd,_,(rel.put k eb rv).keeps fun c ys ec=>?_,q,es,ep,hq,h2,h3,h4,h5⟩;rw [zac (ztZ ec e (fun z=>nomatch z))];exact ec
end
section
variable{X:Cx}{pins:Z3}{σ:St}{H:Hp}{s:Shared}{a:Addr}{kvs:List (Key×V)}{k:Key}{u:Value}{A:Around}{E:Z5}
def zut{v:V}{more:List Value}{Q:Z5}(I:Inv X pins σ H s)(e:H a=some (.dK kvs))(ry:zaW (kV k) u)(l:zd5 kvs k=some v)(hm:more=[]\/∃x,more=[x])
  (h:∀w' s',Inv X pins σ (upd H a (.dK (zeA kvs k))) s'->zaW v w'->Q w' s'):wpAny (model X.prog X.w) A (call (.builtin "dict.pop") (.ref a::u::more)) Q E s:=by
 obtain ⟨z,hd,vs,rel,dd⟩:=zpV I.hok e;obtain ⟨w',hw,rw'⟩:=zfi.some_of (v:=v) (o:=valueAt vs k) (by rw [<-l];exact rel.val k)
 have hp:(keyPart u).isSome=true:=by
  cases k with
  | inl i=>obtain ⟨t,q⟩:=(show ∃t,u=Value.int i t from ry);subst q;rfl
  | inr x=>obtain ⟨t,q⟩:=(show ∃t,u=Value.str x t from ry);subst q;rfl
 have ha:argsOk "dict.pop" ⟨.ref a::u::more,[]⟩:=by
  rcases hm with q | ⟨x,q⟩
  ·subst q;exact PySem.F.args_dict_pop_2 _ _
  ·subst q;exact PySem.F.args_dict_pop_3 _ _ _
 refine call_meetsIn yce dd.typeIs PySem.F.entry_dict_pop ha (meets_dict_pop_there (zaA X.prog X.w) a (zfu ry) more hm hp)
  ⟨vs,w',dd,by rw [<-rel.length];exact z,hw,fun h' dd' hs=>h w' _ ?_ rw'⟩
 have he:∃q,h'.get? a=some q:=let ⟨q,_,_,hq,_⟩:=dd';⟨q,hq⟩
 exact zhs I (by rw [e];exact True.intro) hs he (znT (yax (zmL kvs k) z) hd (rel.drop k) dd')
def zsz{r:Value}{Q:Z5}(I:Inv X pins σ H s)(e:H a=some (.dK kvs))(ry:zaW (kV k) u)(l:zd5 kvs k=none)(h:∀s',Inv X pins σ H s'->Q r s') :
  wpAny (model X.prog X.w) A (call (.builtin "dict.pop") [.ref a,u,r]) Q E s:=by
 obtain ⟨z,hd,vs,rel,dd⟩:=zpV I.hok e;have hn:valueAt vs k=none:=zfi.none_of (by rw [<-l];exact rel.val k)
 have hp:(keyPart u).isSome=true:=by
  cases k with
  | inl i=>obtain ⟨t,q⟩:=(show ∃t,u=Value.int i t from ry);subst q;rfl
  | inr x=>obtain ⟨t,q⟩:=(show ∃t,u=Value.str x t from ry);subst q;rfl
 exact call_meetsIn yce dd.typeIs PySem.F.entry_dict_pop (PySem.F.args_dict_pop_3 _ _ _) (meets_dict_pop_default (zaA X.prog X.w) a (zfu ry) hd hp r) ⟨vs,dd,hn,h _ (I.tok _)⟩
end
noncomputable def zuE(i:Expr):Prop:=∀ov iv,subscripted i false ov iv=operate [ov,iv] (getItem ov iv)
def zon{prog:Program}{w:World}{A:Around}{E:Z5}{s:Shared}{env:Env}{value slice:Expr}{pos:Pos}{T id:String}{Q:Z5}
  (hl:typeLookup (.type T) "__getitem__" = pure (some (.builtin id))) (hs:zuE slice)
  (h:wpAny (model prog w) A (eval value env) (fun o s₁=>wpAny (model prog w) A (eval slice env) (fun i s₂=>s₂.TypeIs o T/\wpAny (model prog w) A (getItem o i) Q E s₂) E s₁) E s) :
  wpAny (model prog w) A (eval (.Subscript value slice pos) env) Q E s:=by
 refine Subscript_ (yaW h (fun o s₁ h₁=>yaW h₁ (fun i s₂ h₂=>?_) fun _ _ x=>x) fun _ _ x=>x);obtain ⟨hT,h₂⟩:=h₂;unfold subscriptTail;refine yab ?_;rw [getitemInPython_of_ne hT.not_modules];refine yab (wpAny_specialOf hT hl ?_)
 have fin:wpAny (model prog w) A (subscripted slice false o i) (fun r s₃=>wpAny (model prog w) A (letTemporaryGo value o r >>= fun _=>pure r) Q E s₃) E s₂:=by
  rw [hs o i];exact wpAny_operating (yaW h₂ (fun r s₃ h₃=>yab (wpAny_letTemporaryGo (yal h₃))) fun _ _ x=>x)
 first
  | exact yal (yab fin)
  | exact yab (yal (yab fin))
  | exact yab fin
def zeB{X:Cx}{pins:Z3}{σ:St}{H:Hp}{s:Shared}{a:Addr}{y:V}{o:Option V}(I:Inv X pins σ H s)(g:zhB H a y o):s.TypeIs (.ref a) "dict":=by
 rcases g with ⟨kvs,k,e,_,_⟩ | ⟨kvs,k,b,e,_,_,_⟩
 ·obtain ⟨_,_,vs,_,dd⟩:=zeR I.hok e;exact dd.typeIs
 ·obtain ⟨_,_,xs,_,dd⟩:=zhp I.hok e;exact dd.typeIs
noncomputable def ztt(td ty:TE):TE:=fun σ H Q=>td σ H fun x H1=>ty σ H1 fun y H2=>∃a v,x=.ref a/\zhB H2 a y (some v)/\Q v H2
noncomputable def zu6(ty td:TE):TE:=fun σ H Q=>ty σ H fun y H1=>td σ H1 fun x H2=>∃a o,x=.ref a/\zhB H2 a y o/\Q (.bl o.isSome) H2
noncomputable def zjs(ty td:TE):TE:=fun σ H Q=>ty σ H fun y H1=>td σ H1 fun x H2=>∃a o,x=.ref a/\zhB H2 a y o/\Q (.bl (!o.isSome)) H2
noncomputable def ztE(td ty tv:TE):TS:=fun D σ H=>tv σ H fun v H1=>td σ H1 fun x H2=>ty σ H2 fun y H3=>∃a H4,x=.ref a/\zqh H3 a y v H4/\D.nx σ H4
section
variable{X:Cx}{o i e value:Expr}{pos pos' tpos:Pos}{td ty tv:TE}
def zpb(hu:X.A.units+1<cLine)(ho:PE X o td)(hi:PE X i ty)(hs:zuE i):PE X (.Subscript o i pos) (ztt td ty):=by
 intro pins s σ H Q I h;refine zon PySem.F.slot_dict_getitem.lookup hs (thn (ho pins s σ H _ I h) fun u s1 ⟨x,H1,I1,rx,q1⟩=>thn (hi pins s1 σ H1 _ I1 q1) fun iv s2 ⟨y,H2,I2,ry,a,v,ex,g,q2⟩=>?_);subst ex;obtain rfl:u=Value.ref a:=rx;exact ⟨zeB I2 g,zgH hu I2 g ry fun w' s3 I3 rw'=>⟨v,H2,I3,rw',q2⟩⟩
def znC(hu:X.A.units+1<cLine)(hi:PE X i ty)(ho:PE X o td):PC X .In i o (zu6 ty td):=by
 intro pins s σ H Q I h;refine thn (hi pins s σ H _ I h) fun iv s1 ⟨y,H1,I1,ry,q1⟩=>thn (ho pins s1 σ H1 _ I1 q1) fun u s2 ⟨x,H2,I2,rx,a,ov,ex,g,q2⟩=>?_
 subst ex;obtain rfl:u=Value.ref a:=rx;exact zvS hu I2 g ry fun s3 I3=>⟨.bl ov.isSome,H2,I3,rfl,q2⟩
def zgi(hu:X.A.units+1<cLine)(hi:PE X i ty)(ho:PE X o td):PC X .NotIn i o (zjs ty td):=by
 intro pins s σ H Q I h;refine thn (hi pins s σ H _ I h) fun iv s1 ⟨y,H1,I1,ry,q1⟩=>thn (ho pins s1 σ H1 _ I1 q1) fun u s2 ⟨x,H2,I2,rx,a,ov,ex,g,q2⟩=>?_
 subst ex;obtain rfl:u=Value.ref a:=rx;exact zk5 hu I2 g ry fun s3 I3=>⟨.bl (!ov.isSome),H2,I3,rfl,q2⟩
def zo4(hu:X.A.units+1<cLine)(ho:PE X o td)(hi:PE X i ty)(hv:PE X value tv)(hs:swapsWith value (some (.Subscript o i pos')) pos.line X.env=pure false) :
  PS X (.Assign [.Subscript o i pos'] value pos) (ztE td ty tv):=by
 intro pins s σ H D I h;refine wpAny_Assign_Subscript (thn (hv pins s σ H _ I h) fun r s1 ⟨v,H1,I1,rv,q1⟩=>thn (ho pins s1 σ H1 _ I1 q1) fun u s2 ⟨x,H2,I2,rx,q2⟩=>thn (hi pins s2 σ H2 _ I2 q2) fun iv s3 ⟨y,H3,I3,ry,a,H4,ex,g,q3⟩=>?_) hs;subst ex;obtain rfl:u=Value.ref a:=rx;exact zgG hu I3 g ry rv fun s4 I4=>⟨σ,H4,I4,q3⟩
end
def zmM{P:Program}{w:World}{H:Hp}(h:Heap)(hb:sysModules<h.objs.size):zaT P w H (h.push { cls:=.type "dict",data:=.dict #[] }) h.objs.size (.dK []) :=
 ⟨yaD _,ya6.mpr (Ne.symm (yav hb)),[],.nil,Heap.DictOf.new h⟩
noncomputable def zqD:TE:=fun _ H Q=>∀p,H p=none->Q (.ref p) (upd H p (.dK []))
section
variable{X:Cx}{pos:Pos}
def zh4:PE X (.Dict [] [] pos) zqD:=fun pins s σ H Q I h =>
 wpAny_Dict_empty ⟨.ref s.heap.objs.size,_,I.laid (a:=s.heap.objs.size) (o:=.dK []) (t':=s.toks) (fun _ _ q=>yae _ q) (yai _) (zmM s.heap I.big),rfl,h _ (I.hok.fresh (yai _))⟩
end
structure M1(X:Cx)(o:Expr)(m:Str)(apos:Pos)(e:Expr)(cpos:Pos):Prop where
 base:attributeBase o m X.env (eval o X.env)=eval o X.env
 few:((backTo cpos (starEach [e] X.env)).all (fun x=>!x.1)&&(backToKw cpos (keywordEach [] X.env)).all (fun x=>x.1.isSome)
  && decide (([e]:List Expr).length+([]:List Keyword).length+(if ([]:List Keyword).isEmpty then 0 else 1)<30))=true
 line:(apos.endLine == cpos.line)=true
 trees:backTo cpos (starEach [e] X.env)=[(false,eval e X.env)]
structure M2(X:Cx)(o:Expr)(m:Str)(apos:Pos)(e f:Expr)(cpos:Pos):Prop where
 base:attributeBase o m X.env (eval o X.env)=eval o X.env
 few:((backTo cpos (starEach [e,f] X.env)).all (fun x=>!x.1)&&(backToKw cpos (keywordEach [] X.env)).all (fun x=>x.1.isSome)
  && decide (([e,f]:List Expr).length+([]:List Keyword).length+(if ([]:List Keyword).isEmpty then 0 else 1)<30))=true
 line:(apos.endLine == cpos.line)=true
 trees:backTo cpos (starEach [e,f] X.env)=[(false,eval e X.env),(false,eval f X.env)]
noncomputable def IsD(H:Hp)(a:Addr):Prop:=(∃kvs,Rd H a (.dK kvs))\/∃kvs,Rd H a (.dT kvs)
def znN{X:Cx}{pins:Z3}{σ:St}{H:Hp}{s:Shared}{a:Addr}(I:Inv X pins σ H s)(d:IsD H a) :
  s.TypeIs (.ref a) "dict" /\ (∀b,Value.ref a=.ref b->∃ob,s.heap.get? b=some ob/\ob.dict=none)/\(a == sysModules)=false:=by
 rcases d with ⟨kvs,e⟩ | ⟨kvs,e⟩
 ·obtain ⟨_,hd,vs,_,dd⟩:=zeR I.hok e;refine ⟨dd.typeIs,fun b q=>?_,hd⟩;cases q;obtain ⟨ob,_,_,h1,h2,_⟩:=dd;exact ⟨ob,h1,h2.2.1⟩
 ·obtain ⟨_,hd,xs,_,dd⟩:=zhp I.hok e;refine ⟨dd.typeIs,fun b q=>?_,hd⟩;cases q;obtain ⟨ob,_,_,h1,h2,_⟩:=dd;exact ⟨ob,h1,h2.2.1⟩
section
variable{X:Cx}{pins:Z3}{σ:St}{H:Hp}{s:Shared}{a:Addr}{y d:V}{u r:Value}{o:Option V}{A:Around}{E:Z5}
def zsA{Q:Z5}(hu:A.units+1<cLine)(I:Inv X pins σ H s)(g:zhB H a y o)(ry:zaW y u)(h:∀w' s',Inv X pins σ H s'->zaW (o.getD .non) w'->Q w' s') :
  wpAny (model X.prog X.w) A (call (.builtin "dict.get") [.ref a,u]) Q E s:=by
 rcases g with ⟨kvs,k,e,ey,l⟩ | ⟨kvs,k,b,e,ey,eb,l⟩
 ·subst ey;obtain ⟨z,hd,vs,rel,dd⟩:=zeR I.hok e;refine call_meetsIn ycf dd.typeIs PySem.F.entry_dict_get (PySem.F.args_dict_get_2 _ _) (meets_dict_get (zaA X.prog X.w) a (zfu ry) hd) ⟨_,dd.mapOf,h _ _ (I.tok _) ?_⟩;rw [l];exact (rel.val k).getD rfl
 ·subst ey;cases (show u=Value.ref b from ry);obtain ⟨z,hd,xs,rel,dd⟩:=zhp I.hok e;refine call_meetsIn ycf dd.typeIs PySem.F.entry_dict_get (PySem.F.args_dict_get_2 _ _) (meetsH_dict_get (tupleKind (zaA X.prog X.w)) a b hd) ⟨ybx hu,k,xs,zeZ I.hok eb,dd,h _ _ (I.tok _) ?_⟩;rw [l];exact (rel.val k).getD rfl
end
noncomputable def zqE(td ty:TE):TE:=fun σ H Q=>td σ H fun x H1=>∃a,x=.ref a/\IsD H1 a/\ty σ H1 fun y H2=>∃o,zhB H2 a y o/\Q (o.getD .non) H2
noncomputable def zqC(td ty tx:TE):TE:=fun σ H Q=>td σ H fun x H1=>∃a,x=.ref a/\IsD H1 a/\ty σ H1 fun y H2=>tx σ H2 fun z H3=>∃kvs k,H3 a=some (.dK kvs)/\y=kV k ∧
 (∀v,zd5 kvs k=some v->Q v (upd H3 a (.dK (zeA kvs k))))/\(zd5 kvs k=none->Q z H3)
section
variable{X:Cx}{o e f:Expr}{apos cpos:Pos}{td ty tx:TE}
def zmb(hu:X.A.units+1<cLine)(ho:PE X o td)(he:PE X e ty)(m:M1 X o "get" apos e cpos):PE X (.Call (.Attribute o "get" apos) [e] [] cpos) (zqE td ty):=by
 intro pins s σ H Q I h;refine wpAny_Call_method m.base m.few m.line PySem.F.plainAttrs_dict ycf PySem.F.type_dict_get (thn (ho pins s σ H _ I h) fun u s1 ⟨x,H1,I1,rx,a,ex,d,q1⟩=>?_);subst ex;obtain rfl:u=Value.ref a:=rx;obtain ⟨t1,t2,_⟩:=znN I1 d;refine ⟨t1,t2,?_⟩;rw [m.trees];refine ybw rfl (ybN (yb1 (thn (he pins s1 σ H1 _ I1 q1) fun iv s2 ⟨y,H2,I2,ry,ov,g,q2⟩=>ycD ?_)));exact zsA hu I2 g ry fun w' s3 I3 rw'=>⟨_,H2,I3,rw',q2⟩
def zma(ho:PE X o td)(he:PE X e ty)(hf:PE X f tx)(m:M2 X o "pop" apos e f cpos):PE X (.Call (.Attribute o "pop" apos) [e,f] [] cpos) (zqC td ty tx):=by
 intro pins s σ H Q I h;refine wpAny_Call_method m.base m.few m.line PySem.F.plainAttrs_dict yce PySem.F.type_dict_pop (thn (ho pins s σ H _ I h) fun u s1 ⟨x,H1,I1,rx,a,ex,d,q1⟩=>?_);subst ex;obtain rfl:u=Value.ref a:=rx;obtain ⟨t1,t2,_⟩:=znN I1 d;refine ⟨t1,t2,?_⟩;rw [m.trees]
 refine ybw rfl (ybN (yb1 (thn (he pins s1 σ H1 _ I1 q1) fun iv s2 ⟨y,H2,I2,ry,q2⟩ =>
  yb1 (thn (hf pins s2 σ H2 _ I2 q2) fun fv s3 ⟨z,H3,I3,rz,kvs,k,ea,ey,q3,q4⟩=>ycD ?_))))
 subst ey
 cases l:zd5 kvs k with
 | some v=>exact zut I3 ea ry l (.inr ⟨fv,rfl⟩) fun w' s4 I4 rw'=>⟨v,_,I4,rw',q3 v l⟩
 | none=>exact zsz I3 ea ry l fun s4 I4=>⟨z,H3,I4,rz,q4 l⟩
end
noncomputable def zgJ(CX:CXT)(P:Program)(w:World)(K:PySem.W.Frag)(mg:Z6)(base:Heap)(N:List Str)(qual:Str)(scope:Scope)(f:Addr)(cd:Value)(clos:List (Str×Addr))(A:Around)(outer:List Env)(s:Shared)(H:Hp)(E:XK):Cx where
 prog:=P
 w:=w
 K:=K
 mg:=mg
 base:=base
 A:=A.deeper (PySem.W.envX qual scope s.heap.objs.size f cd clos)
 N:=N
 s₀:=s
 H₀:=H
 env:=PySem.W.envX qual scope s.heap.objs.size f cd clos
 outer:=outer
 stack:=PySem.W.envX qual scope s.heap.objs.size f cd clos::outer
 ex:=[]
 calm:=true
 fn:=fun _=>false
 pn:=[]
 xe:=fun e s'=>wpAny (model P w) (A.deeper (PySem.W.envX qual scope s.heap.objs.size f cd clos)) (leaving (PySem.W.envX qual scope s.heap.objs.size f cd clos) e) (fun _ s''=>CX outer H s E e s'') (fun e' s''=>CX outer H s E e' s'') s'
structure LamSc(N:List Str)(sc:Scope):Prop where
 kind:sc.kind=.function
 co:sc.isCoroutine=false
 gen:sc.isGenerator=false
 nocell:∀y∈sc.names,y.2≠.cell
 free:∀x∈N,sc.names.lookup x=some .free
structure LamAt(h:Heap)(H:Hp)(f:Addr)(params:Arguments)(qual:Str)(body:Expr)(sc:Scope)(N:List Str)(vs:List V)(clos:List (Str×Addr))(c:Addr)(pm ctv:Value):Prop where
 fn:h.get? f=some (PySem.W.kla_obj "<lambda>" qual params body sc clos pm c ctv)
 code:h.CodeRec (.ref c) qual
 inj:∀x y a,clos.lookup x=some a->clos.lookup y=some a->x=y
 has:∀x,sc.names.lookup x=some .free->∃a,clos.lookup x=some a
 cell:∀x a,clos.lookup x=some a->H a=none/\∃v,h.IsCell a v
 val:∀(i:Nat) (x:Str) (v:V),N[i]?=some x->vs[i]?=some v->∃u a,zaW v u/\clos.lookup x=some a/\h.IsCell a (some u)
 len:vs.length=N.length
def LamAt.keep{h h':Heap}{H H':Hp}{f:Addr}{params:Arguments}{qual:Str}{body:Expr}{sc:Scope}{N:List Str}{vs:List V}{clos:List (Str×Addr)}{c:Addr}{pm ctv:Value}
  (L:LamAt h H f params qual body sc N vs clos c pm ctv) (kf:∀o,h.get? f=some o->h'.get? f=some o) (kc:∀o,h.get? c=some o->h'.get? c=some o) (k:∀x a o,clos.lookup x=some a->h.get? a=some o->h'.get? a=some o/\H' a=none):LamAt h' H' f params qual body sc N vs clos c pm ctv:=by
 obtain ⟨f1,⟨c',oc,us,t,ec,c1,c2⟩,i,hs,ce,vl,ln⟩:=L;cases ec;refine ⟨kf _ f1,⟨_,oc,us,t,rfl,kc _ c1,c2⟩,i,hs,fun x a e=>?_,fun j x v e1 e2=>?_,ln⟩
 ·obtain ⟨h1,v,o,h3,h4⟩:=ce x a e;exact ⟨(k _ _ _ e h3).2,v,o,(k _ _ _ e h3).1,h4⟩
 ·obtain ⟨u,a,r,e,o,h3,h4⟩:=vl j x v e1 e2;exact ⟨u,a,r,e,o,(k _ _ _ e h3).1,h4⟩
def zku{CX:CXT}{P:Program}{w:World}{K:PySem.W.Frag}{mg:Z6}{base:Heap}{N:List Str}{qual:Str}{params:Arguments}{body:Expr}{sc:Scope}{f c:Addr}{clos:List (Str×Addr)}{A:Around}{outer:List Env}{s:Shared}{h1:Heap}{tk:Nat}{H:Hp}{E:XK}{vs:List V}{pm ctv:Value}
  (S:LamSc N sc) (hd:A.handled=none) (e0:Env0 P w K mg base A outer s H) (L:LamAt s.heap H f params qual body sc N vs clos c pm ctv) (hn:h1.Ns s.heap.objs.size (fun _=>none)) (hk:∀b o,s.heap.get? b=some o->h1.get? b=some o) :
  Inv (zgJ CX P w K mg base N qual sc f (.ref c) clos A outer s H E) [] (vs.map some) H { s with heap:=h1,toks:=tk }:=by
 have noA:∀b:Addr,b ∉ (zgJ CX P w K mg base N qual sc f (.ref c) clos A outer s H E).ex:=fun b z=>absurd (show b∈([]:List Addr) from z) (by simp)
 refine ⟨⟨e0.mod,S.kind,rfl,rfl,yai _,fun y z a h1 h2=>L.inj y z a h1 h2,fun y hy=>?_,(fun y a h _=>by cases h),fun _=>hd,Around.frames_deeper e0.frames,.inr ⟨rfl,rfl⟩,fun b z=>absurd z (noA b),e0.bs,e0.bsz,fun b _ _=>noA b,fun b z=>absurd z (noA b),e0.funs,e0.frf⟩,
  rfl,e0.bare,Un.kept hk,⟨_,hn,fun i y v h1 h2 h3=>?_⟩,fun y a h=>?_,e0.hok.fresh (yai _),fun y a h=>(L.cell y a h).1,fun p hp=>absurd (show p∈([]:Z3) from hp) (by simp),e0.hok.kept hk,?_⟩
 ·rcases (hy:sc.names.lookup y=some .cell\/sc.names.lookup y=some .free) with hy | hy
  ·exact absurd rfl (S.nocell _ (yay hy))
  ·exact L.has y hy
 ·rw [yao] at h2
  cases e:vs[i]? with
  | none=>rw [e] at h2;cases h2
  | some x =>
   rw [e] at h2;cases h2;obtain ⟨u,a,r,e1,o,h3,h4⟩:=L.val i y v h1 e;exact ⟨u,r,.inr ⟨.inr (S.free y (ya5 h1)),a,e1,o,hk _ _ h3,h4⟩⟩
 ·obtain ⟨_,v,o,h3,h4⟩:=L.cell y a h;exact ⟨v,o,hk _ _ h3,h4⟩
 ·show (vs.map some).length=N.length;rw [yad,L.len]
def zpr{CX:CXT}{P:Program}{w:World}{K:PySem.W.Frag}{mg:Z6}{base:Heap}{k:Nat}{N:List Str}{qual:Str}{params:Arguments}{body:Expr}{sc:Scope}{f c:Addr}{clos:List (Str×Addr)}{A:Around}{outer:List Env}{s:Shared}{H:Hp}{E:XK}{Q:VK}{vs:List V}{pm ctv:Value}{te:TE}
  (S:LamSc N sc) (hr:Room (k+1) A) (e0:Env0 P w K mg base A outer s H) (L:LamAt s.heap H f params qual body sc N vs clos c pm ctv) (hb:bindArgs (PySem.W.kla_fn "<lambda>" qual params body sc clos pm (.ref c) ctv) ⟨[],[]⟩=pure [])
  (hp:Room k (A.deeper (PySem.W.envX qual sc s.heap.objs.size f (.ref c) clos))->PE (zgJ CX P w K mg base N qual sc f (.ref c) clos A outer s H E) body te) (hq:te (vs.map some) H Q) :
  codeAny (model P w) A (.call (.ref f) ⟨[],[]⟩) (CR CX outer P w H s Q E) s:=by
 have lim:s.heap.NoLimit:=e0.mod.nolimit.keeps fun b o e=>(e0.bs b o e).1
 refine PySem.W.kla_callFunE hr.depth L.fn rfl S.co S.gen rfl L.code ?_;rw [hb];refine yal (wpAny_newFunctionEnv S.nocell (fun _ z=>by cases z) (fun h₁ hns hsb=>⟨lim.fresh _ hsb,?_⟩) S.kind);have hk:∀b o,s.heap.get? b=some o->h₁.get? b=some o:=fun b o e=>hsb.extBut b o (yav (yaj e)) (yae _ e)
 show codeAny _ _ (.expr body (PySem.W.envX qual sc s.heap.objs.size f (.ref c) clos)) _ _;have I:=zku (CX:=CX) (E:=E) (tk:=s.toks+0) S hr.hd e0 L hns hk;refine PySem.W.kla_codeExpr (yaW (hp (hr.deeper _) [] _ _ H Q I hq) (fun u s' ⟨v,H',J,rv,q⟩=>?_) fun e s' hs=>hs);exact ⟨v,H',J.os,J.bare,J.base,J.hok,rv,q⟩
section
variable{X:Cx}{CX:CXT}{k:Nat}{N:List Str}{qual x:Str}{params:Arguments}{body:Expr}{sc:Scope}{f c:Addr}{clos:List (Str×Addr)}{E:XK}{vs:List V}{pm ctv:Value}{of oc:Obj}{uf uc:HO}{te:TE}{p pos:Pos}{i:Nat}
def Inv.lamAt{pins:Z3}{σ:St}{H:Hp}{s:Shared}(I:Inv X pins σ H s)(L:LamAt X.s₀.heap X.H₀ f params qual body sc N vs clos c pm ctv)(hf:X.H₀ f=some (.frz of uf))(hc:X.H₀ c=some (.frz oc uc))(h0:HOk X.prog X.w X.H₀ X.s₀.heap)
  (hx:∀x a,clos.lookup x=some a->a ∉ X.fs/\a ∉ X.ex):LamAt s.heap H f params qual body sc N vs clos c pm ctv:=by
 have fz:∀b ob u,X.H₀ b=some (.frz ob u)->∀o,X.s₀.heap.get? b=some o->s.heap.get? b=some o:=fun b ob u e o g=>by
  have e1:=(h0 b _ e).1;have e2:=(I.hok b _ (I.base.frzs b ob u e)).1;rw [e1] at g;cases g;exact e2
 exact L.keep (fz f of uf hf) (fz c oc uc hc) fun y a o e g=>⟨I.base.keep a o g (L.cell y a e).1 (hx y a e).1 (hx y a e).2,I.base.free a o g (L.cell y a e).1 (hx y a e).2⟩
end
section
variable{X:Cx}{pins:Z3}{σ:St}{H:Hp}{s:Shared}{P c:Addr}{ps more:Array Value}{h':Heap}{t':Nat}
def Inv.tblUp(I:Inv X pins σ H s)(hP:H P=some (.tbl ps))(hx:Heap.ExtBut P s.heap h')(ht:h'.get? P=some (PySem.W.tabObj (ps++more))):Inv X pins σ (upd H P (.tbl (ps++more))) { s with heap:=h',toks:=t' }:=by
 have ne:∀b,H b=none->b≠P:=fun b e z=>by rw [z,hP] at e;cases e
 refine I.un ⟨fun b o e n _ _=>hx b o (ne b n) e,fun b o e n _ _=>⟨o.slots,hx b o (ne b n) e⟩,fun b o e n _=>by rw [zac (ne b n)];exact n,fun b o e _=>?_,fun b xs e=>?_,fun b o u e=>?_,fun b qs e=>?_⟩ fun b u q=>?_
 ·by_cases hb:b=P
  ·exact ⟨_,hb ▸ ht⟩
  ·exact ⟨o,hx b o hb e⟩
 ·rw [zac (fun z=>by rw [z,hP] at e;cases e)];exact e
 ·rw [zac (fun z=>by rw [z,hP] at e;cases e)];exact e
 ·by_cases hb:b=P
  ·subst hb;rw [hP] at e;cases e;exact ⟨more,zap⟩
  ·exact ⟨#[],by rw [zac hb,e];simp⟩
 ·by_cases hb:b=P
  ·subst hb;rw [zap] at q;cases q;exact ht
  ·rw [zac hb] at q
   refine (I.hok b u q).stay (fun d v hd r=>hx d v ?_ r) (fun d r=>by rw [zac (fun z=>by rw [z,hP] at r;cases r)];exact r) fun d xs r=>by rw [zac (fun z=>by rw [z,hP] at r;cases r)];exact r
   rcases hd with rfl | hd
   ·exact hb
   ·exact fun z=>by rw [z,hP] at hd;cases hd
end
noncomputable def ziA(qual:Str)(oc:Obj):Prop:=∃us t,oc.data=.fields us/\us[1]?=some (.str qual t)
noncomputable def zm8(mg:Z6)(h:Heap):Prop:=∃bm ob,mg "__builtins__" = some (.ref bm)/\bm≠builtinsNs/\h.get? bm=some ob/\ob.cls=.type "module" /\ ob.dict=some builtinsNs/\ob.data=.plain
noncomputable def zwp(P:Addr)(pos:Pos)(fo:Addr->Value->Obj)(qual:Str):TE:=fun σ H Q=>∃ps,H P=some (.tbl ps)/\TriplesOk ps.toList ∧
 (codeAmong pos ps.toList=none->∀f c oc ctv,H f=none->H c=none->f≠c->ziA qual oc →
  Q (.ref f) (upd (upd (upd H P (.tbl (ps++#[rawInt pos.line,rawInt pos.col,.ref c]))) c (.frz oc (.own c))) f (.frz (fo c ctv) (.own f)))) ∧
 ∀cv,codeAmong pos ps.toList=some cv->∃c oc,cv=.ref c/\H c=some (.frz oc (.own c))/\ziA qual oc/\∀f ctv,H f=none->Q (.ref f) (upd H f (.frz (fo c ctv) (.own f)))
def zry{X:Cx}{params:Arguments}{body:Expr}{sc:Scope}{pos:Pos}{cd P:Addr}{clos:List (Str×Addr)}(hcd:X.env.code=.ref cd)(hC:PySem.W.CodeHd X.base cd P)(hB:zm8 X.mg X.base)(hcl:closureFor sc X.env=pure clos)(hdef:defaultsOf params X.env=([],[])) :
  PE X (.Lambda params body sc pos) (zwp P pos (fun c ctv=>PySem.W.kla_obj "<lambda>" (X.env.qual ++ "<lambda>") params body sc clos ((X.mg "__name__").getD .none) c ctv) (X.env.qual ++ "<lambda>")):=by
 intro pins s σ H Q I h;obtain ⟨ps,hP,ht,hmiss,hhit⟩:=h;have gP:s.heap.get? P=some (PySem.W.tabObj ps):=I.hok P _ hP;have hg:s.heap.Ns mainGlobals X.mg:=I.mod.glob.keeps I.bk;obtain ⟨bm,ob,b1,b2,b3,b4,b5,b6⟩:=hB
 have hgP:mainGlobals≠P:=fun q=>by
  obtain ⟨o,es,ep,e,hd,_⟩:=hg;rw [q,gP] at e;cases e;cases hd
 have hbP:bm≠P:=fun q=>by
  have e:=I.bk _ _ b3;rw [q,gP] at e;cases e;cases b4
 have hbG:bm≠mainGlobals:=fun q=>by
  obtain ⟨o,es,ep,e,hd,_⟩:=hg;have e':=I.bk _ _ b3;rw [q,e] at e';cases e';rw [hd] at b6;cases b6
 have bb:s.heap.BuiltinsAt X.mg P:=⟨bm,ob,b1,b2,hbG,hbP,I.bk _ _ b3,b4,b5,b6⟩;refine PySem.W.kla_eval hdef ?_
 cases hca:codeAmong pos ps.toList with
 | none =>
  refine PySem.W.kla_makeFunction (mg:=X.mg) hcl I.ok.glob hg hcd (hC.keeps I.bk) gP ht hca hgP bb fun c' ctv h1 tk hx hge hlt hrec htb=>?_
  obtain ⟨c2,oc,vs,t,e2,hoc,hd,hv⟩:=hrec;cases e2;have I1:=I.tblUp (t':=tk) hP hx htb;have hcP:c'≠P:=fun z=>absurd (yah (yaj gP) hge) (by rw [z];exact yaP _)
  have hcN:H c'=none:=I.hok.fresh hge
  have hcN1:upd H P (.tbl (ps++#[rawInt pos.line,rawInt pos.col,.ref c'])) c'=none:=by rw [zac hcP];exact hcN
  have I2:=I1.track (D:=c') (o:=.frz oc (.own c')) hcN1 (yax I.sz hge) (fun z=>absurd (yah I.lt hge) (by rw [z];exact yaP _)) (fun x a e z=>by
    obtain ⟨v,q⟩:=I.cell x a e
    exact absurd (yah q.lt hge) (by rw [z];exact yaP _)) (fun p hp z=>absurd (yah (yaj (I.pin p hp).1) hge) (by rw [z];exact yaP _)) ⟨hoc,oc,hoc⟩
  have fne:h1.objs.size≠c':=yaR hlt;have fP:h1.objs.size≠P:=yaR (yaj htb);refine ⟨.ref h1.objs.size,_,I2.laid (t':=tk) (a:=h1.objs.size) (o:=.frz (PySem.W.kla_obj "<lambda>" (X.env.qual ++ "<lambda>") params body sc clos ((X.mg "__name__").getD .none) c' ctv) (.own h1.objs.size)) (fun b u e=>yae _ e) (yai _) ⟨yap _ rfl,_,yap _ rfl⟩,rfl,?_⟩;refine hmiss hca _ c' oc ctv ?_ hcN fne ⟨vs,t,hd,hv⟩;have:=I2.hok.fresh (a:=h1.objs.size) (yai _);rwa [zac fne,zac fP] at this
 | some cv =>
  obtain ⟨c,oc,rfl,hc,⟨us,t,hd,hv⟩,hq⟩:=hhit cv hca;refine PySem.W.kla_makeFunctionHit (mg:=X.mg) hcl I.ok.glob hg hcd (hC.keeps I.bk) gP ht hca bb fun ctv h1 tk hk hsz=>?_
  have I1:=I.kept (t':=tk) hk;refine ⟨.ref h1.objs.size,_,I1.laid (t':=tk) (a:=h1.objs.size) (o:=.frz (PySem.W.kla_obj "<lambda>" (X.env.qual ++ "<lambda>") params body sc clos ((X.mg "__name__").getD .none) c ctv) (.own h1.objs.size)) (fun b u e=>yae _ e) (yai _) ⟨yap _ rfl,_,yap _ rfl⟩,rfl,?_⟩;exact hq _ ctv (I1.hok.fresh (a:=h1.objs.size) (yai _))
def zlB{H:Hp}{a:Addr}{o:HO}(h:H a=some o):upd H a o=H:=by
 funext b
 by_cases e:b=a
 ·rw [e,zap,h]
 ·rw [zac e]
def Inv.fz{X:Cx}{pins:Z3}{σ:List (Option V)}{H:Hp}{s:Shared}{a:Addr}{kvs:List (Key×V)}(I:Inv X pins σ H s)(e:H a=some (.dK kvs)):∃ob,Inv X pins σ (upd H a (.frz ob (.dK kvs))) s:=by
 have x:zaT X.prog X.w H s.heap a (.dK kvs):=I.hok a _ e;obtain ⟨z,y,vs,r,ob,es,ep,g,c⟩:=id x
 have ne:∀(b:Addr) (u:HO),H b=some u->u≠.dK kvs->upd H a (.frz ob (.dK kvs)) b=some u:=fun b u hb hn=>by
  rw [zac (fun q=>hn (by rw [q,e] at hb;cases hb;rfl))];exact hb
 refine ⟨ob,I.un (t':=s.toks) ⟨fun _ _ g _ _ _=>g,fun _ o g _ _ _=>⟨o.slots,g⟩,fun b o _ n _=>?_,fun _ o g _=>⟨o,g⟩,fun b xs h=>ne b _ h (by simp),fun b o u h=>ne b _ h (by simp),fun b ps h=>⟨#[],by rw [Array.append_empty];exact ne b _ h (by simp)⟩⟩
  (HOk.write I.hok (x:=a) (by rw [e];trivial) (.inl rfl) (fun _ _ _ g=>g) ⟨ob,g⟩ ⟨g,?_⟩)⟩
 ·rw [zac (fun q=>by rw [q,e] at n;cases n)];exact n
 ·exact x.stay (fun _ _ _ g=>g) (fun b h=>ne b _ h (by simp)) fun b xs h=>ne b _ h (by simp)
end L2
namespace S2
open PySem PySem.Spec PyProof.Rows L2
noncomputable abbrev St:=L2.St
inductive D where
 | non | bl (b:Bool) | int (i:Int) | str (x:Str) | tup (l:List D) | lst (l:List D) | dic (l:List (D×D)) | ref (n:Nat) | exc (c:Str) | scr (l:List Int)
inductive Root where
 | slot (i:Nat) | fld (n:Nat) (f:Str) | obj (n:Nat) | far | tab
 deriving DecidableEq
noncomputable abbrev Ow:=Addr->Option Root
structure Cf where
 ad:Str->Addr
 K:PySem.W.Frag
 P:Program
 wo:PySem.World
 tabs:Addr->Option Str:=fun _=>none
noncomputable instance:CoeFun Cf (fun _=>Str->Addr):=⟨Cf.ad⟩
structure Wd where
 H:Hp
 ow:Ow
 mu:List Addr
mutual
inductive Shd(cl:Cf)(w:Wd):V->D->Prop
 | non:Shd cl w .non .non
 | bl (b:Bool):Shd cl w (.bl b) (.bl b)
 | int (i:Int):Shd cl w (.int i) (.int i)
 | str (x:Str):Shd cl w (.str x) (.str x)
 | tup {a:Addr} {xs:List V} {ds:List D}:w.H a=some (.tup xs)->w.ow a=none->Shds cl w xs ds->Shd cl w (.ref a) (.tup ds)
 | lst {a:Addr} {xs:List V} {ds:List D}:w.H a=some (.lst xs)->w.ow a=none->Shds cl w xs ds->Shd cl w (.ref a) (.lst ds)
 | dicK {a:Addr} {ob:Obj} {kvs:List (Key×V)} {ds:List (D×D)}:w.H a=some (.frz ob (.dK kvs))->w.ow a=none->ShdK cl w kvs ds->Shd cl w (.ref a) (.dic ds)
 | ref {n:Nat} {a:Addr}:w.mu[n]?=some a->Shd cl w (.ref a) (.ref n)
 | scr {a:Addr} {o:Obj} {l:List Int}:w.H a=some (.frz o (.lst (l.map V.int)))->w.ow a=none->Shd cl w (.ref a) (.scr l)
 | scrK {a:Addr} {l:List Int}:(∀H:Hp,SqL cl.K H a (l.map V.int))->Shd cl w (.ref a) (.scr l)
 | exc {a:Addr} {c:Str} {ob:Obj}:w.H a=some (.frz ob (.own a))->w.ow a=none->ob.cls=.ref (cl c)->Shd cl w (.ref a) (.exc c)
inductive Shds(cl:Cf)(w:Wd):List V->List D->Prop
 | nil:Shds cl w [] []
 | cons {v:V} {d:D} {vs:List V} {ds:List D}:Shd cl w v d->Shds cl w vs ds->Shds cl w (v::vs) (d::ds)
inductive ShdK(cl:Cf)(w:Wd):List (Key×V)->List (D×D)->Prop
 | nil:ShdK cl w [] []
 | consI {i:Int} {v:V} {d:D} {vs:List (Key×V)} {ds:List (D×D)}:Shd cl w v d->ShdK cl w vs ds->ShdK cl w ((.inl i,v)::vs) ((.int i,d)::ds)
 | consS {x:Str} {v:V} {d:D} {vs:List (Key×V)} {ds:List (D×D)}:Shd cl w v d->ShdK cl w vs ds->ShdK cl w ((.inr x,v)::vs) ((.str x,d)::ds)
end
structure Fut(w w':Wd):Prop where
 keep:∀a o,w.H a=some o->w.ow a=none->w'.H a=some o/\w'.ow a=none
 mu:∀(n:Nat) (a:Addr),w.mu[n]?=some a->w'.mu[n]?=some a
def Fut.refl(w:Wd):Fut w w:=⟨fun _ _ h k=>⟨h,k⟩,fun _ _ h=>h⟩
def Fut.trans(a:Fut w w1)(b:Fut w1 w2):Fut w w2:=⟨fun c o h k=>b.keep c o (a.keep c o h k).1 (a.keep c o h k).2,fun n c h=>b.mu n c (a.mu n c h)⟩
mutual
theorem Shd.up{cl:Cf}{w w':Wd}(f:Fut w w'):∀{v:V} {d:D},Shd cl w v d->Shd cl w' v d
 | _,_,.non=>.non
 | _,_,.bl b=>.bl b
 | _,_,.int i=>.int i
 | _,_,.str x=>.str x
 | _,_,.tup e k r=>.tup (f.keep _ _ e k).1 (f.keep _ _ e k).2 (Shds.up f r)
 | _,_,.lst e k r=>.lst (f.keep _ _ e k).1 (f.keep _ _ e k).2 (Shds.up f r)
 | _,_,.dicK e k r=>.dicK (f.keep _ _ e k).1 (f.keep _ _ e k).2 (ShdK.up f r)
 | _,_,.ref e=>.ref (f.mu _ _ e)
 | _,_,.scr e k=>.scr (f.keep _ _ e k).1 (f.keep _ _ e k).2
 | _,_,.scrK h=>.scrK h
 | _,_,.exc e k h=>.exc (f.keep _ _ e k).1 (f.keep _ _ e k).2 h
theorem Shds.up{cl:Cf}{w w':Wd}(f:Fut w w'):∀{vs:List V} {ds:List D},Shds cl w vs ds->Shds cl w' vs ds
 | _,_,.nil=>.nil
 | _,_,.cons r t=>.cons (Shd.up f r) (Shds.up f t)
theorem ShdK.up{cl:Cf}{w w':Wd}(f:Fut w w'):∀{vs:List (Key×V)} {ds:List (D×D)},ShdK cl w vs ds->ShdK cl w' vs ds
 | _,_,.nil=>.nil
 | _,_,.consI r t=>.consI (Shd.up f r) (ShdK.up f t)
 | _,_,.consS r t=>.consS (Shd.up f r) (ShdK.up f t)
end
section
variable{cl:Cf}{w:Wd}
theorem Shds.length:∀{vs:List V} {ds:List D},Shds cl w vs ds->vs.length=ds.length
 | _,_,.nil=>rfl
 | _,_,.cons _ t=>by rw [yaf,yaf,Shds.length t]
theorem Shds.get:∀{vs:List V} {ds:List D},Shds cl w vs ds->∀{i:Nat} {v:V},vs[i]?=some v->∃d,ds[i]?=some d/\Shd cl w v d
 | _,_,.nil,i,v,e=>by simp at e
 | _,_,.cons r _,0,v,e=>by simp at e;subst e;exact ⟨_,rfl,r⟩
 | _,_,.cons _ t,i+1,v,e=>by
  obtain ⟨d,h1,h2⟩:=Shds.get t (i:=i) (v:=v) (by simpa using e);exact ⟨d,by simpa using h1,h2⟩
theorem Shds.at:∀{vs:List V} {ds:List D},Shds cl w vs ds->∀{i:Nat} {d:D},ds[i]?=some d->∃v,vs[i]?=some v/\Shd cl w v d
 | _,_,.nil,i,v,e=>by simp at e
 | _,_,.cons r _,0,v,e=>by simp at e;subst e;exact ⟨_,rfl,r⟩
 | _,_,.cons _ t,i+1,v,e=>by
  obtain ⟨d,h1,h2⟩:=Shds.at t (i:=i) (d:=v) (by simpa using e);exact ⟨d,by simpa using h1,h2⟩
theorem Shds.append:∀{vs ws:List V} {ds es:List D},Shds cl w vs ds->Shds cl w ws es->Shds cl w (vs++ws) (ds++es)
 | _,_,_,_,.nil,s=>s
 | _,_,_,_,.cons r t,s=>.cons r (Shds.append t s)
theorem Shds.take:∀{vs:List V} {ds:List D} (n:Nat),Shds cl w vs ds->Shds cl w (vs.take n) (ds.take n)
 | _,_,0,_=>.nil
 | _,_,_+1,.nil=>.nil
 | _,_,n+1,.cons r t=>.cons r (Shds.take n t)
end
inductive Top(cl:Cf)(w:Wd):HO->D->Prop
 | lst {xs:List V} {ds:List D}:Shds cl w xs ds->Top cl w (.lst xs) (.lst ds)
 | dicK {kvs:List (Key×V)} {ds:List (D×D)}:ShdK cl w kvs ds->Top cl w (.dK kvs) (.dic ds)
theorem Top.up(f:Fut w w'):Top cl w o d->Top cl w' o d
 | .lst h=>.lst (h.up f)
 | .dicK h=>.dicK (h.up f)
noncomputable def zgU(cl:Cf)(w:Wd)(r:Root):Bool->V->D->Prop
 | false,v,d=>Shd cl w v d
 | true,v,d=>∃a o,v=.ref a/\w.ow a=some r/\w.H a=some o/\Top cl w o d
theorem zgU.keep(f:Fut w w')(k:∀a o,w.H a=some o->w.ow a=some r->w'.H a=some o/\w'.ow a=some r):∀{b:Bool} {v:V} {d:D},zgU cl w r b v d->zgU cl w' r b v d
 | false,_,_,h=>Shd.up f h
 | true,_,_,⟨a,o,e,h1,h2,t⟩=>⟨a,o,e,(k a o h2 h1).2,(k a o h2 h1).1,t.up f⟩
noncomputable def zhA(cl:Cf)(w:Wd)(r:Root)(own:Bool)(v:V)(d:D):Prop:=(own=false/\Shd cl w v d)\/(own=true/\∃d0,d=.tup [d0]/\zgU cl w r true v d0)
theorem zhA.keep(f:Fut w w')(k:∀a o,w.H a=some o->w.ow a=some r->w'.H a=some o/\w'.ow a=some r)(h:zhA cl w r b v d):zhA cl w' r b v d:=by
 rcases h with ⟨e,h⟩ | ⟨e,d0,e1,h⟩
 ·exact .inl ⟨e,h.up f⟩
 ·exact .inr ⟨e,d0,e1,h.keep f k⟩
structure Ob where
 cls:Str
 fs:List (Str×Bool×D)
noncomputable abbrev Sto:=List Ob
noncomputable def zcA(cl:Cf)(w:Wd)(n:Nat):List (Str×V)->List (Str×Bool×D)->Prop:=Paired fun p q=>p.1=q.1/\zhA cl w (.fld n q.1) q.2.1 p.2 q.2.2
noncomputable def zsS(cl:Cf)(w:Wd)(n:Nat)(a:Addr)(ob:Ob):Prop:=w.ow a=some (.obj n)/\∃dx fs,w.H a=some (.ins (cl ob.cls) dx fs)/\zcA cl w n fs ob.fs
noncomputable def zrM(n:Nat):Option Root->Prop | some (.obj m)=>m=n | some (.fld m _)=>m=n | _=>False
theorem zcA.keep(f:Fut w w')(k:∀a o,w.H a=some o->zrM n (w.ow a)->w'.H a=some o/\w'.ow a=w.ow a):∀{fs:List (Str×V)} {gs:List (Str×Bool×D)},zcA cl w n fs gs->zcA cl w' n fs gs
 | _,_,.nil=>.nil
 | _,_,.cons ⟨e,h⟩ t=>.cons ⟨e,h.keep f fun a o ha hr=>by
   have:=k a o ha (by rw [hr];rfl)
   exact ⟨this.1,this.2.trans hr⟩⟩ (zcA.keep f k t)
theorem zsS.keep(f:Fut w w')(k:∀a o,w.H a=some o->zrM n (w.ow a)->w'.H a=some o/\w'.ow a=w.ow a)(h:zsS cl w n a ob):zsS cl w' n a ob:=by
 obtain ⟨h1,dx,fs,h2,h3⟩:=h;have:=k a _ h2 (by rw [h1];rfl);exact ⟨this.2.trans h1,dx,fs,this.1,h3.keep f k⟩
noncomputable def zls(w:Wd)(qual:Str)(ps:Array Value):Prop:=TriplesOk ps.toList/\∀pos cv,codeAmong pos ps.toList=some cv->∃c oc,cv=.ref c/\(w.H c=some (.frz oc (.own c))/\w.ow c=none)/\ziA qual oc
def zls.up{w w':Wd}(f:Fut w w'){q:Str}{ps:Array Value}(h:zls w q ps):zls w' q ps :=
 ⟨h.1,fun pos cv e=>let ⟨c,oc,h1,h2,h3⟩:=h.2 pos cv e;⟨c,oc,h1,f.keep _ _ h2.1 h2.2,h3⟩⟩
noncomputable def zm5(cl:Cf)(w:Wd):Prop:=∀P q,cl.tabs P=some q->∃ps,w.H P=some (.tbl ps)/\w.ow P=some .tab/\zls w q ps
def zm5.keep{cl:Cf}{w w':Wd}(h:zm5 cl w)(f:Fut w w')(k:∀P ps,w.H P=some (.tbl ps)->w.ow P=some .tab->w'.H P=some (.tbl ps)/\w'.ow P=some .tab):zm5 cl w':=fun P q e =>
 let ⟨ps,h1,h2,h3⟩:=h P q e;⟨ps,(k P ps h1 h2).1,(k P ps h1 h2).2,h3.up f⟩
structure Base where
 Fr:Hp
 fw:Ow
structure World'(cl:Cf)(B:Base)(w:Wd)(S:Sto):Prop where
 fr:∀a o,B.Fr a=some o->w.H a=some o/\w.ow a=B.fw a
 own:∀a r,w.ow a=some r->r=.far\/B.Fr a=none
 len:w.mu.length=S.length
 obj:∀(n:Nat) (ob:Ob),S[n]?=some ob->∃a,w.mu[n]?=some a/\zsS cl w n a ob
 tab:zm5 cl w
noncomputable abbrev Env:=List (Option (Bool×D))
structure Rel(cl:Cf)(B:Base)(σ:St)(w:Wd)(ρ:Env)(S:Sto):Prop where
 wd:World' cl B w S
 len:σ.length=ρ.length
 slots:∀(i:Nat) (o:Bool) (d:D),ρ[i]?=some (some (o,d))->∃v,σ[i]?=some (some v)/\zgU cl w (.slot i) o v d
structure Grow(w w':Wd):Prop where
 keep:∀a o,w.H a=some o->w'.H a=some o/\w'.ow a=w.ow a
 new:∀a r,w'.ow a=some r->w.H a=none->w.ow a=some r\/r=.far
 mu:w'.mu=w.mu
def Grow.refl(w:Wd):Grow w w:=⟨fun _ _ h=>⟨h,rfl⟩,fun _ _ h _=>.inl h,rfl⟩
def Grow.fut(g:Grow w w'):Fut w w':=⟨fun a o h k=>⟨(g.keep a o h).1,(g.keep a o h).2.trans k⟩,fun n a h=>by rw [g.mu];exact h⟩
def World'.grow(W:World' cl B w S)(g:Grow w w'):World' cl B w' S where
 fr:=fun a o h=>by
  obtain ⟨h1,h2⟩:=W.fr a o h;exact ⟨(g.keep a o h1).1,(g.keep a o h1).2.trans h2⟩
 own:=fun a r h=>by
  cases e:w.H a with
  | none=>exact (g.new a r h e).elim (W.own a r) .inl
  | some o=>exact W.own a r (by rw [<-(g.keep a o e).2];exact h)
 len:=by rw [g.mu];exact W.len
 obj:=fun n ob h=>by
  obtain ⟨a,e,x⟩:=W.obj n ob h;exact ⟨a,by rw [g.mu];exact e,x.keep g.fut fun a o ha _=>g.keep a o ha⟩
 tab:=W.tab.keep g.fut fun P ps h1 h2=>⟨(g.keep P _ h1).1,(g.keep P _ h1).2.trans h2⟩
theorem Rel.grow(R:Rel cl B σ w ρ S)(g:Grow w w'):Rel cl B σ w' ρ S where
 wd:=R.wd.grow g
 len:=R.len
 slots:=fun i o d h=>by
  obtain ⟨v,e,x⟩:=R.slots i o d h;exact ⟨v,e,x.keep g.fut fun a o ha hr=>⟨(g.keep a o ha).1,(g.keep a o ha).2.trans hr⟩⟩
def Wd.add(w:Wd)(p:Addr)(o:HO):Wd:=⟨upd w.H p o,fun a=>if a=p then none else w.ow a,w.mu⟩
def zaD(h:w.H p=none)(o:HO):Grow w (w.add p o) where
 keep:=fun a u ha=>by
  have n:a≠p:=zaw ha h;refine ⟨?_,?_⟩
  ·show upd w.H p o a=_;rw [zac n];exact ha
  ·show (if a=p then none else w.ow a)=_;rw [if_neg n]
 new:=fun a r h1 h2=>by
  have h1':(if a=p then none else w.ow a)=some r:=h1;split at h1'
  ·cases h1'
  ·exact .inl h1'
 mu:=rfl
def zgT{w:Wd}:(w.add p o).ow p=none:=if_pos rfl
def zjc{w:Wd}:(w.add p o).H p=some o:=zap
def Shd.newT(h:w.H p=none)(r:Shds cl w xs ds):Shd cl (w.add p (.tup xs)) (.ref p) (.tup ds):=.tup zjc zgT (r.up (zaD h _).fut)
def Shd.newL(h:w.H p=none)(r:Shds cl w xs ds):Shd cl (w.add p (.lst xs)) (.ref p) (.lst ds):=.lst zjc zgT (r.up (zaD h _).fut)
theorem Top.fz{X:Cx}{pins:Z3}{σ:List (Option V)}{H:Hp}{s:Shared}{cl:Cf}{w:Wd}{a:Addr}{o:HO}{d:D}(t:Top cl w o d)(I:Inv X pins σ H s)(h:H a=some o):∃o',Inv X pins σ (upd H a o') s/\∀w',Fut w w'->w'.H a=some o'->w'.ow a=none->Shd cl w' (.ref a) d:=by
 cases t with
 | lst t=>exact ⟨_,by rw [zlB h];exact I,fun w' f e k=>.lst e k (t.up f)⟩
 | dicK t =>
  obtain ⟨ob,I'⟩:=I.fz h;exact ⟨_,I',fun w' f e k=>.dicK e k (t.up f)⟩
inductive Out(α:Type) where
 | ok (a:α) (S:Sto) | exc (c:Str) (S:Sto) | bad
noncomputable abbrev Fe:=Env->Sto->Out D
inductive Fo where
 | nx (ρ:Env) (S:Sto) | rt (d:D) (S:Sto) | bk (ρ:Env) (S:Sto) | ct (ρ:Env) (S:Sto) | ex (c:Str) (ρ:Env) (S:Sto) | bad
noncomputable abbrev Fs:=Env->Sto->Fo
noncomputable def tE(cl:Cf)(E:St->XK)(f:Fe):TE:=fun σ H Q=>∃B w ρ S,w.H=H/\Rel cl B σ w ρ S/\match f ρ S with
 | .ok d S'=>∀v w',Rel cl B σ w' ρ S'->Fut w w'->Shd cl w' v d->Q v w'.H
 | .exc c S'=>∀w',Rel cl B σ w' ρ S'->Fut w w'->E σ (.ref (cl c)) none w'.H
 | .bad=>False
noncomputable def tN(cl:Cf)(E:St->XK)(f:Fe):TE:=fun σ H Q=>∃B w ρ S,w.H=H/\Rel cl B σ w ρ S/\match f ρ S with
 | .ok d S'=>∀p o w',Rel cl B σ w' ρ S'->Fut w w'->w'.H p=none->Top cl w' o d->Q (.ref p) (upd w'.H p o)
 | .exc c S'=>∀w',Rel cl B σ w' ρ S'->Fut w w'->E σ (.ref (cl c)) none w'.H
 | .bad=>False
noncomputable def Hd(cl:Cf)(σ:St)(ρ:Env)(w:Wd)(v:V)(d:D):Prop:=Shd cl w v d\/∃i:Nat,ρ[i]?=some (some (true,d))/\σ[i]?=some (some v)
noncomputable def tH(cl:Cf)(E:St->XK)(f:Fe):TE:=fun σ H Q=>∃B w ρ S,w.H=H/\Rel cl B σ w ρ S/\match f ρ S with
 | .ok d S'=>∀v w',Rel cl B σ w' ρ S'->Fut w w'->Hd cl σ ρ w' v d->Q v w'.H
 | .exc c S'=>∀w',Rel cl B σ w' ρ S'->Fut w w'->E σ (.ref (cl c)) none w'.H
 | .bad=>False
inductive TopV(cl:Cf)(w:Wd):V->D->Prop
 | sh {v:V} {d:D}:Shd cl w v d->TopV cl w v d
 | ow {a:Addr} {o:HO} {d:D}:w.H a=some o->Top cl w o d->TopV cl w (.ref a) d
def Hd.top(h:Hd cl σ ρ w v d)(R:Rel cl B σ w ρ S):TopV cl w v d:=by
 rcases h with h | ⟨i,h1,h2⟩
 ·exact .sh h
 ·obtain ⟨v',e,a,o,rfl,_,h3,t⟩:=R.slots i true d h1;rw [h2] at e;cases e;exact .ow h3 t
theorem Hd.up(f:Fut w w')(h:Hd cl σ ρ w v d):Hd cl σ ρ w' v d:=by
 rcases h with h | h
 ·exact .inl (h.up f)
 ·exact .inr h
def PE.imp(h:PE X e t)(i:∀σ H Q,t' σ H Q->t σ H Q):PE X e t':=fun pins s σ H Q I q=>h pins s σ H Q I (i _ _ _ q)
def ztp(h:tH cl E f σ H Q):tE cl E f σ H Q:=by
 obtain ⟨B,w,ρ,S,e,R,h⟩:=h;refine ⟨B,w,ρ,S,e,R,?_⟩
 cases hf:f ρ S with
 | ok d S' =>
  rw [hf] at h;intro v w' R' F' t;exact h v w' R' F' (.inl t)
 | exc c S'=>rwa [hf] at h
 | bad=>rwa [hf] at h
noncomputable def Out.bind{α β:Type}(o:Out α)(k:α->Sto->Out β):Out β:=match o with | .ok a S=>k a S | .exc c S=>.exc c S | .bad=>.bad
noncomputable def Out.of{α:Type}(o:Option α)(S:Sto):Out α:=match o with | some a=>.ok a S | none=>.bad
@[simp] def Out.bind_ok{α β:Type}(a:α)(S:Sto)(k:α->Sto->Out β):(Out.ok a S).bind k=k a S:=rfl
@[simp] def Out.bind_exc{α β:Type}(c:Str)(S:Sto)(k:α->Sto->Out β):(Out.exc c S:Out α).bind k=.exc c S:=rfl
@[simp] def Out.bind_bad{α β:Type}(k:α->Sto->Out β):(Out.bad:Out α).bind k=.bad:=rfl
@[simp] def Out.of_some{α:Type}(a:α)(S:Sto):Out.of (some a) S=.ok a S:=rfl
noncomputable def zam(i:Nat):Fe:=fun ρ S=>match ρ[i]? with | some (some (false,d))=>.ok d S | _=>.bad
noncomputable def zaj(i:Nat):Fe:=fun ρ S=>match ρ[i]? with | some (some (_,d))=>.ok d S | _=>.bad
noncomputable def zai(d:D):Fe:=fun _ S=>.ok d S
def eUn(g:D->Option D)(f:Fe):Fe:=fun ρ S=>(f ρ S).bind fun a S1=>Out.of (g a) S1
def zak(g:D->D->Option D)(f h:Fe):Fe:=fun ρ S=>(f ρ S).bind fun a S1=>(h ρ S1).bind fun b S2=>Out.of (g a b) S2
noncomputable def isB:D->Option Bool | .bl b=>some b | _=>none
def eIf(c f h:Fe):Fe:=fun ρ S=>(c ρ S).bind fun d S1=>match isB d with | some true=>f ρ S1 | some false=>h ρ S1 | none=>.bad
def zfT(f h:Fe):Fe:=fun ρ S=>(f ρ S).bind fun d S1=>match isB d with | some true=>h ρ S1 | some false=>.ok (.bl false) S1 | none=>.bad
def eOr(f h:Fe):Fe:=fun ρ S=>(f ρ S).bind fun d S1=>match isB d with | some true=>.ok (.bl true) S1 | some false=>h ρ S1 | none=>.bad
noncomputable def zcG:D->Option D | .bl b=>some (.bl (!b)) | _=>none
def zao:List Fe->Env->Sto->Out (List D)
 | [],_,S=>.ok [] S
 | f::fs,ρ,S=>(f ρ S).bind fun d S1=>(zao fs ρ S1).bind fun ds S2=>.ok (d::ds) S2
noncomputable def small(n:Nat):Bool:=decide (n<=100000)
def zd4(fs:List Fe):Fe:=fun ρ S=>(zao fs ρ S).bind fun ds S1=>if small ds.length then .ok (.tup ds) S1 else .bad
def zin(fs:List Fe):Fe:=fun ρ S=>(zao fs ρ S).bind fun ds S1=>if small ds.length then .ok (.lst ds) S1 else .bad
def zaz(g:List D->Option D)(fs:List Fe):Fe:=fun ρ S=>(zao fs ρ S).bind fun ds S1=>Out.of (g ds) S1
def zaZ(h:small n=true):n<=sizeLine:=yax (yaq h) (by decide)
noncomputable def zbr:Expr->Bool | .Starred _ _=>false | _=>true
def zbh(h:zbr e=true):starEach (e::es) env=(false,eval e env)::starEach es env:=by
 cases e<;>first | rfl | cases h
theorem zbl:∀{es:List Expr},es.all zbr=true->(backTo pos (starEach es env)).any (·.1)=false
 | [],_=>rfl
 | e::es,h=>by
  rw [ya2,yaa] at h;rw [zbh h.1];show (false||(backTo pos (starEach es env)).any (·.1))=false;rw [zbl h.2];rfl
theorem zgg:∀{es:List Expr},es.all zbr=true->(backTo pos (starEach es env)).all (fun x=>!x.1)=true
 | [],_=>rfl
 | e::es,h=>by
  rw [ya2,yaa] at h;rw [zbh h.1];show (true&&(backTo pos (starEach es env)).all (fun x=>!x.1))=true;rw [zgg h.2];rfl
def zim(h:es.all zbr=true)(hl:es.length<30):((backTo pos (starEach es env)).all (fun x=>!x.1)&&(backToKw pos (keywordEach [] env)).all (fun x=>x.1.isSome)
   && decide (es.length+([]:List Keyword).length+(if ([]:List Keyword).isEmpty then 0 else 1)<30))=true:=by
 rw [zgg h];show (true&&true&&decide (es.length+0+0<30))=true;simpa using hl
noncomputable def Hds(cl:Cf)(σ:St)(ρ:Env)(w:Wd):List V->List D->Prop:=Paired (Hd cl σ ρ w)
noncomputable def zlr(cl:Cf)(w:Wd):List V->List D->Prop:=Paired (TopV cl w)
theorem Hds.top(R:Rel cl B σ w ρ S):∀{vs:List V} {ds:List D},Hds cl σ ρ w vs ds->zlr cl w vs ds
 | _,_,.nil=>.nil
 | _,_,.cons h t=>.cons (h.top R) (Hds.top R t)
noncomputable def tAs(cl:Cf)(E:St->XK)(fs:List Fe):TA:=fun σ H Q=>∃B w ρ S,w.H=H/\Rel cl B σ w ρ S/\match zao fs ρ S with
 | .ok ds S'=>∀vs w',Rel cl B σ w' ρ S'->Fut w w'->Shds cl w' vs ds->Q vs w'.H
 | .exc c S'=>∀w',Rel cl B σ w' ρ S'->Fut w w'->E σ (.ref (cl c)) none w'.H
 | .bad=>False
noncomputable def tHs(cl:Cf)(E:St->XK)(fs:List Fe):TA:=fun σ H Q=>∃B w ρ S,w.H=H/\Rel cl B σ w ρ S/\match zao fs ρ S with
 | .ok ds S'=>∀vs w',Rel cl B σ w' ρ S'->Fut w w'->Hds cl σ ρ w' vs ds->Q vs w'.H
 | .exc c S'=>∀w',Rel cl B σ w' ρ S'->Fut w w'->E σ (.ref (cl c)) none w'.H
 | .bad=>False
def PA.imp(h:PA X es t)(i:∀σ H Q,t' σ H Q->t σ H Q):PA X es t':=fun pos pins s σ H Q I q=>h pos pins s σ H Q I (i _ _ _ q)
def PT.imp(h:PT X e t)(i:∀σ H Q,t' σ H Q->t σ H Q):PT X e t':=fun pins s σ H Q I q=>h pins s σ H Q I (i _ _ _ q)
section
variable{X:Cx}{cl:Cf}{E:St->XK}{a b c e:Expr}{f h g:Fe}{pos:Pos}
def zqZ(hN:X.N[i]?=some x)(hv:Vis X.env.scope x)(hd:(x == ("__debug__":Str))=false)(hcd:(x == ("__classdict__":Str))=false):PE X (.Name x pos) (tE cl E (zam i)):=by
 refine PE.imp (zaU hN hv hd hcd) ?_;rintro σ H Q ⟨B,w,ρ,S,rfl,R,q⟩;unfold zam at q;split at q
 ·rename_i o d S' hm;split at hm
  ·rename_i d' he;cases hm;obtain ⟨v,e,r⟩:=R.slots i false d he;exact ⟨v,e,q v w R (Fut.refl _) r⟩
  ·cases hm
 ·rename_i hm;split at hm<;>cases hm
 ·exact q.elim
def zjH(hN:X.N[i]?=some x)(hv:Vis X.env.scope x)(hd:(x == ("__debug__":Str))=false)(hcd:(x == ("__classdict__":Str))=false):PE X (.Name x pos) (tH cl E (zaj i)):=by
 refine PE.imp (zaU hN hv hd hcd) ?_;rintro σ H Q ⟨B,w,ρ,S,rfl,R,q⟩;unfold zaj at q;split at q
 ·rename_i o d S' hm;split at hm
  ·rename_i b d' he;cases hm;obtain ⟨v,e,r⟩:=R.slots i b d he;refine ⟨v,e,q v w R (Fut.refl _) ?_⟩
   cases b with
   | false=>exact .inl r
   | true=>exact .inr ⟨i,he,e⟩
  ·cases hm
 ·rename_i hm;split at hm<;>cases hm
 ·exact q.elim
def zfl(h:PE X e (tC v))(hd:∀w,Shd cl w v d):PE X e (tE cl E (zai d)):=by
 refine PE.imp h ?_;rintro σ H Q ⟨B,w,ρ,S,rfl,R,q⟩;exact q v w R (Fut.refl _) (hd w)
def zck(h:PE X e (tE cl E f)):PE X e (tH cl E f):=PE.imp h fun _ _ _=>ztp
def zbZ(h:PE X e (tN cl E f)):PE X e (tE cl E f):=by
 intro pins s σ H Q I q;obtain ⟨B,w,ρ,S,rfl,R,q⟩:=q;refine yaW (h pins s σ w.H (fun v H'=>∀s',Inv X pins σ H' s'->∃H'',Inv X pins σ H'' s'/\Q v H'') I ⟨B,w,ρ,S,rfl,R,?_⟩) (fun v s' hv=>?_) (fun _ _ x=>x)
 ·cases hf:f ρ S with
  | ok d S' =>
   rw [hf] at q;intro p o w' R' F' hp t s' I';obtain ⟨o',I2,hs⟩:=t.fz I' zap;rw [zn6] at I2;exact ⟨_,I2,q (.ref p) (w'.add p o') (R'.grow (zaD hp o')) (F'.trans (zaD hp o').fut) (hs _ (zaD hp o').fut zjc zgT)⟩
  | exc c S'=>rwa [hf] at q
  | bad=>rwa [hf] at q
 ·obtain ⟨x,H',I',r,q'⟩:=hv;obtain ⟨H2,I2,q2⟩:=q' _ I';exact ⟨x,H2,I2,r,q2⟩
noncomputable def OpD(X:Cx)(cl:Cf)(op:Value->Value->Sem Value)(g:D->D->Option D):Prop:=OpR X op fun x y H Q=>∃w d e r,w.H=H/\TopV cl w x d/\TopV cl w y e/\g d e=some r/\∀v w',Grow w w'->Shd cl w' v r->Q v w'.H
noncomputable def zlw(X:Cx)(cl:Cf)(fv:Value)(g:List D->Option D):Prop:=zdt X fv fun xs H Q=>∃w ds r,w.H=H/\zlr cl w xs ds/\g ds=some r/\∀v w',Grow w w'->Shd cl w' v r->Q v w'.H
noncomputable def zqj(X:Cx)(cl:Cf)(fv:Value)(g:List D->Option D):Prop:=zdt X fv fun xs H Q=>∃w ds r,w.H=H/\zlr cl w xs ds/\g ds=some r/\∀p o w',Grow w w'->w'.H p=none->Top cl w' o r->Q (.ref p) (upd w'.H p o)
noncomputable def IxD(X:Cx)(cl:Cf)(g:D->D->Option D):Prop:=IxR X fun x y H Q=>∃w d e r,w.H=H/\TopV cl w x d/\TopV cl w y e/\g d e=some r/\∀v w',Grow w w'->Shd cl w' v r->Q v w'.H
def two(hr:∀x y H Q,(∃w d e r,w.H=H/\TopV cl w x d/\TopV cl w y e/\gg d e=some r/\∀v w',Grow w w'->Shd cl w' v r->Q v w'.H)->r2 x y H Q)(σ:St)(H:Hp)(Q:VK)(q:tE cl E (zak gg f h) σ H Q):tOp r2 (tH cl E f) (tH cl E h) σ H Q:=by
 obtain ⟨B,w,ρ,S,rfl,R,q⟩:=q;refine ⟨B,w,ρ,S,rfl,R,?_⟩;unfold zak at q
 cases hf:f ρ S with
 | bad=>rwa [hf] at q
 | exc c S1=>rwa [hf] at q
 | ok d S1 =>
  rw [hf] at q;intro v w1 R1 F1 h1;refine ⟨B,w1,ρ,S1,rfl,R1,?_⟩;dsimp only [Out.bind] at q
  cases hh:h ρ S1 with
  | bad=>rwa [hh] at q
  | exc c S2=>rw [hh] at q;exact fun w2 R2 F2=>q w2 R2 (F1.trans F2)
  | ok e S2 =>
   rw [hh] at q;intro y w2 R2 F2 h2;dsimp only at q
   cases hg:gg d e with
   | none=>rw [hg] at q;exact q.elim
   | some r =>
    rw [hg] at q;exact hr _ _ _ _ ⟨w2,d,e,r,rfl,(h1.up F2).top R2,h2.top R2,hg,fun v' w' gr sh=>q v' w' (R2.grow gr) (F1.trans (F2.trans gr.fut)) sh⟩
def zjI(ho:OpD X cl (binaryOp op) gg)(ha:PE X a (tH cl E f))(hb:PE X b (tH cl E h)):PE X (.BinOp a op b pos) (tE cl E (zak gg f h)) :=
 PE.imp (ztN ho ha hb) (two fun _ _ _ _ z=>z)
def zq3(ho:IxD X cl gg)(ha:PE X a (tH cl E f))(hb:PE X b (tH cl E h))(hs:zhz b):PE X (.Subscript a b pos) (tE cl E (zak gg f h)) :=
 PE.imp (ztO ho ha hb hs) (two fun _ _ _ _ z=>z)
def zq5(ho:OpD X cl (compareOp op) gg)(ha:PE X a (tH cl E f))(hb:PE X b (tH cl E h))(hm:behindInMarks op b=false):PE X (.Compare a [op] [b] pos) (tE cl E (zak gg f h)) :=
 PE.imp (zpc ho ha hb hm) (two fun _ _ _ _ z=>z)
noncomputable def tTr(cl:Cf)(E:St->XK)(f:Fe):TT:=fun σ H Q=>∃B w ρ S,w.H=H/\Rel cl B σ w ρ S/\match f ρ S with
 | .ok d S'=>match isB d with
  | some b=>∀w',Rel cl B σ w' ρ S'->Fut w w'->Q b w'.H
  | none=>False
 | .exc c S'=>∀w',Rel cl B σ w' ρ S'->Fut w w'->E σ (.ref (cl c)) none w'.H
 | .bad=>False
def zcX{d:D}{b:Bool}(h:isB d=some b):d=.bl b:=by
 cases d<;>simp [isB] at h
 subst h;rfl
def zf4{w:Wd}{v:V}{b:Bool}(h:Shd cl w v (.bl b)):v=.bl b:=by cases h;rfl
def zfZ(q:tTr cl E f σ H Q):tB (tE cl E f) σ H Q:=by
 obtain ⟨B,w,ρ,S,rfl,R,q⟩:=q;refine ⟨B,w,ρ,S,rfl,R,?_⟩
 cases hf:f ρ S with
 | bad=>rwa [hf] at q
 | exc c S1=>rwa [hf] at q
 | ok d S1 =>
  rw [hf] at q;intro v w1 R1 F1 h1;dsimp only at q
  cases hb:isB d with
  | none=>rw [hb] at q;exact q.elim
  | some b =>
   rw [hb] at q;rw [zcX hb] at h1;exact ⟨b,zf4 h1,q w1 R1 F1⟩
def zbp(h:PE X e (tE cl E f))(he:∀whole,isTrue e X.env whole=(do let v ← whole;standAt e.pos;holding [v] (truthy v))):PT X e (tTr cl E f) :=
 PT.imp (zrn h he) fun _ _ _ q=>zfZ q
def zjq(hr:∀x y H Q,(∃w d e r,w.H=H/\TopV cl w x d/\TopV cl w y e/\gg d e=some r/\∀v w',Grow w w'->Shd cl w' v r->Q v w'.H)->r2 x y H Q)(q:tTr cl E (zak gg f h) σ H Q):zoh (tOp r2 (tH cl E f) (tH cl E h)) σ H Q :=
 two hr σ H _ (zfZ q)
def zne(ho:OpD X cl (compareOp op) gg)(ha:PE X a (tH cl E f))(hb:PE X b (tH cl E h))(hm:behindInMarks op b=false):PT X (.Compare a [op] [b] pos) (tTr cl E (zak gg f h)) :=
 PT.imp (zoZ ho ha hb hm) fun _ _ _ q=>zjq (fun _ _ _ _ z=>z) q
def PW.imp(h:PW X e t)(i:∀σ H Q,t' σ H Q->t σ H Q):PW X e t':=fun whole pins s σ H Q I q=>h whole pins s σ H Q I (i _ _ _ q)
def zog(q:tTr cl E (zfT f h) σ H Q):zu7 (tTr cl E f) (tTr cl E h) σ H Q:=by
 obtain ⟨B,w,ρ,S,rfl,R,q⟩:=q;refine ⟨B,w,ρ,S,rfl,R,?_⟩;unfold zfT at q
 cases hf:f ρ S with
 | bad=>rwa [hf] at q
 | exc c S1=>rwa [hf] at q
 | ok d S1 =>
  rw [hf] at q;dsimp only [Out.bind] at q ⊢
  cases hb:isB d with
  | none=>rw [hb] at q;exact q.elim
  | some b =>
   rw [hb] at q;intro w1 R1 F1
   cases b with
   | false=>exact znL (q w1 R1 F1)
   | true =>
    refine znK ⟨B,w1,ρ,S1,rfl,R1,?_⟩;dsimp only at q
    cases hh:h ρ S1 with
    | bad=>rwa [hh] at q
    | exc c S2=>rw [hh] at q;exact fun w2 R2 F2=>q w2 R2 (F1.trans F2)
    | ok e S2 =>
     rw [hh] at q;dsimp only at q ⊢
     cases hb2:isB e with
     | none=>rw [hb2] at q;exact q.elim
     | some b2=>rw [hb2] at q;exact fun w2 R2 F2=>q w2 R2 (F1.trans F2)
def zqz(q:tTr cl E (eOr f h) σ H Q):tOr (tTr cl E f) (tTr cl E h) σ H Q:=by
 obtain ⟨B,w,ρ,S,rfl,R,q⟩:=q;refine ⟨B,w,ρ,S,rfl,R,?_⟩;unfold eOr at q
 cases hf:f ρ S with
 | bad=>rwa [hf] at q
 | exc c S1=>rwa [hf] at q
 | ok d S1 =>
  rw [hf] at q;dsimp only [Out.bind] at q ⊢
  cases hb:isB d with
  | none=>rw [hb] at q;exact q.elim
  | some b =>
   rw [hb] at q;intro w1 R1 F1
   cases b with
   | true=>exact znK (q w1 R1 F1)
   | false =>
    refine znL ⟨B,w1,ρ,S1,rfl,R1,?_⟩;dsimp only at q
    cases hh:h ρ S1 with
    | bad=>rwa [hh] at q
    | exc c S2=>rw [hh] at q;exact fun w2 R2 F2=>q w2 R2 (F1.trans F2)
    | ok e S2 =>
     rw [hh] at q;dsimp only at q ⊢
     cases hb2:isB e with
     | none=>rw [hb2] at q;exact q.elim
     | some b2=>rw [hb2] at q;exact fun w2 R2 F2=>q w2 R2 (F1.trans F2)
def zof(q:tTr cl E (eUn zcG f) σ H Q):zu5 (tTr cl E f) σ H Q:=by
 obtain ⟨B,w,ρ,S,rfl,R,q⟩:=q;refine ⟨B,w,ρ,S,rfl,R,?_⟩;unfold eUn at q
 cases hf:f ρ S with
 | bad=>rwa [hf] at q
 | exc c S1=>rwa [hf] at q
 | ok d S1 =>
  rw [hf] at q;dsimp only [Out.bind] at q ⊢
  cases hb:isB d with
  | none =>
   have:zcG d=none:=by cases d<;>simp [isB] at hb<;>rfl
   rw [this] at q;exact q.elim
  | some b =>
   rwa [zcX hb] at q
def znd(ha:PT X a (tTr cl E f)):PT X (.UnaryOp .Not a pos) (tTr cl E (eUn zcG f)):=PT.imp (zro ha) fun _ _ _ q=>zof q
def zqL{za7:List Expr}(ha:PT X a (tTr cl E f))(hb:PW X (.BoolOp .And (b::za7) pos) (tTr cl E h)):PW X (.BoolOp .And (a::b::za7) pos) (tTr cl E (zfT f h)):=PW.imp (zrl ha hb) fun _ _ _ q=>zog q
def zqJ{za7:List Expr}(ha:PT X a (tTr cl E f))(hb:PW X (.BoolOp .Or (b::za7) pos) (tTr cl E h)):PW X (.BoolOp .Or (a::b::za7) pos) (tTr cl E (eOr f h)):=PW.imp (ztK ha hb) fun _ _ _ q=>zqz q
def zq6{za7:List Expr}(ha:PE X a (tE cl E f))(hb:PE X (.BoolOp .And (b::za7) pos) (tE cl E h)):PE X (.BoolOp .And (a::b::za7) pos) (tE cl E (zfT f h)):=by
 refine PE.imp (zrA ha hb) ?_;rintro σ H Q ⟨B,w,ρ,S,rfl,R,q⟩;refine ⟨B,w,ρ,S,rfl,R,?_⟩;unfold zfT at q
 cases hf:f ρ S with
 | bad=>rwa [hf] at q
 | exc c S1=>rwa [hf] at q
 | ok d S1 =>
  rw [hf] at q;intro v w1 R1 F1 h1;dsimp only [Out.bind] at q
  cases hb:isB d with
  | none=>rw [hb] at q;exact q.elim
  | some b =>
   rw [hb] at q;rw [zcX hb] at h1;refine ⟨b,zf4 h1,?_⟩
   cases b with
   | false=>exact znL (q _ w1 R1 F1 (.bl false))
   | true =>
    refine znK ⟨B,w1,ρ,S1,rfl,R1,?_⟩;dsimp only at q
    cases hh:h ρ S1 with
    | bad=>rwa [hh] at q
    | exc c S2=>rw [hh] at q;exact fun w2 R2 F2=>q w2 R2 (F1.trans F2)
    | ok e S2=>rw [hh] at q;exact fun v w2 R2 F2=>q v w2 R2 (F1.trans F2)
def ztB{za7:List Expr}(ha:PE X a (tE cl E f))(hb:PE X (.BoolOp .Or (b::za7) pos) (tE cl E h)):PE X (.BoolOp .Or (a::b::za7) pos) (tE cl E (eOr f h)):=by
 refine PE.imp (ztM ha hb) ?_;rintro σ H Q ⟨B,w,ρ,S,rfl,R,q⟩;refine ⟨B,w,ρ,S,rfl,R,?_⟩;unfold eOr at q
 cases hf:f ρ S with
 | bad=>rwa [hf] at q
 | exc c S1=>rwa [hf] at q
 | ok d S1 =>
  rw [hf] at q;intro v w1 R1 F1 h1;dsimp only [Out.bind] at q
  cases hb:isB d with
  | none=>rw [hb] at q;exact q.elim
  | some b =>
   rw [hb] at q;rw [zcX hb] at h1;refine ⟨b,zf4 h1,?_⟩
   cases b with
   | true=>exact znK (q _ w1 R1 F1 (.bl true))
   | false =>
    refine znL ⟨B,w1,ρ,S1,rfl,R1,?_⟩;dsimp only at q
    cases hh:h ρ S1 with
    | bad=>rwa [hh] at q
    | exc c S2=>rw [hh] at q;exact fun w2 R2 F2=>q w2 R2 (F1.trans F2)
    | ok e S2=>rw [hh] at q;exact fun v w2 R2 F2=>q v w2 R2 (F1.trans F2)
def zq1(ha:PE X a (tE cl E f)):PE X (.UnaryOp .Not a pos) (tE cl E (eUn zcG f)):=by
 refine PE.imp (zrx ha) ?_;rintro σ H Q ⟨B,w,ρ,S,rfl,R,q⟩;refine ⟨B,w,ρ,S,rfl,R,?_⟩;unfold eUn at q
 cases hf:f ρ S with
 | bad=>rwa [hf] at q
 | exc c S1=>rwa [hf] at q
 | ok d S1 =>
  rw [hf] at q;intro v w1 R1 F1 h1;dsimp only [Out.bind] at q
  cases hb:isB d with
  | none =>
   have:zcG d=none:=by cases d<;>simp [isB] at hb<;>rfl
   rw [this] at q;exact q.elim
  | some b =>
   rw [zcX hb] at q h1;exact ⟨b,zf4 h1,q _ w1 R1 F1 (.bl _)⟩
def ztr(q:tE cl E (eIf g f h) σ H Q):tIf (tTr cl E g) (tE cl E f) (tE cl E h) σ H Q:=by
 obtain ⟨B,w,ρ,S,rfl,R,q⟩:=q;refine ⟨B,w,ρ,S,rfl,R,?_⟩;unfold eIf at q
 cases hg:g ρ S with
 | bad=>rwa [hg] at q
 | exc c S1=>rwa [hg] at q
 | ok d S1 =>
  rw [hg] at q;dsimp only [Out.bind] at q ⊢
  cases hb:isB d with
  | none=>rw [hb] at q;exact q.elim
  | some b =>
   rw [hb] at q;intro w1 R1 F1
   cases b with
   | true =>
    refine znK ⟨B,w1,ρ,S1,rfl,R1,?_⟩;dsimp only at q
    cases hh:f ρ S1 with
    | bad=>rwa [hh] at q
    | exc c S2=>rw [hh] at q;exact fun w2 R2 F2=>q w2 R2 (F1.trans F2)
    | ok e S2=>rw [hh] at q;exact fun v w2 R2 F2=>q v w2 R2 (F1.trans F2)
   | false =>
    refine znL ⟨B,w1,ρ,S1,rfl,R1,?_⟩;dsimp only at q
    cases hh:h ρ S1 with
    | bad=>rwa [hh] at q
    | exc c S2=>rw [hh] at q;exact fun w2 R2 F2=>q w2 R2 (F1.trans F2)
    | ok e S2=>rw [hh] at q;exact fun v w2 R2 F2=>q v w2 R2 (F1.trans F2)
def ztC(hc:PT X c (tTr cl E g))(ha:PE X a (tE cl E f))(hb:PE X b (tE cl E h)):PE X (.IfExp c a b pos) (tE cl E (eIf g f h)):=PE.imp (zl9 hc ha hb) fun _ _ _ q=>ztr q
def zea:PA X [] (tAs cl E []):=by
 refine PA.imp zbS ?_;rintro σ H Q ⟨B,w,ρ,S,rfl,R,q⟩;exact q [] w R (Fut.refl _) .nil
def zaN(ha:PE X e (tE cl E f))(hr:PA X es (tAs cl E fs))(hs:starEach (e::es) X.env=(false,eval e X.env)::starEach es X.env):PA X (e::es) (tAs cl E (f::fs)):=by
 refine PA.imp (zaX ha hr hs) ?_;rintro σ H Q ⟨B,w,ρ,S,rfl,R,q⟩;refine ⟨B,w,ρ,S,rfl,R,?_⟩;unfold zao at q
 cases hf:f ρ S with
 | bad=>rwa [hf] at q
 | exc c S1=>rwa [hf] at q
 | ok d S1 =>
  rw [hf] at q;intro v w1 R1 F1 h1;refine ⟨B,w1,ρ,S1,rfl,R1,?_⟩;dsimp only [Out.bind] at q
  cases hh:zao fs ρ S1 with
  | bad=>rwa [hh] at q
  | exc c S2=>rw [hh] at q;exact fun w2 R2 F2=>q w2 R2 (F1.trans F2)
  | ok ds S2 =>
   rw [hh] at q;exact fun vs w2 R2 F2 h2=>q _ w2 R2 (F1.trans F2) (.cons (h1.up F2) h2)
def znh:PA X [] (tHs cl E []):=by
 refine PA.imp zbS ?_;rintro σ H Q ⟨B,w,ρ,S,rfl,R,q⟩;exact q [] w R (Fut.refl _) .nil
def zjB(ha:PE X e (tH cl E f))(hr:PA X es (tHs cl E fs))(hs:starEach (e::es) X.env=(false,eval e X.env)::starEach es X.env):PA X (e::es) (tHs cl E (f::fs)):=by
 refine PA.imp (zaX ha hr hs) ?_;rintro σ H Q ⟨B,w,ρ,S,rfl,R,q⟩;refine ⟨B,w,ρ,S,rfl,R,?_⟩;unfold zao at q
 cases hf:f ρ S with
 | bad=>rwa [hf] at q
 | exc c S1=>rwa [hf] at q
 | ok d S1 =>
  rw [hf] at q;intro v w1 R1 F1 h1;refine ⟨B,w1,ρ,S1,rfl,R1,?_⟩;dsimp only [Out.bind] at q
  cases hh:zao fs ρ S1 with
  | bad=>rwa [hh] at q
  | exc c S2=>rw [hh] at q;exact fun w2 R2 F2=>q w2 R2 (F1.trans F2)
  | ok ds S2 =>
   rw [hh] at q;exact fun vs w2 R2 F2 h2=>q _ w2 R2 (F1.trans F2) (.cons (h1.up F2) h2)
def zq0(h:PA X es (tAs cl E fs)):PE X (.Tuple es k pos) (tE cl E (zd4 fs)):=by
 refine PE.imp (zny h) ?_;rintro σ H Q ⟨B,w,ρ,S,rfl,R,q⟩;refine ⟨B,w,ρ,S,rfl,R,?_⟩;unfold zd4 at q
 cases hf:zao fs ρ S with
 | bad=>rwa [hf] at q
 | exc c S1=>rwa [hf] at q
 | ok ds S1 =>
  rw [hf] at q;intro vs w1 R1 F1 h1;dsimp only [Out.bind] at q
  cases hz:small ds.length with
  | false=>rw [hz,if_neg (by decide)] at q;exact q.elim
  | true =>
   rw [hz,if_pos rfl] at q;refine ⟨by rw [h1.length];exact zaZ hz,fun p hp=>?_⟩;exact q _ (w1.add p (.tup vs)) (R1.grow (zaD hp _)) (F1.trans (zaD hp _).fut) (Shd.newT hp h1)
def zhW(h:PA X es (tAs cl E fs)):PE X (.List es pos) (tN cl E (zin fs)):=by
 refine PE.imp (znz h) ?_;rintro σ H Q ⟨B,w,ρ,S,rfl,R,q⟩;refine ⟨B,w,ρ,S,rfl,R,?_⟩;unfold zin at q
 cases hf:zao fs ρ S with
 | bad=>rwa [hf] at q
 | exc c S1=>rwa [hf] at q
 | ok ds S1 =>
  rw [hf] at q;intro vs w1 R1 F1 h1;dsimp only [Out.bind] at q
  cases hz:small ds.length with
  | false=>rw [hz,if_neg (by decide)] at q;exact q.elim
  | true =>
   rw [hz,if_pos rfl] at q;refine ⟨by rw [h1.length];exact zaZ hz,fun p hp=>?_⟩;exact q _ (.lst vs) w1 R1 F1 hp (.lst h1)
def zqG(hr:∀xs H Q,(∃w ds r,w.H=H/\zlr cl w xs ds/\gg ds=some r/\∀v w',Grow w w'->Shd cl w' v r->Q v w'.H)->r xs H Q)(q:tE cl E (zaz gg fs) σ H Q):tCB r (tHs cl E fs) σ H Q:=by
 obtain ⟨B,w,ρ,S,rfl,R,q⟩:=q;refine ⟨B,w,ρ,S,rfl,R,?_⟩;unfold zaz at q
 cases hf:zao fs ρ S with
 | bad=>rwa [hf] at q
 | exc c S1=>rwa [hf] at q
 | ok ds S1 =>
  rw [hf] at q;intro vs w1 R1 F1 h1;dsimp only [Out.bind] at q
  cases hg:gg ds with
  | none=>rw [hg] at q;exact q.elim
  | some d =>
   rw [hg] at q;exact hr _ _ _ ⟨w1,ds,d,rfl,h1.top R1,hg,fun v w' gr sh=>q v w' (R1.grow gr) (F1.trans gr.fut) sh⟩
def zqF(hr:∀xs H Q,(∃w ds r,w.H=H/\zlr cl w xs ds/\gg ds=some r/\∀p o w',Grow w w'->w'.H p=none->Top cl w' o r->Q (.ref p) (upd w'.H p o))->r xs H Q)(q:tN cl E (zaz gg fs) σ H Q):tCB r (tHs cl E fs) σ H Q:=by
 obtain ⟨B,w,ρ,S,rfl,R,q⟩:=q;refine ⟨B,w,ρ,S,rfl,R,?_⟩;unfold zaz at q
 cases hf:zao fs ρ S with
 | bad=>rwa [hf] at q
 | exc c S1=>rwa [hf] at q
 | ok ds S1 =>
  rw [hf] at q;intro vs w1 R1 F1 h1;dsimp only [Out.bind] at q
  cases hg:gg ds with
  | none=>rw [hg] at q;exact q.elim
  | some d =>
   rw [hg] at q;exact hr _ _ _ ⟨w1,ds,d,rfl,h1.top R1,hg,fun p o w' gr hp t=>q p o w' (R1.grow gr) (F1.trans gr.fut) hp t⟩
end
noncomputable def Root.out:Option Root->Option Root | some (.slot _)=>some .far | o=>o
def Root.out_none:Root.out o=none↔o=none:=by
 cases o with
 | none=>exact ⟨fun h=>h,fun h=>h⟩
 | some r=>cases r<;>simp [Root.out]
noncomputable def zdn:Option Root->Bool | some (.fld _ _)=>true | some (.obj _)=>true | some .tab=>true | _=>false
def Wd.inn(w:Wd):Wd:=⟨w.H,fun a=>Root.out (w.ow a),w.mu⟩
def Wd.base(w:Wd):Base:=⟨fun a=>if zdn (w.ow a)=true then none else w.H a,fun a=>Root.out (w.ow a)⟩
def Wd.back(w w':Wd):Wd:=⟨w'.H,fun a=>if (w.base.Fr a).isSome=true then w.ow a else Root.out (w'.ow a),w'.mu⟩
def zbB(w:Wd):Fut w w.inn:=⟨fun a o h k=>⟨h,by show Root.out (w.ow a)=none;rw [k];rfl⟩,fun _ _ h=>h⟩
def zgS{w:Wd}(h:w.H a=some o)(k:zdn (w.ow a)=false):w.base.Fr a=some o:=by
 show (if zdn (w.ow a)=true then none else w.H a)=_;rw [k,if_neg (by decide)];exact h
def zpk{w:Wd}(h:w.base.Fr a=some o):w.H a=some o/\zdn (w.ow a)=false:=by
 have h':(if zdn (w.ow a)=true then none else w.H a)=some o:=h;split at h'
 ·cases h'
 ·rename_i z;exact ⟨h',by simpa using z⟩
section
variable{cl:Cf}{B:Base}{σ:St}{w w':Wd}{ρ:Env}{S S':Sto}
def World'.enter(W:World' cl B w S):World' cl w.base w.inn S where
 fr:=fun a o h=>⟨(zpk h).1,rfl⟩
 own:=fun a r h=>by
  have h':Root.out (w.ow a)=some r:=h
  cases e:w.ow a with
  | none=>rw [e] at h';cases h'
  | some q =>
   cases q with
   | slot i=>rw [e] at h';cases h';exact .inl rfl
   | far=>rw [e] at h';cases h';exact .inl rfl
   | fld n f=>exact .inr (by show (if zdn (w.ow a)=true then none else w.H a)=none;rw [e];rfl)
   | obj n=>exact .inr (by show (if zdn (w.ow a)=true then none else w.H a)=none;rw [e];rfl)
   | tab=>exact .inr (by show (if zdn (w.ow a)=true then none else w.H a)=none;rw [e];rfl)
 len:=W.len
 obj:=fun n ob h=>by
  obtain ⟨a,e,x⟩:=W.obj n ob h;refine ⟨a,e,x.keep (zbB w) fun a o ha hn=>⟨ha,?_⟩⟩;show Root.out (w.ow a)=w.ow a
  cases e:w.ow a with
  | none=>rfl
  | some q=>cases q with
   | slot i=>rw [e] at hn;exact hn.elim
   | _=>rfl
 tab:=W.tab.keep (zbB w) fun P ps h1 h2=>⟨h1,by show Root.out (w.ow P)=_;rw [h2];rfl⟩
def zcv(W:World' cl B w S)(h:B.Fr a=some o):w.base.Fr a=some o:=by
 refine zgS (W.fr a o h).1 ?_
 cases e:w.ow a with
 | none=>rfl
 | some q =>
  rcases W.own a q e with rfl | z
  ·rfl
  ·rw [h] at z;cases z
def zb3(W':World' cl w.base w' S'):Fut w' (w.back w') where
 keep:=fun a o h k=>by
  refine ⟨h,?_⟩;show (if (w.base.Fr a).isSome=true then w.ow a else Root.out (w'.ow a))=none;split
  ·rename_i z;obtain ⟨u,hu⟩:=Option.isSome_iff_exists.mp z;have:=(W'.fr a u hu).2;rw [k] at this;exact Root.out_none.mp this.symm
  ·rw [k];rfl
 mu:=fun _ _ h=>h
def Rel.leave(R:Rel cl B σ w ρ S)(W':World' cl w.base w' S')(F:Fut w.inn w'):Rel cl B σ (w.back w') ρ S'/\Fut w (w.back w'):=by
 have fb:=zb3 W';have ff:Fut w (w.back w'):=(zbB w).trans (F.trans fb)
 have in_:∀a o,w.base.Fr a=some o->(w.back w').H a=some o/\(w.back w').ow a=w.ow a:=fun a o h=>by
  refine ⟨(W'.fr a o h).1,?_⟩;show (if (w.base.Fr a).isSome=true then w.ow a else _)=_;rw [h];rfl
 refine ⟨⟨⟨fun a o h=>?_,fun a r h=>?_,W'.len,fun n ob h=>?_,fun P q h=>?_⟩,R.len,fun i o d h=>?_⟩,ff⟩
 ·have:=in_ a o (zcv R.wd h);exact ⟨this.1,this.2.trans (R.wd.fr a o h).2⟩
 ·cases hb:B.Fr a with
  | none=>exact .inr rfl
  | some o =>
   have:=(in_ a o (zcv R.wd hb)).2;rw [h] at this
   rcases R.wd.own a r this.symm with z | z
   ·exact .inl z
   ·rw [hb] at z;cases z
 ·obtain ⟨a,e,x⟩:=W'.obj n ob h;refine ⟨a,e,x.keep fb fun a o ha hn=>⟨ha,?_⟩⟩;show (if (w.base.Fr a).isSome=true then w.ow a else Root.out (w'.ow a))=_
  cases e:w'.ow a with
  | none=>rw [e] at hn;exact hn.elim
  | some q =>
   rcases W'.own a q e with rfl | z
   ·rw [e] at hn;exact hn.elim
   ·rw [z]
    cases q with
    | slot i=>rw [e] at hn;exact hn.elim
    | _=>rfl
 ·obtain ⟨ps,h1,h2,h3⟩:=W'.tab P q h;obtain ⟨_,_,g2,_⟩:=R.wd.tab P q h;refine ⟨ps,h1,?_,h3.up fb⟩
  have hb:w.base.Fr P=none:=by show (if zdn (w.ow P)=true then none else w.H P)=none;rw [g2];rfl
  show (if (w.base.Fr P).isSome=true then w.ow P else Root.out (w'.ow P))=_;rw [hb,h2];rfl
 ·obtain ⟨v,e,x⟩:=R.slots i o d h;refine ⟨v,e,x.keep ff fun a u ha hr=>?_⟩;have:=in_ a u (zgS ha (by rw [hr];rfl));exact ⟨this.1,this.2.trans hr⟩
noncomputable def Wd.del(w:Wd)(a:Addr):Wd:=⟨fun b=>if b=a then none else w.H b,w.ow,w.mu⟩
def zhg(k:w.ow a≠none):Fut w (w.del a) where
 keep:=fun b o h e=>⟨by
  show (if b=a then none else w.H b)=_
  rw [if_neg (fun z=>k (by rw [<-z];exact e))];exact h,e⟩
 mu:=fun _ _ h=>h
def zjh(h:w.H a=some o):upd (w.del a).H a o=w.H:=by
 funext b
 by_cases e:b=a
 ·rw [e,zap,h]
 ·rw [zac e];show (if b=a then none else w.H b)=_;rw [if_neg e]
theorem Rel.del(R:Rel cl B σ w ρ S)(k:w.ow a=some .far)(hb:B.Fr a=none):Rel cl B σ (w.del a) ρ S:=by
 have fd:Fut w (w.del a):=zhg (by rw [k];exact yaB _)
 have kp:∀b o,w.H b=some o->b≠a->(w.del a).H b=some o:=fun b o h n=>by
  show (if b=a then none else w.H b)=_;rw [if_neg n];exact h
 refine ⟨⟨fun b o h=>⟨kp b o (R.wd.fr b o h).1 (fun z=>by rw [z,hb] at h;cases h),(R.wd.fr b o h).2⟩,R.wd.own,R.wd.len,fun n ob h=>?_,R.wd.tab.keep fd fun P ps h1 h2=>⟨kp P _ h1 (fun z=>by rw [z,k] at h2;cases h2),h2⟩⟩,R.len,fun i o d h=>?_⟩
 ·obtain ⟨c,e,x⟩:=R.wd.obj n ob h;exact ⟨c,e,x.keep fd fun b o hb' hn=>⟨kp b o hb' (fun z=>by rw [z,k] at hn;exact hn.elim),rfl⟩⟩
 ·obtain ⟨v,e,x⟩:=R.slots i o d h;exact ⟨v,e,x.keep fd fun b o hb' hr=>⟨kp b o hb' (fun z=>by rw [z,k] at hr;cases hr),hr⟩⟩
end
noncomputable def zvW(cl:Cf)(w:Wd):Bool->V->D->Prop
 | false,v,d=>Shd cl w v d
 | true,v,d=>∃a o i,v=.ref a/\w.ow a=some (.slot i)/\w.H a=some o/\Top cl w o d
noncomputable def zfS(cl:Cf)(n:Nat)(own:Bool)(G:List D->Sto->Out D):Sp:=fun vs H Q E=>vs.length=n/\∃B w ds S,w.H=H/\World' cl B w S/\Shds cl w vs ds/\match G ds S with
 | .ok d S'=>∀v w',World' cl B w' S'->Fut w w'->zvW cl w' own v d->Q v w'.H
 | .exc c S'=>∀w',World' cl B w' S'->Fut w w'->E (.ref (cl c)) none w'.H
 | .bad=>False
noncomputable def zcP(CX:CXT)(X:Cx)(E:St->XK):Prop:=∀(pins:Z3) (σ:St) (H:Hp) (s:Shared) (e:Value) (s':Shared),Inv X pins σ H s->CX X.stack H s (E σ) e s'->X.xe e s'
noncomputable def zf1(sp:Sp)(dvs:List V)(E:St->XK)(t:TA):TE:=fun σ H Q=>t σ H fun vs H1=>sp (vs++dvs) H1 Q (E σ)
section
variable{X:Cx}{CX:CXT}{k:Nat}{f C:Addr}{fd:FuncData}{ps:List Str}{sp:Sp}{dvs:List V}{ds:List Value}{E:St->XK}{x m:Str}{p pos apos:Pos}{e o:Expr}{es:List Expr}{ta:TE}{t:TA}
def zfm(F:FnOk X.prog X.w X.K X.mg X.base CX k f fd ps sp)(hr:Room k X.A)(hb:zcx X.K fd ps ds)(hd:Vals dvs ds)(hx:zcP CX X E)
  (I:Inv X pins σ H s) (r:Vals vs us) (h:sp (vs++dvs) H Q (E σ)):wpAny (model X.prog X.w) X.A (call (.ref f) us) (EP X pins σ Q) X.xe s:=by
 have r2:Vals (vs++dvs) (us++ds):=r.append hd
 have hl:(us++ds).length=ps.length:=by rw [<-r2.length];exact F.len _ _ _ _ h
 refine ycG (ybo (F.run X.A X.stack s H ⟨us,[]⟩ (us++ds) (vs++dvs) Q (E σ) hr I.env0 (hb s us I.kIn hl) r2 h) fun r s' hq=>?_)
 cases r with
 | error e=>exact hx pins σ H s e s' I hq
 | ok fl =>
  cases fl with
  | ret u=>exact I.after hq
  | next=>exact False.elim hq
  | brk=>exact False.elim hq
  | cont=>exact False.elim hq
def zmf(F:FnOk X.prog X.w X.K X.mg X.base CX k f fd ps sp)(hr:Room k X.A)(hg:Gl X x)(hm:X.mg x=some (.ref f))(hk:PySem.W.keepIn X.K (.ref f)=true)(hb:zcx X.K fd ps ds)(hd:Vals dvs ds)(hx:zcP CX X E)
  (ha:PA X (e::es) t) (hdb:(x == ("__debug__":Str))=false) (he:starEach (e::es) X.env=(false,eval e X.env)::starEach es X.env) (hpl:(backTo pos (starEach es X.env)).any (·.1)=false) :
  PE X (.Call (.Name x p) (e::es) [] pos) (zf1 sp dvs E t):=by
 intro pins s σ H Q I h;refine ya4 (zcI I hg hm ?_ hdb);refine yby (h₀:=X.base) I.ok.mod.kin hk (thn (ha pos pins s σ H _ I h) fun us s1 ⟨vs,H1,I1,r,q⟩=>⟨I1.kIn,?_⟩) he hpl;exact zfm F hr hb hd hx I1 r q
def zke(F:FnOk X.prog X.w X.K X.mg X.base CX k f fd ps sp)(hr:Room k X.A)(hg:Gl X x)(hm:X.mg x=some (.ref f))(hk:PySem.W.keepIn X.K (.ref f)=true)(hb:zcx X.K fd ps ds)(hd:Vals dvs ds)(hx:zcP CX X E)
  (hdb:(x == ("__debug__":Str))=false):PE X (.Call (.Name x p) [] [] pos) (zf1 sp dvs E zsX):=by
 intro pins s σ H Q I h;refine ya4 (zcI I hg hm ?_ hdb);exact PySem.W.callWith_K0 I.kIn hk (zfm (us:=[]) F hr hb hd hx I .nil h)
end
def eFn(G:List D->Sto->Out D)(fs:List Fe):Fe:=fun ρ S=>(zao fs ρ S).bind fun ds S1=>G ds S1
section
variable{cl:Cf}{E:St->XK}{fs:List Fe}{G:List D->Sto->Out D}{σ:St}{H:Hp}{Q:VK}{n:Nat}
def zsI(q:tE cl E (eFn G fs) σ H Q)(hn:fs.length=n):zf1 (zfS cl n false G) [] E (tAs cl E fs) σ H Q:=by
 obtain ⟨B,w,ρ,S,rfl,R,q⟩:=q;refine ⟨B,w,ρ,S,rfl,R,?_⟩;unfold eFn at q
 cases hf:zao fs ρ S with
 | bad=>rwa [hf] at q
 | exc c S1=>rwa [hf] at q
 | ok ds S1 =>
  rw [hf] at q;intro vs w1 R1 F1 h1;dsimp only [Out.bind] at q
  have hl:∀(fs:List Fe) (S S1:Sto) (ds:List D),zao fs ρ S=.ok ds S1->ds.length=fs.length:=by
   intro fs
   induction fs with
   | nil=>intro S S1 ds h;cases h;rfl
   | cons f fs ih =>
    intro S S1 ds h;unfold zao at h
    cases h1:f ρ S with
    | bad=>rw [h1] at h;cases h
    | exc c S2=>rw [h1] at h;cases h
    | ok d S2 =>
     rw [h1] at h;dsimp only [Out.bind] at h
     cases h2:zao fs ρ S2 with
     | bad=>rw [h2] at h;cases h
     | exc c S3=>rw [h2] at h;cases h
     | ok es S3=>rw [h2] at h;cases h;rw [yaf,yaf,ih S2 _ es h2]
  refine ⟨by rw [yaY,h1.length,hl fs S S1 ds hf];exact hn,w1.base,w1.inn,ds,S1,rfl,R1.wd.enter,by rw [yaY];exact h1.up (zbB w1),?_⟩
  cases hg:G ds S1 with
  | bad=>rwa [hg] at q
  | exc c S2 =>
   rw [hg] at q;intro w2 W2 F2;obtain ⟨R3,F3⟩:=R1.leave W2 F2;exact q (w1.back w2) R3 (F1.trans F3)
  | ok d S2 =>
   rw [hg] at q;intro v w2 W2 F2 r2;obtain ⟨R3,F3⟩:=R1.leave W2 F2;exact q v (w1.back w2) R3 (F1.trans F3) (Shd.up (zb3 W2) r2)
def zsH(q:tN cl E (eFn G fs) σ H Q)(hn:fs.length=n):zf1 (zfS cl n true G) [] E (tAs cl E fs) σ H Q:=by
 obtain ⟨B,w,ρ,S,rfl,R,q⟩:=q;refine ⟨B,w,ρ,S,rfl,R,?_⟩;unfold eFn at q
 cases hf:zao fs ρ S with
 | bad=>rwa [hf] at q
 | exc c S1=>rwa [hf] at q
 | ok ds S1 =>
  rw [hf] at q;intro vs w1 R1 F1 h1;dsimp only [Out.bind] at q
  have hl:∀(fs:List Fe) (S S1:Sto) (ds:List D),zao fs ρ S=.ok ds S1->ds.length=fs.length:=by
   intro fs
   induction fs with
   | nil=>intro S S1 ds h;cases h;rfl
   | cons f fs ih =>
    intro S S1 ds h;unfold zao at h
    cases h1:f ρ S with
    | bad=>rw [h1] at h;cases h
    | exc c S2=>rw [h1] at h;cases h
    | ok d S2 =>
     rw [h1] at h;dsimp only [Out.bind] at h
     cases h2:zao fs ρ S2 with
     | bad=>rw [h2] at h;cases h
     | exc c S3=>rw [h2] at h;cases h
     | ok es S3=>rw [h2] at h;cases h;rw [yaf,yaf,ih S2 _ es h2]
  refine ⟨by rw [yaY,h1.length,hl fs S S1 ds hf];exact hn,w1.base,w1.inn,ds,S1,rfl,R1.wd.enter,by rw [yaY];exact h1.up (zbB w1),?_⟩
  cases hg:G ds S1 with
  | bad=>rwa [hg] at q
  | exc c S2 =>
   rw [hg] at q;intro w2 W2 F2;obtain ⟨R3,F3⟩:=R1.leave W2 F2;exact q (w1.back w2) R3 (F1.trans F3)
  | ok d S2 =>
   rw [hg] at q;intro v w2 W2 F2 r2;obtain ⟨R3,F3⟩:=R1.leave W2 F2;obtain ⟨a,o,i,rfl,k1,k2,t⟩:=r2;have hfr:w1.base.Fr a=none:=(W2.own a _ k1).elim (fun z=>by cases z) fun z=>z
   have k3:(w1.back w2).ow a=some .far:=by
    show (if (w1.base.Fr a).isSome=true then w1.ow a else Root.out (w2.ow a))=_;rw [hfr,k1];rfl
   have hb:B.Fr a=none:=by
    cases z:B.Fr a with
    | none=>rfl
    | some u=>rw [zcv R1.wd z] at hfr;cases hfr
   have hd:=zhg (w:=w1.back w2) (a:=a) (by rw [k3];exact yaB _);have:=q a o ((w1.back w2).del a) (R3.del k3 hb) (F1.trans (F3.trans hd)) (if_pos rfl) ((t.up (zb3 W2)).up hd);rwa [zjh (w:=w1.back w2) k2] at this
end
noncomputable def frz1(ρ:Env)(i:Nat):Env:=match ρ[i]? with | some (some (true,d))=>ρ.set i (some (false,d)) | _=>ρ
def frz(is:List Nat)(ρ:Env):Env:=is.foldl frz1 ρ
def sFz(is:List Nat)(f:Fs):Fs:=fun ρ S=>f (frz is ρ) S
noncomputable def sNx:Fs:=fun ρ S=>.nx ρ S
noncomputable def zar(f g:Fs):Fs:=fun ρ S=>match f ρ S with | .nx ρ' S'=>g ρ' S' | o=>o
noncomputable def zc3(i:Nat)(own:Bool)(f:Fe):Fs:=fun ρ S=>match f ρ S with | .ok d S'=>.nx (ρ.set i (some (own,d))) S' | .exc c S'=>.ex c ρ S' | .bad=>.bad
noncomputable def zjM(f:Fe):Fs:=fun ρ S=>match f ρ S with | .ok _ S'=>.nx ρ S' | .exc c S'=>.ex c ρ S' | .bad=>.bad
noncomputable def zbt(f:Fe):Fs:=fun ρ S=>match f ρ S with | .ok d S'=>.rt d S' | .exc c S'=>.ex c ρ S' | .bad=>.bad
noncomputable def zoM:Fs:=fun _ S=>.rt .non S
noncomputable def zoL(i:Nat):Fs:=fun ρ S=>match ρ[i]? with | some (some (true,d))=>.rt d S | _=>.bad
def sIf(c:Fe)(f g:Fs):Fs:=fun ρ S=>match c ρ S with | .ok d S'=>(match isB d with | some true=>f ρ S' | some false=>g ρ S' | none=>.bad) | .exc x S'=>.ex x ρ S' | .bad=>.bad
noncomputable def ziy(cl:Cf)(E:St->XK)(own:Bool)(B:Base)(w:Wd)(De:Ends):Fo->Prop
 | .nx ρ' S'=>∀σ' w',Rel cl B σ' w' ρ' S'->Fut w w'->De.nx σ' w'.H
 | .bk ρ' S'=>∀σ' w',Rel cl B σ' w' ρ' S'->Fut w w'->De.bk σ' w'.H
 | .ct ρ' S'=>∀σ' w',Rel cl B σ' w' ρ' S'->Fut w w'->De.ct σ' w'.H
 | .rt d S'=>∀v w',World' cl B w' S'->Fut w w'->zvW cl w' own v d->De.rt v w'.H
 | .ex c ρ' S'=>∀σ' w',Rel cl B σ' w' ρ' S'->Fut w w'->E σ' (.ref (cl c)) none w'.H
 | .bad=>False
theorem ziy.up(f:Fut w w1):∀{o:Fo},ziy cl E own B w De o->ziy cl E own B w1 De o
 | .nx _ _,h=>fun σ' w' R F=>h σ' w' R (f.trans F)
 | .bk _ _,h=>fun σ' w' R F=>h σ' w' R (f.trans F)
 | .ct _ _,h=>fun σ' w' R F=>h σ' w' R (f.trans F)
 | .rt _ _,h=>fun v w' R F=>h v w' R (f.trans F)
 | .ex _ _ _,h=>fun σ' w' R F=>h σ' w' R (f.trans F)
 | .bad,h=>h
noncomputable def tS(cl:Cf)(E:St->XK)(own:Bool)(f:Fs):TS:=fun De σ H=>∃B w ρ S,w.H=H/\Rel cl B σ w ρ S/\ziy cl E own B w De (f ρ S)
def PS.imp{X:Cx}{st:Stmt}{t t':TS}(h:PS X st t)(i:∀De σ H,t' De σ H->t De σ H):PS X st t':=fun pins s σ H De I q=>h pins s σ H De I (i _ _ _ q)
def PSs.imp{X:Cx}{st:List Stmt}{t t':TS}(h:PSs X st t)(i:∀De σ H,t' De σ H->t De σ H):PSs X st t':=fun pins s σ H De I q=>h pins s σ H De I (i _ _ _ q)
section
variable{cl:Cf}{B:Base}{σ:St}{w:Wd}{ρ:Env}{S:Sto}
def Rel.put(R:Rel cl B σ w ρ S)(h:Shd cl w v d):Rel cl B (σ.set i (some v)) w (ρ.set i (some (false,d))) S where
 wd:=R.wd
 len:=by rw [yaI,yaI];exact R.len
 slots:=fun j o e hj=>by
  by_cases hij:i=j
  ·subst hij
   have hlt:i<ρ.length:=by
    have:=(yag.mp hj).1;rwa [yaI] at this
   rw [yaA hlt] at hj;cases hj;exact ⟨v,by rw [yaA (by rw [R.len];exact hlt)],h⟩
  ·rw [yaL hij] at hj ⊢;exact R.slots j o e hj
def Wd.addAs(w:Wd)(p:Addr)(o:HO)(r:Root):Wd:=⟨upd w.H p o,fun a=>if a=p then some r else if w.ow a=some r then some .far else w.ow a,w.mu⟩
def zbU(h:w.H p=none):Fut w (w.addAs p o r) where
 keep:=fun a u ha hk=>by
  have n:a≠p:=zaw ha h;refine ⟨?_,?_⟩
  ·show upd w.H p o a=_;rw [zac n];exact ha
  ·show (if a=p then some r else if w.ow a=some r then some Root.far else w.ow a)=none;rw [if_neg n,if_neg (by rw [hk];exact fun z=>by cases z)];exact hk
 mu:=fun _ _ h=>h
theorem Rel.own(R:Rel cl B σ w ρ S)(hp:w.H p=none)(t:Top cl w o d):Rel cl B (σ.set i (some (.ref p))) (w.addAs p o (.slot i)) (ρ.set i (some (true,d))) S:=by
 have ff:=zbU (w:=w) (p:=p) (o:=o) (r:=.slot i) hp
 have kp:∀a u,w.H a=some u->w.ow a≠some (.slot i)->(w.addAs p o (.slot i)).H a=some u/\(w.addAs p o (.slot i)).ow a=w.ow a:=fun a u ha hk=>by
  have n:a≠p:=zaw ha hp;refine ⟨?_,?_⟩
  ·show upd w.H p o a=_;rw [zac n];exact ha
  ·show (if a=p then _ else if w.ow a=some (Root.slot i) then some Root.far else w.ow a)=_;rw [if_neg n,if_neg hk]
 have hBp:B.Fr p=none:=by
  cases z:B.Fr p with
  | none=>rfl
  | some u=>have:=(R.wd.fr p u z).1;rw [hp] at this;cases this
 refine ⟨⟨fun a u h=>?_,fun a r h=>?_,R.wd.len,fun n ob h=>?_,R.wd.tab.keep ff fun P ps h1 h2=>⟨(kp P _ h1 (by rw [h2];simp)).1,(kp P _ h1 (by rw [h2];simp)).2.trans h2⟩⟩,by rw [yaI,yaI];exact R.len,fun j b e hj=>?_⟩
 ·have hne:w.ow a≠some (.slot i):=fun z=>by
   rcases R.wd.own a _ z with y | y
   ·cases y
   ·rw [h] at y;cases y
  have:=kp a u (R.wd.fr a u h).1 hne;exact ⟨this.1,this.2.trans (R.wd.fr a u h).2⟩
 ·have h':(if a=p then some (Root.slot i) else if w.ow a=some (Root.slot i) then some Root.far else w.ow a)=some r:=h;split at h'
  ·rename_i e;rw [e];exact .inr hBp
  ·split at h'
   ·cases h';exact .inl rfl
   ·exact R.wd.own a r h'
 ·obtain ⟨a,e,x⟩:=R.wd.obj n ob h;exact ⟨a,e,x.keep ff fun b u hb hn=>kp b u hb fun z=>by rwa [z] at hn⟩
 ·by_cases hij:i=j
  ·subst hij
   have hlt:i<ρ.length:=by
    have:=(yag.mp hj).1;rwa [yaI] at this
   rw [yaA hlt] at hj;cases hj;exact ⟨.ref p,by rw [yaA (by rw [R.len];exact hlt)],p,o,rfl,if_pos rfl,zap,t.up ff⟩
  ·rw [yaL hij] at hj ⊢;obtain ⟨v,e1,x⟩:=R.slots j b e hj;refine ⟨v,e1,x.keep ff fun a u ha hr=>?_⟩;have:=kp a u ha (by rw [hr];exact fun z=>hij (by cases z;rfl));exact ⟨this.1,this.2.trans hr⟩
def Wd.mut(w:Wd)(p:Addr)(o:HO):Wd:=⟨upd w.H p o,w.ow,w.mu⟩
def zdF(h:w.ow p≠none):Fut w (w.mut p o) where
 keep:=fun a u ha hk=>⟨by
  show upd w.H p o a=_
  rw [zac (fun z=>h (by rw [<-z];exact hk))];exact ha,hk⟩
 mu:=fun _ _ h=>h
theorem Rel.mut{i:Nat}{p:Addr}{o:HO}{d d0:D}(R:Rel cl B σ w ρ S)(hs:σ[i]?=some (some (.ref p)))(hk:w.ow p=some (.slot i))(t:Top cl w o d):Rel cl B σ (w.mut p o) (ρ.set i (some (true,d))) S:=by
 have ff:=zdF (w:=w) (p:=p) (o:=o) (by rw [hk];exact yaB _)
 have kp:∀a u,w.H a=some u->w.ow a≠some (.slot i)->(w.mut p o).H a=some u/\(w.mut p o).ow a=w.ow a:=fun a u ha hn=>⟨by
  show upd w.H p o a=_
  rw [zac (fun z=>hn (by rw [z];exact hk))];exact ha,rfl⟩
 have hBp:B.Fr p=none:=(R.wd.own p _ hk).elim (fun z=>by cases z) fun z=>z
 refine ⟨⟨fun a u h=>?_,R.wd.own,R.wd.len,fun n ob h=>?_,R.wd.tab.keep ff fun P ps h1 h2=>⟨(kp P _ h1 (by rw [h2];simp)).1,(kp P _ h1 (by rw [h2];simp)).2.trans h2⟩⟩,by rw [yaI];exact R.len,fun j b e hj=>?_⟩
 ·have hne:w.ow a≠some (.slot i):=fun z=>by
   rcases R.wd.own a _ z with y | y
   ·cases y
   ·rw [h] at y;cases y
  have:=kp a u (R.wd.fr a u h).1 hne;exact ⟨this.1,(R.wd.fr a u h).2⟩
 ·obtain ⟨a,e,x⟩:=R.wd.obj n ob h;exact ⟨a,e,x.keep ff fun b u hb hn=>kp b u hb fun z=>by rwa [z] at hn⟩
 ·by_cases hij:i=j
  ·subst hij
   have hlt:i<ρ.length:=by
    have:=(yag.mp hj).1;rwa [yaI] at this
   rw [yaA hlt] at hj;cases hj;exact ⟨.ref p,hs,p,o,rfl,hk,zap,t.up ff⟩
  ·rw [yaL hij] at hj;obtain ⟨v,e1,x⟩:=R.slots j b e hj;refine ⟨v,e1,x.keep ff fun a u ha hr=>?_⟩;have:=kp a u ha (by rw [hr];exact fun z=>hij (by cases z;rfl));exact ⟨this.1,this.2.trans hr⟩
noncomputable def Wd.free(w:Wd)(r:Root):Wd:=⟨w.H,fun a=>if w.ow a=some r then none else w.ow a,w.mu⟩
theorem Rel.frz1{X:Cx}{pins:Z3}{s:Shared}(R:Rel cl B σ w ρ S)(i:Nat)(I:Inv X pins σ w.H s):∃w',Inv X pins σ w'.H s/\Fut w w'/\Rel cl B σ w' (frz1 ρ i) S:=by
 unfold S2.frz1;split
 ·rename_i d hd;obtain ⟨v,e1,a,o,rfl,h1,h2,t⟩:=R.slots i true d hd;obtain ⟨o',I',hsh⟩:=t.fz I h2;generalize hw:((w.mut a o').free (.slot i):Wd)=w'
  have eH:w'.H=upd w.H a o':=by rw [<-hw];rfl
  have eO:∀b,w'.ow b=if w.ow b=some (.slot i) then none else w.ow b:=fun b=>by rw [<-hw];rfl
  have eM:w'.mu=w.mu:=by rw [<-hw];rfl
  have kp:∀b u,w.H b=some u->w.ow b≠some (.slot i)->w'.H b=some u/\w'.ow b=w.ow b:=fun b u hb hn=>⟨by
   rw [eH,zac (fun z=>hn (by rw [z];exact h1))];exact hb,by rw [eO,if_neg hn]⟩
  have ff:Fut w w':=⟨fun b u hb hk=>⟨(kp b u hb (by rw [hk];simp)).1,(kp b u hb (by rw [hk];simp)).2.trans hk⟩,fun n b h=>by rw [eM];exact h⟩;refine ⟨w',by rw [eH];exact I',ff,⟨fun b u h=>?_,fun b r h=>?_,by rw [eM];exact R.wd.len,fun n ob h=>?_,R.wd.tab.keep ff fun P ps h1 h2=>⟨(kp P _ h1 (by rw [h2];simp)).1,(kp P _ h1 (by rw [h2];simp)).2.trans h2⟩⟩,by rw [yaI];exact R.len,fun j b e hj=>?_⟩
  ·have hne:w.ow b≠some (.slot i):=fun z=>by
    rcases R.wd.own b _ z with y | y
    ·cases y
    ·rw [h] at y;cases y
   have:=kp b u (R.wd.fr b u h).1 hne;exact ⟨this.1,this.2.trans (R.wd.fr b u h).2⟩
  ·rw [eO] at h;split at h
   ·cases h
   ·exact R.wd.own b r h
  ·obtain ⟨b,e,x⟩:=R.wd.obj n ob h;exact ⟨b,by rw [eM];exact e,x.keep ff fun b u hb hn=>kp b u hb fun z=>by rwa [z] at hn⟩
  ·by_cases hij:i=j
   ·subst hij;have hlt:i<ρ.length:=(yag.mp hd).1;rw [yaA hlt] at hj;cases hj;exact ⟨.ref a,e1,hsh w' ff (by rw [eH,zap]) (by rw [eO,if_pos h1])⟩
   ·rw [yaL hij] at hj;obtain ⟨v,e1,x⟩:=R.slots j b e hj;refine ⟨v,e1,x.keep ff fun a u ha hr=>?_⟩;have:=kp a u ha (by rw [hr];exact fun z=>hij (by cases z;rfl));exact ⟨this.1,this.2.trans hr⟩
 ·exact ⟨w,I,Fut.refl _,R⟩
theorem Rel.frz{X:Cx}{pins:Z3}{s:Shared}:∀(is:List Nat) {w:Wd} {ρ:Env},Rel cl B σ w ρ S->Inv X pins σ w.H s->∃w',Inv X pins σ w'.H s/\Fut w w'/\Rel cl B σ w' (frz is ρ) S
 | [],w,ρ,R,I=>⟨w,I,Fut.refl _,R⟩
 | i::is,w,ρ,R,I=>by
  obtain ⟨w1,I1,f1,R1⟩:=R.frz1 i I;obtain ⟨w2,I2,f2,R2⟩:=Rel.frz is R1 I1;exact ⟨w2,I2,f1.trans f2,R2⟩
end
section
variable{X:Cx}{cl:Cf}{E:St->XK}{own:Bool}{st:Stmt}{za7:List Stmt}{f g:Fs}{e:Expr}{fe:Fe}{pos pos':Pos}
def ztx(is:List Nat)(h:PS X st (tS cl E own f)):PS X st (tS cl E own (sFz is f)):=by
 intro pins s σ H De I q;obtain ⟨B,w,ρ,S,rfl,R,q⟩:=q;obtain ⟨w',I',f',R'⟩:=R.frz is I;exact h pins s σ w'.H De I' ⟨B,w',frz is ρ,S,rfl,R',ziy.up f' q⟩
def zhR:PSs X [] (tS cl E own sNx):=by
 refine PSs.imp zo0 ?_;rintro De σ H ⟨B,w,ρ,S,rfl,R,q⟩;exact q σ w R (Fut.refl _)
def zdv(h1:PS X st (tS cl E own f))(h2:PSs X za7 (tS cl E own g)):PSs X (st::za7) (tS cl E own (zar f g)):=by
 refine PSs.imp (zl3 h1 h2) ?_;rintro De σ H ⟨B,w,ρ,S,rfl,R,q⟩;refine ⟨B,w,ρ,S,rfl,R,?_⟩;unfold zar at q
 cases hf:f ρ S with
 | nx ρ' S' =>
  rw [hf] at q;intro σ' w' R' F';exact ⟨B,w',ρ',S',rfl,R',ziy.up F' q⟩
 | bk ρ' S'=>rwa [hf] at q
 | ct ρ' S'=>rwa [hf] at q
 | rt d S'=>rwa [hf] at q
 | ex c ρ' S'=>rwa [hf] at q
 | bad=>rwa [hf] at q
def zou:PS X (.Pass pos) (tS cl E own sNx):=by
 refine PS.imp zo3 ?_;rintro De σ H ⟨B,w,ρ,S,rfl,R,q⟩;exact q σ w R (Fut.refl _)
def zuz(q:tS cl E own (zc3 i false fe) De σ H):zqn (tE cl E fe) (zkO i) De σ H:=by
 obtain ⟨B,w,ρ,S,rfl,R,q⟩:=q;refine ⟨B,w,ρ,S,rfl,R,?_⟩;unfold zc3 at q
 cases hf:fe ρ S with
 | bad=>rwa [hf] at q
 | exc c S1=>rw [hf] at q;exact fun w' R' F'=>q σ w' R' F'
 | ok d S1 =>
  rw [hf] at q;intro v w' R' F' h';exact q _ w' (R'.put h') F'
def zsM(q:tS cl E own (zc3 i true fe) De σ H):zqn (tN cl E fe) (zkO i) De σ H:=by
 obtain ⟨B,w,ρ,S,rfl,R,q⟩:=q;refine ⟨B,w,ρ,S,rfl,R,?_⟩;unfold zc3 at q
 cases hf:fe ρ S with
 | bad=>rwa [hf] at q
 | exc c S1=>rw [hf] at q;exact fun w' R' F'=>q σ w' R' F'
 | ok d S1 =>
  rw [hf] at q;intro p o w' R' F' hp t;exact q _ (w'.addAs p o (.slot i)) (R'.own hp t) (F'.trans (zbU hp))
def zng(hN:X.N.Nodup)(hi:X.N[i]?=some x)(hx:Loc X.env.scope x)(he:PE X e (tE cl E fe))(hs:swapsWith e (some (.Name x pos')) pos.line X.env=pure false)(hf:X.fn x=true\/X.env.scope.names.lookup x=some .local):PS X (.Assign [.Name x pos'] e pos) (tS cl E own (zc3 i false fe)) :=
 PS.imp (znw hN hi hx he hs hf) fun _ _ _ q=>zuz q
def zgZ(hN:X.N.Nodup)(hi:X.N[i]?=some x)(hx:Loc X.env.scope x)(he:PE X e (tN cl E fe))(hs:swapsWith e (some (.Name x pos')) pos.line X.env=pure false)(hf:X.fn x=true\/X.env.scope.names.lookup x=some .local):PS X (.Assign [.Name x pos'] e pos) (tS cl E own (zc3 i true fe)) :=
 PS.imp (znw hN hi hx he hs hf) fun _ _ _ q=>zsM q
def znf(he:PE X e (tE cl E fe))(hs:swapsWith e none pos.line X.env=pure false):PS X (.Expr e pos) (tS cl E own (zjM fe)):=by
 refine PS.imp (zec he hs) ?_;rintro De σ H ⟨B,w,ρ,S,rfl,R,q⟩;refine ⟨B,w,ρ,S,rfl,R,?_⟩;unfold zjM at q
 cases hf:fe ρ S with
 | bad=>rwa [hf] at q
 | exc c S1=>rw [hf] at q;exact fun w' R' F'=>q σ w' R' F'
 | ok d S1=>rw [hf] at q;exact fun v w' R' F' _=>q σ w' R' F'
def zjv(he:PE X e (tE cl E fe)):PS X (.Return (some e) pos) (tS cl E false (zbt fe)):=by
 refine PS.imp (zge he) ?_;rintro De σ H ⟨B,w,ρ,S,rfl,R,q⟩;refine ⟨B,w,ρ,S,rfl,R,?_⟩;unfold zbt at q
 cases hf:fe ρ S with
 | bad=>rwa [hf] at q
 | exc c S1=>rw [hf] at q;exact fun w' R' F'=>q σ w' R' F'
 | ok d S1=>rw [hf] at q;exact fun v w' R' F' h'=>q v w' R'.wd F' h'
def zop(he:PE X e (tN cl E fe)):PS X (.Return (some e) pos) (tS cl E true (zbt fe)):=by
 refine PS.imp (zge he) ?_;rintro De σ H ⟨B,w,ρ,S,rfl,R,q⟩;refine ⟨B,w,ρ,S,rfl,R,?_⟩;unfold zbt at q
 cases hf:fe ρ S with
 | bad=>rwa [hf] at q
 | exc c S1=>rw [hf] at q;exact fun w' R' F'=>q σ w' R' F'
 | ok d S1 =>
  rw [hf] at q;intro p o w' R' F' hp t;have ff:=zbU (w:=w') (p:=p) (o:=o) (r:=.slot 0) hp;exact q (.ref p) (w'.addAs p o (.slot 0)) (Rel.own (i:=0) R' hp t).wd (F'.trans ff) ⟨p,o,0,rfl,if_pos rfl,zap,t.up ff⟩
def zoo(hN:X.N[i]?=some x)(hv:Vis X.env.scope x)(hd:(x == ("__debug__":Str))=false)(hcd:(x == ("__classdict__":Str))=false):PS X (.Return (some (.Name x pos')) pos) (tS cl E true (zoL i)):=by
 refine PS.imp (zge (zaU hN hv hd hcd)) ?_;rintro De σ H ⟨B,w,ρ,S,rfl,R,q⟩;unfold zoL at q;split at q
 ·rename_i d hd;obtain ⟨v,e1,a,o,rfl,h1,h2,t⟩:=R.slots i true d hd;exact ⟨_,e1,q _ w R.wd (Fut.refl _) ⟨a,o,i,rfl,h1,h2,t⟩⟩
 ·exact q.elim
def zoq:PS X (.Return none pos) (tS cl E false zoM):=by
 refine PS.imp zo2 ?_;rintro De σ H ⟨B,w,ρ,S,rfl,R,q⟩;exact q .non w R.wd (Fut.refl _) .non
def zqO(hc:PT X c (tTr cl E fc))(ha:PSs X a (tS cl E own f))(hb:PSs X b (tS cl E own g)):PS X (.If c a b pos) (tS cl E own (sIf fc f g)):=by
 refine PS.imp (ztL hc ha hb) ?_;rintro De σ H ⟨B,w,ρ,S,rfl,R,q⟩;refine ⟨B,w,ρ,S,rfl,R,?_⟩;unfold sIf at q
 cases hg:fc ρ S with
 | bad=>rwa [hg] at q
 | exc c S1=>rw [hg] at q;exact fun w' R' F'=>q σ w' R' F'
 | ok d S1 =>
  rw [hg] at q;dsimp only at q ⊢
  cases hb:isB d with
  | none=>rw [hb] at q;exact q.elim
  | some b =>
   rw [hb] at q;intro w1 R1 F1
   cases b with
   | true=>exact znK ⟨B,w1,ρ,S1,rfl,R1,ziy.up F1 q⟩
   | false=>exact znL ⟨B,w1,ρ,S1,rfl,R1,ziy.up F1 q⟩
end
def znl(i:Nat)(fe:Fe):Fs:=fun ρ S=>match ρ[i]? with
 | some (some (true,.lst l))=>(match fe ρ S with
  | .ok d S'=>if small l.length then .nx (ρ.set i (some (true,.lst (l++[d])))) S' else .bad
  | .exc c S'=>.ex c ρ S' | .bad=>.bad)
 | _=>.bad
section
variable{X:Cx}{cl:Cf}{E:St->XK}{own:Bool}{e:Expr}{fe:Fe}{pos pos':Pos}
def zdg(h:small n=true):n<sizeLine:=ycA (yaq h) (by decide)
def Rel.list(R:Rel cl B σ w ρ S)(h:ρ[i]?=some (some (true,.lst l))):∃a xs,σ[i]?=some (some (.ref a))/\w.ow a=some (.slot i)/\w.H a=some (.lst xs)/\Shds cl w xs l:=by
 obtain ⟨v,e1,a,o,rfl,h1,h2,t⟩:=R.slots i true _ h
 cases t with
 | lst t=>exact ⟨a,_,e1,h1,h2,t⟩
def zqQ(hN:X.N[i]?=some x)(hv:Vis X.env.scope x)(hd:(x == ("__debug__":Str))=false)(hcd:(x == ("__classdict__":Str))=false)(he:PE X e (tE cl E fe))
  (hpl:zbr e=true) (hln:(ap.endLine == cp.line)=true):PS X (.Expr (.Call (.Attribute (.Name x pos') "append" ap) [e] [] cp) pos) (tS cl E own (znl i fe)):=by
 refine PS.imp (zec (zmg (es:=[]) ybd ybW ybX zef (zaU hN hv hd hcd) (zaX he zbS (zbh hpl)) (hfew:=zim (by simp [hpl]) (by simp)) (hline:=hln) (hs:=zbh hpl) (hplain:=rfl))) ?_;rintro De σ H ⟨B,w,ρ,S,rfl,R,q⟩;unfold znl at q;split at q
 ·rename_i l hl;obtain ⟨a,xs,e1,h1,h2,t⟩:=R.list hl;refine ⟨_,e1,.inl ⟨rfl,_,SqL.of h2⟩,B,w,ρ,S,rfl,R,?_⟩
  cases hf:fe ρ S with
  | bad=>rwa [hf] at q
  | exc c S1=>rw [hf] at q;exact fun w' R' F'=>q σ w' R' F'
  | ok d S1 =>
   rw [hf] at q;intro v w' R' F' h';dsimp only at q
   cases hz:small l.length with
   | false=>rw [hz,if_neg (by decide)] at q;exact q.elim
   | true =>
    rw [hz,if_pos rfl] at q;obtain ⟨a',xs',e1',h1',h2',t'⟩:=R'.list hl;rw [e1] at e1';cases e1';refine ⟨a,xs',v,rfl,rfl,h2',by rw [t'.length];exact zdg hz,?_⟩;exact q σ (w'.mut a (.lst (xs'++[v]))) (R'.mut (d0:=.non) e1 h1' (.lst (t'.append (.cons h' .nil)))) (F'.trans (zdF (by rw [h1'];exact yaB _)))
 ·exact q.elim
end
end S2
namespace L2
open PySem PySem.Spec PyProof.Rows
section
variable{prog:Program}{w:World}{A:Around}{E:Z5}{s:Shared}
def zlE{it t:Addr}{j:Nat}{vs:Array Value}{v:Value}{Q:Z5}(st:s.heap.IsTupleIter it t j)(tp:s.heap.IsTuple t vs)(e:vs[j]?=some v)
  (q:∀h',h'.IsTupleIter it t (j+1)->Heap.SameBut it s.heap h'->Q v { s with heap:=h' }):wpAny (model prog w) A (Builtin.SmallTypes.nextOf (.ref it)) Q E s:=by
 obtain ⟨o1,g1,c1,d1⟩:=id st;obtain ⟨o2,g2,_,n2,d2⟩:=tp;unfold Builtin.SmallTypes.nextOf;refine yab (ybq (name:=Str.ofString "__next__") st.typeIs ybh (ybR ybh st.typeIs F.entry_tuple_iterator_next ?_ (F.args_tuple_iterator_next_1 _)));show wpAny _ _ (field (.ref it) 0 >>= _) _ _ s;refine yab (ybU g1 d1 (x:=.ref t) rfl ?_);show wpAny _ _ (if (Value.ref t == Value.none)=true then _ else _) _ _ s;rw [if_neg (show ¬ ((Value.ref t == Value.none)=true) from fun z=>ya9 z)];show wpAny _ _ (field (.ref it) 1 >>= _) _ _ s;refine yab (ybU g1 d1 (x:=.int j 0) rfl ?_);show wpAny _ _ (seqItems? (.ref t) >>= _) _ _ s;refine yab (ybl g2 d2 ?_);simp only [ycH,e];refine yab (wpAny_setField g1 d1 (by simp) (yal ⟨v,rfl,yal (q _ ?_ (Heap.SameBut.update ..))⟩));refine ⟨_,ycg _ g1 (Obj.isFreed_of_fields (Obj.data_mapFields d1 _)),(Obj.cls_mapFields ..).trans c1,?_⟩;rw [Obj.data_mapFields d1];simp [rawInt]
def zn8{it t:Addr}{j:Nat}{vs:Array Value}{Q:Z5}(hh:A.handled=none)(st:s.heap.IsTupleIter it t j)(tp:s.heap.IsTuple t vs)(e:vs[j]?=none)
  (q:∀h' x,Heap.ExtBut it s.heap h'->(∃o,h'.get? x=some o/\o.cls=.type "StopIteration")->E (.ref x) { s with heap:=h' }):wpAny (model prog w) A (Builtin.SmallTypes.nextOf (.ref it)) Q E s:=by
 obtain ⟨o1,g1,c1,d1⟩:=id st;obtain ⟨o2,g2,_,n2,d2⟩:=tp;unfold Builtin.SmallTypes.nextOf;refine yab (ybq (name:=Str.ofString "__next__") st.typeIs ybh (ybR ybh st.typeIs F.entry_tuple_iterator_next ?_ (F.args_tuple_iterator_next_1 _)));show wpAny _ _ (field (.ref it) 0 >>= _) _ _ s;refine yab (ybU g1 d1 (x:=.ref t) rfl ?_);show wpAny _ _ (if (Value.ref t == Value.none)=true then _ else _) _ _ s;rw [if_neg (show ¬ ((Value.ref t == Value.none)=true) from fun z=>ya9 z)];show wpAny _ _ (field (.ref it) 1 >>= _) _ _ s;refine yab (ybU g1 d1 (x:=.int j 0) rfl ?_);show wpAny _ _ (seqItems? (.ref t) >>= _) _ _ s;refine yab (ybl g2 d2 ?_);simp only [ycH,e];refine yab (wpAny_rule (yab (wpAny_setField g1 d1 (by simp) ?_)));show wpAny _ _ (newExc (.type "StopIteration") [] >>= _) _ _ _;refine yab ?_;simp only [newExc,newTuple];refine yab (yb9 ?_ (by size_fits));refine yab (m:=firstArgMember _ _) (wpAny_of_eq (a:=Value.none) ?_ ?_)
 ·first | rfl | (simp only [firstArgMember];rfl)
 refine yb9 ?_ (by size_fits);simp only [raiseNew];refine yab (wpAny_handled ?_)
 first | rw [show A.in1.handled=none from hh] | rw [hh]
 refine yab (yal (wpAny_throw (q _ _ (((Heap.SameBut.update ..).extBut.push _).push _) ⟨_,yap _ rfl,rfl⟩)))
def zkW(hh:A.handled=none)(it t:Addr)(ne:t≠it)(vs:Array Value):Draws prog w A it [it,t] vs.size (fun j v=>vs[j]?=some v) (fun j h=>h.IsTupleIter it t j/\h.IsTuple t vs) where
 live:=fun _ _ st=>by obtain ⟨⟨o,ho,_⟩,_⟩:=st;exact ⟨o,ho⟩
 frame:=fun _ _ _ st hk=>⟨st.1.at fun o e=>hk it (by simp) o e,by obtain ⟨o,ho,r⟩:=st.2;exact ⟨o,hk t (by simp) o ho,r⟩⟩
 item:=fun j s Q E hj st hQ=>zlE st.1 st.2 (v:=vs[j]) (by simp [hj]) fun h' st' sb=>hQ _ h' s.toks (by simp [hj]) ⟨st',by obtain ⟨o,ho,r⟩:=st.2;exact ⟨o,(sb.2 t ne).trans ho,r⟩⟩ sb
 done:=fun s Q E st hE=>zn8 hh st.1 st.2 (by simp) hE
end
section
variable{X:Cx}{pins:Z3}{σ:St}{H:Hp}{s:Shared}
def Inv.turnedL{t':Nat}{h':Heap}{ch:List Addr}(I:Inv X pins σ H s)(k:∀b o,b ∉ ch->s.heap.get? b=some o->h'.get? b=some o)(hf:∀b∈ch,zlu X pins H b):Inv X pins σ H { s with heap:=h',toks:=t' }:=by
 have nit:∀b u,H b=some u->b ∉ ch:=fun b u e z=>by rw [(hf b z).1] at e;cases e
 refine I.step (g':=s.gens) (d':=s.drawn) (ch:=ch) (fun b hb=>?_) (fun b o _ _ hc e _=>k b o hc e) (fun b o _ _ hc e _=>⟨o.slots,k b o hc e⟩) (fun _ _ _ _ n=>n) (fun b o hc e=>⟨o,k b o hc e⟩) (fun _ _ e=>e) (fun _ _ _ e=>e) (fun b ps e=>⟨#[],by rw [e];simp⟩) (fun m hm=>?_) (fun b u e=>?_) I.bare
 ·obtain ⟨f0,f1,f2,f3,f4,f5⟩:=hf b hb;exact ⟨f3,f1,f4,f5⟩
 ·obtain ⟨o,es,ep,ho,r⟩:=hm;exact ⟨o,es,ep,k _ o (fun z=>(hf _ z).2.1 rfl) ho,r⟩
 ·refine (I.hok b u e).stay (fun c v hc q=>k c v ?_ q) (fun _ q=>q) fun _ _ q=>q
  rcases hc with z | z
  ·rw [z];exact nit b u e
  ·exact nit c _ z
end
end L2
namespace S2
open PySem PySem.Spec PyProof.Rows L2
structure ItOk(cl:Cf)(w:Wd)(J:It)(ds:List D):Prop where
 go:∀w',Fut w w'->∀i,i<ds.length->J.go i w'.H
 stop:∀w',Fut w w'->J.stop ds.length w'.H
 yld:∀w',Fut w w'->∀i d x H',ds[i]?=some d->J.yld i w'.H x H'->∃w'',w''.H=H'/\Grow w' w''/\Shd cl w'' x d
noncomputable abbrev Fi:=Env->Sto->Out (List D)
noncomputable def tI(cl:Cf)(E:St->XK)(f:Fi):TI:=fun σ H R'=>∃B w ρ S,w.H=H/\Rel cl B σ w ρ S/\match f ρ S with
 | .ok ds S'=>∀J w',Rel cl B σ w' ρ S'->Fut w w'->ItOk cl w' J ds->R' J w'.H
 | .exc c S'=>∀w',Rel cl B σ w' ρ S'->Fut w w'->E σ (.ref (cl c)) none w'.H
 | .bad=>False
def PI.imp(h:PI X tg it t)(i:∀σ H Q,t' σ H Q->t σ H Q):PI X tg it t':=fun pins s σ H Q I q=>h pins s σ H Q I (i _ _ _ q)
inductive Tg where | one (i:Nat) | tup (is:List Nat)
noncomputable def zdN:List Nat->List D->Env->Option Env
 | [],[],ρ=>some ρ
 | i::is,d::ds,ρ=>zdN is ds (ρ.set i (some (false,d)))
 | _,_,_=>none
noncomputable def Tg.put:Tg->Env->D->Option Env
 | .one i,ρ,d=>some (ρ.set i (some (false,d)))
 | .tup is,ρ,.tup ds=>zdN is ds ρ
 | .tup _,_,_=>none
noncomputable def tG(cl:Cf)(n:Nat)(tg:Tg):TG:=fun v σ H Q=>∃B w ρ S d ρ',w.H=H/\Rel cl B σ w ρ S/\Shd cl w v d/\tg.put ρ d=some ρ'/\∀σ',σ'.length=σ.length->σ'.drop n=σ.drop n->Rel cl B σ' w ρ' S->Q σ' w.H
def PG.imp(h:PG X tg t)(i:∀v σ H Q,t' v σ H Q->t v σ H Q):PG X tg t':=fun pins s σ H v u Q I r q=>h pins s σ H v u Q I r (i _ _ _ _ q)
def zhh(tg:Tg)(body:Fs):List D->Env->Sto->Fo
 | [],ρ,S=>.nx ρ S
 | d::ds,ρ,S=>match tg.put ρ d with
  | none=>.bad
  | some ρ1=>match body ρ1 S with
   | .nx ρ' S'=>zhh tg body ds ρ' S'
   | .ct ρ' S'=>zhh tg body ds ρ' S'
   | .bk ρ' S'=>.nx ρ' S'
   | o=>o
noncomputable def zlO(tg:Tg)(it:Fi)(body:Fs):Fs:=fun ρ S=>match it ρ S with
 | .ok ds S'=>zhh tg body ds ρ S'
 | .exc c S'=>.ex c ρ S'
 | .bad=>.bad
section
variable{X:Cx}{cl:Cf}{E:St->XK}{own:Bool}{e iter tg:Expr}{body:List Stmt}{fb:Fs}{fi:Fi}{fc:Fe}{t:Tg}{pos:Pos}
theorem ziq{α:Type}{l:List α}{a:α}(h:i<n):(l.set i a).drop n=l.drop n:=by
 refine ycI fun k=>?_
 rw [ybj,ybj,yaL (by omega)]
def zqY(hin:i<n)(hN:X.N.Nodup)(hi:X.N[i]?=some x)(hx:Loc X.env.scope x)(hf:X.fn x=true\/X.env.scope.names.lookup x=some .local):PG X (.Name x pos) (tG cl n (.one i)):=by
 refine PG.imp (zka hN hi hx hf) ?_;rintro v σ H Q ⟨B,w,ρ,S,d,ρ',rfl,R,h,hp,q⟩;cases hp;exact q _ (yaI ..) (ziq hin) (R.put h)
noncomputable def tGs(cl:Cf)(n:Nat)(is:List Nat):TGs:=fun vs σ H Q=>∃B w ρ S ds ρ',w.H=H/\Rel cl B σ w ρ S/\Shds cl w vs ds/\zdN is ds ρ=some ρ'/\∀σ',σ'.length=σ.length->σ'.drop n=σ.drop n->Rel cl B σ' w ρ' S->Q σ' w.H
def zoE:PGs X [] (tGs cl n []):=by
 intro pins s σ H vs us Q I r h;obtain ⟨B,w,ρ,S,ds,ρ',rfl,R,hs,hp,q⟩:=h
 cases hs with
 | nil =>
  cases hp;exact zpa pins s σ w.H [] us Q I r ⟨rfl,q σ rfl rfl R⟩
 | cons _ _=>cases hp
def zlK(hin:i<n)(hN:X.N.Nodup)(hi:X.N[i]?=some x)(hx:Loc X.env.scope x)(hf:X.fn x=true\/X.env.scope.names.lookup x=some .local)(h2:PGs X es (tGs cl n is)):PGs X (.Name x pos::es) (tGs cl n (i::is)):=by
 intro pins s σ H vs us Q I r h;obtain ⟨B,w,ρ,S,ds,ρ',rfl,R,hs,hp,q⟩:=h;refine zl7 (zka hN hi hx hf) h2 rfl pins s σ w.H vs us Q I r ?_
 cases hs with
 | nil=>cases hp
 | cons h t =>
  rename_i v d vs ds;exact ⟨v,vs,rfl,B,w,_,S,ds,ρ',rfl,R.put h,t,hp,fun σ' e1 e2=>q σ' (e1.trans (yaI ..)) (e2.trans (ziq hin))⟩
def zqX(hc:X.calm=true)(h:PGs X es (tGs cl n is))(hn:(assignEach es X.env).length=is.length)(hst:(assignEach es X.env).findIdx? (·.1)=none):PG X (.Tuple es k pos) (tG cl n (.tup is)):=by
 refine PG.imp (zru hc h hn hst) ?_;rintro v σ H Q ⟨B,w,ρ,S,d,ρ',rfl,R,h,hp,q⟩
 cases h with
 | tup e k r =>
  have hl:∀(is:List Nat) (ds:List D) (ρ ρ':Env),zdN is ds ρ=some ρ'->ds.length=is.length:=by
   intro is
   induction is with
   | nil=>intro ds ρ ρ' h;cases ds with
    | nil=>rfl
    | cons _ _=>cases h
   | cons i is ih=>intro ds ρ ρ' h;cases ds with
    | nil=>cases h
    | cons d ds=>rw [yaf,yaf,ih ds _ _ h]
  rename_i a xs ds;refine ⟨a,xs,rfl,SqT.of e,by rw [r.length];exact hl is ds ρ ρ' hp,B,w,ρ,S,ds,ρ',rfl,R,r,hp,q⟩
 | _=>cases hp
theorem zqP(hp:PassesOwn (model X.prog X.w) X.A X.env X.xe)(hc:X.calm=true)(hi:PI X tg iter (tI cl E fi))(hg:PG X tg (tG cl n t))(hb:PSs X body (tS cl E own fb))(hs:∀x,foldedSetIterable iter X.env x=pure x):PS X (.For tg iter body [] pos) (tS cl E own (zlO t fi fb)):=by
 refine PS.imp (zrq hp hc hi hg hb hs) ?_;rintro De σ H ⟨B,w,ρ,S,rfl,R,q⟩;refine ⟨B,w,ρ,S,rfl,R,?_⟩;unfold zlO at q
 cases hf:fi ρ S with
 | bad=>rwa [hf] at q
 | exc c S1=>rw [hf] at q;exact fun w' R' F'=>q σ w' R' F'
 | ok ds S1 =>
  rw [hf] at q;intro J w0 R0 F0 hJ;dsimp only at q;refine ⟨fun i m σ' H'=>m=ds.length-i/\i<=ds.length/\∃w1 ρ1 S2,w1.H=H'/\Fut w0 w1/\Rel cl B σ' w1 ρ1 S2/\ziy cl E own B w1 De (zhh t fb (ds.drop i) ρ1 S2),⟨ds.length,by simp,yaD _,w0,ρ,S1,rfl,Fut.refl _,R0,by rw [List.drop_zero];exact ziy.up F0 q⟩,?_⟩;rintro i m σ1 H1 ⟨rfl,hi,w1,ρ1,S2,rfl,F1,R1,q1⟩
  by_cases hlt:i<ds.length
  ·obtain ⟨d,hd⟩:∃d,ds[i]?=some d:=⟨ds[i],yac hlt⟩
   have hdr:ds.drop i=d::ds.drop (i+1):=by
    rw [List.drop_eq_getElem_cons hlt];rw [yac hlt] at hd;cases hd;rfl
   rw [hdr] at q1;unfold zhh at q1
   cases hp1:t.put ρ1 d with
   | none=>rw [hp1] at q1;exact q1.elim
   | some ρ2 =>
    rw [hp1] at q1;dsimp only at q1;refine .inr ⟨hJ.go w1 F1 i hlt,fun σ' H'=>i+1<=ds.length/\∃w1 ρ1 S2,w1.H=H'/\Fut w0 w1/\Rel cl B σ' w1 ρ1 S2/\ziy cl E own B w1 De (zhh t fb (ds.drop (i+1)) ρ1 S2),fun σ' H' h'=>⟨ds.length-(i+1),by omega,rfl,h'.1,h'.2⟩,fun x H' y=>?_⟩;obtain ⟨w2,rfl,g2,s2⟩:=hJ.yld w1 F1 i d x H' hd y;refine ⟨B,w2,ρ1,S2,d,ρ2,rfl,R1.grow g2,s2,hp1,fun σ2 _ _ R2=>⟨B,w2,ρ2,S2,rfl,R2,?_⟩⟩;have q2:=ziy.up g2.fut q1
    cases hb:fb ρ2 S2 with
    | bad=>rwa [hb] at q2
    | rt d S3=>rwa [hb] at q2
    | ex c ρ3 S3=>rwa [hb] at q2
    | bk ρ3 S3=>rw [hb] at q2;exact fun σ3 w3 R3 F3=>q2 σ3 w3 R3 F3
    | nx ρ3 S3=>rw [hb] at q2;exact fun σ3 w3 R3 F3=>⟨hlt,w3,ρ3,S3,rfl,F1.trans (g2.fut.trans F3),R3,ziy.up F3 q2⟩
    | ct ρ3 S3=>rw [hb] at q2;exact fun σ3 w3 R3 F3=>⟨hlt,w3,ρ3,S3,rfl,F1.trans (g2.fut.trans F3),R3,ziy.up F3 q2⟩
  ·have e:i=ds.length:=by omega
   subst e;rw [List.drop_length] at q1;exact .inl ⟨hJ.stop w1 F1,q1 σ1 w1 R1 (Fut.refl _)⟩
def zio(f:Fe):Fi:=fun ρ S=>(f ρ S).bind fun d S1=>match d with | .lst l=>.ok l S1 | _=>.bad
def zhm(f:Fe):Fi:=fun ρ S=>(f ρ S).bind fun d S1=>match d with | .tup l=>.ok l S1 | _=>.bad
theorem zjA(he:PE X e (tE cl E fc)):PI X tg e (tI cl E (zio fc)):=by
 refine PI.imp (zo8 he) ?_;rintro σ H Q ⟨B,w,ρ,S,rfl,R,q⟩;refine ⟨B,w,ρ,S,rfl,R,?_⟩;unfold zio at q
 cases hf:fc ρ S with
 | bad=>rwa [hf] at q
 | exc c S1=>rwa [hf] at q
 | ok d S1 =>
  rw [hf] at q;intro v w' R' F' h';dsimp only [Out.bind] at q
  cases h' with
  | lst e k r =>
   rename_i a xs ds;refine ⟨a,rfl,⟨xs,SqL.of e⟩,q _ w' R' F' ?_⟩;have hl:=r.length;refine ⟨fun w1 F1 i hi=>⟨xs,xs[i]'(by omega),SqL.of (F1.keep _ _ e k).1,yac (by omega)⟩,fun w1 F1=>⟨xs,SqL.of (F1.keep _ _ e k).1,by omega⟩,fun w1 F1 i d x H1 hd y=>?_⟩;obtain ⟨rfl,hy⟩:=y;have hx:=hy xs (SqL.of (F1.keep _ _ e k).1);obtain ⟨d',e1,e2⟩:=r.get hx;rw [hd] at e1;cases e1;exact ⟨w1,rfl,Grow.refl _,e2.up F1⟩
  | _=>exact q.elim
def zqT(he:PE X e (tE cl E fc)):PI X tg e (tI cl E (zhm fc)):=by
 refine PI.imp (zrs he) ?_;rintro σ H Q ⟨B,w,ρ,S,rfl,R,q⟩;refine ⟨B,w,ρ,S,rfl,R,?_⟩;unfold zhm at q
 cases hf:fc ρ S with
 | bad=>rwa [hf] at q
 | exc c S1=>rwa [hf] at q
 | ok d S1 =>
  rw [hf] at q;intro v w' R' F' h';dsimp only [Out.bind] at q
  cases h' with
  | tup e k r =>
   rename_i a xs ds;refine ⟨a,rfl,⟨xs,SqT.of e⟩,q _ w' R' F' ?_⟩;have hl:=r.length;refine ⟨fun w1 F1 i hi=>⟨xs,xs[i]'(by omega),SqT.of (F1.keep _ _ e k).1,yac (by omega)⟩,fun w1 F1=>⟨xs,SqT.of (F1.keep _ _ e k).1,by omega⟩,fun w1 F1 i d x H1 hd y=>?_⟩;obtain ⟨rfl,hy⟩:=y;have hx:=hy xs (SqT.of (F1.keep _ _ e k).1);obtain ⟨d',e1,e2⟩:=r.get hx;rw [hd] at e1;cases e1;exact ⟨w1,rfl,Grow.refl _,e2.up F1⟩
  | _=>exact q.elim
noncomputable def za8(lo hi:Int):List D:=(List.range (hi-lo).toNat).map fun (i:Nat)=>.int (lo+i)
def zex(f:Fe):Fi:=fun ρ S=>(zao [f] ρ S).bind fun ds S1=>match ds with | [.int j]=>if -1000000<=j/\j<=1000000 then .ok (za8 0 j) S1 else .bad | _=>.bad
def zsg{w:Wd}{lo hi:Int}{n:Nat}(hn:n=(hi-lo).toNat):ItOk cl w (Itr lo n) (za8 lo hi):=by
 subst hn
 have hl:(za8 lo hi).length=(hi-lo).toNat:=by unfold za8;rw [yad,ycb]
 refine ⟨fun w1 F1 i h=>by rw [hl] at h;exact h,fun w1 F1=>by rw [hl];exact yai _,fun w1 F1 i d x H1 hd y=>?_⟩;obtain ⟨rfl,rfl⟩:=y;unfold za8 at hd;rw [yao] at hd
 cases hr:(List.range (hi-lo).toNat)[i]? with
 | none=>rw [hr] at hd;cases hd
 | some j =>
  rw [hr] at hd;have:=(yag.mp hr).2;rw [List.getElem_range] at this;subst this;cases hd;exact ⟨w1,rfl,Grow.refl _,.int _⟩
theorem zoD(hg:Gl X "range")(hm:X.mg "range" = none)(ha:PA X [e] (tAs cl E [fc]))(hs:starEach [e] X.env=[(false,eval e X.env)]):PI X tg (.Call (.Name "range" p) [e] [] pos) (tI cl E (zex fc)):=by
 refine PI.imp (zj9 hg hm ha hs) ?_;rintro σ H Q ⟨B,w,ρ,S,rfl,R,q⟩;refine ⟨B,w,ρ,S,rfl,R,?_⟩;unfold zex at q
 cases hf:zao [fc] ρ S with
 | bad=>rwa [hf] at q
 | exc c S1=>rwa [hf] at q
 | ok ds S1 =>
  rw [hf] at q;intro vs w' R' F' h';dsimp only [Out.bind] at q;split at q
  ·rename_i ds' S' hm';split at hm'
   ·rename_i j;split at hm'
    ·rename_i hb;cases hm'
     cases h' with
     | cons h1 h2 =>
      cases h1;cases h2;exact ⟨j,rfl,by omega,by omega,q _ w' R' F' (zsg (by omega))⟩
    ·cases hm'
   ·cases hm'
  ·rename_i hm';split at hm'<;>first | (split at hm'<;>cases hm') | cases hm'
  ·exact q.elim
end
noncomputable def zfd(ρ:Env)(i:Nat):Option (Bool×D):=match ρ[i]? with | some (some (false,d))=>some (false,d) | _=>none
def zbE(n:Nat)(caps:List Nat)(ρ:Env):Env:=List.replicate n none++caps.map (zfd ρ)
def zeI:Fe:=zai (.bl true)
def zbY(tg:Tg)(c elt:Fe)(ρ0:Env):List D->Sto->Out (List D)
 | [],S=>.ok [] S
 | d::ds,S=>match tg.put ρ0 d with
  | none=>.bad
  | some ρ1=>(c ρ1 S).bind fun b S1=>match isB b with
   | some true=>(elt ρ1 S1).bind fun y S2=>(zbY tg c elt ρ0 ds S2).bind fun ys S3=>.ok (y::ys) S3
   | some false=>zbY tg c elt ρ0 ds S1
   | none=>.bad
def zcN(n:Nat)(tg:Tg)(it:Fi)(c elt:Fe)(caps:List Nat):Fe:=fun ρ S=>(it ρ S).bind fun ds S1=>match zbY tg c elt (zbE n caps ρ) ds S1 with
 | .ok ys S2=>if small ys.length then .ok (.lst ys) S2 else .bad
 | _=>.bad
noncomputable abbrev noE:St->XK:=fun _ _ _ _=>False
section
variable{cl:Cf}
theorem zkF{caps:List (Str×Nat)}(R:Rel cl B σ w ρ S)(W1:World' cl B1 w1 S1)(F1:Fut w w1){σ':St}(hσ:σ'.length=n+caps.length)(hc:σ'.drop n=caps.map fun p=>(σ[p.2]?).join) :
  Rel cl B1 σ' w1 (zbE n (caps.map (·.2)) ρ) S1 where
 wd:=W1
 len:=by unfold zbE;rw [hσ,yas,yaH,yad,yad]
 slots:=fun i o d h=>by
  unfold zbE at h
  by_cases hi:i<n
  ·rw [yaE (by rw [yaH];exact hi),ybc] at h
   split at h<;>cases h
  ·rw [yaK (by rw [yaH];omega),yaH,ybp,yao] at h
   cases hp:caps[i-n]? with
   | none=>rw [hp] at h;cases h
   | some p =>
    rw [hp] at h;have h':zfd ρ p.2=some (o,d):=Option.some.inj h;unfold zfd at h';split at h'
    ·rename_i d' hd;cases h';obtain ⟨v,e,x⟩:=R.slots p.2 false d hd;refine ⟨v,?_,Shd.up F1 x⟩;have:=congrArg (fun l=>l[i-n]?) hc;rw [ybj,yao,hp] at this;rw [show n+(i-n)=i by omega] at this;rw [this];show some ((σ[p.2]?).join)=_;rw [e];rfl
    ·cases h'
end
section
variable{X:Cx}{cl:Cf}{E:St->XK}
theorem znV(q:tN cl E (zcN n t fi fc fe (caps.map (·.2))) σ H Q) :
  zhO (tI cl E fi) (tG cl n t) (tTr cl noE fc) (tE cl noE fe) n caps σ H Q:=by
 obtain ⟨B,w,ρ,S,rfl,R,q⟩:=q;refine ⟨B,w,ρ,S,rfl,R,?_⟩;unfold zcN at q
 cases hf:fi ρ S with
 | bad=>rwa [hf] at q
 | exc c S1=>rwa [hf] at q
 | ok ds S1 =>
  rw [hf] at q;dsimp only [Out.bind] at q;intro J w0 R0 F0 hJ
  cases hcd:zbY t fc fe (zbE n (caps.map (·.2)) ρ) ds S1 with
  | bad=>rw [hcd] at q;exact q.elim
  | exc _ _=>rw [hcd] at q;exact q.elim
  | ok all Sf =>
   rw [hcd] at q;dsimp only at q
   cases hz:small all.length with
   | false=>rw [hz,if_neg (by decide)] at q;exact q.elim
   | true =>
    rw [hz,if_pos rfl] at q;dsimp only at q;refine ⟨fun i m ys σ' H'=>m=ds.length-i/\i<=ds.length/\σ'.length=n+caps.length/\σ'.drop n=(caps.map fun p=>(σ[p.2]?).join)/\∃w1 S2 es za7,w1.H=H'/\Fut w0.inn w1/\World' cl w0.base w1 S2/\Shds cl w1 ys es/\zbY t fc fe (zbE n (caps.map (·.2)) ρ) (ds.drop i) S2=.ok za7 Sf/\es++za7=all,⟨ds.length,by simp,yaD _,by simp [capσ],by simp [capσ],w0.inn,S1,[],all,rfl,Fut.refl _,R0.wd.enter,.nil,by rw [List.drop_zero];exact hcd,rfl⟩,?_⟩;rintro i m ys σ1 H1 ⟨rfl,hi,hl1,hd1,w1,S2,es,za7,rfl,F1,W1,sh,hrest,hall⟩;refine ⟨?_,?_⟩
    ·rw [sh.length];refine yax ?_ (zaZ hz);rw [<-hall,yas];omega
    have F1':Fut w0 w1:=(zbB w0).trans F1
    by_cases hlt:i<ds.length
    ·obtain ⟨d,hdi⟩:∃d,ds[i]?=some d:=⟨ds[i],yac hlt⟩
     have hdr:ds.drop i=d::ds.drop (i+1):=by
      rw [List.drop_eq_getElem_cons hlt];rw [yac hlt] at hdi;cases hdi;rfl
     rw [hdr] at hrest;unfold zbY at hrest;refine .inr ⟨hJ.go w1 F1' i hlt,fun x H' y=>?_⟩;obtain ⟨w2,rfl,g2,s2⟩:=hJ.yld w1 F1' i d x H' hdi y;have R1:Rel cl w0.base σ1 w2 (zbE n (caps.map (·.2)) ρ) S2:=zkF R0 (W1.grow g2) (F1'.trans g2.fut) hl1 hd1
     cases hp:t.put (zbE n (caps.map (·.2)) ρ) d with
     | none=>rw [hp] at hrest;cases hrest
     | some ρ1 =>
      rw [hp] at hrest;dsimp only at hrest;refine ⟨w0.base,w2,_,S2,d,ρ1,rfl,R1,s2,hp,fun σ2 hk1 hk2 R2=>⟨w0.base,w2,ρ1,S2,rfl,R2,?_⟩⟩
      cases hc:fc ρ1 S2 with
      | bad=>rw [hc] at hrest;cases hrest
      | exc _ _=>rw [hc] at hrest;cases hrest
      | ok b S3 =>
       rw [hc] at hrest;dsimp only [Out.bind] at hrest ⊢
       cases hb:isB b with
       | none=>rw [hb] at hrest;cases hrest
       | some bb =>
        rw [hb] at hrest;intro w3 R3 F3
        cases bb with
        | false=>exact znL ⟨ds.length-(i+1),by omega,rfl,hlt,hk1.trans hl1,hk2.trans hd1,w3,S3,es,za7,rfl,F1.trans (g2.fut.trans F3),R3.wd,sh.up (g2.fut.trans F3),hrest,hall⟩
        | true =>
         refine znK ⟨w0.base,w3,ρ1,S3,rfl,R3,?_⟩;dsimp only at hrest
         cases he:fe ρ1 S3 with
         | bad=>rw [he] at hrest;cases hrest
         | exc _ _=>rw [he] at hrest;cases hrest
         | ok yv S4 =>
          rw [he] at hrest;dsimp only at hrest
          cases hr:zbY t fc fe (zbE n (caps.map (·.2)) ρ) (ds.drop (i+1)) S4 with
          | bad=>rw [hr] at hrest;cases hrest
          | exc _ _=>rw [hr] at hrest;cases hrest
          | ok zs S5 =>
           rw [hr] at hrest;cases hrest;intro v w4 R4 F4 h4;have ff:=g2.fut.trans (F3.trans F4);exact ⟨ds.length-(i+1),by omega,rfl,hlt,hk1.trans hl1,hk2.trans hd1,w4,S4,es++[yv],zs,rfl,F1.trans ff,R4.wd,(sh.up ff).append (.cons h4 .nil),hr,by rw [<-hall,ycc];rfl⟩
    ·have e:i=ds.length:=by omega
     subst e;rw [List.drop_length] at hrest;cases hrest;rw [yaY] at hall;subst hall;refine .inl ⟨hJ.stop w1 F1',fun p hp=>?_⟩;obtain ⟨Rb,Fb⟩:=R0.leave W1 F1;exact q p (.lst ys) (w0.back w1) Rb (F0.trans Fb) hp (.lst (sh.up (zb3 W1)))
end
noncomputable def zad(k:Str):List (D×D)->Option D
 | (.str x,d)::r=>if x=k then some d else zad k r
 | _=>none
noncomputable def putS(k:Str)(y:D):List (D×D)->List (D×D)
 | (.str x,d)::r=>if x=k then (.str x,y)::r else (.str x,d)::putS k y r
 | _=>[(.str k,y)]
noncomputable def dropS(k:Str):List (D×D)->List (D×D)
 | (.str x,d)::r=>if x=k then r else (.str x,d)::dropS k r
 | _=>[]
def zaf:List (D×D)->Bool
 | (.str x,_)::r=>(zad x r).isNone&&zaf r
 | []=>true
 | _=>false
noncomputable def za9:List (D×D)->List Str
 | (.str x,_)::r=>x::za9 r
 | _=>[]
section
variable{cl:Cf}{w:Wd}
def zoa{o:HO}{ds:List (D×D)}(h:Top cl w o (.dic ds))(hs:zaf ds=true):∃kvs,o=.dK kvs/\ShdK cl w kvs ds:=by
 cases h with
 | dicK h=>exact ⟨_,rfl,h⟩
theorem zb8(k:Str):∀{kvs:List (Key×V)} {ds:List (D×D)},ShdK cl w kvs ds->zaf ds=true->(zd5 kvs (.inr k)=none/\zad k ds=none)\/∃v d,zd5 kvs (.inr k)=some v/\zad k ds=some d/\Shd cl w v d
 | _,_,.nil,_=>.inl ⟨rfl,rfl⟩
 | _,_,.consI r t,h=>by cases h
 | _,_,.consS (x:=x) (v:=v) (d:=d) r t,h=>by
  unfold zaf at h;rw [yaa] at h;unfold zad
  by_cases e:x=k
  ·subst e;rw [if_pos rfl,zcR rfl];exact .inr ⟨v,d,rfl,rfl,r⟩
  ·rw [if_neg e,zcS (fun z=>e (by cases z;rfl))];exact zb8 k t h.2
theorem ShdK.snocS{k:Str}{v:V}{d:D}(h:Shd cl w v d):∀{kvs:List (Key×V)} {ds:List (D×D)},ShdK cl w kvs ds->zaf ds=true->zad k ds=none->ShdK cl w (kvs++[(.inr k,v)]) (putS k d ds)
 | _,_,.nil,_,_=>.consS h .nil
 | _,_,.consI r t,ho,_=>by cases ho
 | _,_,.consS (x:=x) r t,ho,hl=>by
  unfold zaf at ho;rw [yaa] at ho;unfold zad at hl
  by_cases e:x=k
  ·rw [if_pos e] at hl;cases hl
  ·rw [if_neg e] at hl;unfold putS;rw [if_neg e];exact .consS r (ShdK.snocS h t ho.2 hl)
theorem zh8{k:Key}{y:V}:∀{kvs:List (Key×V)},zd5 kvs k=none->(kvs.map fun kv=>if kv.1=k then (kv.1,y) else kv)=kvs
 | [],_=>rfl
 | p::r,h=>by
  by_cases e:p.1=k
  ·rw [zcR e] at h;cases h
  ·rw [zcS e] at h;rw [yaw,if_neg e,zh8 h]
theorem ShdK.replS{k:Str}{v:V}{d:D}(h:Shd cl w v d):∀{kvs:List (Key×V)} {ds:List (D×D)},ShdK cl w kvs ds->zaf ds=true->(zad k ds).isSome=true->ShdK cl w (kvs.map fun kv=>if kv.1=.inr k then (kv.1,v) else kv) (putS k d ds)
 | _,_,.nil,_,hl=>by cases hl
 | _,_,.consI r t,ho,_=>by cases ho
 | _,_,.consS (x:=x) (vs:=vs) r t,ho,hl=>by
  unfold zaf at ho;rw [yaa] at ho;unfold zad at hl;unfold putS
  by_cases e:x=k
  ·subst e;rw [if_pos rfl,yaw,if_pos rfl]
   have hn:zd5 vs (.inr x)=none:=(zb8 x t ho.2).elim (·.1) fun ⟨_,_,_,z,_⟩=>by rw [z] at ho;exact absurd ho.1 (by simp)
   rw [zh8 hn];exact .consS h t
  ·rw [if_neg e] at hl;rw [if_neg e,yaw,if_neg (fun z=>e (by cases z;rfl))];exact .consS r (ShdK.replS h t ho.2 hl)
theorem ShdK.putS{k:Str}{v:V}{d:D}{kvs:List (Key×V)}{ds:List (D×D)}(t:ShdK cl w kvs ds)(ho:zaf ds=true)(h:Shd cl w v d):ShdK cl w (zfo kvs (.inr k) v) (putS k d ds):=by
 rcases zb8 k t ho with ⟨h1,h2⟩ | ⟨v',d',h1,h2,_⟩
 ·rw [zl1 v h1];exact t.snocS h ho h2
 ·unfold zfo;rw [if_pos (by rw [zdU,h1];rfl)];exact t.replS h ho (by rw [h2];rfl)
theorem zgE{k:Key}:∀{kvs:List (Key×V)},zd5 kvs k=none->zeA kvs k=kvs
 | [],_=>rfl
 | p::r,h=>by
  by_cases e:p.1=k
  ·rw [zcR e] at h;cases h
  ·rw [zcS e] at h;unfold zeA;rw [ybQ,if_pos (yaC e)];congr 1;exact zgE h
theorem ShdK.dropS{k:Str}:∀{kvs:List (Key×V)} {ds:List (D×D)},ShdK cl w kvs ds->zaf ds=true->ShdK cl w (zeA kvs (.inr k)) (dropS k ds)
 | _,_,.nil,_=>.nil
 | _,_,.consI r t,ho=>by cases ho
 | _,_,.consS (x:=x) (vs:=vs) r t,ho=>by
  unfold zaf at ho;rw [yaa] at ho;unfold S2.dropS
  by_cases e:x=k
  ·subst e
   have hn:zd5 vs (.inr x)=none:=(zb8 x t ho.2).elim (·.1) fun ⟨_,_,_,z,_⟩=>by rw [z] at ho;exact absurd ho.1 (by simp)
   rw [if_pos rfl];unfold zeA;rw [ybQ,if_neg (by simp)];have:=zgE hn;unfold zeA at this;rw [this];exact t
  ·rw [if_neg e];unfold zeA;rw [ybQ];split
   ·exact .consS r (ShdK.dropS t ho.2)
   ·rename_i hz;exact absurd (by simp [e]) hz
def TopV.dicI{v:V}{ds:List (D×D)}(h:TopV cl w v (.dic ds)):∃a kvs,v=.ref a/\Rd w.H a (.dK kvs)/\ShdK cl w kvs ds:=by
 cases h with
 | sh h=>cases h with | dicK e k r=>exact ⟨_,_,rfl,.inr ⟨_,e⟩,r⟩
 | ow e t=>cases t with | dicK r=>exact ⟨_,_,rfl,.inl e,r⟩
theorem ShdK.length:∀{kvs:List (Key×V)} {ds:List (D×D)},ShdK cl w kvs ds->kvs.length=ds.length
 | _,_,.nil=>rfl
 | _,_,.consI r t=>by rw [yaf,yaf,ShdK.length t]
 | _,_,.consS r t=>by rw [yaf,yaf,ShdK.length t]
theorem zd1:∀{kvs:List (Key×V)} {ds:List (D×D)},ShdK cl w kvs ds->zaf ds=true->kvs.map (·.1)=(za9 ds).map Sum.inr/\(za9 ds).length=ds.length
 | _,_,.nil,_=>⟨rfl,rfl⟩
 | _,_,.consI r t,h=>by cases h
 | _,_,.consS r t,h=>by
  unfold zaf at h;rw [yaa] at h;obtain ⟨h1,h2⟩:=zd1 t h.2;exact ⟨by rw [yaw,h1];rfl,by show _+1=_+1;rw [h2]⟩
end
end S2
namespace ST
open PySem PySem.SetTable
noncomputable def stp(mask:Nat)(p:Probe):Probe :=
 if p.more > 0 then { p with j:=p.j+1,more:=p.more-1 } else
 { p with j:=(leap mask p.i p.perturb).1,more:=runEnd mask (leap mask p.i p.perturb).1-(leap mask p.i p.perturb).1,i:=(leap mask p.i p.perturb).1,perturb:=(leap mask p.i p.perturb).2 }
def zfh(t:SetTable)(p:Probe):t.advance p=stp t.mask p:=rfl
def itr(mask:Nat):Nat->Probe->Probe
 | 0,p=>p
 | n+1,p=>itr mask n (stp mask p)
theorem zel(mask:Nat):∀(a b:Nat) (p:Probe),itr mask (a+b) p=itr mask b (itr mask a p)
 | 0,b,p=>by rw [Nat.zero_add];rfl
 | a+1,b,p=>by
  rw [show a+1+b=(a+b)+1 by omega];exact zel mask a b (stp mask p)
def zii(mask n:Nat)(p:Probe):itr mask (n+1) p=stp mask (itr mask n p):=zel mask n 1 p
noncomputable def zeG(mask i pert:Nat):Probe:={ j:=i,more:=runEnd mask i-i,i:=i,perturb:=pert,dummy:=none }
def zlG(t:SetTable)(h:Int):t.probeStart h=zeG t.mask (bits h % (t.mask+1)) (bits h):=rfl
theorem zhe(mask:Nat):∀(k:Nat) (p:Probe),k<=p.more->itr mask k p={ p with j:=p.j+k,more:=p.more-k }
 | 0,p,_=>rfl
 | k+1,p,h=>by
  have hp:p.more > 0:=by omega
  show itr mask k (stp mask p)=_
  have e:stp mask p={ p with j:=p.j+1,more:=p.more-1 }:=by unfold stp;rw [if_pos hp]
  rw [e,zhe mask k _ (by show k<=p.more-1;omega)];show ({ p with j:=p.j+1+k,more:=p.more-1-k }:Probe)=_;rw [show p.j+1+k=p.j+(k+1) by omega,show p.more-1-k=p.more-(k+1) by omega]
theorem zq7(mask i:Nat):runEnd mask i-i<=9:=by unfold runEnd;split<;>omega
def zq8{mask i:Nat}(h:i<=mask):runEnd mask i<=mask:=by unfold runEnd;split<;>omega
theorem zlV(mask i:Nat):i<=runEnd mask i:=by unfold runEnd;split<;>omega
theorem zfw(mask i pert:Nat):itr mask (runEnd mask i-i+1) (zeG mask i pert)=zeG mask (leap mask i pert).1 (leap mask i pert).2:=by
 rw [zii,zhe mask (runEnd mask i-i) (zeG mask i pert) (yai _)];unfold stp;rw [if_neg (by show ¬ (runEnd mask i-i-(runEnd mask i-i) > 0);omega)];rfl
def zg5(mask i pert k:Nat)(h:k<=runEnd mask i-i):(itr mask k (zeG mask i pert)).j=i+k:=by
 rw [zhe mask _ _ h];rfl
noncomputable def rn(mask:Nat):Nat->Nat×Nat->Nat×Nat
 | 0,x=>x
 | r+1,x=>rn mask r (leap mask x.1 x.2)
theorem znn(mask:Nat):∀(a b:Nat) (x:Nat×Nat),rn mask (a+b) x=rn mask b (rn mask a x)
 | 0,b,x=>by rw [Nat.zero_add];rfl
 | a+1,b,x=>by
  rw [show a+1+b=(a+b)+1 by omega];exact znn mask a b _
theorem zrb(mask:Nat):∀(r i pert:Nat),∃s,s<=10*r/\itr mask s (zeG mask i pert)=zeG mask (rn mask r (i,pert)).1 (rn mask r (i,pert)).2
 | 0,i,pert=>⟨0,yai _,rfl⟩
 | r+1,i,pert=>by
  obtain ⟨s,hs,e⟩:=zrb mask r (leap mask i pert).1 (leap mask i pert).2;refine ⟨(runEnd mask i-i+1)+s,by have:=zq7 mask i;omega,?_⟩;rw [zel,zfw,e];rfl
theorem zjY(mask:Nat):∀(r i pert:Nat),(rn mask r (i,pert)).2=pert / 32 ^ r
 | 0,i,pert=>by show pert=_;simp
 | r+1,i,pert=>by
  show (rn mask r ((leap mask i pert).1,pert / 32)).2=_;rw [zjY mask r,Nat.div_div_eq_div_mul,Nat.pow_succ,Nat.mul_comm]
theorem zq9(mask:Nat):∀(r i pert:Nat),i<=mask->(rn mask r (i,pert)).1<=mask
 | 0,i,pert,h=>h
 | r+1,i,pert,_=>zq9 mask r _ _ (by
   show (i*5+1+pert / 32) % (mask+1)<=mask;have:=Nat.mod_lt (i*5+1+pert / 32) (show 0<mask+1 by omega)
   omega)
noncomputable def lcg(mask:Nat):Nat->Nat->Nat
 | 0,i=>i
 | r+1,i=>lcg mask r ((i*5+1) % (mask+1))
theorem znm(mask:Nat):∀(r i:Nat),(rn mask r (i,0)).1=lcg mask r i
 | 0,i=>rfl
 | r+1,i=>by
  show (rn mask r ((i*5+1+0 / 32) % (mask+1),0 / 32)).1=lcg mask r ((i*5+1) % (mask+1));rw [show (0 / 32:Nat)=0 from rfl,Nat.add_zero];exact znm mask r _
theorem zuj:∀i,i<8->∀j,j<8->∃k,k<8/\lcg 7 k i=j:=by decide +kernel
theorem zsj:∀i,i<32->∀j,j<32->∃k,k<32/\lcg 31 k i=j:=by decide +kernel
noncomputable def zfP(mask:Nat):Prop:=mask=7\/mask=31
theorem zcz{mask:Nat}(hm:zfP mask){i j:Nat}(hi:i<=mask)(hj:j<=mask):∃k,k<=mask/\lcg mask k i=j:=by
 rcases hm with rfl | rfl
 ·obtain ⟨k,h1,h2⟩:=zuj i (by omega) j (by omega);exact ⟨k,by omega,h2⟩
 ·obtain ⟨k,h1,h2⟩:=zsj i (by omega) j (by omega);exact ⟨k,by omega,h2⟩
theorem zsB{mask:Nat}(hm:zfP mask){i pert j:Nat}(hi:i<=mask)(hp:pert<2 ^ 64)(hj:j<=mask):∃r,r<=13+mask/\(rn mask r (i,pert)).1=j:=by
 have h13:(rn mask 13 (i,pert)).2=0:=by rw [zjY];exact Nat.div_eq_of_lt (yah hp (by decide))
 obtain ⟨k,hk,e⟩:=zcz hm (zq9 mask 13 i pert hi) hj;refine ⟨13+k,by omega,?_⟩;rw [znn,show rn mask 13 (i,pert)=((rn mask 13 (i,pert)).1,0) from Prod.ext rfl h13,znm];exact e
theorem zll(h:Int):bits h<2 ^ 64:=by
 unfold bits;have h1:=yct h (show (2 ^ 64:Int)≠0 by decide);have h2:=yb3 h (show (0:Int)<2 ^ 64 by decide);omega
def st(mask:Nat)(h:Int)(n:Nat):Probe:=itr mask n (zeG mask (bits h % (mask+1)) (bits h))
def pos(mask:Nat)(h:Int)(n:Nat):Nat:=(st mask h n).j
def zgY(mask:Nat)(h:Int)(n:Nat):st mask h (n+1)=stp mask (st mask h n):=zii ..
def zju(mask:Nat)(p:Probe):(stp mask p).dummy=p.dummy:=by unfold stp;split<;>rfl
theorem zhQ(mask:Nat)(h:Int):∀n,(st mask h n).dummy=none
 | 0=>rfl
 | n+1=>by rw [zgY,zju,zhQ mask h n]
theorem zdW(mask:Nat)(h:Int):bits h % (mask+1)<=mask:=by have:=Nat.mod_lt (bits h) (show 0<mask+1 by omega);omega
theorem zuk{mask:Nat}(hm:zfP mask)(h:Int){j:Nat}(hj:j<=mask):∃n,n<10*turns mask/\pos mask h n=j:=by
 obtain ⟨r,hr,e⟩:=zsB hm (zdW mask h) (zll h) hj;obtain ⟨s,hs,q⟩:=zrb mask r (bits h % (mask+1)) (bits h);refine ⟨s,by unfold turns;omega,?_⟩;show (itr mask s _).j=j;rw [q,e];rfl
theorem zi0{mask:Nat}(hm:zfP mask)(h:Int)(ps:List Nat)(hf:∃j,j<=mask/\j ∉ ps):∃M,M<10*turns mask/\pos mask h M ∉ ps/\∀q,q<M->pos mask h q∈ps:=by
 obtain ⟨j,hj,hn⟩:=hf;obtain ⟨n,hlt,e⟩:=zuk hm h hj
 have:∀n,pos mask h n ∉ ps->∃M,M<=n/\pos mask h M ∉ ps/\∀q,q<M->pos mask h q∈ps:=by
  intro n
  induction n using Nat.strongRecOn with
  | _ n ih =>
   intro hn
   by_cases hc:∃q,q<n/\pos mask h q ∉ ps
   ·obtain ⟨q,hq,hq2⟩:=hc;obtain ⟨M,h1,h2⟩:=ih q hq hq2;exact ⟨M,by omega,h2⟩
   ·exact ⟨n,yai _,hn,fun q hq=>Classical.byContradiction fun z=>hc ⟨q,hq,z⟩⟩
 obtain ⟨M,h1,h2⟩:=this n (by rw [e];exact hn);exact ⟨M,by omega,h2⟩
theorem room{mask:Nat}{ps:List Nat}(h:ps.length<=mask):∃j,j<=mask/\j ∉ ps:=by
 refine Classical.byContradiction fun hn=>?_
 have all:∀j,j∈List.range (mask+1)->j∈ps:=fun j hj=>Classical.byContradiction fun z=>hn ⟨j,by have:=ybu.mp hj;omega,z⟩
 have:=List.Nodup.length_le_of_subset (List.nodup_range (n:=mask+1)) all;rw [ycb] at this;omega
theorem zrr{mask:Nat}(h:Int):∀n,pos mask h n<=mask:=by
 have key:∀n (p:Probe),p.i<=mask->p.j+p.more=runEnd mask p.i->(itr mask n p).i<=mask/\(itr mask n p).j+(itr mask n p).more=runEnd mask (itr mask n p).i:=by
  intro n
  induction n with
  | zero=>intro p h1 h2;exact ⟨h1,h2⟩
  | succ n ih =>
   intro p h1 h2;show (itr mask n (stp mask p)).i<=mask/\_;refine ih _ ?_ ?_
   ·unfold stp;split
    ·exact h1
    ·show (p.i*5+1+p.perturb / 32) % (mask+1)<=mask;have:=Nat.mod_lt (p.i*5+1+p.perturb / 32) (show 0<mask+1 by omega);omega
   ·unfold stp;split
    ·show p.j+1+(p.more-1)=runEnd mask p.i;omega
    ·show (leap mask p.i p.perturb).1+(runEnd mask (leap mask p.i p.perturb).1-(leap mask p.i p.perturb).1)=runEnd mask (leap mask p.i p.perturb).1;have:=zlV mask (leap mask p.i p.perturb).1;omega
 intro n
 obtain ⟨h1,h2⟩:=key n (zeG mask (bits h % (mask+1)) (bits h)) (zdW mask h) (by
  show bits h % (mask+1)+(runEnd mask (bits h % (mask+1))-bits h % (mask+1))=runEnd mask (bits h % (mask+1))
  have:=zlV mask (bits h % (mask+1));omega)
 have:=zq8 (mask:=mask) h1;show (itr mask n _).j<=mask;omega
noncomputable def Cut(ps:List Nat)(j c:Nat):Prop:=c<=ps.length/\(∀k x,k<c->ps[k]?=some x->x<j)/\∀k x,c<=k->ps[k]?=some x->j<=x
theorem zk6:∀(ps:List Nat) (j:Nat),ps.Pairwise (· < ·)->∃c,Cut ps j c
 | [],j,_=>⟨0,yai _,fun k x h _=>by omega,fun k x _ e=>by simp at e⟩
 | a::ps,j,h=>by
  obtain ⟨ha,hp⟩:=yba.mp h
  by_cases hj:a<j
  ·obtain ⟨c,h1,h2,h3⟩:=zk6 ps j hp;refine ⟨c+1,ybS h1,fun k x hk e=>?_,fun k x hk e=>?_⟩
   ·cases k with
    | zero=>simp at e;omega
    | succ k=>exact h2 k x (by omega) (by simpa using e)
   ·cases k with
    | zero=>omega
    | succ k=>exact h3 k x (by omega) (by simpa using e)
  ·refine ⟨0,yaD _,fun k x hk _=>by omega,fun k x _ e=>?_⟩
   cases k with
   | zero=>simp at e;omega
   | succ k =>
    have:=ha x (ya5 (by simpa using e));omega
theorem zkM(hc:Cut xs.toList j c):∀(fuel lo hi:Nat),lo<=c->c<=hi->hi<=xs.size->hi-lo<=fuel->below.go xs j fuel lo hi=c
 | 0,lo,hi,h1,h2,h3,h4=>by unfold below.go;omega
 | fuel+1,lo,hi,h1,h2,h3,h4=>by
  unfold below.go
  by_cases hlt:lo<hi
  ·rw [if_pos hlt]
   have hm:(lo+hi) / 2<xs.size:=by omega
   have e:xs.toList[(lo+hi) / 2]?=some xs[(lo+hi) / 2]:=by rw [yaS];exact yaF hm
   have eD:xs.getD ((lo+hi) / 2) j=xs[(lo+hi) / 2]:=by simp [Array.getD,hm]
   show (if xs.getD ((lo+hi) / 2) j<j then below.go xs j fuel ((lo+hi) / 2+1) hi else below.go xs j fuel lo ((lo+hi) / 2))=c;rw [eD]
   by_cases hx:xs[(lo+hi) / 2]<j
   ·rw [if_pos hx];refine zkM hc fuel _ _ ?_ h2 h3 (by omega);refine Classical.byContradiction fun z=>?_
    have:=hc.2.2 ((lo+hi) / 2) _ (by omega) e;omega
   ·rw [if_neg hx];refine zkM hc fuel _ _ h1 ?_ (by omega) (by omega);refine Classical.byContradiction fun z=>?_
    have:=hc.2.1 ((lo+hi) / 2) _ (by omega) e;omega
  ·rw [if_neg hlt];omega
theorem zeE(hc:Cut xs.toList j c):below xs j=c:=by
 unfold below;exact zkM hc _ _ _ (yaD _) (by have:=hc.1;simpa using this) (yai _) (by omega)
def zf9{ps:List Nat}(h:ps.Pairwise (· < ·)){a b x y:Nat}(ha:ps[a]?=some x)(hb:ps[b]?=some y)(hl:a<b):x<y:=by
 obtain ⟨h1,e1⟩:=yag.mp ha;obtain ⟨h2,e2⟩:=yag.mp hb;have:=List.pairwise_iff_getElem.mp h a b h1 h2 hl;rwa [e1,e2] at this
def zcC{t:SetTable}(hs:t.place.toList.Pairwise (· < ·)){i j:Nat}(h:t.place.toList[i]?=some j):t.slot j=.live i:=by
 have hc:Cut t.place.toList j i:=by
  refine ⟨ybz (yag.mp h).1,fun k x hk e=>zf9 hs e h hk,fun k x hk e=>?_⟩
  rcases ycB hk with z | z
  ·exact ybz (zf9 hs h e z)
  ·subst z;rw [h] at e;cases e;exact yai _
 unfold slot;rw [zeE hc]
 have e:t.place[i]?=some j:=by rw [<-yaS];exact h
 show (if (t.place[i]? == some j)=true then Slot.live i else _)=_;rw [e,if_pos (by simp)]
def zjy{t:SetTable}(hs:t.place.toList.Pairwise (· < ·))(hd:t.dummies=#[])(h:j ∉ t.place.toList):t.slot j=.empty:=by
 obtain ⟨c,hc⟩:=zk6 t.place.toList j hs;unfold slot;rw [zeE hc]
 have e:(t.place[c]? == some j)=false:=by
  rw [<-yaS]
  cases q:t.place.toList[c]? with
  | none=>rfl
  | some x =>
   have:x≠j:=fun z=>h (z ▸ ya5 q)
   simpa using this
 show (if (t.place[c]? == some j)=true then Slot.live c else if has t.dummies j=true then .dummy else .empty)=.empty;rw [e,if_neg (by simp),hd]
 have:has #[] j=false:=by unfold has below;rfl
 rw [this,if_neg (by simp)]
noncomputable def Hit(t:SetTable)(hashAt:Nat->Int)(h:Int)(q i:Nat):Prop:=t.place.toList[i]?=some (pos t.mask h q)/\hashAt i=h
theorem zh2{t:SetTable}(hs:t.place.toList.Pairwise (· < ·))(hd:t.dummies=#[])(hashAt:Nat->Int)(h:Int){M:Nat}(hM:pos t.mask h M ∉ t.place.toList)(hb:∀q,q<M->pos t.mask h q∈t.place.toList) :
  ∀(fuel m:Nat),m<=M->M-m<fuel →
   (∃q i,m<=q/\q<M/\Hit t hashAt h q i/\(∀q' i',m<=q'->q'<q->¬ Hit t hashAt h q' i')/\probe.go t hashAt h fuel (st t.mask h m)=some (.candidate (pos t.mask h q) i (st t.mask h (q+1)))) ∨
   ((∀q i,m<=q->q<M->¬ Hit t hashAt h q i)/\probe.go t hashAt h fuel (st t.mask h m)=some (.empty (pos t.mask h M) none))
 | 0,m,h1,h2=>by omega
 | fuel+1,m,h1,h2=>by
  by_cases hm:m=M
  ·subst hm;refine .inr ⟨fun q i a b=>by omega,?_⟩;unfold probe.go;rw [show (st t.mask h m).j=pos t.mask h m from rfl,zjy hs hd hM];show some (Met.empty (pos t.mask h m) (st t.mask h m).dummy)=_;rw [zhQ]
  ·obtain ⟨i,hi⟩:=ybm (hb m (by omega));have hsl:=zcC hs hi
   by_cases hh:hashAt i=h
   ·refine .inl ⟨m,i,yai _,by omega,⟨hi,hh⟩,fun q' i' a b=>by omega,?_⟩;unfold probe.go;rw [show (st t.mask h m).j=pos t.mask h m from rfl,hsl];show (if (hashAt i == h)=true then _ else _)=_;rw [if_pos (by simpa using hh),zfh,<-zgY]
   ·have nh:∀i',¬ Hit t hashAt h m i':=fun i' z=>by
     have:=zcC hs z.1;rw [hsl] at this;cases this;exact hh z.2
    have eg:probe.go t hashAt h (fuel+1) (st t.mask h m)=probe.go t hashAt h fuel (st t.mask h (m+1)):=by
     conv=>lhs;unfold probe.go
     rw [show (st t.mask h m).j=pos t.mask h m from rfl,hsl];show (if (hashAt i == h)=true then _ else _)=_;rw [if_neg (by simpa using hh),zfh,<-zgY]
    rcases zh2 hs hd hashAt h hM hb fuel (m+1) (by omega) (by omega) with ⟨q,i',a,b,c,d,e⟩ | ⟨d,e⟩
    ·refine .inl ⟨q,i',by omega,b,c,fun q' i'' x y=>?_,by rw [eg];exact e⟩
     by_cases z:q'=m
     ·subst z;exact nh i''
     ·exact d q' i'' (by omega) y
    ·refine .inr ⟨fun q i'' x y=>?_,by rw [eg];exact e⟩
     by_cases z:q=m
     ·subst z;exact nh i''
     ·exact d q i'' (by omega) y
theorem zl5{t:SetTable}(hs:t.place.toList.Pairwise (· < ·))(hd:t.dummies=#[])(hashAt:Nat->Int)(h:Int){M:Nat}(hM:pos t.mask h M ∉ t.place.toList)(hb:∀q,q<M->pos t.mask h q∈t.place.toList)(hl:M<10*turns t.mask){m:Nat}(hm:m<=M) :
   (∃q i,m<=q/\q<M/\Hit t hashAt h q i/\(∀q' i',m<=q'->q'<q->¬ Hit t hashAt h q' i')/\t.probe hashAt h (st t.mask h m)=some (.candidate (pos t.mask h q) i (st t.mask h (q+1)))) ∨
   ((∀q i,m<=q->q<M->¬ Hit t hashAt h q i)/\t.probe hashAt h (st t.mask h m)=some (.empty (pos t.mask h M) none)) :=
 zh2 hs hd hashAt h hM hb _ _ hm (by omega)
structure Tab{α:Type}(t:SetTable)(es:Array (Int×α)):Prop where
 small:zfP t.mask
 dum:t.dummies=#[]
 len:t.place.size=es.size
 srt:t.place.toList.Pairwise (· < ·)
 le:∀j∈t.place.toList,j<=t.mask
 room:es.size*5<t.mask*3
 path:∀p∈t.place.toList.zip es.toList,∃n,pos t.mask p.2.1 n=p.1/\∀q,q<n->pos t.mask p.2.1 q∈t.place.toList
theorem zjg{α β:Type}:∀(xs:List α) (ys:List β) (c:Nat) (x:α) (y:β),xs.length=ys.length->(xs.take c++x::xs.drop c).zip (ys.take c++y::ys.drop c)=(xs.zip ys).take c++(x,y)::(xs.zip ys).drop c
 | xs,ys,0,x,y,h=>by simp
 | [],[],c+1,x,y,h=>by simp
 | a::xs,b::ys,c+1,x,y,h=>by
  have:=zjg xs ys c x y (by simpa using h);simp [this]
def zfs{α:Type}(xs:List α)(c:Nat)(x y:α):y∈xs.take c++x::xs.drop c↔y=x\/y∈xs:=by
 have e:y∈xs↔y∈xs.take c++xs.drop c:=by rw [List.take_append_drop]
 rw [e];simp only [ya3,yat];constructor
 ·rintro (h | h | h)
  ·exact .inr (.inl h)
  ·exact .inl h
  ·exact .inr (.inr h)
 ·rintro (h | h | h)
  ·exact .inr (.inl h)
  ·exact .inl h
  ·exact .inr (.inr h)
def zdD{α:Type}(xs:Array α)(p:Nat)(x:α):(insertAt xs p x).toList=xs.toList.take p++x::xs.toList.drop p:=by
 simp [insertAt,List.extract_eq_take_drop,List.take_of_length_le]
theorem zfx{α:Type}(xs:Array α)(p:Nat)(x:α):(insertAt xs p x).size=xs.size+1:=by
 have:(insertAt xs p x).toList.length=xs.toList.length+1:=by
  rw [zdD];simp only [yas,yaf,List.length_take,List.length_drop];omega
 simpa using this
def zrm{t:SetTable}(hd:t.dummies=#[])(j:Nat):t.put j=({ t with place:=insertAt t.place (below t.place j) j },below t.place j):=by
 unfold put
 have:has t.dummies j=false:=by rw [hd];unfold has below;rfl
 rw [this];simp
theorem zoA(hs:ps.Pairwise (· < ·))(hc:Cut ps j c)(hj:j ∉ ps):(ps.take c++j::ps.drop c).Pairwise (· < ·):=by
 rw [List.pairwise_append,yba]
 have e:(ps.take c++ps.drop c).Pairwise (· < ·):=by rw [List.take_append_drop];exact hs
 rw [List.pairwise_append] at e
 have lo:∀x∈ps.take c,x<j:=fun x hx=>by
  obtain ⟨k,hk⟩:=ybm hx;rw [List.getElem?_take] at hk;split at hk
  ·exact hc.2.1 k x (by assumption) hk
  ·cases hk
 have hi:∀x∈ps.drop c,j<x:=fun x hx=>by
  obtain ⟨k,hk⟩:=ybm hx;rw [ybj] at hk;have h1:=hc.2.2 (c+k) x (by omega) hk;have h2:x≠j:=fun z=>hj (z ▸ ya5 hk)
  omega
 refine ⟨e.1,⟨hi,e.2.1⟩,fun x hx y hy=>?_⟩
 rcases yat.mp hy with rfl | hy
 ·exact lo x hx
 ·have:=lo x hx;have:=hi y hy;omega
def Tab.put{α:Type}{t:SetTable}{es:Array (Int×α)}(T:Tab t es){h:Int}{x:α}{M:Nat}(hM:pos t.mask h M ∉ t.place.toList)(hb:∀q,q<M->pos t.mask h q∈t.place.toList){pl:Bool} :
  let j:=pos t.mask h M
  let t':SetTable:={ t with place:=insertAt t.place (below t.place j) j,plain:=pl }
  let es':=insertAt es (below t.place j) (h,x)
  t'.place.size=es'.size/\t'.place.toList.Pairwise (· < ·)/\(∀k∈t'.place.toList,k<=t'.mask) ∧
   (∀p∈t'.place.toList.zip es'.toList,∃n,pos t'.mask p.2.1 n=p.1/\∀q,q<n->pos t'.mask p.2.1 q∈t'.place.toList)/\(∀e,e∈es'.toList↔e=(h,x)\/e∈es.toList)/\es'.size=es.size+1:=by
 intro j t' es';obtain ⟨c,hc⟩:=zk6 t.place.toList j T.srt;have eb:below t.place j=c:=zeE hc
 have e1:t'.place.toList=t.place.toList.take c++j::t.place.toList.drop c:=by
  show (insertAt t.place (below t.place j) j).toList=_;rw [eb];exact zdD ..
 have e2:es'.toList=es.toList.take c++(h,x)::es.toList.drop c:=by
  show (insertAt es (below t.place j) (h,x)).toList=_;rw [eb];exact zdD ..
 have hlen:t.place.toList.length=es.toList.length:=by simpa using T.len
 have up:∀k,k∈t.place.toList->k∈t'.place.toList:=fun k hk=>by rw [e1];exact (zfs ..).mpr (.inr hk)
 refine ⟨?_,?_,fun k hk=>?_,fun p hp=>?_,fun e=>?_,?_⟩
 ·show (insertAt t.place _ j).size=(insertAt es _ _).size;rw [zfx,zfx,T.len]
 ·rw [e1];exact zoA T.srt hc hM
 ·rw [e1] at hk
  rcases (zfs ..).mp hk with rfl | hk
  ·exact zrr h M
  ·exact T.le k hk
 ·rw [e1,e2,zjg _ _ _ _ _ hlen] at hp
  rcases (zfs ..).mp hp with rfl | hp
  ·exact ⟨M,rfl,fun q hq=>up _ (hb q hq)⟩
  ·obtain ⟨n,h1,h2⟩:=T.path p hp;exact ⟨n,h1,fun q hq=>up _ (h2 q hq)⟩
 ·rw [e2];exact zfs ..
 ·exact zfx ..
noncomputable def Occ(owner:Array (Option Nat))(j:Nat):Prop:=∃i,owner[j]?=some (some i)
def zkN{owner:Array (Option Nat)}{x:Nat}(h:(owner.getD x (some 0)).isNone=true):owner[x]?=some none:=by
 by_cases hx:x<owner.size
 ·have e:owner.getD x (some 0)=owner[x]:=by simp [Array.getD,hx]
  rw [e] at h;rw [yaF hx]
  cases q:owner[x] with
  | none=>rfl
  | some y=>rw [q] at h;cases h
 ·have e:owner.getD x (some 0)=some 0:=by simp [Array.getD,hx]
  rw [e] at h;cases h
def zil{owner:Array (Option Nat)}{x:Nat}(hx:x<owner.size)(h:¬ (owner.getD x (some 0)).isNone=true):Occ owner x:=by
 have e:owner.getD x (some 0)=owner[x]:=by simp [Array.getD,hx]
 rw [e] at h
 cases q:owner[x] with
 | none=>rw [q] at h;exact absurd rfl h
 | some y=>exact ⟨y,by rw [yaF hx,q]⟩
def zkP{owner:Array (Option Nat)}{x:Nat}(h:owner[x]?=some none):(owner.getD x (some 0)).isNone=true:=by
 obtain ⟨hx,e⟩:=yaT.mp h
 have e':owner.getD x (some 0)=owner[x]:=by simp [Array.getD,hx]
 rw [e',e];rfl
theorem zgx{mask:Nat}{owner:Array (Option Nat)}(hz:owner.size=mask+1):∀(fuel i pert j:Nat),i<=mask->layClean.free mask owner fuel i pert=some j →
  owner[j]?=some none/\∃n,(itr mask n (zeG mask i pert)).j=j/\∀q,q<n->Occ owner (itr mask q (zeG mask i pert)).j
 | 0,i,pert,j,hi,h=>by unfold layClean.free at h;cases h
 | fuel+1,i,pert,j,hi,h=>by
  unfold layClean.free at h;have hin:=zq8 hi;have hge:=zlV mask i
  cases e:(List.range (runEnd mask i+1-i)).find? fun k=>(owner.getD (i+k) (some 0)).isNone with
  | some k =>
   rw [e] at h
   have hj:j=i+k:=by simpa using h.symm
   obtain ⟨h1,h2,h3⟩:=List.find?_range_eq_some.mp e
   have hk:k<runEnd mask i+1-i:=by simpa using h2
   subst hj;refine ⟨zkN h1,k,zg5 mask i pert k (by omega),fun q hq=>?_⟩;rw [zg5 mask i pert q (by omega)];refine zil (by omega) ?_;have:=h3 q hq;intro z;rw [z] at this;cases this
  | none =>
   rw [e] at h;have hall:=List.find?_range_eq_none.mp e;have h':layClean.free mask owner fuel (leap mask i pert).1 (leap mask i pert).2=some j:=h
   obtain ⟨h1,n,h2,h3⟩:=zgx hz fuel _ _ j (by
    show (i*5+1+pert / 32) % (mask+1)<=mask;have:=Nat.mod_lt (i*5+1+pert / 32) (show 0<mask+1 by omega)
    omega) h'
   refine ⟨h1,(runEnd mask i-i+1)+n,by rw [zel,zfw];exact h2,fun q hq=>?_⟩
   by_cases hq':q<runEnd mask i-i+1
   ·rw [zg5 mask i pert q (by omega)];refine zil (by omega) ?_;have:=hall q (by omega);intro z;rw [z] at this;cases this
   ·have e2:q=(runEnd mask i-i+1)+(q-(runEnd mask i-i+1)):=by omega
    rw [e2,zel,zfw];exact h3 _ (by omega)
theorem zgy{mask:Nat}{owner:Array (Option Nat)}:∀(fuel i pert:Nat),(∃r,r<fuel/\owner[(rn mask r (i,pert)).1]?=some none)->∃j,layClean.free mask owner fuel i pert=some j
 | 0,i,pert,h=>by obtain ⟨r,hr,_⟩:=h;omega
 | fuel+1,i,pert,h=>by
  unfold layClean.free
  cases e:(List.range (runEnd mask i+1-i)).find? fun k=>(owner.getD (i+k) (some 0)).isNone with
  | some k=>exact ⟨i+k,rfl⟩
  | none =>
   have hall:=List.find?_range_eq_none.mp e;obtain ⟨r,hr,hn⟩:=h
   cases r with
   | zero =>
    have:=hall 0 (by have:=zlV mask i;omega);have hn':(owner.getD i (some 0)).isNone=true:=zkP hn;rw [Nat.add_zero,hn'] at this;cases this
   | succ r=>exact zgy fuel (leap mask i pert).1 (leap mask i pert).2 ⟨r,by omega,hn⟩
structure LC(mask:Nat)(hs:List Int)(owner:Array (Option Nat)):Prop where
 size:owner.size=mask+1
 own:∀(j i:Nat),owner[j]?=some (some i)->∃h,hs[i]?=some h/\∃n,pos mask h n=j/\∀q,q<n->Occ owner (pos mask h q)
 all:∀i,i<hs.length->∃j:Nat,owner[j]?=some (some i)
 many:(owner.toList.filterMap id).length=hs.length
theorem zh9:∀(l:List (Option Nat)) (j k:Nat),l[j]?=some none->((l.set j (some k)).filterMap id).length=(l.filterMap id).length+1
 | [],j,k,h=>by simp at h
 | a::l,0,k,h=>by
  have:a=none:=by simpa using h
  subst this;simp
 | a::l,j+1,k,h=>by
  have ih:=zh9 l j k (by simpa using h)
  cases a with
  | none=>simpa using ih
  | some x=>simpa using ih
theorem LC.step{mask:Nat}{hs:List Int}{owner:Array (Option Nat)}(L:LC mask hs owner)(h:Int){j:Nat}(e:layClean.free mask owner (turns mask) (bits h % (mask+1)) (bits h)=some j) :
  LC mask (hs++[h]) (owner.setIfInBounds j (some hs.length)):=by
 obtain ⟨h1,n,h2,h3⟩:=zgx L.size _ _ _ _ (zdW mask h) e;have hj:j<owner.size:=(yaT.mp h1).1
 have at':∀x,(owner.setIfInBounds j (some hs.length))[x]?=if j=x then some (some hs.length) else owner[x]?:=fun x=>by
  rw [Array.getElem?_setIfInBounds]
  by_cases z:j=x
  ·subst z;simp [hj]
  ·simp [z]
 have up:∀x,Occ owner x->Occ (owner.setIfInBounds j (some hs.length)) x:=fun x ⟨i,hi⟩=>by
  by_cases z:j=x
  ·subst z;rw [h1] at hi;cases hi
  ·exact ⟨i,by rw [at',if_neg z];exact hi⟩
 refine ⟨by simpa using L.size,fun x i hx=>?_,fun i hi=>?_,?_⟩
 ·rw [at'] at hx
  by_cases z:j=x
  ·rw [if_pos z] at hx;cases hx;subst z;exact ⟨h,by simp,n,h2,fun q hq=>up _ (h3 q hq)⟩
  ·rw [if_neg z] at hx;obtain ⟨h',e',n',a,b⟩:=L.own x i hx;refine ⟨h',?_,n',a,fun q hq=>up _ (b q hq)⟩;rw [yaE (yag.mp e').1];exact e'
 ·rw [yas,ybB] at hi
  by_cases z:i=hs.length
  ·subst z;exact ⟨j,by rw [at',if_pos rfl]⟩
  ·obtain ⟨x,hx⟩:=L.all i (by omega);refine ⟨x,?_⟩;rw [at',if_neg (fun w=>by subst w;rw [h1] at hx;cases hx)];exact hx
 ·have q:owner.toList[j]?=some none:=by rw [yaS];exact h1
  rw [Array.toList_setIfInBounds,zh9 _ _ _ q,L.many,yas];rfl
def lcF(mask:Nat)(acc:Option (Array (Option Nat)×Nat))(h:Int):Option (Array (Option Nat)×Nat):=do
  let (owner,k) ← acc
  let j ← layClean.free mask owner (turns mask) (bits h % (mask+1)) (bits h)
  pure (owner.setIfInBounds j (some k),k+1)
def zhd(mask:Nat)(hashes:Array Int):layClean mask hashes=(hashes.toList.foldl (lcF mask) (some (Array.replicate (mask+1) none,0))).map (·.1):=by
 unfold layClean;rw [<-Array.foldl_toList];rfl
theorem zks{mask:Nat}(hm:zfP mask):∀(za7 hs:List Int) (owner:Array (Option Nat)),LC mask hs owner->hs.length+za7.length<=mask+1 →
  ∃ow',za7.foldl (lcF mask) (some (owner,hs.length))=some (ow',(hs++za7).length)/\LC mask (hs++za7) ow'
 | [],hs,owner,L,_=>⟨owner,by simp,by simpa using L⟩
 | h::za7,hs,owner,L,hl=>by
  rw [yaf] at hl
  have hfree:∃x,x<=mask/\owner[x]?=some none:=by
   refine Classical.byContradiction fun hn=>?_
   have allS:∀o∈owner.toList,o≠none:=fun o ho z=>by
    obtain ⟨x,hx⟩:=ybm ho;subst z
    have hx':owner[x]?=some none:=by rw [<-yaS];exact hx
    have:=(yaT.mp hx').1;exact hn ⟨x,by rw [L.size] at this;omega,hx'⟩
   have cnt:∀l:List (Option Nat),(∀o∈l,o≠none)->(l.filterMap id).length=l.length:=by
    intro l
    induction l with
    | nil=>intro _;rfl
    | cons a l ih =>
     intro ha
     cases a with
     | none=>exact absurd rfl (ha none yar)
     | some x=>simpa using ih fun o ho=>ha o (yak _ ho)
   have:=cnt _ allS;rw [L.many] at this;have e:=L.size;rw [<-yaU] at e;omega
  obtain ⟨x,hx,hxn⟩:=hfree;obtain ⟨r,hr,er⟩:=zsB hm (zdW mask h) (zll h) hx;obtain ⟨j,hj⟩:=zgy (mask:=mask) (owner:=owner) (turns mask) (bits h % (mask+1)) (bits h) ⟨r,by unfold turns;omega,by rw [er];exact hxn⟩;have L':=L.step h hj;obtain ⟨ow',e1,e2⟩:=zks hm za7 (hs++[h]) _ L' (by rw [yas,ybB];omega);refine ⟨ow',?_,by simpa using e2⟩;rw [ybn]
  have e3:lcF mask (some (owner,hs.length)) h=some (owner.setIfInBounds j (some hs.length),(hs++[h]).length):=by
   show (layClean.free mask owner (turns mask) (bits h % (mask+1)) (bits h) >>= fun j=>pure (owner.setIfInBounds j (some hs.length),hs.length+1))=_;rw [hj,yas];rfl
  rw [e3,e1];simp
def zpp(mask:Nat):LC mask [] (Array.replicate (mask+1) none):=by
 refine ⟨by simp,fun j i h=>?_,fun i hi=>by simp at hi,?_⟩
 ·rw [Array.getElem?_replicate] at h;split at h
  ·cases h
  ·cases h
 ·have:∀n:Nat,((List.replicate n (none:Option Nat)).filterMap id).length=0:=by
   intro n
   induction n with
   | zero=>rfl
   | succ n ih=>rw [List.replicate_succ];simpa using ih
  simpa using this (mask+1)
def zhc{mask:Nat}(hm:zfP mask)(hashes:Array Int)(hl:hashes.size<=mask+1):∃owner,layClean mask hashes=some owner/\LC mask hashes.toList owner:=by
 obtain ⟨ow,e1,e2⟩:=zks hm hashes.toList [] _ (zpp mask) (by simpa using hl);refine ⟨ow,?_,by simpa using e2⟩;rw [zhd];have e1':hashes.toList.foldl (lcF mask) (some (Array.replicate (mask+1) none,0))=some (ow,([]++hashes.toList).length):=e1;rw [e1'];rfl
theorem zhE{α:Type}(es:Array α):∀(live:List (Nat×Nat)),(∀p∈live,∃e,es[p.2]?=some e) →
  ((live.map (·.2)).filterMap (es[·]?)).length=live.length/\(∀x∈(live.map (·.1)).zip ((live.map (·.2)).filterMap (es[·]?)),∃p∈live,x.1=p.1/\es[p.2]?=some x.2)/\∀e,e∈(live.map (·.2)).filterMap (es[·]?)↔∃p∈live,es[p.2]?=some e
 | [],_=>⟨rfl,fun x hx=>by simp at hx,fun e=>by simp⟩
 | p::live,h=>by
  obtain ⟨e,he⟩:=h p yar;obtain ⟨h1,h2,h3⟩:=zhE es live fun q hq=>h q (yak _ hq)
  have es':((p::live).map (·.2)).filterMap (es[·]?)=e::(live.map (·.2)).filterMap (es[·]?):=by
   rw [yaw,List.filterMap_cons_some he]
  rw [es'];refine ⟨by rw [yaf,yaf,h1],fun x hx=>?_,fun x=>?_⟩
  ·rw [yaw,List.zip_cons_cons] at hx
   rcases yat.mp hx with rfl | hx
   ·exact ⟨p,yar,rfl,he⟩
   ·obtain ⟨q,hq,r⟩:=h2 x hx;exact ⟨q,yak _ hq,r⟩
  ·rw [yat,h3];constructor
   ·rintro (rfl | ⟨q,hq,r⟩)
    ·exact ⟨p,yar,he⟩
    ·exact ⟨q,yak _ hq,r⟩
   ·rintro ⟨q,hq,r⟩
    rcases yat.mp hq with rfl | hq
    ·rw [he] at r;cases r;exact .inl rfl
    ·exact .inr ⟨q,hq,r⟩
theorem zpt{α:Type}{mask:Nat}(hm:zfP mask)(es:Array (Int×α))(hl:es.size*5<mask*3)(f mv:Nat)(led pl:Bool) :
  ∃t' order,laid mask f mv led pl (es.map (·.1))=some (t',order)/\Tab t' (order.filterMap (es[·]?))/\(order.filterMap (es[·]?)).size=es.size/\(∀e,e∈(order.filterMap (es[·]?)).toList↔e∈es.toList)/\t'.mask=mask/\t'.led=led/\t'.moves=mv/\t'.plain=pl:=by
 obtain ⟨owner,eo,L⟩:=zhc hm (es.map (·.1)) (by simp;omega)
 let live:=(List.range (mask+1)).filterMap fun j=>(owner.getD j none).map (j,·)
 have hlive:∀p,p∈live↔owner[p.1]?=some (some p.2):=by
  rintro ⟨j,i⟩;constructor
  ·intro h;obtain ⟨x,hx,e⟩:=ybi.mp h
   have hx':x<owner.size:=by rw [L.size];simpa using hx
   have eD:owner.getD x none=owner[x]:=by simp [Array.getD,hx']
   rw [eD] at e
   cases q:owner[x] with
   | none=>rw [q] at e;cases e
   | some y =>
    rw [q] at e;cases e;show owner[j]?=some (some i);rw [yaF hx',q]
  ·intro h;obtain ⟨hx',e⟩:=yaT.mp h;refine ybi.mpr ⟨j,by rw [ybu,<-L.size];exact hx',?_⟩
   have eD:owner.getD j none=owner[j]:=by simp [Array.getD,hx']
   rw [eD];have e':owner[j]=some i:=e;rw [e'];rfl
 have hsome:∀p∈live,∃e,es[p.2]?=some e:=fun p hp=>by
  obtain ⟨h,hh,_⟩:=L.own p.1 p.2 ((hlive p).mp hp);have:p.2<(es.map (·.1)).toList.length:=(yag.mp hh).1
  have hlt:p.2<es.size:=by simpa using this
  exact ⟨es[p.2],yaF hlt⟩
 obtain ⟨z1,z2,z3⟩:=zhE es live hsome
 have hlen:live.length=es.size:=by
  have e1:live.map (·.2)=owner.toList.filterMap id:=by
   have e0:owner.toList=(List.range (mask+1)).map fun j=>owner.getD j none:=by
    refine List.ext_getElem (by simp [L.size]) fun i h1 h2=>?_
    have:i<owner.size:=by simpa using h1
    simp [Array.getD,this]
   rw [e0,List.filterMap_map];show ((List.range (mask+1)).filterMap _).map _=_;rw [List.map_filterMap];congr 1;funext j;show _=owner.getD j none
   cases owner.getD j none<;>rfl
  have:=L.many;rw [<-e1,yad] at this;simpa using this
 have eo':laid mask f mv led pl (es.map (·.1))=some ({ mask,place:=(live.map (·.1)).toArray,dummies:=#[],finger:=f,led:=led,moves:=mv,plain:=pl },(live.map (·.2)).toArray):=by
  unfold laid;rw [eo];rfl
 have eT:(((live.map (·.2)).toArray).filterMap (es[·]?)).toList=(live.map (·.2)).filterMap (es[·]?):=by simp [Array.toList_filterMap]
 have ez:(((live.map (·.2)).toArray).filterMap (es[·]?)).size=es.size:=by rw [<-yaU,eT,z1,hlen]
 refine ⟨_,_,eo',⟨hm,rfl,?_,?_,fun j hj=>?_,?_,fun p hp=>?_⟩,ez,fun e=>?_,rfl,rfl,rfl,rfl⟩
 ·show (live.map (·.1)).toArray.size=_;rw [ez,<-hlen];simp
 ·show (live.map (·.1)).Pairwise (· < ·);rw [List.pairwise_map];show ((List.range (mask+1)).filterMap _).Pairwise _;rw [List.pairwise_filterMap];refine List.Pairwise.imp (fun {a b} hab x hx y hy=>?_) List.pairwise_lt_range
  cases q:owner.getD a none with
  | none=>rw [q] at hx;cases hx
  | some u =>
   rw [q] at hx;cases hx
   cases q':owner.getD b none with
   | none=>rw [q'] at hy;cases hy
   | some u'=>rw [q'] at hy;cases hy;exact hab
 ·obtain ⟨p,hp,e⟩:=yau.mp (show j∈live.map (·.1) from hj);have:=(yaT.mp ((hlive p).mp hp)).1;rw [L.size] at this;show j<=mask;omega
 ·show _*5<mask*3;rw [ez];exact hl
 ·have hp':p∈(live.map (·.1)).zip ((live.map (·.2)).filterMap (es[·]?)):=by rw [<-eT];exact hp
  obtain ⟨x,hx,e1,e2⟩:=z2 p hp';obtain ⟨h,hh,n,a,b⟩:=L.own x.1 x.2 ((hlive x).mp hx)
  have eh:h=p.2.1:=by
   have hh':(es.map (·.1))[x.2]?=some h:=by rw [<-yaS];exact hh
   rw [Array.getElem?_map,e2] at hh';exact (Option.some.inj hh').symm
  subst eh;refine ⟨n,by rw [e1];exact a,fun q hq=>?_⟩;obtain ⟨i,hi⟩:=b q hq;exact yau.mpr ⟨(pos mask p.2.1 q,i),(hlive _).mpr hi,rfl⟩
 ·rw [eT,z3];constructor
  ·rintro ⟨p,hp,e⟩;exact ya0.mpr (ybk e)
  ·intro he;obtain ⟨i,hi,e'⟩:=ybO.mp he
   have hi':i<es.size:=by simpa using hi
   obtain ⟨j,hj⟩:=L.all i (by simpa using hi');refine ⟨(j,i),(hlive _).mpr hj,?_⟩;rw [yaF hi'];simpa using e'
open PySem PySem.Spec PyProof.Rows
section
variable{prog:Program}{w:World}{A:Around}{E:Z5}{s:Shared}
noncomputable abbrev TK(prog:Program)(w:World)(h:Heap)(k:List Int)(a:Addr):Prop:=IsTupleKey (intKind prog w) h k a
noncomputable abbrev th(prog:Program)(w:World)(k:List Int):Int:=tupleKeyHash (intKind prog w) k
def TK.ints{h:Heap}{k:List Int}{a:Addr}(x:TK prog w h k a):∃o its n,h.get? a=some o/\o.cls=.type "tuple" /\ o.data=.seq its n/\∀v∈its.toList,∃i t,v=Value.int i t:=by
 obtain ⟨o,its,n,e,c,d,hi⟩:=x;refine ⟨o,its,n,e,c,d,?_⟩
 have:∀(k:List Int) (l:List Value),ItemsAre (intKind prog w) k l->∀v∈l,∃i t,v=Value.int i t:=by
  intro k l h
  induction h with
  | nil=>intro v hv;simp at hv
  | @cons k v ks vs h1 _ ih =>
   intro v' hv
   rcases yat.mp hv with rfl | hv
   ·obtain ⟨t,e⟩:=Value.isInt_shape (k:=k) (v:=v') h1;exact ⟨k,t,e⟩
   ·exact ih v' hv
 exact this _ _ hi
def zh7{M:Model}{h:Heap}{k:List Int}{a:Addr}{Q:Bool->Shared->Prop}(x:TK prog w s.heap k a)(hQ:Q false s):wpAny M A (ofAClassStatement 8 (.ref a)) Q E s:=by
 obtain ⟨o,its,n,e,c,d,hv⟩:=x.ints;unfold ofAClassStatement;refine yab (wpAny_typeOf (T:="tuple") ⟨o,e,c⟩ ?_);dsimp only;refine yab ?_;refine yal ?_;simp only [ycN,yaJ,ybI];refine yab (ybl e d ?_);dsimp only;refine yab ?_;rw [<-Array.forIn_toList];refine wpAny_forIn_list _ (fun za7 r s'=>r.1=none/\s'=s/\∀v∈za7,∃i t,v=Value.int i t) _ ?_ ?_ _ _ ⟨rfl,rfl,hv⟩
 ·rintro v za7 r s' ⟨hr,rfl,hall⟩;obtain ⟨i,t,rfl⟩:=hall v yar
  have e7:ofAClassStatement 7 (Value.int i t)=pure false:=by unfold ofAClassStatement;rfl
  rw [e7];refine yab (yal ?_);simp only [yaJ,ybI];exact yal ⟨rfl,rfl,fun u hu=>hall u (yak _ hu)⟩
 ·rintro ⟨r1,r2⟩ s' ⟨hr,rfl,_⟩;simp only at hr;subst hr;exact yal hQ
def zml{k:List Int}{a:Addr}{Q:Bool->Shared->Prop}(x:TK prog w s.heap k a):∀(l:List Value),(∀v∈l,∃b k',v=.ref b/\TK prog w s.heap k' b)->Q false s->wpAny (model prog w) A (searchCouldBeSeen (.ref a) l) Q E s:=by
 intro l hl hQ;unfold searchCouldBeSeen;refine yab ?_;refine wpAny_forIn_list _ (fun za7 r s'=>r.1=none/\s'=s/\∀v∈za7,∃b k',v=.ref b/\TK prog w s.heap k' b) _ ?_ ?_ _ _ ⟨rfl,rfl,hl⟩
 ·rintro v za7 r s' ⟨hr,rfl,hall⟩;obtain ⟨b,k',rfl,y⟩:=hall v yar;have tl:∀u∈za7,∃b k',u=.ref b/\TK prog w s'.heap k' b:=fun u hu=>hall u (yak _ hu)
  dsimp only;split
  ·exact yal ⟨rfl,rfl,tl⟩
  ·refine yab (wpAny_eqIsQuiet_tuple x ?_);simp only [ycN,yaJ,ybI];refine yab (wpAny_eqIsQuiet_tuple y ?_);simp only [ycN,yaJ,ybI];refine yab (zh7 (h:=s'.heap) x ?_);simp only [yaJ,ybI];refine yab (zh7 (h:=s'.heap) y ?_);simp only [yaJ,ybI];exact yal ⟨rfl,rfl,tl⟩
 ·rintro ⟨r1,r2⟩ s' ⟨hr,rfl,_⟩;simp only at hr;subst hr;exact yal hQ
def zmY{k:List Int}{a:Addr}{Q:Bool->Shared->Prop}(x:TK prog w s.heap k a)(hQ:Q true s):wpAny (model prog w) A (hashByValue 8 (.ref a)) Q E s:=by
 have hT:=x.typeIs;obtain ⟨o,its,n,e,c,d,hv⟩:=x.ints;unfold hashByValue;refine yab (wpAny_specialOf hT F.slot_tuple_hash.lookup ?_);dsimp only;refine yab (ybl e d ?_);dsimp only [Option.getD];refine yab ?_;rw [<-Array.forIn_toList];refine wpAny_forIn_list _ (fun za7 r s'=>r.1=none/\s'=s/\∀v∈za7,∃i t,v=Value.int i t) _ ?_ ?_ _ _ ⟨rfl,rfl,hv⟩
 ·rintro v za7 r s' ⟨hr,rfl,hall⟩;obtain ⟨i,t,rfl⟩:=hall v yar
  have e7:hashByValue 7 (Value.int i t)=pure true:=by unfold hashByValue;rfl
  rw [e7];refine yab (yal ?_);simp only [ycN,yaJ,ybI];exact yal ⟨rfl,rfl,fun u hu=>hall u (yak _ hu)⟩
 ·rintro ⟨r1,r2⟩ s' ⟨hr,rfl,_⟩;simp only at hr;subst hr;exact yal hQ
structure TSet(prog:Program)(w:World)(h:Heap)(a:Addr)(ks:Z2)(n:Nat):Prop where
 ex:∃o es ep t,h.get? a=some o/\o.ExactSet/\o.data=.set es ep t/\Tab t es/\es.size=n ∧
  (∀e∈es.toList,∃b k,e=(th prog w k,Value.ref b)/\TK prog w h k b)/\(∀k,k∈ks↔∃e∈es.toList,∃b,e.2=Value.ref b/\TK prog w h k b)
theorem Tab.fits{α:Type}{t:SetTable}{es:Array (Int×α)}(T:Tab t es):t.fits es.size=true:=by
 have h:=T.len;have r:=T.room;have d:=T.dum;unfold SetTable.fits SetTable.fill;rw [d];have:t.place.size+(#[]:Array Nat).size=t.place.size:=rfl;rw [this,h];simp only [ybr,Bool.true_and,yaV];omega
theorem Tab.first{α:Type}{t:SetTable}{es:Array (Int×α)}(T:Tab t es)(h:Int):∃M,M<10*SetTable.turns t.mask/\pos t.mask h M ∉ t.place.toList/\∀q,q<M->pos t.mask h q∈t.place.toList :=
 zi0 T.small h _ (ST.room (by have:=T.len;have:=T.room;rw [yaU];omega))
def zgf{t:SetTable}{es:Array (Int×Value)}(T:Tab t es){F:Nat->Int}{h:Int}{M m:Nat}{r:Option SetTable.Met}(heq:t.probe F h (st t.mask h m)=r)(hF:∀i e,es[i]?=some e->F i=e.1)
  (hM:pos t.mask h M ∉ t.place.toList) (hb:∀q,q<M->pos t.mask h q∈t.place.toList) (hl:M<10*SetTable.turns t.mask) (hm:m<=M) :
  (∃(q i:Nat) (e:Int×Value),m<=q/\q<M/\t.place.toList[i]?=some (pos t.mask h q)/\es[i]?=some e/\e.1=h/\(∀(q' i':Nat) (e':Int×Value),m<=q'->q'<q->t.place.toList[i']?=some (pos t.mask h q')->es[i']?=some e'->e'.1≠h)/\r=some (.candidate (pos t.mask h q) i (st t.mask h (q+1)))) ∨
   ((∀(q i:Nat) (e:Int×Value),m<=q->q<M->t.place.toList[i]?=some (pos t.mask h q)->es[i]?=some e->e.1≠h)/\r=some (.empty (pos t.mask h M) none)):=by
 have at':∀i j,t.place.toList[i]?=some j->∃e,es[i]?=some e:=fun i j e=>by
  have:=(yag.mp e).1;rw [yaU,T.len] at this;exact ⟨es[i],yaF this⟩
 rcases zl5 T.srt T.dum F h hM hb hl hm with ⟨q,i,a,b,c,d,e⟩ | ⟨d,e⟩
 ·obtain ⟨x,hx⟩:=at' i _ c.1;refine .inl ⟨q,i,x,a,b,c.1,hx,?_,fun q' i' e' h1 h2 h3 h4 h5=>d q' i' h1 h2 ⟨h3,by rw [hF i' e' h4];exact h5⟩,heq.symm.trans e⟩;rw [<-hF i x hx];exact c.2
 ·exact .inr ⟨fun q i x h1 h2 h3 h4 h5=>d q i h1 h2 ⟨h3,by rw [hF i x h4];exact h5⟩,heq.symm.trans e⟩
def ziO{t:SetTable}{es:Array (Int×Value)}(T:Tab t es){F:Nat->Int}{h:Int}{M m:Nat}(heq:∀met,t.probe F h (st t.mask h m)=some met->False)(hF:∀i e,es[i]?=some e->F i=e.1)
  (hM:pos t.mask h M ∉ t.place.toList) (hb:∀q,q<M->pos t.mask h q∈t.place.toList) (hl:M<10*SetTable.turns t.mask) (hm:m<=M):False:=by
 rcases zgf T rfl hF hM hb hl hm with ⟨_,_,_,_,_,_,_,_,_,e⟩ | ⟨_,e⟩
 ·exact heq _ e
 ·exact heq _ e
theorem znj{a:Addr}{o:Obj}{es:Array (Int×Value)}{ep:Nat}{t:SetTable}(ho:s.heap.get? a=some o)(hd:o.data=.set es ep t)(T:Tab t es)(hu:A.units<cLine)
  (hes:∀e∈es.toList,∃b k,e=(th prog w k,Value.ref b)/\TK prog w s.heap k b) {k:List Int} {x:Addr} (hx:TK prog w s.heap k x) {M:Nat} (hM:pos t.mask (th prog w k) M ∉ t.place.toList) (hb:∀q,q<M->pos t.mask (th prog w k) q∈t.place.toList) (hl:M<10*SetTable.turns t.mask)
  {Q:SetFound->Shared->Prop} :
  ∀(fuel m:Nat) (stand:Option SetTable.Probe),m<=M->M-m<fuel->stand.getD (t.probeStart (th prog w k))=st t.mask (th prog w k) m →
   ((∃(q i:Nat) (e:Int×Value) (b:Addr),m<=q/\q<M/\t.place.toList[i]?=some (pos t.mask (th prog w k) q)/\es[i]?=some e/\e.2=Value.ref b/\TK prog w s.heap k b)->Q (.there none) s) →
   ((∀(q i:Nat) (e:Int×Value) (b:Addr),m<=q->q<M->t.place.toList[i]?=some (pos t.mask (th prog w k) q)->es[i]?=some e->e.2=Value.ref b->¬ TK prog w s.heap k b)->Q (.free (pos t.mask (th prog w k) M) false) s) →
   wpAny (model prog w) A (setSearchFrom a (.ref x) (th prog w k) true fuel stand) Q E s
 | 0,m,stand,h1,h2,_,_,_=>by omega
 | fuel+1,m,stand,h1,h2,hst,hyes,hno=>by
  unfold setSearchFrom;refine yab (ybJ ho hd T.fits ?_);dsimp only
  have hgw:t.gaveWay=false:=by unfold SetTable.gaveWay;rcases T.small with z | z<;>rw [z]<;>rfl
  rw [hgw];simp only [yaJ,ybI];rw [hst];split
  ·rename_i met heq
   rcases zgf T heq (fun i e he=>by show ((es[i]?).map (·.1)).getD 0=e.1;rw [he];rfl) hM hb hl h1 with ⟨q,i,e,a1,a2,a3,a4,a5,a6,a7⟩ | ⟨a6,a7⟩
   ·cases a7;dsimp only;obtain ⟨b,k',rfl,hk'⟩:=hes e (ya0.mpr (ybk a4))
    have seen:∀{Q':Bool->Shared->Prop},Q' false s->wpAny (model prog w) A (searchCouldBeSeen (.ref x) ((es.filter (·.1 == th prog w k)).toList.map (·.2))) Q' E s:=fun {Q'} hq =>
     zml hx _ (fun v hv=>by
      obtain ⟨e',he',ev⟩:=yau.mp hv
      have he2:e'∈es.toList:=by
       have:=ya0.mp he';exact ya0.mpr (Array.mem_filter.mp this).1
      obtain ⟨b',k'',rfl,hk''⟩:=hes e' he2
      exact ⟨b',k'',ev.symm,hk''⟩) hq
    have za7:wpAny (model prog w) A (do
      let some (_,y):=es[i]? | unsupported "internal:set-entry"
      let equal ← holding [y] (eqBool y (.ref x))
      let (es',_,t') ← setState a
      if true&&equal then return SetFound.there none
      let some same:=t'.sameMemory t.moves t.mask | unsupported "set.changed-during-lookup:is-the-new-block-at-the-old-address"
      let still ← match (if same then t'.slot (pos t.mask (th prog w k) q) else .empty) with
       | .live i'=>match es'[i']? with
        | some (_,y')=>do pure (if ← isSame y' y then some i' else none)
        | none=>pure none
       | _=>pure none
      match still with
      | none=>rule "set.search.anew";setSearchFrom a (.ref x) (th prog w k) true fuel none
      | some i'=>if equal then return .there (some i') else setSearchFrom a (.ref x) (th prog w k) true fuel (some (st t.mask (th prog w k) (q+1)))) Q E s:=by
     rw [a4];dsimp only;refine yab (ybb (wpAny_eqBool_tuple hu hk' hx ?_));refine yab (ybJ ho hd T.fits ?_);dsimp only
     by_cases hkk:k'=k
     ·subst hkk;rw [yaC rfl];simp only [ycO,yck];exact yal (hyes ⟨q,i,_,b,a1,a2,a3,a4,rfl,hk'⟩)
     ·rw [yaQ hkk];simp only [Bool.and_false,yaJ,ybI]
      have hsm:t.sameMemory t.moves t.mask=some true:=by unfold SetTable.sameMemory;simp
      rw [hsm];dsimp only;simp only [yck];rw [zcC T.srt a3];dsimp only;rw [a4];dsimp only;refine yab (wpAny_isSame_ref_self ?_);refine yab (yal ?_);simp only [yck];refine znj ho hd T hu hes hx hM hb hl fuel (q+1) _ (by omega) (by omega) rfl (fun ⟨q',i',e',b',z1,z2,z3⟩=>hyes ⟨q',i',e',b',by omega,z2,z3⟩) fun hn=>hno fun q' i' e' b' z1 z2 z3 z4 z5 z6=>?_
      by_cases hq:q'<=q
      ·by_cases hqe:q'=q
       ·subst hqe
        have ei:i'=i:=by
         have u1:=zcC T.srt z3;rw [zcC T.srt a3] at u1;cases u1;rfl
        subst ei;rw [a4] at z4;cases z4
        have eb:b=b':=by injection z5
        subst eb;exact hkk (hk'.inj z6)
       ·have:=a6 q' i' e' z1 (by omega) z3 z4;obtain ⟨b2,k2,rfl,hk2⟩:=hes e' (ya0.mpr (ybk z4))
        have eb:b2=b':=by injection z5
        subst eb;rw [hk2.inj z6] at this;exact this rfl
      ·exact hn q' i' e' b' (by omega) z2 z3 z4 z5 z6
    split
    ·refine yab (seen ?_);simp only [yaJ,ybI];exact za7
    ·exact za7
   ·cases a7;dsimp only;refine yal (hno fun q i e b z1 z2 z3 z4 z5 z6=>?_);have:=a6 q i e z1 z2 z3 z4;obtain ⟨b2,k2,rfl,hk2⟩:=hes e (ya0.mpr (ybk z4))
    have eb:b2=b:=by injection z5
    subst eb;rw [hk2.inj z6] at this;exact this rfl
  ·rename_i heq;exact (ziO T heq (fun i e he=>by show ((es[i]?).map (·.1)).getD 0=e.1;rw [he];rfl) hM hb hl h1).elim
end
section
variable{prog:Program}{w:World}{A:Around}{E:Z5}{s:Shared}
def TK.but{h h':Heap}{k:List Int}{b a:Addr}{o:Obj}{es ep t}(x:TK prog w h k b)(ho:h.get? a=some o)(hd:o.data=.set es ep t)(sb:Heap.SameBut a h h'):TK prog w h' k b:=by
 obtain ⟨o',items,n,ho',hc,hd',hi⟩:=x
 have hne:b≠a:=by
  rintro rfl;rw [ho] at ho';cases ho';rw [hd] at hd';cases hd'
 exact ⟨o',items,n,(sb.2 b hne).trans ho',hc,hd',hi⟩
def putS{h:Heap}{o:Obj}(ho:h.get? a=some o)(hx:o.ExactSet)(hd:o.data=.set es ep t) :
  ∃o',(h.update a (Obj.putSet es' t')).get? a=some o'/\o'.ExactSet/\o'.data=.set es' (ep+1) t':=by
 refine ⟨{ o with data:=.set es' (ep+1) t' },?_,hx,rfl⟩;rw [ycg _ ho (by rw [putSet_of es' t' hd];rfl),putSet_of es' t' hd]
def ziR{mask:Nat}(h:zfP mask):10*SetTable.turns mask<=460:=by rcases h with z | z<;>rw [z]<;>decide
theorem zoG{a:Addr}{ks:Z2}{n:Nat}{k:List Int}{x:Addr}{Q:Bool->Shared->Prop}(S:TSet prog w s.heap a ks n)(hx:TK prog w s.heap k x)(hu:A.units<cLine)(hn:n<=17)
  (h:∀h' c,Heap.SameBut a s.heap h'->TSet prog w h' a (ks++[k]) (if k∈ks then n else n+1)->Q c { s with heap:=h',toks:=s.toks+(k.length+1) }):wpAny (model prog w) A (setAdd a (.ref x)) Q E s:=by
 unfold setAdd;refine ybb (yab (wpAny_pyHash_tuple hu hx ?_));obtain ⟨o,es,ep,t,ho,hex,hd,T,hsz,hes,hmem⟩:=S.ex;obtain ⟨M,hlt,hM,hb⟩:=T.first (th prog w k);unfold setAddHashed;refine ybb ?_;unfold setAddHashedIn;refine yab (ybJ (s:={ s with toks:=s.toks+(k.length+1) }) ho hd T.fits ?_);dsimp only
 have hbs:byScan (.ref x) es=false:=by unfold byScan;rfl
 rw [hbs];simp only [yaJ,ybI];refine yab ?_;unfold setSearch;have hm:=ziR T.small
 have path:k∈ks->∃(q i:Nat) (e:Int×Value) (b:Addr),0<=q/\q<M/\t.place.toList[i]?=some (pos t.mask (th prog w k) q)/\es[i]?=some e/\e.2=Value.ref b/\TK prog w s.heap k b:=fun hk=>by
  obtain ⟨e,he,b,eb,hkb⟩:=(hmem k).mp hk;obtain ⟨i,hi,ei⟩:=ybO.mp he
  have hi':i<es.size:=by simpa using hi
  have ee:es[i]?=some e:=by rw [yaF hi'];simpa using ei
  have hi2:i<t.place.toList.length:=by rw [yaU,T.len];exact hi'
  have ep':t.place.toList[i]?=some t.place.toList[i]:=yac hi2
  have hz:(t.place.toList[i],e)∈t.place.toList.zip es.toList:=by
   have hlen:(t.place.toList.zip es.toList).length=t.place.toList.length:=by rw [List.length_zip,yaU,yaU,T.len];omega
   refine ybO.mpr ⟨i,by rw [hlen];exact hi2,?_⟩;rw [List.getElem_zip,ei]
  obtain ⟨nn,p1,p2⟩:=T.path _ hz;obtain ⟨b',k',e',hk'⟩:=hes e he
  have eh:e.1=th prog w k:=by
   rw [e'] at eb ⊢
   have:b'=b:=by injection eb
   subst this;rw [hk'.inj hkb]
  rw [eh] at p1 p2
  have hlt2:nn<M:=by
   refine Nat.not_le.mp fun hle=>?_
   rcases ycB hle with z | z
   ·exact hM (p2 M z)
   ·subst z;rw [p1] at hM;exact hM (ycl _)
  exact ⟨nn,i,e,b,yaD _,hlt2,by rw [p1];exact ep',ee,eb,hkb⟩
 refine znj (s:={ s with toks:=s.toks+(k.length+1) }) ho hd T hu hes hx hM hb hlt 100000 0 none (yaD _) (by omega) (zlG ..) (fun hy=>?_) (fun hno=>?_)
 ·dsimp only;obtain ⟨q,i,e,b,_,_,_,ee,eb,hkb⟩:=hy;have hk:k∈ks:=(hmem k).mpr ⟨e,ya0.mpr (ybk ee),b,eb,hkb⟩;refine yal (h s.heap _ (Heap.SameBut.refl _ _) ?_);rw [if_pos hk];refine ⟨o,es,ep,t,ho,hex,hd,T,hsz,hes,fun k'=>?_⟩;rw [ya3,yaN,<-hmem k'];exact ⟨fun z=>z.elim id fun z=>z ▸ hk,.inl⟩
 ·dsimp only
  have hk:¬ k∈ks:=fun hk=>by
   obtain ⟨q,i,e,b,z1,z2,z3,z4,z5,z6⟩:=path hk;exact hno q i e b z1 z2 z3 z4 z5 z6
  refine yab (ybJ (s:={ s with toks:=s.toks+(k.length+1) }) ho hd T.fits ?_);dsimp only;rw [zrm T.dum];dsimp only
  have fin:∀pl:Bool,wpAny (model prog w) A (do
    storeSet a (SetTable.insertAt es (SetTable.below t.place (pos t.mask (th prog w k) M)) (th prog w k,Value.ref x)) { t with place:=SetTable.insertAt t.place (SetTable.below t.place (pos t.mask (th prog w k) M)) (pos t.mask (th prog w k) M),plain:=pl }
    if (!false&&SetTable.tooFull { t with place:=SetTable.insertAt t.place (SetTable.below t.place (pos t.mask (th prog w k) M)) (pos t.mask (th prog w k) M),plain:=pl })=true then setRelay a (SetTable.grown (es.size+1))
    return true) Q E { s with toks:=s.toks+(k.length+1) }:=by
   intro pl;obtain ⟨q1,q2,q3,q4,q5,q6⟩:=T.put (h:=th prog w k) (x:=Value.ref x) hM hb (pl:=pl);generalize ht':({ t with place:=SetTable.insertAt t.place (SetTable.below t.place (pos t.mask (th prog w k) M)) (pos t.mask (th prog w k) M),plain:=pl }:SetTable)=t' at q1 q2 q3 q4 ⊢;generalize he':SetTable.insertAt es (SetTable.below t.place (pos t.mask (th prog w k) M)) (th prog w k,Value.ref x)=es' at q1 q4 q5 q6 ⊢
   have hmask:t'.mask=t.mask:=by rw [<-ht']
   have hdum:t'.dummies=#[]:=by rw [<-ht'];exact T.dum
   have hsz':es'.size<=sizeLine:=by rw [q6,hsz];exact yax (ybS hn) (by decide)
   refine yab (wpAny_storeSet_of (s:={ s with toks:=s.toks+(k.length+1) }) ho hd ?_ hsz');obtain ⟨o1,g1,x1,d1⟩:=putS (es':=es') (t':=t') ho hex hd;have sb1:Heap.SameBut a s.heap (s.heap.update a (Obj.putSet es' t')):=Heap.SameBut.update ..
   have elems:∀{h2:Heap},Heap.SameBut a s.heap h2->∀(es2:Array (Int×Value)),(∀e,e∈es2.toList↔e∈es'.toList) →
     (∀e∈es2.toList,∃b k,e=(th prog w k,Value.ref b)/\TK prog w h2 k b)/\∀k',k'∈ks++[k]↔∃e∈es2.toList,∃b,e.2=Value.ref b/\TK prog w h2 k' b:=fun {h2} sb es2 hm2=>by
    have back:∀{k' b},TK prog w h2 k' b->(∃k'',TK prog w s.heap k'' b)->TK prog w s.heap k' b:=fun {k' b} z ⟨k'',z'⟩=>by
     have:=(z'.but ho hd sb).inj z;rw [<-this];exact z'
    refine ⟨fun e he=>?_,fun k'=>?_⟩
    ·rcases (q5 e).mp ((hm2 e).mp he) with rfl | he
     ·exact ⟨x,k,rfl,hx.but ho hd sb⟩
     ·obtain ⟨b,k',e2,z⟩:=hes e he;exact ⟨b,k',e2,z.but ho hd sb⟩
    ·rw [ya3,yaN];constructor
     ·rintro (z | rfl)
      ·obtain ⟨e,he,b,eb,zk⟩:=(hmem k').mp z;exact ⟨e,(hm2 e).mpr ((q5 e).mpr (.inr he)),b,eb,zk.but ho hd sb⟩
      ·exact ⟨_,(hm2 _).mpr ((q5 _).mpr (.inl rfl)),x,rfl,hx.but ho hd sb⟩
     ·rintro ⟨e,he,b,eb,zk⟩
      rcases (q5 e).mp ((hm2 e).mp he) with rfl | he
      ·have:x=b:=by injection eb
       subst this;exact .inr ((hx.but ho hd sb).inj zk).symm
      ·obtain ⟨b2,k2,e2,z2⟩:=hes e he
       have:b2=b:=by rw [e2] at eb;injection eb
       subst this;exact .inl ((hmem k').mpr ⟨e,he,b2,eb,back zk ⟨k2,z2⟩⟩)
   by_cases hfull:(!false&&t'.tooFull)=true
   ·rw [if_pos hfull];have hr:=T.room
    have hfill:t'.fill=es.size+1:=by unfold SetTable.fill;rw [hdum];show t'.place.size+0=_;rw [q1,q6]
    have hm7:t.mask=7/\es.size+1=5:=by
     have hf:(es.size+1)*5 ≥ t.mask*3:=by
      have:t'.tooFull=true:=by simpa using hfull
      unfold SetTable.tooFull at this;rw [hfill,hmask] at this;simpa using this
     rcases T.small with z | z
     ·rw [z] at hf hr;exact ⟨z,by omega⟩
     ·rw [z] at hf hr;omega
    unfold setRelay
    have F1:t'.fits es'.size=true:=by
     unfold SetTable.fits;rw [hfill,q1,q6,hmask,hm7.1];have:=hm7.2;simp only [ybr,Bool.true_and,yaV];omega
    refine yab (yab (ybJ (s:={ s with heap:=s.heap.update a (Obj.putSet es' t'),toks:=s.toks+(k.length+1) }) g1 d1 F1 ?_));dsimp only;rw [hm7.2];rw [if_neg (by decide)];obtain ⟨t2,order,l1,l2,l3,l4,l5,l6,l7,l8⟩:=zpt (mask:=31) (.inr rfl) es' (by rw [q6,hm7.2];decide) t'.finger (t'.movedTo 31) t'.led t'.plain
    have er:t'.relaid (es'.map (·.1)) (SetTable.grown 5)=some (t2,order):=by
     unfold SetTable.relaid
     have:SetTable.sizeAbove (SetTable.grown 5)-1=31:=by decide
     rw [this];exact l1
    rw [er];refine yab ?_;show wpAny _ _ (if ((order.filterMap (es'[·]?)).size != es'.size)=true then _ else _) _ _ _;rw [if_neg (by rw [l3];simp)];refine yal ?_;refine wpAny_storeSet_of (s:={ s with heap:=s.heap.update a (Obj.putSet es' t'),toks:=s.toks+(k.length+1) }) g1 d1 ?_ (by rw [l3];exact hsz');obtain ⟨o2,g2,x2,d2⟩:=putS (es':=order.filterMap (es'[·]?)) (t':=t2) g1 x1 d1;have sb2:Heap.SameBut a s.heap ((s.heap.update a (Obj.putSet es' t')).update a (Obj.putSet (order.filterMap (es'[·]?)) t2)):=sb1.trans (Heap.SameBut.update ..);obtain ⟨w1,w2⟩:=elems sb2 _ l4;refine yal (h _ true sb2 ?_);rw [if_neg hk];exact ⟨o2,_,_,t2,g2,x2,d2,l2,by rw [l3,q6,hsz],w1,w2⟩
   ·rw [if_neg hfull];refine yab (yal (yal ?_));obtain ⟨w1,w2⟩:=elems sb1 es' fun _=>Iff.rfl
    have hroom:es'.size*5<t'.mask*3:=by
     have:t'.tooFull=false:=by cases q:t'.tooFull with
      | false=>rfl
      | true=>rw [q] at hfull;exact absurd rfl hfull
     unfold SetTable.tooFull SetTable.fill at this;rw [hdum] at this;have e0:t'.place.size+(#[]:Array Nat).size=es'.size:=q1;rw [e0] at this;simpa using this
    refine h _ true sb1 ?_;rw [if_neg hk];exact ⟨o1,es',_,t',g1,x1,d1,⟨by rw [hmask];exact T.small,hdum,q1,q2,q3,hroom,q4⟩,by rw [q6,hsz],w1,w2⟩
  have et:∀pl,({ ({ t with place:=SetTable.insertAt t.place (SetTable.below t.place (pos t.mask (th prog w k) M)) (pos t.mask (th prog w k) M) }:SetTable) with plain:=pl }:SetTable)={ t with place:=SetTable.insertAt t.place (SetTable.below t.place (pos t.mask (th prog w k) M)) (pos t.mask (th prog w k) M),plain:=pl }:=fun _=>rfl
  cases hpl:t.plain with
  | true =>
   simp only [yck];refine yab (zmY (s:={ s with toks:=s.toks+(k.length+1) }) hx ?_);simp only [yck];exact fin true
  | false =>
   simp only [yaJ,ybI];refine yab (yal ?_);simp only [yck];exact fin false
end
noncomputable def Cnt(ks:Z2)(c:Nat):Prop:=c<=ks.length/\(c=ks.length↔ks.Nodup)
def zlb:Cnt [] 0:=⟨yai _,fun _=>List.nodup_nil,fun _=>rfl⟩
theorem zis{ks:Z2}{c:Nat}(h:Cnt ks c)(k:List Int):Cnt (ks++[k]) (if k∈ks then c else c+1):=by
 have nd:(ks++[k]).Nodup↔ks.Nodup/\¬ k∈ks:=by
  rw [ybK];constructor
  ·rintro ⟨h1,_,h2⟩;exact ⟨h1,fun hk=>h2 k hk k (by simp) rfl⟩
  ·rintro ⟨h1,h2⟩
   exact ⟨h1,by simp,fun a ha b hb e=>by
    have:b=k:=by simpa using hb
    subst this;subst e;exact h2 ha⟩
 have hl:(ks++[k]).length=ks.length+1:=by simp
 unfold Cnt;rw [nd,hl]
 by_cases hk:k∈ks
 ·rw [if_pos hk];exact ⟨by have:=h.1;omega,fun e=>by have:=h.1;omega,fun z=>absurd hk z.2⟩
 ·rw [if_neg hk];exact ⟨by have:=h.1;omega,fun e=>⟨h.2.mp (by omega),hk⟩,fun z=>by rw [h.2.mpr z.1]⟩
noncomputable def ddF(p:List (List Int)×Nat)(k:List Int):List (List Int)×Nat:=(p.1++[k],if k∈p.1 then p.2 else p.2+1)
def ddN(ks:Z2):Nat:=(ks.foldl ddF ([],0)).2
theorem znU:∀(ks acc:Z2) (n:Nat),(ks.foldl ddF (acc,n)).1=acc++ks
 | [],acc,n=>by simp
 | k::ks,acc,n=>by
  rw [ybn];show (ks.foldl ddF (acc++[k],if k∈acc then n else n+1)).1=_;rw [znU ks];simp
def zk4{ks:Z2}{k:List Int}:ddN (ks++[k])=if k∈ks then ddN ks else ddN ks+1:=by
 unfold ddN;rw [ycJ,ybn,List.foldl_nil];show (if k∈(ks.foldl ddF ([],0)).1 then _ else _)=_;rw [znU];simp
noncomputable def zqi(ks:Z2)(c:Nat):Prop:=Cnt ks c/\c=ddN ks
def zmV:zqi [] 0:=⟨zlb,rfl⟩
def zlc{ks:Z2}{c:Nat}(h:zqi ks c)(k:List Int):zqi (ks++[k]) (if k∈ks then c else c+1):=⟨zis h.1 k,by rw [zk4,h.2]⟩
def zsy(ks:Z2):Cnt ks (ddN ks):=by
 have go:∀(ks acc:Z2) (n:Nat),Cnt acc n->Cnt (acc++ks) (ks.foldl ddF (acc,n)).2:=by
  intro ks
  induction ks with
  | nil=>intro acc n h;simpa using h
  | cons k ks ih =>
   intro acc n h;have:=ih (acc++[k]) _ (zis h k);rwa [ycc] at this
 have:=go ks [] 0 zlb;rwa [List.nil_append] at this
section
variable{prog:Program}{w:World}{A:Around}{R:Result->Shared->Prop}{s:Shared}
def TK.ne{h:Heap}{k:List Int}{b a:Addr}{o:Obj}{vs:Array Value}(x:TK prog w h k b)(ho:h.get? a=some o)(hd:o.data=.fields vs):b≠a:=by
 obtain ⟨o',items,n,ho',hc,hd',hi⟩:=x;rintro rfl;rw [ho] at ho';cases ho';rw [hd] at hd';cases hd'
def TK.keep{h h':Heap}{k:List Int}{b:Addr}(x:TK prog w h k b)(e:∀o,h.get? b=some o->h'.get? b=some o):TK prog w h' k b:=by
 obtain ⟨o',items,n,ho',r⟩:=x;exact ⟨o',items,n,e _ ho',r⟩
theorem TSet.keep{h h':Heap}{a it:Addr}{o:Obj}{vs:Array Value}{ks:Z2}{n:Nat}(x:TSet prog w h a ks n)(ho:h.get? it=some o)(hd:o.data=.fields vs)(e:∀b o,b≠it->h.get? b=some o->h'.get? b=some o):TSet prog w h' a ks n/\a≠it:=by
 obtain ⟨o',es,ep,t,e1,e2,e3,e4,e5,e6,e7⟩:=x.ex
 have hne:a≠it:=by
  rintro rfl;rw [ho] at e1;cases e1;rw [hd] at e3;cases e3
 have up:∀{k b},TK prog w h k b->TK prog w h' k b:=fun {k b} z=>z.keep fun o q=>e b o (z.ne ho hd) q
 refine ⟨⟨o',es,ep,t,e a o' hne e1,e2,e3,e4,e5,fun x hx=>?_,fun k=>?_⟩,hne⟩
 ·obtain ⟨b,k,q1,q2⟩:=e6 x hx;exact ⟨b,k,q1,up q2⟩
 ·rw [e7 k];constructor
  ·rintro ⟨x,hx,b,q1,q2⟩;exact ⟨x,hx,b,q1,up q2⟩
  ·rintro ⟨x,hx,b,q1,q2⟩;obtain ⟨b',k',q3,q4⟩:=e6 x hx
   have:b'=b:=by rw [q3] at q1;injection q1
   subst this;have:=(up q4).inj q2;rw [<-this];exact ⟨x,hx,b',q1,q4⟩
def zfX:entryFor table "set.update.loop" = some Builtin.«set.update.loop»:=PyProof.Rows.F.entry_set_update_loop
def zd6:plainId "set.update.loop" = true:=PyProof.Rows.F.plain_set_update_loop
theorem zlC{S I ax:Addr}{its:Array Value}{keys:Z2}(hh:A.in1.handled=none)(hu:A.in1.units<cLine)(hlen:its.size=keys.length)(h17:keys.length<=18)(hSax:S≠ax)(hIax:ax≠I) :
  ∀(k i:Nat) (s:Shared) (c:Nat),keys.length-i=k->i<=keys.length->s.heap.IsTupleIter I ax i->s.heap.IsTuple ax its->(∀(j:Nat) (v:Value),its[j]?=some v->∃b,v=.ref b/\TK prog w s.heap (keys.getD j []) b) →
   TSet prog w s.heap S (keys.take i) c->zqi (keys.take i) c →
   (∀h' tk c',(∀b o,b≠S->b≠I->s.heap.get? b=some o->h'.get? b=some o)->TSet prog w h' S keys c'->zqi keys c'->R (.ok (.ret .none)) { s with heap:=h',toks:=tk }) →
   codeAny (model prog w) A (.builtin "set.update.loop" ⟨[.ref S,.ref I],[]⟩) R s:=by
 intro k
 induction k with
 | zero =>
  intro i s c hk hi it tp tks ts cn hR
  have e:i=keys.length:=by omega
  refine ybE zfX ?_;rw [ybP zd6 _];show wpAny _ A.in1 (pyNext (.ref I) >>= _) _ _ s;refine yab (wpAny_pyNext_tuple_end hh it tp (Array.getElem?_eq_none (by rw [hlen,e];exact yai _)) fun h' eb=>?_);obtain ⟨o,e1,e2,e3⟩:=id it;rw [e,List.take_length] at ts cn;show wpAny _ A.in1 (ret Value.none) _ _ _;exact yal (hR h' s.toks c (fun b o _ hb q=>eb b o hb q) (ts.keep e1 e3 fun b o hb q=>eb b o hb q).1 cn)
 | succ k ih =>
  intro i s c hk hi it tp tks ts cn hR
  have hlt:i<keys.length:=by omega
  have hlt':i<its.size:=by omega
  refine ybE zfX ?_;rw [ybP zd6 _];show wpAny _ A.in1 (pyNext (.ref I) >>= _) _ _ s;refine yab (wpAny_pyNext_tuple_item it tp (x:=its[i]) (yaF hlt') fun h1 it1 sb1=>?_);obtain ⟨o,e1,e2,e3⟩:=id it;obtain ⟨ts1,hSI⟩:=ts.keep (h':=h1) e1 e3 fun b o hb q=>(sb1.2 b hb).trans q
  obtain ⟨b,eb,tk0⟩:=tks i its[i] (yaF hlt');have tk1:∀{k' b'},TK prog w s.heap k' b'->TK prog w h1 k' b':=fun {k' b'} z=>z.keep fun o q=>(sb1.2 b' (z.ne e1 e3)).trans q
  rw [eb];show wpAny _ A.in1 (holding [Value.ref b] (setAdd S (.ref b)) >>= _) _ _ _
  have hc:c<=17:=by have:=cn.1.1;rw [List.length_take] at this;omega
  refine yab (ybb (zoG (s:={ s with heap:=h1 }) ts1 (tk1 tk0) hu hc fun h2 r sb2 ts2=>?_))
  have ek:keys.take i++[keys.getD i []]=keys.take (i+1):=by
   rw [List.take_add_one,yac hlt]
   have:keys.getD i []=keys[i]:=by simp [List.getD,hlt]
   rw [this];rfl
  rw [ek] at ts2;obtain ⟨oS,esS,epS,tS,f1,f2,f3,_⟩:=ts1.ex;have tk2:∀{k' b'},TK prog w s.heap k' b'->TK prog w h2 k' b':=fun {k' b'} z=>(tk1 z).but f1 f3 sb2
  refine yal ⟨plainId_quiet zd6 _,?_⟩;refine ih (i+1) _ _ (by omega) hlt (it1.at fun o q=>(sb2.2 I (Ne.symm hSI)).trans q) ?_ (fun j v hv=>?_) ts2 (by rw [<-ek];exact zlc cn _) fun h' tk c' kp ts' cn'=>?_
  ·exact (tp.at fun o q=>(sb1.2 ax hIax).trans q).at fun o q=>(sb2.2 ax (Ne.symm hSax)).trans q
  ·obtain ⟨b',eb',z⟩:=tks j v hv;exact ⟨b',eb',tk2 z⟩
  ·exact hR h' tk c' (fun b' o hb1 hb2 q=>kp b' o hb1 hb2 ((sb2.2 b' hb1).trans ((sb1.2 b' hb2).trans q))) ts' cn'
end
end ST
namespace PySem
def F.sub_tup_set:isSubtype (.type "tuple") (.type "set")=pure false:=by rw [isSubtype_type];kernel_rfl
def F.sub_tup_frozenset:isSubtype (.type "tuple") (.type "frozenset")=pure false:=by rw [isSubtype_type];kernel_rfl
section
variable{prog:Program}{w:World}{A:Around}{E:Z5}{s:Shared}
def zm6(led:Bool)(h:Heap)(a:Addr)(e:h.get? a=some { cls:=.type "set",dict:=none,data:=.set #[] 0 (.fresh 0 0 led) }):ST.TSet prog w h a [] 0:=by
 refine ⟨_,#[],0,.fresh 0 0 led,e,⟨rfl,rfl,rfl⟩,rfl,⟨.inl rfl,rfl,rfl,?_,?_,(by show 0*5<7*3;decide),?_⟩,rfl,fun x hx=>by simp at hx,fun k=>?_⟩
 ·exact List.Pairwise.nil
 ·intro j hj;exact absurd hj (by simp [SetTable.fresh])
 ·intro p hp;exact absurd hp (by simp [SetTable.fresh])
 ·simp
theorem zeD{l:Addr}{its:Array Value}{keys:Z2}{Q:Z5}(hh:A.handled=none)(hu:A.units+8<cLine)(tp:s.heap.IsTuple l its)(hlen:its.size=keys.length)(h18:keys.length<=18)
  (tks:∀(j:Nat) (v:Value),its[j]?=some v->∃b,v=.ref b/\ST.TK prog w s.heap (keys.getD j []) b)
  (h:∀h' tk c,(∀b o,s.heap.get? b=some o->h'.get? b=some o)->ST.TSet prog w h' s.heap.objs.size keys c->ST.zqi keys c->Q (.ref s.heap.objs.size) { s with heap:=h',toks:=tk }) :
  wpAny (model prog w) A (call (.type "set") [.ref l]) Q E s:=by
 obtain ⟨cc,tl,hmro⟩:=ybF.mro;have hmade:=ybF.made;have hsub:=ybF.sub;have h1:=ybF.notType;have h2:=ybF.canCreate;have hct:=F.typeCall_set_1 (.ref l);refine ycG (codeAny_of_tree ?_);show wpAny _ _ (callAny (.type "set") _) _ _ _;refine yal ⟨Code.quiet_builtin _ (by decide +kernel),ybE F.entry_type_call ?_⟩;rw [Around.under_plain (weight_type_call_type "set" [.ref l] []) rfl]
 repeat (any_goals (first | assumption | wp_step))
 refine ybo (code_set_new_1 (.ref l) (E:=E) (Q₁:=fun obj s1=>∃led:Bool,obj=.ref s.heap.objs.size/\s1={ s with heap:=s.heap.push { cls:=.type "set",dict:=none,data:=.set #[] 0 (.fresh 0 0 led) } }) fun led=>⟨led,rfl,rfl⟩) ?_;intro r s1 hr
 match r,hr with
 | .error e,hr=>exact hr
 | .ok .next,hr=>exact hr.elim
 | .ok .brk,hr=>exact hr.elim
 | .ok .cont,hr=>exact hr.elim
 | .ok (.ret obj),hr =>
  obtain ⟨led,rfl,rfl⟩:=hr;generalize hG:s.heap.push { cls:=.type "set",dict:=none,data:=.set #[] 0 (.fresh 0 0 led) }=G;have hS:G.get? s.heap.objs.size=some { cls:=.type "set",dict:=none,data:=.set #[] 0 (.fresh 0 0 led) }:=hG ▸ yap _ rfl;have upG:∀b o,s.heap.get? b=some o->G.get? b=some o:=fun b o e=>hG ▸ yae _ e
  have hGz:G.objs.size=s.heap.objs.size+1:=by rw [<-hG,ya1]
  have hT:Shared.TypeIs { s with heap:=G } (.ref s.heap.objs.size) "set":=⟨_,hS,rfl⟩;have hli:=ybF.init.lookup;have hbi:=ybF.init.bind (.ref s.heap.objs.size)
  repeat (any_goals (first | assumption | wp_step))
  refine ybo (ycp (R:=wants (fun r s2=>r=.none/\∃h' tk c,s2={ s with heap:=h',toks:=tk }/\(∀b o,s.heap.get? b=some o->h'.get? b=some o)/\ST.TSet prog w h' s.heap.objs.size keys c/\ST.zqi keys c) E) ybF.init.plain F.entry_set_init (check_set_init_1 hT ?_)) ?_
  ·obtain ⟨ol,hol,hcl,nl,hdl⟩:=tp;have hol':G.get? l=some ol:=upG l ol hol;obtain ⟨ocls,odict,odata,oslots⟩:=ol;simp only at hcl hdl;subst hcl;subst hdl;have hsls:=F.sub_tup_set;have hslf:=F.sub_tup_frozenset
   have hne:(Value.type "tuple" == Value.type "dict")=false:=by decide
   have tp1:G.IsTuple l its:=⟨_,hol',rfl,nl,rfl⟩;unfold Builtin.«set.__init__» noKeywords Builtin.Frozenset.updateFrom;generalize hPI:pyIter=PI
   wp_walk
   subst hPI;refine ybZ tp1 ?_;refine yab (wpAny_runValue ?_);have hlS:l<s.heap.objs.size:=yaj hol;have upI:∀b o,G.get? b=some o->(G.push { cls:=.type "tuple_iterator",data:=.fields #[.ref l,.int 0 0] }).get? b=some o:=fun b o e=>yae _ e
   refine ST.zlC (its:=its) (keys:=keys) (ax:=l) (by simp [hh]) ?_ hlen h18 (yaR hlS) (by rw [hGz];exact yav (yca hlS)) keys.length 0 _ 0 (by omega) (yaD _) ⟨_,yap _ rfl,rfl,rfl⟩ (tp1.at fun o e=>upI l o e) (fun j v hv=>?_) ?_ ?_ ?_
   ·show A.in1.in1.in1.units<cLine;have:A.in1.in1.in1.units=A.units+3:=rfl;omega
   ·obtain ⟨b,eb,z⟩:=tks j v hv;exact ⟨b,eb,z.keep fun o e=>upI b o (upG b o e)⟩
   ·rw [List.take_zero];exact zm6 led _ _ (upI _ _ hS)
   ·rw [List.take_zero];exact ST.zmV
   ·intro h' tk c kp ts cn;refine yal ?_;show wpAny _ _ (ret Value.none) _ _ _;refine yal ⟨rfl,h',tk,c,rfl,fun b o e=>kp b o (yav (yaj e)) ?_ (upI b o (upG b o e)),ts,cn⟩;rw [hGz];exact yav (yca (yaj e))
  ·intro r2 s2 hr2
   match r2,hr2 with
   | .error e,hr2=>exact hr2
   | .ok .next,hr2=>exact hr2.elim
   | .ok .brk,hr2=>exact hr2.elim
   | .ok .cont,hr2=>exact hr2.elim
   | .ok (.ret v),hr2 =>
    obtain ⟨rfl,h',tk,c,rfl,kp,ts,cn⟩:=hr2
    repeat (any_goals (first | assumption | wp_step))
    exact h h' tk c kp ts cn
end
end PySem
namespace L2
open PySem PySem.Spec PyProof.Rows
section
variable{X:Cx}{a b c:Expr}{ta tb tc:TE}{pos:Pos}
def zhv:zdt X (.builtin "isinstance") (fun xs H Q=>∃x t c k,xs=[x,.ty c]/\TyOf X.K H x t/\PySem.W.kitOne X.K t (.type c)=some k/\Q (.bl k) H):=by
 intro pins s σ H xs us Q I r h;obtain ⟨x,t,c,k,rfl,ty,e,q⟩:=h
 cases r with
 | cons r1 rr =>
  cases rr with
  | cons r2 r3 =>
   cases r3;cases (show _=Value.type c from r2);exact zkD I r1 ty e fun tk=>⟨.bl k,H,I.tok tk,rfl,q⟩
def zfn(bs:List Bool):((List.range bs.length).all fun i=>(bs[i]?).getD true)=bs.all id:=by
 rw [Bool.eq_iff_iff,ybs,ybs];constructor
 ·intro h b hb;obtain ⟨i,hi,e⟩:=ybO.mp hb;have:=h i (ybu.mpr hi);rwa [yac hi,e] at this
 ·intro h i hi;have hi':=ybu.mp hi;rw [yac hi'];exact h _ (ycl hi')
def zhw(hc:X.calm=true):zdt X (.builtin "all") (fun xs H Q=>∃(p:Addr) (bs:List Bool),xs=[.ref p]/\SqL X.K H p (bs.map V.bl)/\Q (.bl (bs.all id)) H):=by
 intro pins s σ H xs us Q I r h;obtain ⟨p,bs,rfl,hq,q⟩:=h;obtain ⟨u,rfl,rx⟩:=zfW r;cases rx;obtain ⟨its,rv,pl,hz⟩:=I.list hq;have hl:=pl.isList
 have hlt:p<s.heap.objs.size:=by obtain ⟨_,e,_⟩:=hl;exact yaj e
 have hn:its.length=bs.length:=by have:=rv.length;rw [yad] at this;exact this.symm
 refine call_all_walk (ycC hl ?_);refine ⟨s.heap.objs.size,[s.heap.objs.size,p],[s.heap.objs.size],its.toArray.size,_,_,fun i=>(bs[i]?).getD true,rfl,Walks.list (A:=X.A.in1) (I.ok.hd hc) _ p (yav hlt) its.toArray,⟨⟨_,yap _ rfl,rfl,rfl⟩,hl.push _⟩,fun i v s' Q' E' hP hQ=>?_,fun h' tk hk=>?_⟩
 ·have hv:its[i]?=some v:=by simpa using hP
  have hi:i<bs.length:=by rw [<-hn];exact (yag.mp hv).1
  obtain ⟨u,hu,ru⟩:=rv.get (i:=i) (x:=.bl bs[i]) (by rw [yao,yac hi];rfl);rw [hv] at hu;cases hu;cases (show v=Value.bool bs[i] from ru);refine yaZ ?_;have hQ':Q' ((bs[i]?).getD true) s':=hQ;rwa [yac hi] at hQ'
 ·rw [yam,hn,zfn];refine ⟨.bl _,H,I.kept (t':=tk) fun b o e=>?_,rfl,q⟩;exact hk b o (fun hm=>by rw [yaN.mp hm] at e;exact yaP _ (yaj e)) (yae _ e)
theorem ze0{prog:Program}{w:World}:∀{k:List Int} {its:List Value},Vals (k.map V.int) its->ItemsAre (intKind prog w) k its
 | [],_,.nil=>.nil
 | i::k,_,.cons r t=>by
  obtain ⟨t',rfl⟩:=r;exact .cons (by show Value.isInt i (.int i t')=true;simp [Value.isInt]) (ze0 t)
def Inv.key{pins:Z3}{σ:St}{H:Hp}{s:Shared}(I:Inv X pins σ H s){p:Addr}{k:List Int}(h:SqT X.K H p (k.map V.int)){prog:Program}{w:World}:ST.TK prog w s.heap k p:=by
 obtain ⟨its,rv,⟨o,e,c,n,d⟩,_⟩:=I.tuple h;exact ⟨o,_,n,e,c,d,ze0 rv⟩
noncomputable def zgV(K:PySem.W.Frag)(H:Hp)(ys:List V)(keys:Z2):Prop:=Paired (fun (v:V) (k:List Int)=>∃b,v=.ref b/\SqT K H b (k.map V.int)) ys keys
theorem zgV.get{K:PySem.W.Frag}{H:Hp}:∀{ys:List V} {keys:Z2} {its:List Value},zgV K H ys keys->Vals ys its->∀(j:Nat) (v:Value),its[j]?=some v->∃b,v=.ref b/\SqT K H b ((keys.getD j []).map V.int)
 | _,_,_,.nil,.nil,j,v,e=>by simp at e
 | _,_,_,.cons ⟨b,eb,hb⟩ t,.cons r tr,0,v,e=>by
  subst eb;cases r;simp at e;subst e;exact ⟨b,rfl,by simpa using hb⟩
 | _,_,_,.cons _ t,.cons _ tr,j+1,v,e=>by
  obtain ⟨b,h1,h2⟩:=zgV.get t tr j v (by simpa using e);exact ⟨b,h1,by simpa using h2⟩
noncomputable def ziz(a:Addr)(c:Nat)(h:Heap):Prop:=∃o es ep t,h.get? a=some o/\o.ExactSet/\o.data=.set es ep t/\t.fits es.size=true/\es.size=c
def zeS(hc:X.calm=true)(hu:X.A.units+8<cLine):zdt X (.type "set") (fun xs H Q=>∃(p:Addr) (ys:List V) (keys:Z2),xs=[.ref p]/\SqT X.K H p ys/\zgV X.K H ys keys/\keys.length<=18 ∧
  ∀l,H l=none->Q (.ref l) (upd H l (.ext (ziz l (ST.ddN keys))))):=by
 intro pins s σ H xs us Q I r h;obtain ⟨p,ys,keys,rfl,hq,hk,h18,q⟩:=h;obtain ⟨u,rfl,rx⟩:=zfW r;cases rx;obtain ⟨its,rv,pl,hz⟩:=I.tuple hq
 have hn:its.toArray.size=keys.length:=by rw [yam,<-rv.length];exact hk.length
 refine zeD (I.ok.hd hc) hu (show s.heap.IsTuple p its.toArray from pl) hn h18 (fun j v hv=>?_) fun h' tk c kp ts cn=>?_
 ·obtain ⟨b,e,hb⟩:=hk.get rv j v (by simpa using hv);exact ⟨b,e,I.key hb⟩
 ·obtain ⟨o,es,ep,t,e1,e2,e3,e4,e5,_⟩:=ts.ex;refine ⟨.ref s.heap.objs.size,_,I.laid (t':=tk) (o:=.ext (ziz s.heap.objs.size (ST.ddN keys))) kp (yai _) ?_,rfl,q _ (I.hok.fresh (yai _))⟩;exact ⟨⟨o,es,ep,t,e1,e2,e3,e4.fits,by rw [e5,cn.2]⟩,⟨o,e1⟩,fun h1 h2 ⟨o,es,ep,t,f1,f⟩ k=>⟨o,es,ep,t,k o f1,f⟩⟩
theorem zfK:zdt X (.builtin "len") (fun xs H Q=>∃a c,xs=[.ref a]/\H a=some (.ext (ziz a c))/\c<=1000/\Q (.int c) H):=by
 intro pins s σ H xs us Q I r h;obtain ⟨a,c,rfl,ha,hc,q⟩:=h;obtain ⟨u,rfl,rx⟩:=zfW r;cases rx;obtain ⟨⟨o,es,ep,t,e1,e2,e3,e4,e5⟩,_⟩:=I.hok a _ ha;refine call_len_set e1 e2 e3 e4 ?_ ?_
 ·have:(es.size:Int)<=1000:=by rw [e5];omega
  exact Int.lt_of_le_of_lt this (by decide)
 ·exact ⟨.int c,H,I.tok _,⟨_,by rw [e5]⟩,q⟩
def zmj:OpR X (binaryOp .Add) (fun x y H Q=>∃(a b:Addr) (ys:List V),x=.ref a/\y=.ref b/\SqT X.K H a []/\SqT X.K H b ys/\Q (.ref b) H):=by
 intro pins s σ H x y v u Q I rx ry h;obtain ⟨a,b,ys,rfl,rfl,ha,hb,q⟩:=h;cases rx;cases ry;obtain ⟨its,r1,p1,_⟩:=I.tuple ha;obtain ⟨its2,r2,p2,_⟩:=I.tuple hb;cases r1;obtain ⟨⟨cls,dd,data,sl⟩,ho,hc,n,hd⟩:=id p1;obtain ⟨⟨cls2,dd2,data2,sl2⟩,ho2,hc2,n2,hd2⟩:=id p2;simp only at hc hd hc2 hd2;subst hc hd hc2 hd2
 exact concat_meets ⟨_,ho,rfl⟩ ⟨_,ho2,rfl⟩ noFill_tuple_add seq_tuple_add yb8 yb2 (ybV _ _)
  (tuple_addW0 a b ([]:List Value).toArray its2.toArray n n2 dd dd2 sl sl2 (by rfl)) ⟨ho,ho2,⟨.ref b,H,I,rfl,q⟩⟩
end
end L2
namespace PySem
open PySem.Spec PyProof.Rows
end PySem
namespace L2
open PySem PySem.Spec PyProof.Rows
inductive D where
 | non | bl (b:Bool) | int (i:Int) | str (x:Str) | tup (l:List D) | lst (l:List D)
end L2
namespace HT
open PySem PySem.Spec PyProof.Rows L2
end HT
namespace L2
open PySem PySem.Spec PyProof.Rows
mutual
def D.py:D->PyData
 | .non=>.none
 | .bl b=>.bool b
 | .int i=>.int i
 | .str x=>.str x
 | .tup l=>.tuple (D.pys l)
 | .lst l=>.list (D.pys l)
def D.pys:List D->List PyData
 | []=>[]
 | d::l=>d.py::D.pys l
end
mutual
def D.fit:Nat->D->Bool
 | _,.non=>true
 | _,.bl _=>false
 | _,.int _=>true
 | _,.str x=>PyData.strOk x
 | 0,.tup _=>false
 | n+1,.tup l=>D.fits n l
 | 0,.lst _=>false
 | n+1,.lst l=>D.fits n l
def D.fits:Nat->List D->Bool
 | _,[]=>true
 | n,d::l=>d.fit n&&D.fits n l
end
theorem D.fits_iff:∀{l:List D},D.fits n l=true↔∀d∈l,d.fit n=true
 | []=>by simp [D.fits]
 | d::l=>by simp [D.fits,D.fits_iff (l:=l)]
mutual
theorem D.lay:∀{n:Nat} {d:D},d.fit n=true->d.py.canLay0=true/\d.py.depth<=n
 | _,.non,_=>⟨rfl,yaD _⟩
 | _,.bl _,h=>by simp [D.fit] at h
 | _,.int _,_=>⟨rfl,yaD _⟩
 | _,.str x,h=>⟨by simpa [D.fit,D.py,PyData.canLay0] using h,yaD _⟩
 | 0,.tup _,h=>by simp [D.fit] at h
 | 0,.lst _,h=>by simp [D.fit] at h
 | n+1,.tup l,h=>by
  have h':D.fits n l=true:=by simpa [D.fit] using h
  obtain ⟨a,b⟩:=D.lays h';exact ⟨by simpa [D.py,PyData.canLay0] using a,by simp only [D.py,PyData.depth];omega⟩
 | n+1,.lst l,h=>by
  have h':D.fits n l=true:=by simpa [D.fit] using h
  obtain ⟨a,b⟩:=D.lays h';exact ⟨by simpa [D.py,PyData.canLay0] using a,by simp only [D.py,PyData.depth];omega⟩
theorem D.lays:∀{n:Nat} {l:List D},D.fits n l=true->PyData.canLayAll0 (D.pys l)=true/\PyData.depthAll (D.pys l)<=n
 | _,[],_=>⟨rfl,yaD _⟩
 | n,d::l,h=>by
  simp only [D.fits,yaa] at h;obtain ⟨a,b⟩:=D.lay h.1;obtain ⟨c,e⟩:=D.lays h.2;exact ⟨by simp [D.pys,PyData.canLayAll0,a,c],by simp only [D.pys,PyData.depthAll];omega⟩
end
section
variable{X:Cx}
def zg2(hl:d.canLay0=true)(r:Reads h v d as):SeqAt.readOf h v=d:=by
 have hx:∃d as,Reads h v d as:=⟨d,as,r⟩;unfold SeqAt.readOf;rw [dif_pos hx];obtain ⟨bs,rb⟩:=hx.choose_spec;exact (SeqAt.Reads.unique _ _ _ _ _ hl r rb).symm
end
def CXE(P:Program)(w:World):CXT:=fun outer H s E e s'=>∃(a:Addr) (cls a0:Value) (H':Hp) (B:Heap),e=.ref a/\Heap.FlyingW B outer a cls a0 s'.heap ∧
 (∀b o,s'.heap.get? b=some o->H' b≠none->B.get? b=some o)/\(∀b o,s.heap.get? b=some o->H b=none->b ∉ frs outer->B.get? b=some o) ∧
 (∀b o,s.heap.get? b=some o->b ∉ frs outer->∃o',B.get? b=some o') ∧
 s'.os=s.os/\AllBare s'.gens/\Un (frs outer) [] H H' s.heap s'.heap/\HOk P w H' s'.heap/\E cls none H'
def zaT.has(x:zaT P w H h a o):∃ob,h.get? a=some ob:=by
 cases o with
 | lst xs=>obtain ⟨_,_,_,_,e⟩:=x;exact ⟨_,e⟩
 | tup xs=>obtain ⟨_,_,_,ob,e,_⟩:=x;exact ⟨_,e⟩
 | dK kvs=>obtain ⟨_,_,_,_,o,_,_,e,_⟩:=x;exact ⟨_,e⟩
 | dT kvs=>obtain ⟨_,_,_,_,o,_,_,e,_⟩:=x;exact ⟨_,e⟩
 | set S n=>obtain ⟨o,_,_,_,e,_⟩:=x;exact ⟨_,e⟩
 | ins C dx fs=>obtain ⟨_,_,_,e,_⟩:=x;exact ⟨_,e⟩
 | own y=>exact x
 | xd fs=>obtain ⟨_,⟨_,_,_,e,_⟩,_⟩:=x;exact ⟨_,e⟩
 | rng lo hi=>obtain ⟨_,_,_,e⟩:=x;exact ⟨_,e⟩
 | frz ob u=>obtain ⟨e,_⟩:=x;exact ⟨_,e⟩
 | tbl ps=>exact ⟨_,(show h.get? a=some _ from x)⟩
 | met f y=>exact ⟨_,(show h.get? a=some _ from x)⟩
 | ext φ=>obtain ⟨_,e,_⟩:=x;exact e
def HOk.same(x:HOk P w H h)(k:∀b u,h.get? b=some u->H b≠none->h'.get? b=some u):HOk P w H h':=fun a o e =>
 (x a o e).stay (fun b u hb q=>k b u q (hb.elim (fun z=>by rw [z,e];exact yaB _) (fun z=>by rw [z];exact yaB _))) (fun _ q=>q) fun _ _ q=>q
section
variable{X:Cx}{pins:Z3}{σ:St}{H:Hp}{s:Shared}{M:Model}
def zmD(l:List Env):∀env∈l,∀b,env.frame=some b->b∈frs l:=fun env he b hb=>ybi.mpr ⟨env,he,hb⟩
def ziU(I:Inv X pins σ H s)(hx:X.ex=[])(hs:X.stack=X.env::X.outer)(hf:X.env.frame=some X.env.locals)(mk:Heap.MadeExcOf s.heap h' e cls vs)(q:E cls none H) :
  wpAny M X.A (leaving X.env (.ref e)) (fun _ s''=>CXE X.prog X.w X.outer X.H₀ X.s₀ E (.ref e) s'') Er { s with heap:=h' }:=by
 have hfr:X.A.frames=some (X.env::X.outer):=by rw [<-hs];exact I.ok.frames
 have hst:s.heap.FunFrames X.base (X.env::X.outer):=by rw [<-hs];exact I.stack
 refine wpAny_leaves_madeW (base:=PySem.W.hideAll s.heap (frs (X.env::X.outer))) hfr hf (fun b o z=>PySem.W.of_hideAll _ z) (PySem.W.funFrames_hide hst (zmD _)) mk fun h2 t fl tup _ up=>?_
 have inB:∀b o,s.heap.get? b=some o->b ∉ frs (X.env::X.outer)->(PySem.W.hideAll s.heap (frs (X.env::X.outer))).get? b=some o:=fun b o z n=>PySem.W.hideAll_get _ z n
 have sub:∀b,b∈frs (X.env::X.outer)->b=X.env.locals\/b∈X.fs:=fun b hb=>by
  rw [<-hs] at hb;exact yat.mp (I.stkSub b hb)
 have fre:∀b,b∈frs (X.env::X.outer)->H b=none:=fun b hb=>by rw [<-hs] at hb;exact I.stkFree b hb
 have old:∀b o,X.s₀.heap.get? b=some o->b ∉ frs X.outer->b ∉ frs (X.env::X.outer):=fun b o z n hb=>by
  rcases sub b hb with r | r
  ·exact absurd (yah (yaj z) I.ok.above) (by rw [r];exact yaP _)
  ·exact n r
 have nx:∀b:Addr,b ∉ X.ex:=fun b z=>by rw [hx] at z;cases z
 have trk:∀b o,s.heap.get? b=some o->H b≠none->h2.get? b=some o:=fun b o z n=>fl.1 b o (inB b o z fun hb=>n (fre b hb))
 have hok2:HOk X.prog X.w H h2:=I.hok.same trk
 have slt:∀b o,s.heap.get? b=some o->b∈frs X.stack->∃sl,h2.get? b=some { o with slots:=sl }:=fun b o z hb=>by
  obtain ⟨_,o',z',hd⟩:=I.stack.mem hb;rw [z] at z';cases z';exact up b o (mk.keeps b o z) hd
 have un2:Un (frs X.stack) [] H H s.heap h2:=⟨fun b o z n hb _=>fl.1 b o (inB b o z (by rw [<-hs];exact hb)),fun b o z n hb _=>slt b o z hb,fun b o z n _=>n,
  fun b o z _=>by
   by_cases hb:b∈frs X.stack
   ·obtain ⟨sl,r⟩:=slt b o z hb;exact ⟨_,r⟩
   ·exact ⟨o,fl.1 b o (inB b o z (by rw [<-hs];exact hb))⟩,
  fun _ _ z=>z,fun _ _ _ z=>z,fun _ ps z=>⟨#[],by rw [z,Array.append_empty]⟩⟩
 have J:=I.call (g':=s.gens) (t':=s.toks) (d':=s.drawn) (ch:=[]) un2 hok2 I.bare (fun b z=>absurd z (by simp));refine ⟨e,cls,.ref t,H,_,rfl,fl,fun b o z n=>?_,fun b o z n hb=>?_,fun b o z hb=>?_,J.os,J.bare,?_,J.hok,q⟩
 ·cases k:H b with
  | none=>exact absurd k n
  | some u =>
   obtain ⟨o',z'⟩:=(I.hok b u k).has;have:=trk b o' z' n;rw [show h2.get? b=some o from z] at this;cases this;exact inB b o z' fun hb=>n (fre b hb)
 ·exact inB b o (I.base.keep b o z n hb (nx b)) (old b o z hb)
 ·obtain ⟨o',z'⟩:=I.base.there b o z (nx b);exact ⟨o',inB b o' z' (old b o z hb)⟩
 ·have:=J.base;rwa [hx] at this
def zib(I:Inv X pins σ H s)(hx:X.ex=[])(hs:X.stack=X.env::X.outer)(hf:X.env.frame=some X.env.locals)(q:CXE X.prog X.w X.stack H s E e s') :
  wpAny M X.A (leaving X.env e) (fun _ s''=>CXE X.prog X.w X.outer X.H₀ X.s₀ E e s'') Er s':=by
 have hfr:X.A.frames=some (X.env::X.outer):=by rw [<-hs];exact I.ok.frames
 obtain ⟨a,cls,a0,H',B,rfl,fl,c1,c2,c3,os,bare,un,hok,q⟩:=q
 have fl':Heap.FlyingW B (X.env::X.outer) a cls a0 s'.heap:=by rw [<-hs];exact fl
 refine wpAny_leaves_onW hfr hf fl' fun h2 fl2 up=>?_
 have sub:∀b,b∈frs X.stack->b=X.env.locals\/b∈X.fs:=fun b hb=>yat.mp (I.stkSub b hb)
 have old:∀b o,X.s₀.heap.get? b=some o->b ∉ frs X.outer->b ∉ frs X.stack:=fun b o z n hb=>by
  rcases sub b hb with r | r
  ·exact absurd (yah (yaj z) I.ok.above) (by rw [r];exact yaP _)
  ·exact n r
 have nx:∀b:Addr,b ∉ X.ex:=fun b z=>by rw [hx] at z;cases z
 have trk:∀b o,s'.heap.get? b=some o->H' b≠none->h2.get? b=some o:=fun b o z n=>fl2.1 b o (c1 b o z n)
 have hok2:HOk X.prog X.w H' h2:=hok.same trk
 have slt:∀b o,s.heap.get? b=some o->H b=none->b∈frs X.stack->∃sl,h2.get? b=some { o with slots:=sl }:=fun b o z n hb=>by
  obtain ⟨_,o',z',hd⟩:=I.stack.mem hb;rw [z] at z';cases z';obtain ⟨sl,r⟩:=un.slot b o z n hb (by simp);obtain ⟨sl',r'⟩:=up b ({ o with slots:=sl }:Obj) r hd;exact ⟨sl',r'⟩
 have un2:Un (frs X.stack) [] H H' s.heap h2:=⟨fun b o z n hb _=>fl2.1 b o (c2 b o z n hb),fun b o z n hb _=>slt b o z n hb,un.free,
  fun b o z _=>by
   by_cases hb:b∈frs X.stack
   ·obtain ⟨sl,r⟩:=slt b o z (I.stkFree b hb) hb;exact ⟨_,r⟩
   ·obtain ⟨o',r⟩:=c3 b o z hb
    exact ⟨o',fl2.1 b o' r⟩,
  un.tups,un.frzs,un.tbls⟩
 have J:=I.call (g':=s'.gens) (t':=s'.toks) (d':=s'.drawn) (ch:=[]) un2 hok2 bare (fun b z=>absurd z (by simp));refine ⟨a,cls,a0,H',B,rfl,fl2,fun b o z n=>?_,fun b o z n hb=>?_,fun b o z hb=>?_,os.trans I.os,bare,?_,J.hok,q⟩
 ·cases k:H' b with
  | none=>exact absurd k n
  | some u =>
   obtain ⟨o',z'⟩:=(hok b u k).has;have:=trk b o' z' n;rw [show h2.get? b=some o from z] at this;cases this;exact c1 b o z' n
 ·exact c2 b o (I.base.keep b o z n hb (nx b)) (I.base.free b o z n (nx b)) (old b o z hb)
 ·obtain ⟨o',z'⟩:=I.base.there b o z (nx b);exact c3 b o' z' (old b o z hb)
 ·have:=J.base;rwa [hx] at this
end
def zrB{P:Program}{K:PySem.W.Frag} :
  zn2 (CXE P w) (zgI (CXE P w) P w K mg base N qual scope f cd A outer s H E) E:=fun pins σ H1 s1 e s' I q =>
 zib (X:=zgI (CXE P w) P w K mg base N qual scope f cd A outer s H E) I rfl rfl rfl q
def zhj{K:PySem.W.Frag}{h:Heap}(k:K.In h)(z:PySem.W.excIn K C bmB nid=true) :
  ∃bm N nm qn bs hd sn sub ab col dd c0 c1 c2 c3 c5 mN,h.get? C=some (excClassObj nm qn C N bs bm hd sn sub ab col dd c0 c1 c2 c3 c5 nid)/\h.Ns N mN/\mN "__init__" = none/\OwnTail h bmB bm:=by
 unfold PySem.W.excIn at z;split at z
 case h_2=>cases z
 case h_1 dd cd sl ho =>
  split at z
  case h_2=>cases z
  case h_1 D bm c0 c1 c2 c3 n c5 e1 e2 =>
   simp only [yaa,ybH,ybe] at z;obtain ⟨⟨⟨⟨⟨z1,z2⟩,z3⟩,z4⟩,z5⟩,z6⟩:=z;subst z1 z2
   have hsl:sl=#[c0,c1,c2,c3,some (.builtin n),c5]:=by
    cases sl with
    | mk l=>exact congrArg Array.mk e2
   have hcd:cd={ cd with mro:=.ref D::bm,hasDel:=false }:=by
    cases cd;simp only at e1 z3;simp only [e1,z3]
   rw [hsl,hcd] at ho;exact ⟨bm,cd.ns,cd.name,_,cd.bases,_,_,_,_,_,dd,c0,c1,c2,c3,c5,_,k _ _ ho,.of_isNs (PySem.W.isNs_of_in k z5),PySem.W.nsMap_none_of_in k z5 z6,PySem.W.tail_of_in k z4⟩
noncomputable def zsR(X:Cx)(E:XK):Prop:=∀(C:Addr) (pins:Z3) (σ:St) (H:Hp) (s:Shared) (e:Addr) (h':Heap) (vs:List Value),Inv X pins σ H s->Heap.MadeExcOf s.heap h' e (.ref C) vs->E (.ref C) none H->X.xe (.ref e) { s with heap:=h' }
def zj1{P:Program}{K:PySem.W.Frag} :
  zsR (zgI (CXE P w) P w K mg base N qual scope f cd A outer s H E) E:=fun C pins σ H1 s1 e h' vs I mk q =>
 ziU (X:=zgI (CXE P w) P w K mg base N qual scope f cd A outer s H E) I rfl rfl rfl mk q
noncomputable def XP(X:Cx)(pins:Z3)(σ:St)(E:XK)(e:Value)(s':Shared):Prop:=∃H1 s1,Inv X pins σ H1 s1/\CXE X.prog X.w X.stack H1 s1 E e s'
def zft{M:Model}{A:Around}{E:Z5}{K:PySem.W.Frag}{s:Shared}{C D e:Addr}{oe:Obj}{bC bD:List Value}{iC iD:String}{Q:Bool->Shared->Prop}(k:K.In s.heap)(zC:PySem.W.excIn K C bC iC=true)(zD:PySem.W.excIn K D bD iD=true)
  (he:s.heap.get? e=some oe) (hc:oe.cls=.ref C) (hb:bD.contains (.type "BaseException")=true) (up:∃cd d cl sl,K.lookup C=some ⟨cl,d,.cls cd,sl⟩/\cd.mro.contains (.ref D)=true) (q:Q true s):wpAny M A (excMatches (.ref e) (.ref D)) Q E s:=by
 obtain ⟨bm,N,nm,qn,bs,hd,sn,sub,ab,col,dd,c0,c1,c2,c3,c5,mN,o1,o2,o3,o4⟩:=zhj k zC;obtain ⟨bm',N',nm',qn',bs',hd',sn',sub',ab',col',dd',d0,d1,d2,d3,d5,mN',p1,p2,p3,p4⟩:=zhj k zD;obtain ⟨cd,d,cl,sl,lk,ct⟩:=up;have o1':=k _ _ lk;rw [o1] at o1';have hcd:=congrArg Obj.data (Option.some.inj o1')
 have hcC:(Value.ref C::bm).contains (.ref D)=true:=by
  injection hcd with h
  rwa [<-h] at ct
 have hcB:(Value.ref D::bm').contains (.type "BaseException")=true:=by rw [yb4,p4.hasType hb,Bool.or_true]
 have f:=tc_notTuple;obtain ⟨h,g,dr,t,os⟩:=s;unfold excMatches
 repeat (first | (with_reducible refine ybf he ?_;rw [hc]) | with_reducible refine ybf p1 ?_ | (with_reducible refine wpAny_isSubtype_exc p1 ?_;rw [hcB]) | (with_reducible refine wpAny_isSubtype_exc o1 ?_;rw [hcC]) | wp_step)
 exact q
section
variable{X:Cx}{pins:Z3}{σ:St}{H:Hp}{s:Shared}
def zpK{M:Model}{A:Around}{E:Z5}{i:Nat}{x:Str}{Q:Unit->Shared->Prop}(I:Inv X pins σ H s)(hN:X.N.Nodup)(hi:X.N[i]?=some x)(hk:X.env.scope.names.lookup x=some .local)(hv:∃v,σ[i]?=some (some v))
  (h:∀s',Inv X pins (σ.set i none) H s'->Q () s'):wpAny M A (unbindName X.env x) Q E s:=by
 obtain ⟨m,hn,hl⟩:=id I.loc
 have hcls:(X.env.scope.kind == .class||(X.env.scope.kind == .module&&X.env.locals != X.env.globals))=false:=by rw [I.ok.kind];rfl
 obtain ⟨v,hv⟩:=hv;obtain ⟨u,r,lk⟩:=hl i x v hi hv (.inl hk)
 have hm:m x=some u:=by
  rcases lk with ⟨_,z⟩ | ⟨z,_⟩
  ·exact z
  ·have z:X.env.scope.names.lookup x=some .cell\/X.env.scope.names.lookup x=some .free:=z;rw [hk] at z
   rcases z with z | z<;>cases z
 refine wpAny_unbindName_local hk hn hm hcls fun h' u' hn' hs=>h _ ?_
 have far:∀b o,X.s₀.heap.get? b=some o->b≠X.env.locals:=fun b o z=>yav (yah (yaj z) I.ok.above)
 refine ⟨I.ok,I.os,I.bare,⟨?_,?_,I.base.free,?_,I.base.tups,I.base.frzs,I.base.tbls⟩,⟨_,hn',?_⟩,?_,I.free,I.freeC,?_,?_,by simpa using I.len⟩
 ·exact fun b o z n hb hx=>(hs.2 b (far b o z)).trans (I.base.keep b o z n hb hx)
 ·exact fun b o z n hb hx=>let ⟨sl,z1⟩:=I.base.slot b o z n hb hx;⟨sl,(hs.2 b (far b o z)).trans z1⟩
 ·exact fun b o z hx=>let ⟨o',z1⟩:=I.base.there b o z hx;⟨o',(hs.2 b (far b o z)).trans z1⟩
 ·intro j y w e1 e2 e3
  have hj:j≠i:=fun z=>by
   subst z;have l1:j<σ.length:=(yag.mp hv).1;rw [yaA l1] at e2;cases e2
  rw [yaL (Ne.symm hj)] at e2;obtain ⟨u1,r1,q⟩:=hl j y w e1 e2 e3;refine ⟨u1,r1,?_⟩
  rcases q with ⟨k1,z⟩ | ⟨k1,c,z,z1⟩
  ·have ny:y≠x:=fun e=>hj (zfr hN e1 (e ▸ hi))
   exact .inl ⟨k1,by simp [ny,z]⟩
  ·exact .inr ⟨k1,c,z,z1.sameBut hs (I.cne y c z)⟩
 ·exact fun y c z=>let ⟨w,z1⟩:=I.cell y c z;⟨w,z1.sameBut hs (I.cne y c z)⟩
 ·exact fun p hp=>let ⟨z,n,ne,nf,d⟩:=I.pin p hp;⟨(hs.2 p.1 ne).trans z,n,ne,nf,d⟩
 ·exact I.hok.same fun b o z n=>(hs.2 b fun e=>n (by rw [e];exact I.free)).trans z
def zfA{M:Model}{A:Around}{E:Z5}{i:Nat}{x:Str}{pos:Pos}{Q:Unit->Shared->Prop}(I:Inv X pins σ H s)(hN:X.N.Nodup)(hi:X.N[i]?=some x)(hk:X.env.scope.names.lookup x=some .local)
  (h:∀s',Inv X pins (σ.set i none) H s'->Q () s'):wpAny M A (do bindName X.env x .none;unbindBehindTheSuite X.env x pos) Q E s:=by
 refine yab (wpAny_bindName (zcT (v:=.non) I hN hi (.inl hk) rfl (fun s2 I2=>?_) (.inr hk)));unfold unbindBehindTheSuite;refine wpAny_onRaise ?_
 have l1:i<σ.length:=by rw [I.len];exact (yag.mp hi).1
 refine zpK I2 hN hi hk ⟨.non,yaA l1⟩ fun s3 I3=>h s3 ?_
 rwa [List.set_set] at I3
end
section
variable{X:Cx}{pins:Z3}{σ:St}{H H':Hp}{s s':Shared}{B h2:Heap}{a:Addr}{cls a0:Value}
noncomputable abbrev Cx.inH(X:Cx)(a:Addr):Cx:={ X with A:=X.A.mark (some (.ref a)),calm:=false,xe:=fun _ _=>False }
theorem Inv.inH(I:Inv X pins σ H s)(a:Addr):Inv (X.inH a) pins σ H s :=
 ⟨⟨I.ok.mod,I.ok.kind,I.ok.glob,I.ok.blt,I.ok.above,I.ok.inj,I.ok.has,I.ok.cab,(fun z=>nomatch z),I.ok.frames,I.ok.stk,I.ok.exf,I.ok.bs,I.ok.bsz,I.ok.noex,I.ok.exfs,I.ok.funs,I.ok.frf⟩,I.os,I.bare,I.base,I.loc,I.cell,I.free,I.freeC,I.pin,I.hok,I.len⟩
def Inv.outH(J:X.Ok)(I:Inv (X.inH a) pins σ H s):Inv X pins σ H s:=⟨J,I.os,I.bare,I.base,I.loc,I.cell,I.free,I.freeC,I.pin,I.hok,I.len⟩
def zfc(I:Inv X pins σ H s)(fl:Heap.FlyingW B X.stack a cls a0 h2)(up:s'.heap.UpToSlots h2)(c1:∀b o,s'.heap.get? b=some o->H' b≠none->B.get? b=some o)
  (c2:∀b o,s.heap.get? b=some o->H b=none->b ∉ frs X.stack->B.get? b=some o) (c3:∀b o,s.heap.get? b=some o->b ∉ frs X.stack->∃o',B.get? b=some o')
  (os:s'.os=s.os) (bare:AllBare s'.gens) (un:Un (frs X.stack) [] H H' s.heap s'.heap) (hok:HOk X.prog X.w H' s'.heap) :
  Inv X pins σ H' { s' with heap:=h2 }/\∃ob,ob.cls=cls/\h2.get? a=some ob/\H' a=none/\Inv X pins σ (upd H' a (.frz ob (.own a))) { s' with heap:=h2 }:=by
 have trk:∀b o,s'.heap.get? b=some o->H' b≠none->h2.get? b=some o:=fun b o z n=>fl.1 b o (c1 b o z n)
 have hok2:HOk X.prog X.w H' h2:=hok.same trk
 have slt:∀b o,s.heap.get? b=some o->H b=none->b∈frs X.stack->∃sl,h2.get? b=some { o with slots:=sl }:=fun b o z n hb=>by
  obtain ⟨_,o',z',hd⟩:=I.stack.mem hb;rw [z] at z';cases z';obtain ⟨sl,r⟩:=un.slot b o z n hb (by simp);obtain ⟨sl',r'⟩:=up b ({ o with slots:=sl }:Obj) r hd;exact ⟨sl',r'⟩
 have th:∀b o,s.heap.get? b=some o->b ∉ ([]:List Addr)->∃o',h2.get? b=some o':=fun b o z _=>by
  by_cases hb:b∈frs X.stack
  ·obtain ⟨sl,r⟩:=slt b o z (I.stkFree b hb) hb;exact ⟨_,r⟩
  ·obtain ⟨o',r⟩:=c3 b o z hb;exact ⟨o',fl.1 b o' r⟩
 have un2:Un (frs X.stack) [] H H' s.heap h2:=⟨fun b o z n hb _=>fl.1 b o (c2 b o z n hb),fun b o z n hb _=>slt b o z n hb,un.free,th,un.tups,un.frzs,un.tbls⟩;refine ⟨I.call' (s':={ s' with heap:=h2 }) (ch:=[]) os un2 hok2 bare (fun b z=>absurd z (by simp)),?_⟩;obtain ⟨oe,vs,he,hc,hd,_⟩:=fl.first
 have na:H' a=none:=by
  cases k:H' a with
  | none=>rfl
  | some u =>
   obtain ⟨o',z'⟩:=(hok a u k).has;have:=c1 a o' z' (by rw [k];exact yaB _);rw [fl.2.1] at this;cases this
 have ns:∀o,s.heap.get? a=some o->False:=fun o z=>by
  by_cases hb:a∈frs X.stack
  ·obtain ⟨_,o',z',hd'⟩:=fl.2.2.1.mem hb;rw [he] at z';cases z';exact hd' _ hd
  ·obtain ⟨o',r⟩:=c3 a o z hb;rw [fl.2.1] at r;cases r
 have ne:∀{b:Addr} {u:HO},H' b=some u->b≠a:=fun {b u} z e=>by rw [e,na] at z;cases z
 refine ⟨oe,hc,he,na,I.call' (s':={ s' with heap:=h2 }) (ch:=[]) os ⟨un2.keep,un2.slot,fun b o z n hx=>?_,th,fun b xs z=>?_,fun b o u z=>?_,fun b ps z=>?_⟩ (fun b u z=>?_) bare (fun b z=>absurd z (by simp))⟩
 ·rw [zac (a:=a) (b:=b) fun e=>ns o (by rw [<-e];exact z)];exact un.free b o z n hx
 ·have:=un.tups b xs z;rw [zac (ne this)];exact this
 ·have:=un.frzs b o u z;rw [zac (ne this)];exact this
 ·obtain ⟨more,this⟩:=un.tbls b ps z;exact ⟨more,by rw [zac (ne this)];exact this⟩
 ·by_cases e:b=a
  ·subst e;unfold upd at z;rw [if_pos rfl] at z;cases z;exact ⟨he,oe,he⟩
  ·rw [zac e] at z;exact (hok2 b u z).stay (fun _ _ _ q=>q) (fun c q=>by rw [zac (ne q)];exact q) (fun c xs q=>by rw [zac (ne q)];exact q)
end
noncomputable def zqf(K:PySem.W.Frag)(C D:Addr):Prop:=(∃bC iC,PySem.W.excIn K C bC iC=true)/\∃cd d cl sl,K.lookup C=some ⟨cl,d,.cls cd,sl⟩/\cd.mro.contains (.ref D)=true
noncomputable def Ends.goes(D:Ends)(i:Nat):Ends:={ nx:=fun σ H=>D.nx (σ.set i none) H,rt:=D.rt,bk:=fun σ H=>D.bk (σ.set i none) H,ct:=fun σ H=>D.ct (σ.set i none) H }
def zoC{X:Cx}{a:Addr}{pins:Z3}{D:Ends}{i:Nat}{n:Str}{pos:Pos}{f:Flow}{s:Shared}{E:Z5}(J:X.Ok)(hN:X.N.Nodup)(hi:X.N[i]?=some n)(hk:X.env.scope.names.lookup n=some .local)(h:SP (X.inH a) pins (D.goes i) f s) :
  wpAny (model X.prog X.w) X.A (do bindName X.env n .none;unbindBehindTheSuite X.env n pos) (fun _ s3=>SP X pins D f s3) E s:=by
 cases f with
 | next =>
  obtain ⟨σ',H',I,q⟩:=h;exact zfA (I.outH J) hN hi hk fun s' I'=>⟨_,H',I',q⟩
 | brk =>
  obtain ⟨σ',H',I,q⟩:=h;exact zfA (I.outH J) hN hi hk fun s' I'=>⟨_,H',I',q⟩
 | cont =>
  obtain ⟨σ',H',I,q⟩:=h;exact zfA (I.outH J) hN hi hk fun s' I'=>⟨_,H',I',q⟩
 | ret u =>
  obtain ⟨v,σ',H',I,r,q⟩:=h;exact zfA (I.outH J) hN hi hk fun s' I'=>⟨v,_,H',I',r,q⟩
end L2
namespace PySem.W
open PySem
structure ExcCls(K:Frag)(C:Addr):Prop where
 ga:findIn K (.ref C) "__getattribute__" = some (some (.builtin "BaseException.__getattribute__"))
 gt:findIn K (.ref C) "__getattr__" = some none
 cl:findIn K (.ref C) "__class__" = some (some (.builtin "object.__class__"))
 ob:subIn K (.ref C) (.type "object")=some true
 be:subIn K (.ref C) (.type "BaseException")=some true
 is:∃c d cd sl,K.lookup C=some ⟨c,d,.cls cd,sl⟩
section
variable{prog:Program}{w:World}{A:Around}{E:Z5}{h:Heap}{g:Array GenState}{d:Drawn}{t:Nat}{os:OsState}{a C:Addr}{o:Obj}{K:Frag}
theorem zfG{R:Result->Shared->Prop}(k:K.In h)(X:ExcCls K C)(hx:h.get? a=some o)(hc:o.cls=.ref C)(hq:R (.ok (.ret (.ref C))) ⟨h,g,d,t,os⟩) :
  codeAny (model prog w) A (.call (.builtin "getset_descriptor.__get__") ⟨[.builtin "object.__class__",.ref a,.ref C],[]⟩) R ⟨h,g,d,t,os⟩:=by
 have isGs:Shared.TypeIs ⟨h,g,d,t,os⟩ (.builtin "object.__class__") "getset_descriptor":=ych
 have f8:subIn K (.ref C) (.type (".".intercalate ("object.__class__".cutAt '.').dropLast))=some true:=by rw [F.owner_object_class];exact X.ob
 refine ycp F.slot_gs_get.plain F.entry_gs_get ?_;refine F.slot_gs_get.check _ _ _ _ _ _ _ _ isGs (F.args_gs_get _ _ _) ?_
 repeat (any_goals (first | assumption | (with_reducible refine ybf hx ?_;rw [hc]) | with_reducible refine Looks.at (looks_subIn k f8) ?_ | wp_step))
 refine And.intro (Code.quiet_builtin _ (by decide +kernel)) ?_;refine ybE F.entry_object_class ?_
 repeat (any_goals (first | assumption | (with_reducible refine ybf hx ?_;rw [hc]) | wp_step))
def zev{tk:Tok}{Q:Fin->Shared->Prop}(k:K.In h)(X:ExcCls K C)(hx:h.get? a=some o)(hc:o.cls=.ref C)(hq:Q (.done (.ret (.ref C))) ⟨h,g,d,t,os⟩) :
  wpAny (model prog w) A (Builtin.«object.__getattribute__» { pos:=[.ref a,.str "__class__" tk],kw:=[] }) Q E ⟨h,g,d,t,os⟩:=by
 have isGs:Shared.TypeIs ⟨h,g,d,t,os⟩ (.builtin "object.__class__") "getset_descriptor":=ych;have known:=And.intro ych (And.intro F.slot_gs_get.lookup F.slot_gs_set.lookup);obtain ⟨p5,p6,p7⟩:=known
 repeat (any_goals (first | assumption | (with_reducible refine ybf hx ?_;rw [hc]) | with_reducible refine Looks.at (looks_findIn k X.cl) ?_ | wp_step))
 refine zfG k X hx hc ?_
 repeat any_goals first | assumption | wp_step
end
section
variable{prog:Program}{w:World}{A:Around}{E:Z5}{h:Heap}{g:Array GenState}{d:Drawn}{t:Nat}{os:OsState}{a C:Addr}{o:Obj}{K:Frag}
theorem zew{M:Model}{nameV:Value}{Q:Unit->Shared->Prop}(k:K.In h)(X:ExcCls K C)(hx:h.get? a=some o)(hc:o.cls=.ref C)(hq:Q () ⟨h,g,d,t,os⟩) :
  wpAny M A (checkBuiltinCall "BaseException.__getattribute__" ⟨[.ref a,nameV],[]⟩) Q E ⟨h,g,d,t,os⟩:=by
 have k1:builtinKind "BaseException.__getattribute__" = some .slot:=by decide +kernel
 have k2:splitId "BaseException.__getattribute__" = some ("BaseException","__getattribute__"):=by decide +kernel
 have fits:=F.args_bexc_ga (.ref a) nameV;simp only [checkBuiltinCall,k1,k2];refine yab ?_;unfold isInstance
 repeat (first | (with_reducible refine ybf hx ?_;rw [hc]) | with_reducible refine Looks.at (looks_subIn k X.be) ?_ | wp_step)
 exact hq
def zeP{tk:Tok}{R:Result->Shared->Prop}(k:K.In h)(X:ExcCls K C)(hx:h.get? a=some o)(hc:o.cls=.ref C)(hq:R (.ok (.ret (.ref C))) ⟨h,g,d,t,os⟩) :
  codeAny (model prog w) A (.call (.builtin "BaseException.__getattribute__") ⟨[.ref a,.str "__class__" tk],[]⟩) R ⟨h,g,d,t,os⟩ :=
 ycp F.attr_ValueError.ga.plain F.entry_bexc_ga (zew k X hx hc (zev k X hx hc hq))
theorem zgB{tk:Tok}{fill expr:Bool}{Q:Z5}(k:K.In h)(X:ExcCls K C)(hx:h.get? a=some o)(hc:o.cls=.ref C)(hq:Q (.ref C) ⟨h,g,d,t,os⟩) :
  wpAny (model prog w) A (getAttrBy (.ref a) (.str "__class__" tk) fill expr) Q E ⟨h,g,d,t,os⟩:=by
 have f3:=F.attr_ValueError.ga.bind (.ref a)
 have n0:(expr&&onTheHeap (Value.builtin "BaseException.__getattribute__"))=false:=by cases expr<;>rfl
 have n2:(Value.builtin "BaseException.__getattribute__" == Value.builtin "object.__getattribute__")=false:=by decide +kernel
 have n1:(onTheHeap (Value.ref C)&&Value.builtin "BaseException.__getattribute__" == Value.builtin "object.__getattribute__")=false:=by rw [n2];rfl
 repeat (any_goals (first | assumption | (with_reducible refine ybf hx ?_;rw [hc]) | with_reducible refine Looks.at (looks_findIn k X.ga) ?_ | with_reducible refine Looks.at (looks_findIn k X.gt) ?_ | wp_step))
 refine zeP k X hx hc ?_
 repeat any_goals first | assumption | wp_step
def zeQ{Q:Option Value->Shared->Prop}(k:K.In h)(X:ExcCls K C)(hx:h.get? a=some o)(hc:o.cls=.ref C)(hq:Q (some (.ref C)) ⟨h,g,d,t+1,os⟩):wpAny (model prog w) A (getAttr? (.ref a) "__class__") Q E ⟨h,g,d,t,os⟩:=by
 unfold getAttr? getAttrBy?
 repeat (any_goals (first | assumption | with_reducible apply zgB k X hx hc | wp_step))
end
def zmu{K:Frag}{a C:Addr}(X:ExcCls K C):KitX K (.ref a) (.ref C) (fun h=>∃o,h.get? a=some o/\o.cls=.ref C) where
 ty:=fun M h _ p=>by
  obtain ⟨o,h1,h2⟩:=p;rw [<-h2];exact Looks.andThen (Looks.ld h1) .now
 it:=fun _ _ k _=>by
  obtain ⟨c,d,cd,sl,lk⟩:=X.is;intro A' Q' E' s' kk q;unfold isType loadHead;exact yab (wpAny_loadPart (kk _ _ (k _ _ lk)) (yal q))
 ne:=fun h tp dd its n sl k htp=>by
  obtain ⟨c,d,cd,sl',lk⟩:=X.is;refine Bool.eq_false_iff.mpr fun q=>?_
  have e:C=tp:=Value.ref.inj (ybH.mp q);have z:=k _ _ lk;rw [e,htp] at z;cases z
 ca:=fun {_ _ _ _ _ s} k p q=>by
  obtain ⟨o,h1,h2⟩:=p;obtain ⟨h,g,d,t,os⟩:=s;exact zeQ k X h1 h2 q
end PySem.W
namespace L2
open PySem PySem.Spec PyProof.Rows
def zi8{X:Cx}:zdt X (.builtin "isinstance") (fun xs H Q=>∃(a C:Addr) (ob:Obj) (c:V) (cv:Value) (k:Bool),xs=[.ref a,c]/\H a=some (.frz ob (.own a))/\ob.cls=.ref C/\PySem.W.ExcCls X.K C/\(∀u,zaW c u->u=cv)/\PySem.W.kitOne X.K (.ref C) cv=some k/\Q (.bl k) H):=by
 intro pins s σ H xs us Q I r h;obtain ⟨a,C,ob,c,cv,k,rfl,ha,hc,Z,hv,e,q⟩:=h
 cases r with
 | cons r1 rr =>
  cases rr with
  | cons r2 r3 =>
   cases r3;cases (show _=Value.ref a from r1);rw [hv _ r2];obtain ⟨h1,_⟩:=(show zaT X.prog X.w H s.heap a (.frz ob (.own a)) from I.hok a _ ha);exact yaX (PySem.W.zmu Z) I.kIn ⟨ob,h1,hc⟩ e (fun z=>nomatch z) fun tk=>⟨.bl k,H,I.tok tk,rfl,q⟩
open PySem PySem.Spec PyProof.Rows PySem.SeqAt
end L2
namespace S2
open PySem PySem.Spec PyProof.Rows L2
mutual
def D.py:D->PyData
 | .non=>.none
 | .bl b=>.bool b
 | .int i=>.int i
 | .str x=>.str x
 | .tup l=>.tuple (D.pys l)
 | .lst l=>.list (D.pys l)
 | .scr l=>.list (l.map PyData.int)
 | .dic _=>.none
 | .ref _=>.none
 | .exc _=>.none
def D.pys:List D->List PyData
 | []=>[]
 | d::l=>d.py::D.pys l
end
mutual
def D.fit:Nat->D->Bool
 | _,.non=>true
 | _,.bl _=>true
 | _,.int _=>true
 | _,.str x=>PyData.strOk x
 | 0,.tup _=>false
 | n+1,.tup l=>D.fits n l
 | 0,.lst _=>false
 | n+1,.lst l=>D.fits n l
 | 0,.scr _=>false
 | _+1,.scr _=>true
 | _,.dic _=>false
 | _,.ref _=>false
 | _,.exc _=>false
def D.fits:Nat->List D->Bool
 | _,[]=>true
 | n,d::l=>d.fit n&&D.fits n l
end
theorem D.fits_iff:∀{l:List D},D.fits n l=true↔∀d∈l,d.fit n=true
 | []=>by simp [D.fits]
 | d::l=>by simp [D.fits,D.fits_iff (l:=l)]
theorem zij:∀(l:List Int),PyData.canLayAll0 (l.map PyData.int)=true/\PyData.depthAll (l.map PyData.int)=0
 | []=>⟨rfl,rfl⟩
 | i::l=>by
  obtain ⟨a,b⟩:=zij l;exact ⟨by simp [PyData.canLayAll0,PyData.canLay0,a],by simp [PyData.depthAll,PyData.depth,b]⟩
mutual
theorem D.lay:∀{n:Nat} {d:D},d.fit n=true->d.py.canLay0=true/\d.py.depth<=n
 | _,.non,_=>⟨rfl,yaD _⟩
 | _,.bl _,h=>⟨rfl,yaD _⟩
 | _,.int _,_=>⟨rfl,yaD _⟩
 | _,.str x,h=>⟨by simpa [D.fit,D.py,PyData.canLay0] using h,yaD _⟩
 | 0,.tup _,h=>by simp [D.fit] at h
 | 0,.lst _,h=>by simp [D.fit] at h
 | 0,.scr _,h=>by simp [D.fit] at h
 | n+1,.scr l,h=>by
  obtain ⟨a,b⟩:=zij l;exact ⟨by simpa [D.py,PyData.canLay0] using a,by simp only [D.py,PyData.depth];omega⟩
 | _,.dic _,h=>by simp [D.fit] at h
 | _,.ref _,h=>by simp [D.fit] at h
 | _,.exc _,h=>by simp [D.fit] at h
 | n+1,.tup l,h=>by
  have h':D.fits n l=true:=by simpa [D.fit] using h
  obtain ⟨a,b⟩:=D.lays h';exact ⟨by simpa [D.py,PyData.canLay0] using a,by simp only [D.py,PyData.depth];omega⟩
 | n+1,.lst l,h=>by
  have h':D.fits n l=true:=by simpa [D.fit] using h
  obtain ⟨a,b⟩:=D.lays h';exact ⟨by simpa [D.py,PyData.canLay0] using a,by simp only [D.py,PyData.depth];omega⟩
theorem D.lays:∀{n:Nat} {l:List D},D.fits n l=true->PyData.canLayAll0 (D.pys l)=true/\PyData.depthAll (D.pys l)<=n
 | _,[],_=>⟨rfl,yaD _⟩
 | n,d::l,h=>by
  simp only [D.fits,yaa] at h;obtain ⟨a,b⟩:=D.lay h.1;obtain ⟨c,e⟩:=D.lays h.2;exact ⟨by simp [D.pys,PyData.canLayAll0,a,c],by simp only [D.pys,PyData.depthAll];omega⟩
end
section
variable{X:Cx}{cl:Cf}{w:Wd}
def TopV.lstI(h:TopV cl w v (.lst ds)):∃a xs,v=.ref a/\w.H a=some (.lst xs)/\Shds cl w xs ds:=by
 cases h with
 | sh h=>cases h with
  | lst e k r=>exact ⟨_,_,rfl,e,r⟩
 | ow e t=>cases t with
  | lst r=>exact ⟨_,_,rfl,e,r⟩
def TopV.tupI(h:TopV cl w v (.tup ds)):∃a xs,v=.ref a/\w.H a=some (.tup xs)/\w.ow a=none/\Shds cl w xs ds:=by
 cases h with
 | sh h=>cases h with
  | tup e k r=>exact ⟨_,_,rfl,e,k,r⟩
 | ow e t=>cases t
def TopV.intI(h:TopV cl w v (.int i)):v=.int i:=by
 cases h with
 | sh h=>cases h;rfl
 | ow e t=>cases t
def TopV.strI(h:TopV cl w v (.str i)):v=.str i:=by
 cases h with
 | sh h=>cases h;rfl
 | ow e t=>cases t
def TopV.blI(h:TopV cl w v (.bl i)):v=.bl i:=by
 cases h with
 | sh h=>cases h;rfl
 | ow e t=>cases t
def TopV.nonI(h:TopV cl w v .non):v=.non:=by
 cases h with
 | sh h=>cases h;rfl
 | ow e t=>cases t
def Shd.scrI(hK:X.K=cl.K)(h:Shd cl w v (.scr l)):∃a,v=.ref a/\SqL X.K w.H a (l.map V.int):=by
 cases h with
 | scr e k=>exact ⟨_,rfl,.inl (.inr ⟨_,e⟩)⟩
 | scrK h=>exact ⟨_,rfl,by rw [hK];exact h _⟩
theorem TopV.scrI(hK:X.K=cl.K)(h:TopV cl w v (.scr l)):∃a,v=.ref a/\SqL X.K w.H a (l.map V.int):=by
 cases h with
 | sh h=>exact h.scrI hK
 | ow e t=>cases t
def zhY(I:Inv X pins σ w.H s)(hK:X.K=cl.K)(h:Shd cl w v (.scr l))(r:zaW v u):∃as,Reads s.heap u (D.scr l).py as:=by
  obtain ⟨a,rfl,hq⟩:=h.scrI hK;cases r;obtain ⟨its,rv,p,_⟩:=I.list hq;obtain ⟨o,ho,hc,n,hd⟩:=id p.isList
  have go:∀{l:List Int} {us:List Value},Vals (l.map V.int) us->∃as,ReadsAll s.heap us (l.map PyData.int) as:=by
   intro l
   induction l with
   | nil=>intro us h;cases h;exact ⟨_,.nil⟩
   | cons i l ih =>
    intro us h
    cases h with
    | cons h1 h2 =>
     obtain ⟨t,rfl⟩:=h1;obtain ⟨as,ra⟩:=ih h2;exact ⟨_,.cons (.int i t) ra⟩
  obtain ⟨as,ra⟩:=go rv;exact ⟨_,.list ho hc hd (by simpa using ra)⟩
mutual
theorem zlX{pins:Z3}{σ:St}{s:Shared}(I:Inv X pins σ w.H s)(hK:X.K=cl.K):∀{v:V} {d:D} {n:Nat},Shd cl w v d->d.fit n=true->∀{u:Value},zaW v u->∃as,Reads s.heap u d.py as
 | _,_,_,.non,_,_,r=>by cases r;exact ⟨_,.none⟩
 | _,_,_,.bl b,_,_,r=>by cases r;exact ⟨_,.bool b⟩
 | _,_,_,.int i,_,_,r=>by obtain ⟨t,rfl⟩:=r;exact ⟨_,.int i t⟩
 | _,_,_,.str x,_,_,r=>by obtain ⟨t,rfl⟩:=r;exact ⟨_,.str x t⟩
 | _,_,0,.tup _ _ _,h,_,_=>by simp [D.fit] at h
 | _,_,0,.lst _ _ _,h,_,_=>by simp [D.fit] at h
 | _,_,n+1,.tup (a:=a) e _ rs,h,_,r=>by
  cases r;obtain ⟨its,rv,p,_⟩:=I.tuple (SqT.of (K:=X.K) e);obtain ⟨o,ho,hc,n,hd⟩:=id p;obtain ⟨as,ra⟩:=zc4 I hK rs (by simpa [D.fit] using h) rv;exact ⟨_,.tuple ho hc hd (by simpa using ra)⟩
 | _,_,n+1,.lst (a:=a) e _ rs,h,_,r=>by
  cases r;obtain ⟨its,rv,p,_⟩:=I.list (SqL.of (K:=X.K) e);obtain ⟨o,ho,hc,n,hd⟩:=id p.isList;obtain ⟨as,ra⟩:=zc4 I hK rs (by simpa [D.fit] using h) rv;exact ⟨_,.list ho hc hd (by simpa using ra)⟩
 | _,_,n,.scr e k,h,_,r=>zhY I hK (.scr e k) r
 | _,_,n,.scrK e,h,_,r=>zhY I hK (.scrK e) r
 | _,_,n,.dicK _ _ _,h,_,_=>by simp [D.fit] at h
 | _,_,n,.ref _,h,_,_=>by simp [D.fit] at h
 | _,_,n,.exc _ _ _,h,_,_=>by simp [D.fit] at h
theorem zc4{pins:Z3}{σ:St}{s:Shared}(I:Inv X pins σ w.H s)(hK:X.K=cl.K):∀{vs:List V} {ds:List D} {n:Nat},Shds cl w vs ds->D.fits n ds=true->∀{us:List Value},Vals vs us->∃as,ReadsAll s.heap us (D.pys ds) as
 | _,_,_,.nil,_,_,r=>by cases r;exact ⟨_,.nil⟩
 | _,_,n,.cons h t,f,_,r=>by
  simp only [D.fits,yaa] at f
  cases r with
  | cons r1 r2 =>
   obtain ⟨as,a⟩:=zlX I hK h f.1 r1;obtain ⟨bs,b⟩:=zc4 I hK t f.2 r2;exact ⟨_,.cons a b⟩
end
def zgb(I:Inv X pins σ w.H s)(hK:X.K=cl.K)(h:TopV cl w v d)(f:d.fit n=true)(r:zaW v u):∃as,Reads s.heap u d.py as:=by
 cases h with
 | sh h=>exact zlX I hK h f r
 | ow e t =>
  cases t with
  | lst rs =>
   cases n with
   | zero=>simp [D.fit] at f
   | succ n =>
    cases r;obtain ⟨its,rv,p,_⟩:=I.list (SqL.of (K:=X.K) e);obtain ⟨o,ho,hc,n,hd⟩:=id p.isList;obtain ⟨as,ra⟩:=zc4 I hK rs (by simpa [D.fit] using f) rv;exact ⟨_,.list ho hc hd (by simpa using ra)⟩
  | dicK _=>simp [D.fit] at f
noncomputable def zdZ(d e:D):Bool:=d.py.eqv e.py
noncomputable def zkU(ds:List (D×D)):Bool:=ds.all fun p=>p.2.fit 8
def eqK(es:List (D×D)):List (D×D)->Bool
 | (.str k,d)::r=>(match zad k es with | some e=>zdZ d e | none=>false)&&eqK es r
 | _=>true
def zk0(d e:D):Option Bool:=match d,e with | .dic ds,.dic es=>if zaf ds&&zaf es&&zkU ds&&zkU es then some (ds.length == es.length&&eqK es ds) else none | _,_=>none
def eqD(d e:D):Option D:=if d.fit 9&&e.fit 9 then some (.bl (zdZ d e)) else (zk0 d e).map D.bl
def neD(d e:D):Option D:=if d.fit 9&&e.fit 9 then some (.bl (!zdZ d e)) else (zk0 d e).map fun b=>D.bl (!b)
theorem zfD{k:Str}:∀{ds:List (D×D)} {d:D},zad k ds=some d->zkU ds=true->d.fit 8=true
 | (.str x,e)::r,d,h,f=>by
  unfold zkU at f;rw [ya2,yaa] at f;unfold zad at h;split at h
  ·cases h;exact f.1
  ·exact zfD h f.2
theorem zic{A:Around}{pins:Z3}{σ:St}{s:Shared}(I:Inv X pins σ w.H s)(hK:X.K=cl.K)(hu:A.units+32<cLine){kb:List (Key×V)}{vb:List (Key×Value)}{es:List (D×D)}(rb:KV kb vb)(hb:ShdK cl w kb es)(ob:zaf es=true)(fb:zkU es=true) :
  ∀{ka:List (Key×V)} {va:List (Key×Value)} {ds:List (D×D)},ShdK cl w ka ds->KV ka va->zaf ds=true->zkU ds=true->PySem.W.KeqHits A s vb va (eqK es ds)
 | _,_,_,.nil,.nil,_,_=>.nil
 | _,_,_,.consI _ _,_,o,_=>by cases o
 | _,_,_,.consS (x:=x) (v:=v) (d:=d) hd ht,.cons (b:=q) r t,o,f=>by
  unfold zaf at o;rw [yaa] at o;unfold zkU at f;rw [ya2,yaa] at f;have ih:=zic I hK hu rb hb ob fb ht t o.2 f.2;obtain ⟨qk,qv⟩:=q;obtain ⟨e1,rv⟩:=r;dsimp only at e1 rv;subst e1;have hv:=rb.val (.inr x);show PySem.W.KeqHits A s vb _ ((match zad x es with | some e=>zdZ d e | none=>false)&&eqK es _)
  rcases zb8 x hb ob with ⟨h1,h2⟩ | ⟨v',d',h1,h2,h3⟩
  ·rw [h1] at hv;rw [h2]
   cases hz:valueAt vb (.inr x) with
   | none=>exact .miss hz
   | some y=>rw [hz] at hv;exact hv.elim
  ·rw [h1] at hv;rw [h2]
   cases hz:valueAt vb (.inr x) with
   | none=>rw [hz] at hv;exact hv.elim
   | some y =>
    rw [hz] at hv;obtain ⟨as,ra⟩:=zlX I hK hd f.1 rv;obtain ⟨bs,rb'⟩:=zlX I hK h3 (zfD h2 fb) hv;obtain ⟨l1,d1⟩:=D.lay f.1;obtain ⟨l2,d2⟩:=D.lay (zfD h2 fb);exact .hit hz (SeqAt.eqAt_reads _ _ A s _ _ as bs ra rb' l1 l2 (by omega)) ih
theorem zkZ{pins:Z3}{σ:St}{s:Shared}{x y:V}{v u:Value}{d e:D}{b:Bool}(I:Inv X pins σ w.H s)(hK:X.K=cl.K)(hu:X.A.units+64<cLine)(hx:TopV cl w x d)(hy:TopV cl w y e)(rx:zaW x v)(ry:zaW y u)(h:zk0 d e=some b) :
  ∃(a c:Addr) (ka kc:List (Key×Value)) (r:Bool),v=.ref a/\u=.ref c/\(a == sysModules)=false/\(c == sysModules)=false/\s.heap.DictOf (zaA X.prog X.w) a ka/\s.heap.DictOf (zaA X.prog X.w) c kc/\PySem.W.KeqHits X.A.in1 s kc ka r/\b=(ka.length == kc.length&&r):=by
 unfold zk0 at h;split at h
 ·rename_i ds es;split at h
  ·rename_i hc;simp only [yaa] at hc;cases h;obtain ⟨a,ka,rfl,ea,ra⟩:=hx.dicI;obtain ⟨c,kc,rfl,ec,rc⟩:=hy.dicI;cases rx;cases ry;obtain ⟨_,z1,va,k1,d1⟩:=zeR I.hok ea;obtain ⟨_,z2,vc,k2,d2⟩:=zeR I.hok ec;refine ⟨a,c,va,vc,eqK es ds,rfl,rfl,z1,z2,d1,d2,zic I hK (by simp [Around.in1];omega) k2 rc hc.1.1.2 hc.2 ra k1 hc.1.1.1 hc.1.2,?_⟩;rw [<-k1.length,<-k2.length,ra.length,rc.length]
  ·cases h
 ·cases h
theorem ztY(hK:X.K=cl.K)(hu:X.A.units+64<cLine):OpD X cl (compareOp .Eq) eqD:=by
 intro pins s σ H x y v u Q I rx ry h;obtain ⟨w,d,e,r,rfl,hx,hy,hg,q⟩:=h;unfold eqD at hg;split at hg
 ·rename_i hf;cases hg;rw [yaa] at hf;obtain ⟨as,ra⟩:=zgb I hK hx hf.1 rx;obtain ⟨bs,rb⟩:=zgb I hK hy hf.2 ry;obtain ⟨l1,d1⟩:=D.lay hf.1;obtain ⟨l2,d2⟩:=D.lay hf.2;exact SeqAt.compareEq_reads ra rb l1 l2 (by omega) ⟨.bl _,w.H,I,rfl,q _ w (Grow.refl _) (.bl _)⟩
 ·obtain ⟨b,hb,hg⟩:=yan.mp hg;subst hg;obtain ⟨a,c,ka,kc,r,rfl,rfl,z1,z2,d1,d2,hh,rfl⟩:=zkZ I hK hu hx hy rx ry hb;exact PySem.W.keq_eq z1 z2 d1 d2 (by omega) (fun _=>hh) ⟨.bl _,w.H,I,rfl,q _ w (Grow.refl _) (.bl _)⟩
def zrP(hK:X.K=cl.K)(hu:X.A.units+64<cLine):OpD X cl (compareOp .NotEq) neD:=by
 intro pins s σ H x y v u Q I rx ry h;obtain ⟨w,d,e,r,rfl,hx,hy,hg,q⟩:=h;unfold neD at hg;split at hg
 ·rename_i hf;cases hg;rw [yaa] at hf;obtain ⟨as,ra⟩:=zgb I hK hx hf.1 rx;obtain ⟨bs,rb⟩:=zgb I hK hy hf.2 ry;obtain ⟨l1,d1⟩:=D.lay hf.1;obtain ⟨l2,d2⟩:=D.lay hf.2;exact SeqAt.compareNe_reads ra rb l1 l2 (by omega) ⟨.bl _,w.H,I,rfl,q _ w (Grow.refl _) (.bl _)⟩
 ·obtain ⟨b,hb,hg⟩:=yan.mp hg;subst hg;obtain ⟨a,c,ka,kc,r,rfl,rfl,z1,z2,d1,d2,hh,rfl⟩:=zkZ I hK hu hx hy rx ry hb;exact PySem.W.keq_ne z1 z2 d1 d2 (by omega) (fun _=>hh) ⟨.bl _,w.H,I,rfl,q _ w (Grow.refl _) (.bl _)⟩
noncomputable def zjE:D->Option (List D) | .lst l=>some l | .tup l=>some l | _=>none
noncomputable def zje(d:D)(l:List D):Bool:=l.any fun e=>zdZ e d
def zqr(d e:D):Option Bool:=match d,e with | .str k,.dic ds=>if zaf ds then some (zad k ds).isSome else none | _,_=>none
def inD(d e:D):Option D:=match zjE e with | some l=>if d.fit 8&&D.fits 8 l then some (.bl (zje d l)) else none | none=>(zqr d e).map D.bl
def zlx(d e:D):Option D:=match zjE e with | some l=>if d.fit 8&&D.fits 8 l then some (.bl (!zje d l)) else none | none=>(zqr d e).map fun b=>D.bl (!b)
def zc2{s:Shared}{its:List Value}{d:D}(ra:ReadsAll s.heap its (D.pys ds) as)(f:D.fits 8 ds=true):(its.toArray.any fun y=>(SeqAt.readOf s.heap y).eqv d.py)=zje d ds:=by
 rw [SeqAt.any_by_data (vs:=its.toArray) (xs:=D.pys ds) (as:=as) (by simpa using ra) (D.lays f).1]
 have:∀{l:List D},((D.pys l).any fun y=>y.eqv d.py)=zje d l:=by
  intro l
  induction l with
  | nil=>rfl
  | cons e l ih =>
   show (e.py.eqv d.py||(D.pys l).any fun y=>y.eqv d.py)=(zdZ e d||zje d l);rw [ih];rfl
 exact this
theorem zbT{A:Around}{s:Shared}{d:D}(hu:A.units+64<cLine)(rx:Reads s.heap x d.py bs)(fd:d.fit 8=true):∀{its:List Value} {ds:List D} {as:List Addr},ReadsAll s.heap its (D.pys ds) as->D.fits 8 ds=true->∀y,y∈its.toArray->SeqAt.EqAt A.in1 s y x ((SeqAt.readOf s.heap y).eqv d.py)
 | [],[],_,_,_,y,hy=>by simp at hy
 | [],_::_,_,h,_,_,_=>by cases h
 | _::_,[],_,h,_,_,_=>by cases h
 | v::its,e::ds,_,h,f,y,hy=>by
  simp only [D.fits,yaa] at f
  cases h with
  | cons h1 h2 =>
   simp at hy
   rcases hy with rfl | hy
   ·rw [zg2 (D.lay f.1).1 h1];refine SeqAt.eqAt_reads _ _ _ _ _ _ _ _ h1 rx (D.lay f.1).1 (D.lay fd).1 ?_;have:=(D.lay f.1).2;show A.units+1+_<cLine;omega
   ·exact zbT hu rx fd h2 f.2 y (by simpa using hy)
def zjD(h:zjE e=some l):e=.lst l\/e=.tup l:=by
 cases e<;>simp [zjE] at h
 ·exact .inr (by rw [h])
 ·exact .inl (by rw [h])
def znP{w:Wd}{x y:V}{d e:D}{b:Bool}(hx:TopV cl w x d)(hy:TopV cl w y e)(h:zqr d e=some b):∃a ov,y=.ref a/\zhB w.H a x ov/\ov.isSome=b:=by
 unfold zqr at h;split at h
 ·rename_i k ds;split at h
  ·rename_i ho;cases h;obtain ⟨a,kvs,rfl,ea,ra⟩:=hy.dicI;obtain rfl:=hx.strI;refine ⟨a,_,rfl,.inl ⟨kvs,.inr k,ea,rfl,rfl⟩,?_⟩
   rcases zb8 k ra ho with ⟨h1,h2⟩ | ⟨_,_,h1,h2,_⟩<;>rw [h1,h2]<;>rfl
  ·cases h
 ·cases h
theorem ztX(hK:X.K=cl.K)(hu:X.A.units+64<cLine):OpD X cl (compareOp .In) inD:=by
 intro pins s σ H x y v u Q I rx ry h;obtain ⟨w,d,e,r,rfl,hx,hy,hg,q⟩:=h;unfold inD at hg;split at hg
 ·rename_i l hl;split at hg
  ·rename_i hf;cases hg;rw [yaa] at hf;obtain ⟨bs,rb⟩:=zgb I hK hx hf.1 rx
   rcases zjD hl with rfl | rfl
   ·obtain ⟨a,xs,rfl,e,rs⟩:=hy.lstI;cases ry;obtain ⟨its,rv,p,_⟩:=I.list (SqL.of (K:=X.K) e);obtain ⟨as,ra⟩:=zc4 I hK rs hf.2 rv;refine SeqAt.in_listAt _ p.isList (zbT hu rb hf.1 ra hf.2) ?_;rw [zc2 ra hf.2];exact ⟨.bl _,w.H,I,rfl,q _ w (Grow.refl _) (.bl _)⟩
   ·obtain ⟨a,xs,rfl,e,_,rs⟩:=hy.tupI;cases ry;obtain ⟨its,rv,p,_⟩:=I.tuple (SqT.of (K:=X.K) e);obtain ⟨as,ra⟩:=zc4 I hK rs hf.2 rv;refine SeqAt.in_tupleAt _ p (zbT hu rb hf.1 ra hf.2) ?_;rw [zc2 ra hf.2];exact ⟨.bl _,w.H,I,rfl,q _ w (Grow.refl _) (.bl _)⟩
  ·cases hg
 ·obtain ⟨b,hb,hg⟩:=yan.mp hg;subst hg;obtain ⟨a,ov,rfl,g,rfl⟩:=znP hx hy hb;cases ry;exact zvS (by omega) I g rx fun s' I'=>⟨.bl _,w.H,I',rfl,q _ w (Grow.refl _) (.bl _)⟩
def zrO(hK:X.K=cl.K)(hu:X.A.units+64<cLine):OpD X cl (compareOp .NotIn) zlx:=by
 intro pins s σ H x y v u Q I rx ry h;obtain ⟨w,d,e,r,rfl,hx,hy,hg,q⟩:=h;unfold zlx at hg;split at hg
 ·rename_i l hl;split at hg
  ·rename_i hf;cases hg;rw [yaa] at hf;obtain ⟨bs,rb⟩:=zgb I hK hx hf.1 rx
   rcases zjD hl with rfl | rfl
   ·obtain ⟨a,xs,rfl,e,rs⟩:=hy.lstI;cases ry;obtain ⟨its,rv,p,_⟩:=I.list (SqL.of (K:=X.K) e);obtain ⟨as,ra⟩:=zc4 I hK rs hf.2 rv;refine SeqAt.notIn_listAt _ p.isList (zbT hu rb hf.1 ra hf.2) ?_;rw [zc2 ra hf.2];exact ⟨.bl _,w.H,I,rfl,q _ w (Grow.refl _) (.bl _)⟩
   ·obtain ⟨a,xs,rfl,e,_,rs⟩:=hy.tupI;cases ry;obtain ⟨its,rv,p,_⟩:=I.tuple (SqT.of (K:=X.K) e);obtain ⟨as,ra⟩:=zc4 I hK rs hf.2 rv;refine SeqAt.notIn_tupleAt _ p (zbT hu rb hf.1 ra hf.2) ?_;rw [zc2 ra hf.2];exact ⟨.bl _,w.H,I,rfl,q _ w (Grow.refl _) (.bl _)⟩
  ·cases hg
 ·obtain ⟨b,hb,hg⟩:=yan.mp hg;subst hg;obtain ⟨a,ov,rfl,g,rfl⟩:=znP hx hy hb;cases ry;exact zk5 (by omega) I g rx fun s' I'=>⟨.bl _,w.H,I',rfl,q _ w (Grow.refl _) (.bl _)⟩
def zci:D->D->Option D
 | .int i,.int j=>some (.int (i+j))
 | .tup a,.tup b=>if small (a.length+b.length) then some (.tup (a++b)) else none
 | .lst a,.lst b=>if small (a.length+b.length) then some (.lst (a++b)) else none
 | .str a,.str b=>if small (a.length+b.length) then some (.str (a++b)) else none
 | _,_=>none
def znE:OpD X cl (binaryOp .Add) zci:=by
 intro pins s σ H x y v u Q I rx ry h;obtain ⟨w,d,e,r,rfl,hx,hy,hg,q⟩:=h;unfold zci at hg;split at hg
 ·cases hg;rename_i i j;obtain rfl:=hx.intI;obtain rfl:=hy.intI;exact zrJ pins s σ w.H _ _ v u Q I rx ry ⟨i,j,rfl,rfl,q _ w (Grow.refl _) (.int _)⟩
 ·rename_i a b;split at hg
  ·rename_i hz;cases hg;obtain ⟨p,xs,rfl,ep,kp,rs⟩:=hx.tupI;obtain ⟨p2,ys,rfl,ep2,kp2,rs2⟩:=hy.tupI
   by_cases hxe:xs=[]
   ·subst hxe;cases rs;exact zmj pins s σ w.H _ _ v u Q I rx ry ⟨p,p2,ys,rfl,rfl,SqT.of ep,SqT.of ep2,q _ w (Grow.refl _) (.tup ep2 kp2 rs2)⟩
   ·refine zpi pins s σ w.H _ _ v u Q I rx ry ⟨p,p2,xs,ys,rfl,rfl,SqT.of ep,SqT.of ep2,hxe,by rw [rs.length,rs2.length];exact zaZ hz,fun z=>?_,fun z l hl=>?_⟩
    ·subst z;cases rs2;rw [yaY] at q;exact q _ w (Grow.refl _) (.tup ep kp rs)
    ·exact q _ (w.add l _) (zaD hl _) (Shd.newT hl (rs.append rs2))
  ·cases hg
 ·rename_i a b;split at hg
  ·rename_i hz;cases hg;obtain ⟨p,xs,rfl,ep,rs⟩:=hx.lstI;obtain ⟨p2,ys,rfl,ep2,rs2⟩:=hy.lstI;exact zrI pins s σ w.H _ _ v u Q I rx ry ⟨p,p2,xs,ys,rfl,rfl,ep,ep2,by rw [rs.length,rs2.length];exact zaZ hz,fun l hl=>q _ (w.add l _) (zaD hl _) (Shd.newL hl (rs.append rs2))⟩
  ·cases hg
 ·rename_i a b;split at hg
  ·rename_i hz;cases hg;obtain rfl:=hx.strI;obtain rfl:=hy.strI;exact ziP pins s σ w.H _ _ v u Q I rx ry ⟨a,b,rfl,rfl,zaZ hz,q _ w (Grow.refl _) (.str _)⟩
  ·cases hg
 ·cases hg
noncomputable def ztv:D->D->Option D | .int i,.int j=>some (.int (i-j)) | _,_=>none
def zrN:OpD X cl (binaryOp .Sub) ztv:=by
 intro pins s σ H x y v u Q I rx ry h;obtain ⟨w,d,e,r,rfl,hx,hy,hg,q⟩:=h;unfold ztv at hg;split at hg
 ·cases hg;rename_i i j;obtain rfl:=hx.intI;obtain rfl:=hy.intI;exact zrD pins s σ w.H _ _ v u Q I rx ry ⟨i,j,rfl,rfl,q _ w (Grow.refl _) (.int _)⟩
 ·cases hg
noncomputable def zbV(i:Int):Bool:=decide (-(2 ^ 64)<i/\i<2 ^ 64)
def ziQ:D->D->Option D
 | .int i,.int j=>if zbV i||zbV j then some (.int (i*j)) else none
 | _,_=>none
theorem zrQ:OpD X cl (binaryOp .Mult) ziQ:=by
 intro pins s σ H x y v u Q I rx ry h;obtain ⟨w,d,e,r,rfl,hx,hy,hg,q⟩:=h;unfold ziQ at hg;split at hg
 ·rename_i i j;split at hg
  ·rename_i hz;cases hg;obtain rfl:=hx.intI;obtain rfl:=hy.intI;refine zrE pins s σ w.H _ _ v u Q I rx ry ⟨i,j,rfl,rfl,?_,q _ w (Grow.refl _) (.int _)⟩;rw [ycu] at hz;exact hz.imp (fun z=>yaq z) fun z=>yaq z
  ·cases hg
 ·cases hg
noncomputable def znH:D->D->Option D | .int i,.int j=>if 0<j then some (.int (i % j)) else none | _,_=>none
noncomputable def zsw:D->D->Option D | .int i,.int j=>if 0<j/\j<1073741824 then some (.int (i / j)) else none | _,_=>none
def zrR:OpD X cl (binaryOp .Mod) znH:=by
 intro pins s σ H x y v u Q I rx ry h;obtain ⟨w,d,e,r,rfl,hx,hy,hg,q⟩:=h;unfold znH at hg;split at hg
 ·rename_i i j;split at hg
  ·rename_i hz;cases hg;obtain rfl:=hx.intI;obtain rfl:=hy.intI;exact zrF pins s σ w.H _ _ v u Q I rx ry ⟨i,j,rfl,rfl,hz,q _ w (Grow.refl _) (.int _)⟩
  ·cases hg
 ·cases hg
def zrU:OpD X cl (binaryOp .FloorDiv) zsw:=by
 intro pins s σ H x y v u Q I rx ry h;obtain ⟨w,d,e,r,rfl,hx,hy,hg,q⟩:=h;unfold zsw at hg;split at hg
 ·rename_i i j;split at hg
  ·rename_i hz;cases hg;obtain rfl:=hx.intI;obtain rfl:=hy.intI;exact zph pins s σ w.H _ _ v u Q I rx ry ⟨i,j,rfl,rfl,hz,q _ w (Grow.refl _) (.int _)⟩
  ·cases hg
 ·cases hg
noncomputable def zqt(p:Int->Int->Bool):D->D->Option D | .int i,.int j=>some (.bl (p i j)) | _,_=>none
def zfq(ho:OpR X (compareOp op) (rI0 fun i j=>.bl (p i j))):OpD X cl (compareOp op) (zqt p):=by
 intro pins s σ H x y v u Q I rx ry h;obtain ⟨w,d,e,r,rfl,hx,hy,hg,q⟩:=h;unfold zqt at hg;split at hg
 ·cases hg;rename_i i j;obtain rfl:=hx.intI;obtain rfl:=hy.intI;exact ho pins s σ w.H _ _ v u Q I rx ry ⟨i,j,rfl,rfl,q _ w (Grow.refl _) (.bl _)⟩
 ·cases hg
noncomputable def zt1:D->D->Option D
 | .str a,.str b=>some (.bl (!decide (b.cps.toList<a.cps.toList)))
 | d,e=>zqt (fun i j=>decide (i<=j)) d e
def zrS:OpD X cl (compareOp .LtE) zt1:=by
 intro pins s σ H x y v u Q I rx ry h;obtain ⟨w,d,e,r,rfl,hx,hy,hg,q⟩:=h;unfold zt1 at hg;split at hg
 ·cases hg;rename_i a b;obtain rfl:=hx.strI;obtain rfl:=hy.strI;exact zrG pins s σ w.H _ _ v u Q I rx ry ⟨a,b,rfl,rfl,q _ w (Grow.refl _) (.bl _)⟩
 ·exact zfq ztU pins s σ w.H _ _ v u Q I rx ry ⟨w,_,_,r,rfl,hx,hy,hg,q⟩
noncomputable def zdC:D->Bool | .non=>true | _=>false
def zly(d e:D):Option D:=if zdC e then some (.bl (zdC d)) else none
def TopV.non_iff(h:TopV cl w v d):decide (v=.non)=zdC d:=by
 cases h with
 | sh h=>cases h<;>simp [zdC]
 | ow e t=>cases t<;>simp [zdC]
def zgu(h:zdC d=true):d=.non:=by cases d<;>simp [zdC] at h;rfl
def zrT:OpD X cl (compareOp .Is) zly:=by
 intro pins s σ H x y v u Q I rx ry h;obtain ⟨w,d,e,r,rfl,hx,hy,hg,q⟩:=h;unfold zly at hg;split at hg
 ·rename_i hz;cases hg;rw [zgu hz] at hy;obtain rfl:=hy.nonI;refine zrH pins s σ w.H _ _ v u Q I rx ry ⟨rfl,?_⟩;rw [hx.non_iff];exact q _ w (Grow.refl _) (.bl _)
 ·cases hg
def ixD:D->D->Option D
 | .lst l,.int i=>atI l i
 | .tup l,.int i=>atI l i
 | .scr l,.int i=>(atI l i).map D.int
 | .dic ds,.str k=>if zaf ds then zad k ds else none
 | _,_=>none
def zhV(r:Shds cl w xs ds)(h:atI ds i=some d):∃v,atI xs i=some v/\Shd cl w v d:=by
 unfold atI at h ⊢;rw [r.length]
 cases e:ixN ds.length i with
 | none=>rw [e] at h;cases h
 | some j =>
  rw [e] at h;exact r.at h
def zpD(hu:X.A.units+64<cLine):IxR X fun x y H Q=>∃a z,x=.ref a/\zhB H a y (some z)/\Q z H:=by
 intro value slice pins s σ H x y v u Q I rx ry h hs;obtain ⟨a,z,rfl,g,q⟩:=h;cases rx;have hT:=zeB I g;unfold subscriptTail;refine yab ?_;rw [getitemInPython_of_ne hT.not_modules];refine yab (wpAny_specialOf hT PySem.F.slot_dict_getitem.lookup ?_)
 have fin:wpAny (model X.prog X.w) X.A (subscripted slice false (.ref a) u) (fun r s₃=>wpAny (model X.prog X.w) X.A (letTemporaryGo value (.ref a) r >>= fun _=>pure r) (EP X pins σ Q) X.xe s₃) X.xe s:=by
  rw [hs];exact wpAny_operating (zgH (by omega) I g ry fun w' s3 I3 rw'=>yab (wpAny_letTemporaryGo (yal ⟨z,H,I3,rw',q⟩)))
 first
  | exact yal (yab fin)
  | exact yab (yal (yab fin))
  | exact yab fin
def zsi(hK:X.K=cl.K)(hu:X.A.units+64<cLine):IxD X cl ixD:=by
 intro value slice pins s σ H x y v u Q I rx ry h hsub;obtain ⟨w,d,e,r,rfl,hx,hy,hg,q⟩:=h;unfold ixD at hg;split at hg
 ·rename_i l i;obtain ⟨p,xs,rfl,ep,rs⟩:=hx.lstI;obtain rfl:=hy.intI;obtain ⟨z,e1,e2⟩:=zhV rs hg;exact zkB value slice pins s σ w.H _ _ v u Q I rx ry ⟨p,xs,i,z,rfl,rfl,SqL.of ep,e1,q _ w (Grow.refl _) e2⟩ hsub
 ·rename_i l i;obtain ⟨p,xs,rfl,ep,_,rs⟩:=hx.tupI;obtain rfl:=hy.intI;obtain ⟨z,e1,e2⟩:=zhV rs hg;exact zse value slice pins s σ w.H _ _ v u Q I rx ry ⟨p,xs,i,z,rfl,rfl,SqT.of ep,e1,q _ w (Grow.refl _) e2⟩ hsub
 ·rename_i l i;obtain ⟨p,rfl,ep⟩:=hx.scrI hK;obtain rfl:=hy.intI
  cases hl:atI l i with
  | none=>rw [hl] at hg;cases hg
  | some k =>
   rw [hl] at hg;cases hg
   have e1:atI (l.map V.int) i=some (.int k):=by
    unfold atI at hl ⊢;rw [yad]
    cases e:ixN l.length i with
    | none=>rw [e] at hl;cases hl
    | some j =>
     rw [e] at hl;have hl':l[j]?=some k:=hl;show (l.map V.int)[j]?=_;rw [yao,hl'];rfl
   exact zkB value slice pins s σ w.H _ _ v u Q I rx ry ⟨p,_,i,_,rfl,rfl,ep,e1,q _ w (Grow.refl _) (.int _)⟩ hsub
 ·rename_i ds k;split at hg
  ·rename_i ho;obtain ⟨a,kvs,rfl,ea,ra⟩:=hx.dicI;obtain rfl:=hy.strI
   rcases zb8 k ra ho with ⟨_,h2⟩ | ⟨z,d',h1,h2,h3⟩
   ·rw [h2] at hg;cases hg
   ·rw [h2] at hg;cases hg;exact zpD hu value slice pins s σ w.H _ _ v u Q I rx ry ⟨a,z,rfl,.inl ⟨kvs,.inr k,ea,rfl,h1.symm⟩,q _ w (Grow.refl _) h3⟩ hsub
  ·cases hg
 ·cases hg
def zcH:List D->Option D
 | [.lst l]=>some (.int l.length)
 | [.tup l]=>some (.int l.length)
 | [.scr l]=>some (.int l.length)
 | [.str x]=>if small x.length then some (.int x.length) else none
 | _=>none
def zsF(hK:X.K=cl.K):zlw X cl (.builtin "len") zcH:=by
 intro pins s σ H xs us Q I r h;obtain ⟨w,ds,d,rfl,hx,hg,q⟩:=h;unfold zcH at hg;split at hg
 ·rename_i l;cases hg
  cases hx with
  | cons h1 h2 =>
   cases h2;obtain ⟨p,ys,rfl,ep,rs⟩:=h1.lstI;refine zb5 pins s σ w.H _ us Q I r ⟨p,ys,rfl,.inl (SqL.of ep),?_⟩;rw [rs.length];exact q _ w (Grow.refl _) (.int _)
 ·rename_i l;cases hg
  cases hx with
  | cons h1 h2 =>
   cases h2;obtain ⟨p,ys,rfl,ep,_,rs⟩:=h1.tupI;refine zb5 pins s σ w.H _ us Q I r ⟨p,ys,rfl,.inr (SqT.of ep),?_⟩;rw [rs.length];exact q _ w (Grow.refl _) (.int _)
 ·rename_i l;cases hg
  cases hx with
  | cons h1 h2 =>
   cases h2;obtain ⟨p,rfl,ep⟩:=h1.scrI hK;refine zb5 pins s σ w.H _ us Q I r ⟨p,l.map V.int,rfl,.inl ep,?_⟩;rw [yad];exact q _ w (Grow.refl _) (.int _)
 ·rename_i x;split at hg
  ·rename_i hz;cases hg
   cases hx with
   | cons h1 h2 =>
    cases h2;obtain rfl:=h1.strI;exact zgL pins s σ w.H _ us Q I r ⟨x,rfl,zaZ hz,q _ w (Grow.refl _) (.int _)⟩
  ·cases hg
 ·cases hg
noncomputable def zcB:List D->Option D
 | [.lst l]=>some (.tup l)
 | [.tup l]=>some (.tup l)
 | _=>none
def zmW:zlw X cl (.type "tuple") zcB:=by
 intro pins s σ H xs us Q I r h;obtain ⟨w,ds,d,rfl,hx,hg,q⟩:=h;unfold zcB at hg;split at hg
 ·rename_i l;cases hg
  cases hx with
  | cons h1 h2 =>
   cases h2;obtain ⟨p,ys,rfl,ep,rs⟩:=h1.lstI;exact zds pins s σ w.H _ us Q I r ⟨p,ys,rfl,.inl ⟨SqL.of ep,fun l hl=>q _ (w.add l _) (zaD hl _) (Shd.newT hl rs)⟩⟩
 ·rename_i l;cases hg
  cases hx with
  | cons h1 h2 =>
   cases h2;obtain ⟨p,ys,rfl,ep,kp,rs⟩:=h1.tupI;exact zds pins s σ w.H _ us Q I r ⟨p,ys,rfl,.inr ⟨SqT.of ep,q _ w (Grow.refl _) (.tup ep kp rs)⟩⟩
 ·cases hg
noncomputable def zfM:List D->Option (List Bool)
 | []=>some []
 | .bl b::l=>(zfM l).map (b::·)
 | _=>none
def zm3:∀{xs:List V},Shds cl w xs ds->zfM ds=some bs->xs=bs.map V.bl:=by
 induction ds generalizing bs with
 | nil=>intro xs r h;cases r;cases h;rfl
 | cons d ds ih =>
  intro xs r e
  cases r with
  | cons h t =>
   cases d with
   | bl b =>
    cases h;unfold zfM at e
    cases hr:zfM ds with
    | none=>rw [hr] at e;cases e
    | some cs=>rw [hr] at e;cases e;rw [ih t hr];rfl
   | _=>cases e
def zlz:List D->Option D
 | [.lst l]=>(zfM l).map fun bs=>.bl (bs.all id)
 | _=>none
def zsG(hc:X.calm=true):zlw X cl (.builtin "all") zlz:=by
 intro pins s σ H xs us Q I r h;obtain ⟨w,ds,d,rfl,hx,hg,q⟩:=h;unfold zlz at hg;split at hg
 ·rename_i l
  cases hb:zfM l with
  | none=>rw [hb] at hg;cases hg
  | some bs =>
   rw [hb] at hg;cases hg
   cases hx with
   | cons h1 h2 =>
    cases h2;obtain ⟨p,ys,rfl,ep,rs⟩:=h1.lstI;obtain rfl:=zm3 rs hb;exact zhw hc pins s σ w.H _ us Q I r ⟨p,bs,rfl,SqL.of ep,q _ w (Grow.refl _) (.bl _)⟩
 ·cases hg
noncomputable def zdP:List D->Option (List Int)
 | []=>some []
 | .int b::l=>(zdP l).map (b::·)
 | _=>none
def zkE:∀{xs:List V},Shds cl w xs ds->zdP ds=some bs->xs=bs.map V.int:=by
 induction ds generalizing bs with
 | nil=>intro xs r h;cases r;cases h;rfl
 | cons d ds ih =>
  intro xs r e
  cases r with
  | cons h t =>
   cases d with
   | int b =>
    cases h;unfold zdP at e
    cases hr:zdP ds with
    | none=>rw [hr] at e;cases e
    | some cs=>rw [hr] at e;cases e;rw [ih t hr];rfl
   | _=>cases e
end
end S2
namespace L2
open PySem PySem.Spec PyProof.Rows
def Itk(a:Addr)(ob:Obj)(kvs:List (Key×V)):It:=⟨fun i H=>H a=some (.frz ob (.dK kvs))/\i<kvs.length,fun i H v H'=>H'=H/\∃x,(kvs.map (·.1))[i]?=some (.inr x)/\v=.str x,fun i H=>H a=some (.frz ob (.dK kvs))/\i=kvs.length⟩
def zpx{P:Program}{w:World}{x:Str}{v:Value}(h:(zaA P w).is (.inr x) v=true):∃t,v=.str x t:=by
 have h':Value.isStrOf x v=true:=h
 cases v<;>first | (cases h';done) | skip
 rename_i y t
 have e:y=x:=by simpa [Value.isStrOf] using h'
 exact ⟨t,by rw [e]⟩
def znQ{X:Cx}{pins:Z3}{σ:St}{H:Hp}{s:Shared}{a:Addr}{ob:Obj}{kvs:List (Key×V)}{es:Array DictEntry}{ep:Nat}(I:Inv X pins σ H s)(e:H a=some (.frz ob (.dK kvs)))(hd:ob.data=.dict es ep):∃vs,KV kvs vs/\s.heap.DictAt (zaA X.prog X.w) a vs ep:=by
 obtain ⟨g,x⟩:=(show zaT X.prog X.w H s.heap a (.frz ob (.dK kvs)) from I.hok a _ e);obtain ⟨_,_,vs,r,o',es',ep',g',c,d,za7⟩:=(show zaT X.prog X.w H s.heap a (.dK kvs) from x);rw [g] at g';cases g';rw [hd] at d;cases d;exact ⟨vs,r,ob,es,g,c,hd,za7⟩
def zjj{P:Program}{w:World}{K:PySem.W.Frag}{tg:Expr}(it a:Addr)(ob:Obj)(kvs:List (Key×V))(es:Array DictEntry)(ep:Nat)(hd:ob.data=.dict es ep)(ks:List Str)(hks:kvs.map (·.1)=ks.map Sum.inr):Turn P w K tg (Itk a ob kvs) [it] it (fun i h=>h.IsKeyIter it a i kvs.length ep) where
 mem:=by simp
 obj:=fun i h st b hb=>by
  have e:b=it:=by simpa using hb
  subst e;obtain ⟨o,e,c,d⟩:=st;exact ⟨o,e,fun v z=>by rw [d] at z;cases z⟩
 keep:=fun i h h' st k=>by
  obtain ⟨o,e,r⟩:=st;exact ⟨o,k it (by simp) o e,r⟩
 item:=by
  intro X hP hw hK hc i pins s σ H E I hf st hg;subst hP hw hK;obtain ⟨f0,f1,f2,f3,f4,f5⟩:=hf it (by simp);obtain ⟨vs,r,da⟩:=znQ I hg.1 hd
  have hne:a≠it:=fun z=>by have h1:H a=_:=hg.1;rw [z,f0] at h1;cases h1
  have st':s.heap.IsKeyIter it a i vs.length ep:=by rw [<-r.length];exact st
  refine (Walks.dictKeys (I.ok.hd hc) it a hne vs ep).item i s _ _ (by rw [<-r.length];exact hg.2) ⟨st',da⟩ fun v h' tk hv st2 kk=>?_
  obtain ⟨k,x,hx,hk⟩:=hv;have I1:Inv X pins σ H { s with heap:=h',toks:=tk }:=I.turned (fun b o hb e=>kk b o (by simpa using hb) e) f0 f1 f3 f4 f5
  have hki:(kvs.map (·.1))[i]?=some k:=by rw [r.keys,yao,hx];rfl
  have hki':=hki;rw [hks,yao] at hki';obtain ⟨y,hy,ek⟩:=yan.mp hki';subst ek;have st3:=st2.1;rw [<-r.length] at st3;obtain ⟨o,e,c',d⟩:=id st3;exact ⟨_,rfl,zkL (s:={ s with heap:=h',toks:=tk }) e c' d (by decide) ⟨.str y,H,I1,zpx hk,⟨rfl,y,hki,rfl⟩,st3,fun b hb=>(hf b hb).1⟩⟩
 done:=by
  intro X hP hw hK hc i pins s σ H E I hf st hg;subst hP hw hK;obtain ⟨f0,f1,f2,f3,f4,f5⟩:=hf it (by simp);obtain ⟨vs,r,da⟩:=znQ I hg.1 hd
  have hne:a≠it:=fun z=>by have h1:H a=_:=hg.1;rw [z,f0] at h1;cases h1
  have hi:i=vs.length:=by rw [<-r.length];exact hg.2
  have st':s.heap.IsKeyIter it a vs.length vs.length ep:=by
   have:=st;rwa [r.length,hi] at this
  exact (Walks.dictKeys (I.ok.hd hc) it a hne vs ep).done s _ _ ⟨st',da⟩ fun h' tk kk=>⟨rfl,I.turned (fun b o hb e=>kk b o (by simpa using hb) e) f0 f1 f3 f4 f5⟩
 self:=fun A i s Q E st h=>wpAny_pyIter_keyiter st h
noncomputable def zw4(tl:TE):TI:=fun σ H R=>tl σ H fun v H1=>∃a ob kvs,v=.ref a/\H1 a=some (.frz ob (.dK kvs))/\(∃ks:List Str,kvs.map (·.1)=ks.map Sum.inr)/\R (Itk a ob kvs) H1
def zo9{X:Cx}{tg l:Expr}{tl:TE}(hl:PE X l tl):PI X tg l (zw4 tl):=by
 intro pins s σ H R I h;refine thn (hl pins s σ H _ I h) fun v s1 ⟨x,H1,I1,r1,q1⟩=>?_
 obtain ⟨a,ob,kvs,e,ha,⟨ks,hks⟩,q⟩:=q1;subst e;cases r1;obtain ⟨g,x⟩:=(show zaT X.prog X.w H1 s1.heap a (.frz ob (.dK kvs)) from I1.hok a _ ha);obtain ⟨_,z,vs,r,o',es,ep,g',c,d,za7⟩:=(show zaT X.prog X.w H1 s1.heap a (.dK kvs) from x)
 have eo:o'=ob:=by rw [g] at g';cases g';rfl
 subst eo;have da:s1.heap.DictAt (zaA X.prog X.w) a vs ep:=⟨o',es,g,c,d,za7⟩;refine wpAny_pyIter_dict z da ?_;refine ⟨s1.heap.objs.size,[s1.heap.objs.size],_,_,H1,rfl,I1.kept (t':=s1.toks) fun b o e=>yae _ e,zjj _ a o' kvs es ep d ks hks,?_,fun b hb=>?_,q⟩
 ·rw [r.length];exact ⟨_,yap _ rfl,rfl,rfl⟩
 ·have e:b=s1.heap.objs.size:=by simpa using hb
  subst e;exact I1.fpOk (yai _) (I1.hok.fresh (yai _))
end L2
namespace S2
open PySem PySem.Spec PyProof.Rows L2
def zcO(g g':D->D->Option D)(f h k:Fe):Fe:=fun ρ S=>(f ρ S).bind fun a S1=>(h ρ S1).bind fun b S2=>match (g a b).bind isB with
 | some true=>(k ρ S2).bind fun c S3=>Out.of (g' b c) S3
 | some false=>.ok (.bl false) S2
 | none=>.bad
section
variable{X:Cx}{cl:Cf}{E:St->XK}{a b c e:Expr}{f h k:Fe}{pos:Pos}
def zhN(hr:∀x y H Q,(∃w d e r,w.H=H/\TopV cl w x d/\TopV cl w y e/\g d e=some r/\∀v w',Grow w w'->Shd cl w' v r->Q v w'.H)->r x y H Q)
  (hr':∀x y H Q,(∃w d e r,w.H=H/\TopV cl w x d/\TopV cl w y e/\g' d e=some r/\∀v w',Grow w w'->Shd cl w' v r->Q v w'.H)->r' x y H Q) (q:tE cl E (zcO g g' f h k) σ H Q):zjt r r' (tH cl E f) (tH cl E h) (tH cl E k) σ H Q:=by
 obtain ⟨B,w,ρ,S,rfl,R,q⟩:=q;refine ⟨B,w,ρ,S,rfl,R,?_⟩;unfold zcO at q
 cases hf:f ρ S with
 | bad=>rwa [hf] at q
 | exc c S1=>rwa [hf] at q
 | ok d S1 =>
  rw [hf] at q;intro v w1 R1 F1 h1;refine ⟨B,w1,ρ,S1,rfl,R1,?_⟩;dsimp only [Out.bind] at q
  cases hh:h ρ S1 with
  | bad=>rwa [hh] at q
  | exc c S2=>rw [hh] at q;exact fun w2 R2 F2=>q w2 R2 (F1.trans F2)
  | ok e S2 =>
   rw [hh] at q;intro y w2 R2 F2 h2;dsimp only at q
   cases hg:g d e with
   | none=>rw [hg] at q;exact q.elim
   | some z =>
    rw [hg] at q;dsimp only [Option.bind] at q
    cases hb:isB z with
    | none=>rw [hb] at q;exact q.elim
    | some bb =>
     rw [hb] at q;rw [zcX hb] at hg;refine hr _ _ _ _ ⟨w2,d,e,_,rfl,(h1.up F2).top R2,h2.top R2,hg,fun v' w3 gr sh=>⟨bb,zf4 sh,?_⟩⟩;have R3:=R2.grow gr
     cases bb with
     | false=>exact znL (q _ w3 R3 (F1.trans (F2.trans gr.fut)) (.bl _))
     | true =>
      refine znK ⟨B,w3,ρ,S2,rfl,R3,?_⟩;dsimp only at q
      cases hk:k ρ S2 with
      | bad=>rwa [hk] at q
      | exc c S3=>rw [hk] at q;exact fun w4 R4 F4=>q w4 R4 (F1.trans (F2.trans (gr.fut.trans F4)))
      | ok c S3 =>
       rw [hk] at q;intro z' w4 R4 F4 h4;dsimp only at q
       cases hg':g' e c with
       | none=>rw [hg'] at q;exact q.elim
       | some r2 =>
        rw [hg'] at q;exact hr' _ _ _ _ ⟨w4,e,c,r2,rfl,(h2.up (gr.fut.trans F4)).top R4,h4.top R4,hg',fun v' w5 gr5 sh5=>q v' w5 (R4.grow gr5) (F1.trans (F2.trans (gr.fut.trans (F4.trans gr5.fut)))) sh5⟩
def zlN(ho:OpD X cl (compareOp op) g)(ho':OpD X cl (compareOp op') g')(ha:PE X a (tH cl E f))(hb:PE X b (tH cl E h))(hc:PE X c (tH cl E k))(hm:lastMarks [op,op'] [b,c]=false):PE X (.Compare a [op,op'] [b,c] pos) (tE cl E (zcO g g' f h k)) :=
 PE.imp (zme ho ho' ha hb hc hm) fun _ _ _ q=>zhN (fun _ _ _ _ z=>z) (fun _ _ _ _ z=>z) q
def zlH(ho:OpD X cl (compareOp op) g)(ho':OpD X cl (compareOp op') g')(ha:PE X a (tH cl E f))(hb:PE X b (tH cl E h))(hc:PE X c (tH cl E k))(hm:lastMarks [op,op'] [b,c]=false):PT X (.Compare a [op,op'] [b,c] pos) (tTr cl E (zcO g g' f h k)) :=
 PT.imp (zl2 ho ho' ha hb hc hm) fun _ _ _ q=>zhN (fun _ _ _ _ z=>z) (fun _ _ _ _ z=>z) (zfZ q)
def zvT{α:Type}(l:List α)(lo hi:Option Int):List α:=(l.drop (HT.sIx l.length 0 lo)).take (HT.sIx l.length l.length hi-HT.sIx l.length 0 lo)
def slD(d:D)(lo hi:Option Int):Option D:=match d with
 | .lst l=>some (.lst (zvT l lo hi))
 | .tup l=>some (.tup (zvT l lo hi))
 | _=>none
def zdS(o:Option Fe)(ρ:Env)(S:Sto):Out (Option Int):=match o with
 | none=>.ok none S
 | some f=>(f ρ S).bind fun d S1=>match d with | .int i=>.ok (some i) S1 | _=>.bad
def eSl(f:Fe)(lo hi:Option Fe):Fe:=fun ρ S=>(f ρ S).bind fun d S1=>(zdS lo ρ S1).bind fun l S2=>(zdS hi ρ S2).bind fun u S3=>Out.of (slD d l u) S3
noncomputable def zdR(T:String)(d:D):Option D :=
 if T = "int" then (match d with | .int _=>some (.bl true) | .bl _=>some (.bl true) | .non=>some (.bl false) | .str _=>some (.bl false) | .tup _=>some (.bl false) | .lst _=>some (.bl false) | _=>none)
 else if T = "bool" then (match d with | .int _=>some (.bl false) | .bl _=>some (.bl true) | .non=>some (.bl false) | .str _=>some (.bl false) | .tup _=>some (.bl false) | .lst _=>some (.bl false) | _=>none)
 else if T = "tuple" then (match d with | .int _=>some (.bl false) | .bl _=>some (.bl false) | .non=>some (.bl false) | .str _=>some (.bl false) | .tup _=>some (.bl true) | .lst _=>some (.bl false) | _=>none)
 else if T = "str" then (match d with | .int _=>some (.bl false) | .bl _=>some (.bl false) | .non=>some (.bl false) | .str _=>some (.bl true) | .tup _=>some (.bl false) | .lst _=>some (.bl false) | _=>none)
 else if T = "list" then (match d with | .int _=>some (.bl false) | .bl _=>some (.bl false) | .non=>some (.bl false) | .str _=>some (.bl false) | .tup _=>some (.bl false) | .lst _=>some (.bl true) | _=>none)
 else none
def zpJ{K:PySem.W.Frag}{w:Wd}(h:TopV cl w v d)(hg:zdR T d=some r):∃t b,TyOf K w.H v t/\PySem.W.kitOne K t (.type T)=some b/\r=.bl b:=by
 unfold zdR at hg;split at hg
 ·rename_i hT;subst hT
  split at hg<;>cases hg
  ·obtain rfl:=h.intI;exact ⟨_,_,.int _,by with_unfolding_all rfl,rfl⟩
  ·obtain rfl:=h.blI;exact ⟨_,_,.bl _,by with_unfolding_all rfl,rfl⟩
  ·obtain rfl:=h.nonI;exact ⟨_,_,.non,by with_unfolding_all rfl,rfl⟩
  ·obtain rfl:=h.strI;exact ⟨_,_,.str _,by with_unfolding_all rfl,rfl⟩
  ·obtain ⟨_,_,rfl,e,_⟩:=h.tupI;exact ⟨_,_,.tup e,by with_unfolding_all rfl,rfl⟩
  ·obtain ⟨_,_,rfl,e,_⟩:=h.lstI;exact ⟨_,_,.lst e,by with_unfolding_all rfl,rfl⟩
 split at hg
 ·rename_i hT;subst hT
  split at hg<;>cases hg
  ·obtain rfl:=h.intI;exact ⟨_,_,.int _,by with_unfolding_all rfl,rfl⟩
  ·obtain rfl:=h.blI;exact ⟨_,_,.bl _,by with_unfolding_all rfl,rfl⟩
  ·obtain rfl:=h.nonI;exact ⟨_,_,.non,by with_unfolding_all rfl,rfl⟩
  ·obtain rfl:=h.strI;exact ⟨_,_,.str _,by with_unfolding_all rfl,rfl⟩
  ·obtain ⟨_,_,rfl,e,_⟩:=h.tupI;exact ⟨_,_,.tup e,by with_unfolding_all rfl,rfl⟩
  ·obtain ⟨_,_,rfl,e,_⟩:=h.lstI;exact ⟨_,_,.lst e,by with_unfolding_all rfl,rfl⟩
 split at hg
 ·rename_i hT;subst hT
  split at hg<;>cases hg
  ·obtain rfl:=h.intI;exact ⟨_,_,.int _,by with_unfolding_all rfl,rfl⟩
  ·obtain rfl:=h.blI;exact ⟨_,_,.bl _,by with_unfolding_all rfl,rfl⟩
  ·obtain rfl:=h.nonI;exact ⟨_,_,.non,by with_unfolding_all rfl,rfl⟩
  ·obtain rfl:=h.strI;exact ⟨_,_,.str _,by with_unfolding_all rfl,rfl⟩
  ·obtain ⟨_,_,rfl,e,_⟩:=h.tupI;exact ⟨_,_,.tup e,by with_unfolding_all rfl,rfl⟩
  ·obtain ⟨_,_,rfl,e,_⟩:=h.lstI;exact ⟨_,_,.lst e,by with_unfolding_all rfl,rfl⟩
 split at hg
 ·rename_i hT;subst hT
  split at hg<;>cases hg
  ·obtain rfl:=h.intI;exact ⟨_,_,.int _,by with_unfolding_all rfl,rfl⟩
  ·obtain rfl:=h.blI;exact ⟨_,_,.bl _,by with_unfolding_all rfl,rfl⟩
  ·obtain rfl:=h.nonI;exact ⟨_,_,.non,by with_unfolding_all rfl,rfl⟩
  ·obtain rfl:=h.strI;exact ⟨_,_,.str _,by with_unfolding_all rfl,rfl⟩
  ·obtain ⟨_,_,rfl,e,_⟩:=h.tupI;exact ⟨_,_,.tup e,by with_unfolding_all rfl,rfl⟩
  ·obtain ⟨_,_,rfl,e,_⟩:=h.lstI;exact ⟨_,_,.lst e,by with_unfolding_all rfl,rfl⟩
 split at hg
 ·rename_i hT;subst hT
  split at hg<;>cases hg
  ·obtain rfl:=h.intI;exact ⟨_,_,.int _,by with_unfolding_all rfl,rfl⟩
  ·obtain rfl:=h.blI;exact ⟨_,_,.bl _,by with_unfolding_all rfl,rfl⟩
  ·obtain rfl:=h.nonI;exact ⟨_,_,.non,by with_unfolding_all rfl,rfl⟩
  ·obtain rfl:=h.strI;exact ⟨_,_,.str _,by with_unfolding_all rfl,rfl⟩
  ·obtain ⟨_,_,rfl,e,_⟩:=h.tupI;exact ⟨_,_,.tup e,by with_unfolding_all rfl,rfl⟩
  ·obtain ⟨_,_,rfl,e,_⟩:=h.lstI;exact ⟨_,_,.lst e,by with_unfolding_all rfl,rfl⟩
 ·cases hg
theorem zgM:bootBuiltins "isinstance" = some (.builtin "isinstance"):=by decide +kernel
def zoK(hg:Gl X "isinstance")(hm:X.mg "isinstance" = none)(hgT:Gl X x)(hmT:X.mg x=none)(hvT:bootBuiltins x=some (.type T))(hn:x ≠ "__name__")(hdb:(x == ("__debug__":Str))=false)(hp:zbr e=true)(he:PE X e (tH cl E f)) :
  PE X (.Call (.Name "isinstance" p) [e,.Name x p2] [] pos) (tE cl E (eUn (zdR T) f)):=by
 refine PE.imp (zcq zhv hg hm zgM (zaX he (zaX (zg9 (v:=.ty T) hgT hmT hvT rfl hn hdb) zbS rfl) (zbh hp)) (he:=zbh hp) (hpl:=rfl)) ?_;rintro σ H Q ⟨B,w,ρ,S,rfl,R,q⟩;refine ⟨B,w,ρ,S,rfl,R,?_⟩;unfold eUn at q
 cases hf:f ρ S with
 | bad=>rwa [hf] at q
 | exc c S1=>rwa [hf] at q
 | ok d S1 =>
  rw [hf] at q;intro v w1 R1 F1 h1;dsimp only [Out.bind] at q
  cases hg:zdR T d with
  | none=>rw [hg] at q;exact q.elim
  | some r =>
   rw [hg] at q;obtain ⟨t,b,h2,h3,rfl⟩:=zpJ (K:=X.K) (h1.top R1) hg;exact ⟨v,t,T,b,rfl,h2,h3,q _ w1 R1 F1 (.bl _)⟩
noncomputable def zni(x:Str):List D:=x.cps.toList.map fun c=>D.str ⟨#[c]⟩
def zho(f:Fe):Fi:=fun ρ S=>(f ρ S).bind fun d S1=>match d with | .str x=>.ok (zni x) S1 | _=>.bad
def zqU{tg:Expr}(he:PE X e (tE cl E f)):PI X tg e (tI cl E (zho f)):=by
 refine PI.imp (zrt he) ?_;rintro σ H Q ⟨B,w,ρ,S,rfl,R,q⟩;refine ⟨B,w,ρ,S,rfl,R,?_⟩;unfold zho at q
 cases hf:f ρ S with
 | bad=>rwa [hf] at q
 | exc c S1=>rwa [hf] at q
 | ok d S1 =>
  rw [hf] at q;intro v w' R' F' h';dsimp only [Out.bind] at q
  cases h' with
  | str x =>
   refine ⟨x,rfl,q _ w' R' F' ?_⟩
   have hl:(zni x).length=x.cps.size:=by simp [zni]
   refine ⟨fun w1 F1 i hi=>?_,fun w1 F1=>?_,fun w1 F1 i d v H1 hd y=>?_⟩
   ·show i<x.cps.size;rw [<-hl];exact hi
   ·exact hl
   ·obtain ⟨rfl,c,hc,rfl⟩:=y;refine ⟨w1,rfl,Grow.refl _,?_⟩
    have e:(zni x)[i]?=some (.str ⟨#[c]⟩):=by
     unfold zni;rw [yao,yaS,hc];rfl
    rw [hd] at e;cases e;exact .str _
  | _=>exact q.elim
def zhn(f:Fe):Fi:=fun ρ S=>(f ρ S).bind fun d S1=>match d with | .dic ds=>if zaf ds then .ok ((za9 ds).map D.str) S1 else .bad | _=>.bad
def zqV{tg:Expr}(he:PE X e (tE cl E f)):PI X tg e (tI cl E (zhn f)):=by
 refine PI.imp (zo9 he) ?_;rintro σ H Q ⟨B,w,ρ,S,rfl,R,q⟩;refine ⟨B,w,ρ,S,rfl,R,?_⟩;unfold zhn at q
 cases hf:f ρ S with
 | bad=>rwa [hf] at q
 | exc c S1=>rwa [hf] at q
 | ok d S1 =>
  rw [hf] at q;intro v w' R' F' h';dsimp only [Out.bind] at q
  cases h' with
  | dicK ea ka ra =>
   rename_i ob kvs ds
   by_cases ho:zaf ds=true
   ·dsimp only at q;rw [if_pos ho] at q;obtain ⟨h1,h2⟩:=zd1 ra ho
    have hl:kvs.length=((za9 ds).map D.str).length:=by rw [yad,h2,ra.length]
    refine ⟨_,ob,kvs,rfl,ea,⟨_,h1⟩,q _ w' R' F' ⟨fun w1 F1 i hi=>⟨(F1.keep _ _ ea ka).1,by rw [hl];exact hi⟩,fun w1 F1=>⟨(F1.keep _ _ ea ka).1,hl.symm⟩,fun w1 F1 i d v H1 hd y=>?_⟩⟩;obtain ⟨rfl,x,hx,rfl⟩:=y;rw [h1,yao] at hx;obtain ⟨z,hz,ez⟩:=yan.mp hx;cases ez;rw [yao,hz] at hd;cases hd;exact ⟨w1,rfl,Grow.refl _,.str _⟩
   ·dsimp only at q;rw [if_neg ho] at q;exact q.elim
  | _=>exact q.elim
def zbn(f:Fe):Fi:=fun ρ S=>(f ρ S).bind fun d S1=>match d with | .str x=>.ok (zni x) S1 | .lst l=>.ok l S1 | .tup l=>.ok l S1 | .dic ds=>if zaf ds then .ok ((za9 ds).map D.str) S1 else .bad | _=>.bad
def zqW(hK:X.K=cl.K)(he:PE X e (tE cl E f)):PI X tg e (tI cl E (zbn f)):=by
 intro pins s σ H R' I q;obtain ⟨B,w,ρ,S,rfl,R,q⟩:=q;unfold zbn at q
 cases hf:f ρ S with
 | bad=>rw [hf] at q;exact q.elim
 | exc c S1 =>
  refine zjA he pins s σ w.H R' I ⟨B,w,ρ,S,rfl,R,?_⟩;unfold zio;rw [hf] at q ⊢;exact q
 | ok d S1 =>
  rw [hf] at q;dsimp only [Out.bind] at q
  cases d with
  | lst l =>
   refine zjA he pins s σ w.H R' I ⟨B,w,ρ,S,rfl,R,?_⟩;unfold zio;rw [hf];exact q
  | tup l =>
   refine zqT he pins s σ w.H R' I ⟨B,w,ρ,S,rfl,R,?_⟩;unfold zhm;rw [hf];exact q
  | str x =>
   refine zqU he pins s σ w.H R' I ⟨B,w,ρ,S,rfl,R,?_⟩;unfold zho;rw [hf];exact q
  | dic ds =>
   refine zqV he pins s σ w.H R' I ⟨B,w,ρ,S,rfl,R,?_⟩;unfold zhn;rw [hf];exact q
  | _=>exact q.elim
end
end S2
namespace L2
open PySem PySem.Spec PyProof.Rows
noncomputable abbrev IsT(h:Heap)(T:Addr)(os:List Value):Prop:=h.get? T=some { cls:=.type "tuple",data:=.seq os.toArray }
noncomputable abbrev Stops(h:Heap)(e:Addr):Prop:=∃o,h.get? e=some o/\o.cls=.type "StopIteration"
structure ZSt(a l m i:Nat)(f:Value)(h:Heap):Prop where
 z:IsZip h (a+4) (a+2) (a+3) f
 ti:IsT h (a+2) [.ref a,.ref (a+1)]
 to:∃x y,IsT h (a+3) [x,y]
 i1:h.IsTupleIter a l i
 i2:h.IsTupleIter (a+1) m i
section
variable{prog:Program}{w:World}{A:Around}{E:Z5}{s:Shared}{a l m k:Nat}{us vs:Array Value}
def zhM{h h':Heap}{t:Addr}(p:h.IsTuple t vs)(q:∀o,h.get? t=some o->h'.get? t=some o):h'.IsTuple t vs:=by
 obtain ⟨o,ho,r⟩:=p;exact ⟨o,q o ho,r⟩
theorem zn4{β:Type}{f:Value×Nat->β->Sem (ForInStep β)}{b:β}{Q:β->Shared->Prop}{x0 y0:Value}
  (hf:∀(c l n:Nat) (vs:Array Value) (os:List Value) (s:Shared) (Q:ForInStep β->Shared->Prop),l<c->c<a+3->os.length=2->IsZip s.heap (a+4) (a+2) (a+3) .ellipsis->IsT s.heap (a+3) os->s.heap.IsTupleIter c l k->s.heap.IsTuple l vs->k<=vs.size →
   (∀x h' tk,vs[k]?=some x->IsT h' (a+3) (os.set n x)->h'.IsTupleIter c l (k+1)->h'.objs.size=s.heap.objs.size->(∀(d:Nat) (o:Obj),d≠a+3->d≠c->s.heap.get? d=some o->h'.get? d=some o)->Q (.yield b) { s with heap:=h',toks:=tk }) →
   (k=vs.size->∀h' e tk,(∀(d:Nat) (o:Obj),d≠a+4->d≠c->s.heap.get? d=some o->h'.get? d=some o)->Stops h' e->E (.ref e) { s with heap:=h',toks:=tk })->wpAny (model prog w) A (f (.ref c,n) b) Q E s)
  (hl:l<a) (hm:m<a) (hz:IsZip s.heap (a+4) (a+2) (a+3) .ellipsis) (hO:IsT s.heap (a+3) [x0,y0]) (h1:s.heap.IsTupleIter a l k) (h2:s.heap.IsTupleIter (a+1) m k) (hu:s.heap.IsTuple l us) (hv:s.heap.IsTuple m vs) (hk:k<=us.size) (hk2:k<=vs.size)
  (hQ:∀x y h' tk,us[k]?=some x->vs[k]?=some y->IsT h' (a+3) [x,y]->h'.IsTupleIter a l (k+1)->h'.IsTupleIter (a+1) m (k+1)->h'.objs.size=s.heap.objs.size->(∀(d:Nat) (o:Obj),d≠a->d≠a+1->d≠a+3->s.heap.get? d=some o->h'.get? d=some o)->Q b { s with heap:=h',toks:=tk })
  (hE:(k=us.size\/k=vs.size)->∀h' e tk,(∀(d:Nat) (o:Obj),(d<a\/a+4<d)->s.heap.get? d=some o->h'.get? d=some o)->Stops h' e->E (.ref e) { s with heap:=h',toks:=tk }) :
  wpAny (model prog w) A (forIn [((.ref a:Value),0),(.ref (a+1),1)] b f) Q E s:=by
 rw [ybC];refine yab (hf a l 0 us _ s _ hl (by omega) rfl hz hO h1 hu hk (fun x g tk hx hO1 hI1 hs1 k1=>?_) (fun e h' e' tk k1=>hE (.inl e) h' e' tk fun d o p q=>k1 d o (by omega) (by omega) q));show wpAny _ _ (forIn [((.ref (a+1):Value),1)] b f) _ _ _;rw [ybC];refine yab (hf (a+1) m 1 vs _ _ _ (by omega) (by omega) rfl (k1 _ _ (by omega) (by omega) hz) hO1 (h2.at fun o e=>k1 _ o (by omega) (by omega) e) (zhM hv fun o e=>k1 _ o (by omega) (by omega) e) hk2 (fun y g2 tk2 hy hO2 hI2 hs2 k2=>?_) (fun e h' e' tk' k2=>hE (.inr e) h' e' tk' fun d o p q=>k2 d o (by omega) (by omega) (k1 d o (by omega) (by omega) q)));exact yal (hQ x y g2 tk2 hx hy hO2 (hI1.at fun o e=>k2 _ o (by omega) (by omega) e) hI2 (hs2.trans hs1) fun d o p1 p2 p3 e=>k2 d o p3 p2 (k1 d o p3 p1 e))
theorem zhD{Q:Z5}(hh:A.handled=none)(Z:ZSt a l m k .none s.heap)(hl:l<a)(hm:m<a)(hu:s.heap.IsTuple l us)(hv:s.heap.IsTuple m vs)(hk:k<=us.size)(hk2:k<=vs.size)
  (hQ:∀x y h' tk,us[k]?=some x->vs[k]?=some y->ZSt a l m (k+1) (rawInt s.heap.objs.size) h'->IsT h' s.heap.objs.size [x,y]->(∀(c:Nat) (o:Obj),(c<a\/a+4<c)->s.heap.get? c=some o->h'.get? c=some o)->Q (.ref s.heap.objs.size) { s with heap:=h',toks:=tk })
  (hE:(k=us.size\/k=vs.size)->∀h' e tk,(∀(c:Nat) (o:Obj),(c<a\/a+4<c)->s.heap.get? c=some o->h'.get? c=some o)->Stops h' e->E (.ref e) { s with heap:=h',toks:=tk }) :
  wpAny (model prog w) A (Builtin.«zip.__next__» ⟨[.ref (a+4)],[]⟩) (fun fin s'=>∃v,fin=.done (.ret v)/\Q v s') E s:=by
 obtain ⟨hz,hI,⟨x0,y0,hO⟩,h1,h2⟩:=Z;show wpAny _ _ (field (.ref (a+4)) 2 >>= _) _ _ _;refine yab (ybU hz rfl (x:=.bool false) rfl ?_);show wpAny _ _ (field (.ref (a+4)) 3 >>= _) _ _ _;refine yab (ybU hz rfl (x:=.ref (a+2)) rfl ?_);refine yab (ybl hI rfl ?_);show wpAny _ _ (Builtin.SmallTypes.ownedTupleIsFree (.ref (a+4)) >>= _) _ _ _;refine yab ?_;unfold Builtin.SmallTypes.ownedTupleIsFree;refine yab (ybU hz rfl (x:=.none) rfl (yal ?_));simp only [yck];refine yab (wpAny_rule ?_);refine yab (ybU hz rfl (x:=.ref (a+3)) rfl ?_);refine yab (yb5 hz (by simp) fun g hz₁ hs₁=>?_);replace hz₁:IsZip g (a+4) (a+2) (a+3) .ellipsis:=hz₁;have k₁:∀(c:Nat) (o:Obj),c≠a+4->s.heap.get? c=some o->g.get? c=some o:=fun c o hc e=>hs₁.extBut _ _ hc e
 refine yab (zn4 (a:=a) (l:=l) (m:=m) (k:=k) (us:=us) (vs:=vs) (fun c l n vs os s Q hc hb ho hz hO hI hv hk hx he=>?_) hl hm hz₁ (k₁ _ _ (by omega) hO) (h1.at fun o e=>k₁ _ o (by omega) e) (h2.at fun o e=>k₁ _ o (by omega) e) (zhM hu fun o e=>k₁ _ o (by omega) e) (zhM hv fun o e=>k₁ _ o (by omega) e) hk hk2 (fun x y h₂ tk hx hy hO₂ i1 i2 hs₂ k₂=>?_) (fun e h' e' tk k'=>hE e h' e' tk fun c o hc q=>k' c o hc (k₁ c o (by omega) q)))
 ·have D:=zkW (prog:=prog) (w:=w) hh c l (yav hc) vs;refine yab (wpAny_onRaise ?_);show wpAny _ _ (Builtin.SmallTypes.nextOf (.ref c) >>= _) _ _ _
  rcases ycB hk with hlt | rfl
  ·refine yab (D.item k _ _ _ hlt ⟨hI,hv⟩ fun x h₂ tk₂ px hI₂ hs₂=>yal ?_);have hO₂:IsT h₂ (a+3) os:=hs₂.extBut _ _ (yaR hb) hO;refine yab (ybl hO₂ rfl ?_)
   have h9:os.length<=9:=by omega
   refine yab (wpAny_updateSeq hO₂ rfl ?_ (by simp;exact yax h9 (by decide)) (by simp;exact yax h9 (by decide)));have hs₃:=Heap.SameBut.update h₂ (a+3) (Obj.mapSeq (·.setIfInBounds n x));refine yab (wpAny_letGo (yal (hx x _ tk₂ px ?_ (hI₂.1.at fun o e=>hs₃.extBut _ _ (yav hb) e) (hs₃.1.trans hs₂.1) fun d o c1 c2 e=>hs₃.extBut _ _ c1 (hs₂.extBut _ _ c2 e))));show Heap.get? _ (a+3)=_;rw [ycg _ hO₂ rfl];simp [Obj.mapSeq]
  ·refine yab (D.done _ _ _ ⟨hI,hv⟩ fun h₂ e hs₂ hs=>?_);obtain ⟨oe,hoe,hce⟩:=hs;have hz₂:=hs₂ _ _ (show a+4≠c by omega) hz
   have hez:e≠a+4:=fun x=>by subst x;rw [hz₂] at hoe;cases hoe;simp at hce
   exact yb5 hz₂ (by simp) fun h₃ _ hs₃=>he rfl h₃ e _ (fun d o c1 c2 q=>hs₃.extBut _ _ c1 (hs₂ _ _ c2 q)) ⟨oe,hs₃.extBut _ _ hez hoe,hce⟩
 ·refine yab (ybl hO₂ rfl ?_);refine yab (wpAny_newTuple ?_ (hsz:=by show (2:Nat)<=_;decide));have hz₂:IsZip h₂ (a+4) (a+2) (a+3) .ellipsis:=k₂ _ _ (by omega) (by omega) (by omega) hz₁;have hsz:h₂.objs.size=s.heap.objs.size:=hs₂.trans hs₁.1;show wpAny _ _ (Builtin.SmallTypes.ownedTupleHandOut (.ref (a+4)) (.ref h₂.objs.size) >>= _) _ _ _;refine yab ?_;unfold Builtin.SmallTypes.ownedTupleHandOut;refine yab (yb5 (yae _ hz₂) (by simp) fun h₄ hz₄ hs₄=>?_);replace hz₄:IsZip h₄ (a+4) (a+2) (a+3) (rawInt h₂.objs.size):=hz₄;refine yb5 hz₄ (by simp) fun h₅ hz₅ hs₅=>?_
  replace hz₅:IsZip h₅ (a+4) (a+2) (a+3) (rawInt h₂.objs.size):=hz₅;have lt:a+4<h₂.objs.size:=yaj hz₂;have up:∀(c:Nat) (o:Obj),c≠a+4->h₂.get? c=some o->h₅.get? c=some o:=fun c o c1 e=>hs₅.extBut _ _ c1 (hs₄.extBut _ _ c1 (yae _ e))
  have hT:IsT h₅ h₂.objs.size [x,y]:=hs₅.extBut _ _ (yaR lt) (hs₄.extBut _ _ (yaR lt) (yap _ rfl));rw [hsz] at hz₅ hT;refine yal ⟨_,rfl,?_⟩;show Q (.ref h₂.objs.size) _;rw [hsz];exact hQ x y h₅ tk hx hy ⟨hz₅,up _ _ (by omega) (k₂ _ _ (by omega) (by omega) (by omega) (k₁ _ _ (by omega) hI)),⟨x,y,up _ _ (by omega) hO₂⟩,i1.at fun o e=>up _ o (by omega) e,i2.at fun o e=>up _ o (by omega) e⟩ hT fun c o hc e=>up c o (by omega) (k₂ c o (by omega) (by omega) (by omega) (k₁ c o (by omega) e))
def zkp:Meets (Builtin.«zip.__new__» ⟨[.type "zip",.ref l,.ref m],[]⟩) (fun _ R s=>s.heap.IsTuple l us/\s.heap.IsTuple m vs ∧
   ∀h' n,n=s.heap.objs.size->(∀(c:Nat) (o:Obj),s.heap.get? c=some o->h'.get? c=some o)->ZSt n l m 0 .none h'->R (.ok (.ret (.ref (n+4)))) { s with heap:=h' }) :=
 .of_wp fun prog w A R s h=>by
  obtain ⟨hp,g,d,tk,os⟩:=s;obtain ⟨hl1,hl2,h⟩:=h;have hsub:=sub_zip;have hL1:Heap.IsTuple (Shared.heap ⟨hp,g,d,tk,os⟩) l us:=hl1;have hL2:Heap.IsTuple (Shared.heap ⟨hp.push { cls:=.type "tuple_iterator",data:=.fields #[.ref l,.int 0 0] },g,d,tk,os⟩) m vs:=zhM hl2 fun o e=>yae _ e
  wp_walk using ybZ hL1,ybZ hL2
  refine ⟨_,rfl,?_⟩;have p {h:Heap} {o':Obj} {a:Addr} {o:Obj} (e:h.get? a=some o):(h.push o').get? a=some o:=yae _ e
  have u:∀{h:Heap} {o:Obj} {a:Addr},a=h.objs.size->o.isFreed=false->(h.push o).get? a=some o:=fun e ho=>by rw [e];exact yap _ ho
  simp only [ya1];exact h _ _ rfl (fun c o e=>p (p (p (p (p e))))) ⟨u (by simp only [ya1]) rfl,p (p (u (by simp only [ya1]) rfl)),⟨_,_,p (u (by simp only [ya1]) rfl)⟩,⟨_,p (p (p (p (u rfl rfl)))),rfl,rfl⟩,⟨_,p (p (p (u (by simp only [ya1]) rfl))),rfl,rfl⟩⟩
end
noncomputable def zFp(a:Nat):List Addr:=(List.range 5).map (a+·)
theorem zdu{a b:Nat}:b∈zFp a↔a<=b/\b<a+5:=by
 unfold zFp;rw [yau];exact ⟨fun ⟨j,hj,e⟩=>by rw [ybu] at hj;have e:a+j=b:=e;omega,fun ⟨h1,h2⟩=>⟨b-a,ybu.mpr (by omega),by show a+(b-a)=b;omega⟩⟩
theorem zgW{a b:Nat}(h:b ∉ zFp a):b<a\/a+4<b:=by rw [zdu] at h;omega
theorem ZSt.keep{a l m i:Nat}{f:Value}{h h':Heap}(Z:ZSt a l m i f h)(k:∀(c:Nat) (o:Obj),a<=c->c<a+5->h.get? c=some o->h'.get? c=some o):ZSt a l m i f h' :=
 ⟨k _ _ (by omega) (by omega) Z.z,k _ _ (by omega) (by omega) Z.ti,let ⟨x,y,e⟩:=Z.to;⟨x,y,k _ _ (by omega) (by omega) e⟩,Z.i1.at fun o e=>k _ o (by omega) (by omega) e,Z.i2.at fun o e=>k _ o (by omega) (by omega) e⟩
section
variable{X:Cx}{pins:Z3}{σ:St}{H:Hp}{s:Shared}
noncomputable def ItZ(l m:Addr):It :=
 ⟨fun i H=>∃xs ys,H l=some (.tup xs)/\H m=some (.tup ys)/\i<xs.length/\i<ys.length,
  fun i H v H'=>∃t x y xs ys,v=.ref t/\H t=none/\H'=upd H t (.tup [x,y])/\H l=some (.tup xs)/\H m=some (.tup ys)/\xs[i]?=some x/\ys[i]?=some y,
  fun i H=>∃xs ys,H l=some (.tup xs)/\H m=some (.tup ys)/\i<=xs.length/\i<=ys.length/\(i=xs.length\/i=ys.length)⟩
def zn5{fp:List Addr}{T:Addr}{h2:Heap}{tk:Nat}{us:List Value}{ys:List V}(I:Inv X pins σ H s)(hf:∀b∈fp,zlu X pins H b)(hT:T=s.heap.objs.size)(te:IsT h2 T us)
  (k:∀b o,b ∉ fp->s.heap.get? b=some o->h2.get? b=some o) (r:Vals ys us) (h9:us.length<=9):Inv X pins σ (upd H T (.tup ys)) { s with heap:=h2,toks:=tk }/\H T=none:=by
 have fr:H T=none:=by rw [hT];exact I.hok.fresh (yai _)
 refine ⟨?_,fr⟩;have I1:Inv X pins σ H { s with heap:=h2,toks:=tk }:=I.turnedL (ch:=fp) (fun b o hb q=>k b o hb q) hf;refine I1.track fr (by rw [hT];exact I.sz) (by rw [hT];exact yaR I.lt) (fun z c q=>?_) (fun p hp=>?_) ?_
 ·obtain ⟨v,cq⟩:=I.cell z c q;rw [hT];exact yav cq.lt
 ·rw [hT];exact yav (yaj (I.pin p hp).1)
 ·exact ⟨yax (r.length ▸ h9) (by decide),us,r,_,te,rfl,_,rfl,rfl⟩
theorem zlD{P:Program}{w:World}{K:PySem.W.Frag}{elts:List Expr}{x1:Nat}{pos:Pos}{a l m:Nat}(hl:l<a)(hm:m<a) :
  Turn P w K (.Tuple elts x1 pos) (ItZ l m) (zFp a) (a+4) (fun i h=>ZSt a l m i .none h) where
 mem:=zdu.mpr (by omega)
 obj:=fun i h st b hb=>by
  obtain ⟨hz,hI,⟨x,y,hO⟩,⟨o1,e1,_,d1⟩,⟨o2,e2,_,d2⟩⟩:=st;obtain ⟨h1,h2⟩:=zdu.mp hb;obtain ⟨j,rfl⟩:∃j,b=a+j:=⟨b-a,(Nat.add_sub_cancel' h1).symm⟩
  match j,h2 with
  | 0,_=>exact ⟨_,e1,fun v e=>by rw [d1] at e;cases e⟩
  | 1,_=>exact ⟨_,e2,fun v e=>by rw [d2] at e;cases e⟩
  | 2,_=>exact ⟨_,hI,fun v e=>by cases e⟩
  | 3,_=>exact ⟨_,hO,fun v e=>by cases e⟩
  | 4,_=>exact ⟨_,hz,fun v e=>by cases e⟩
  | j+5,h=>omega
 keep:=fun i h h' st k=>st.keep fun c o c1 c2 e=>k _ (zdu.mpr ⟨c1,c2⟩) _ e
 item:=by
  intro X hP hw hK hc i pins s σ H E I hf st hg;subst hP hw hK;obtain ⟨xs,ys,g1,g2,hi,hj⟩:=hg;obtain ⟨us,ru,t1,_⟩:=I.tuple (SqT.of g1);obtain ⟨vs,rv,t2,_⟩:=I.tuple (SqT.of g2);have hT:s.TypeIs (.ref (a+4)) "zip":=⟨_,st.z,rfl⟩;unfold pyNext
  refine yab (wpAny_attempt (ybq (name:=Str.ofString "__next__") hT ycv (ybR ycv hT F.entry_zip_next
   (zhD (A:=X.A.in1) (I.ok.hd hc) st hl hm t1 t2 (by rw [yam,<-ru.length];exact ybz hi) (by rw [yam,<-rv.length];exact ybz hj) (fun x y h' tk hx hy a1 a4 a5=>yal ?_)
    (fun e=>by rw [yam,yam,<-ru.length,<-rv.length] at e;omega)) (F.args_zip_next_1 _))))
  have ltz:a+4<s.heap.objs.size:=yaj st.z;refine ⟨_,rfl,wpAny_letOwnedTupleGo_zip a1.z fun h2' hz2 sb=>?_⟩;have kb:∀(c:Nat) (o:Obj),c≠a+4->h'.get? c=some o->h2'.get? c=some o:=fun c o hc e=>(sb.2 c hc).trans e
  obtain ⟨x',hx1,hx2⟩:=ru.get (yac hi);obtain ⟨y',hy1,hy2⟩:=rv.get (yac hj);rw [yci,hx1] at hx;cases hx;rw [yci,hy1] at hy;cases hy;obtain ⟨I2,fr⟩:=zn5 (tk:=tk) (h2:=h2') I hf rfl (kb _ _ (yaR ltz) a4) (fun b o hb q=>kb b o (by have:=zgW hb;omega) (a5 b o (zgW hb) q)) (.cons hx2 (.cons hy2 .nil)) (by simp);refine ⟨.ref s.heap.objs.size,_,I2,rfl,⟨_,_,_,xs,ys,rfl,fr,rfl,g1,g2,yac hi,yac hj⟩,⟨hz2,kb _ _ (by omega) a1.ti,let ⟨x,y,e⟩:=a1.to;⟨x,y,kb _ _ (by omega) e⟩,a1.i1.at fun o e=>kb _ o (by omega) e,a1.i2.at fun o e=>kb _ o (by omega) e⟩,fun b hb=>?_⟩;rw [zac (fun e=>by have:=(zdu.mp (e ▸ hb)).2;omega)];exact (hf b hb).1
 done:=by
  intro X hP hw hK hc i pins s σ H E I hf st hg;subst hP hw hK;obtain ⟨xs,ys,g1,g2,h1,h2,hi⟩:=hg;obtain ⟨us,ru,t1,_⟩:=I.tuple (SqT.of g1);obtain ⟨vs,rv,t2,_⟩:=I.tuple (SqT.of g2);have hT:s.TypeIs (.ref (a+4)) "zip":=⟨_,st.z,rfl⟩;unfold pyNext
  refine yab (wpAny_attempt (ybq (name:=Str.ofString "__next__") hT ycv (ybR ycv hT F.entry_zip_next
   (zhD (A:=X.A.in1) (I.ok.hd hc) st hl hm t1 t2 (by rw [yam,<-ru.length];exact h1) (by rw [yam,<-rv.length];exact h2) (fun x y h' tk hx hy=>by
     have e1:=(yaT.mp hx).1;have e2:=(yaT.mp hy).1;rw [yam,<-ru.length] at e1;rw [yam,<-rv.length] at e2
     omega) (fun _ h' e tk hk he'=>?_)) (F.args_zip_next_1 _))))
  obtain ⟨o,ho,hcl⟩:=he';refine yab (wpAny_isInstance (T:="StopIteration") (b:=true) ⟨o,ho,hcl⟩ isSubtype_stop ?_);exact yal ⟨rfl,I.turnedL (ch:=zFp a) (fun b o hb q=>hk b o (zgW hb) q) hf⟩
 self:=fun _ _ _ _ _ st h=>wpAny_pyIter_zip st.z h
theorem zmZ:bootBuiltins "zip" = some (.type "zip"):=by decide +kernel
def zqu(I1:Inv X pins σ H1 s1)(g1:H1 l=some (.tup xs))(g2:H1 m=some (.tup ys))(q:R (ItZ l m) H1) :
  wpAny (model X.prog X.w) X.A (call (.type "zip") [.ref l,.ref m]) (fun v s2=>wpAny (model X.prog X.w) X.A (pyIter v) (PIE X pins σ (.Tuple elts x1 tp) R) X.xe s2) X.xe s1:=by
 obtain ⟨us,ru,t1,_⟩:=I1.tuple (SqT.of g1);obtain ⟨vs,rv,t2,_⟩:=I1.tuple (SqT.of g2);refine callType_new F.called_zip (by decide) (F.typeCall_zip_2 _ _) (F.newCall_zip_2 _ _) (fun o=>F.args_object_init_3 o _ _) F.entry_zip_new zkp ⟨t1,t2,fun h' n hn hk Z=>?_⟩;refine ⟨⟨_,Z.z,rfl⟩,wpAny_pyIter_zip Z.z ?_⟩;refine ⟨n+4,zFp n,_,_,H1,rfl,I1.kept (t':=s1.toks) hk,zlD ?_ ?_,Z,fun c hb=>?_,q⟩
 ·obtain ⟨o,ho,_⟩:=t1;rw [hn];exact yaj ho
 ·obtain ⟨o,ho,_⟩:=t2;rw [hn];exact yaj ho
 ·have hc:s1.heap.objs.size<=c:=hn ▸ (zdu.mp hb).1;exact I1.fpOk hc (I1.hok.fresh hc)
end
end L2
namespace S2
open PySem PySem.Spec PyProof.Rows L2
section
variable{X:Cx}{cl:Cf}{E:St->XK}{e tg:Expr}{f:Fe}{own:Bool}{pos pos':Pos}
noncomputable def zi3(l:List D):List D:=l.zipIdx.map fun p=>.tup [.int p.2,p.1]
def zuq(f:Fe):Fi:=fun ρ S=>(zao [f] ρ S).bind fun ds S1=>match ds with | [.lst l]=>.ok (zi3 l) S1 | [.tup l]=>.ok (zi3 l) S1 | _=>.bad
noncomputable def zfU:List D->List D->List D
 | x::xs,y::ys=>.tup [x,y]::zfU xs ys
 | _,_=>[]
theorem zhF:∀(xs ys:List D),(zfU xs ys).length=min xs.length ys.length
 | [],_=>by simp [zfU]
 | _::_,[]=>by simp [zfU]
 | _::xs,_::ys=>by simp [zfU,zhF xs ys]
theorem zhG:∀{xs ys:List D} {i:Nat} {d:D},(zfU xs ys)[i]?=some d->∃x y,xs[i]?=some x/\ys[i]?=some y/\d=.tup [x,y]
 | [],_,_,_,h=>by simp [zfU] at h
 | _::_,[],_,_,h=>by simp [zfU] at h
 | x::xs,y::ys,0,d,h=>by
  simp only [zfU,List.getElem?_cons_zero,Option.some.injEq] at h;exact ⟨x,y,rfl,rfl,h.symm⟩
 | x::xs,y::ys,i+1,d,h=>by
  simp only [zfU,List.getElem?_cons_succ] at h ⊢;exact zhG h
def zqs(f g:Fe):Fi:=fun ρ S=>(zao [f,g] ρ S).bind fun ds S1=>match ds with | [.tup l,.tup k]=>.ok (zfU l k) S1 | _=>.bad
theorem zsf(h1:∀w',Fut w w'->w'.H l1=some (.tup xs))(h2:∀w',Fut w w'->w'.H l2=some (.tup ys))(r1:Shds cl w xs ds)(r2:Shds cl w ys es):ItOk cl w (ItZ l1 l2) (zfU ds es):=by
 have e1:=r1.length;have e2:=r2.length;have el:=zhF ds es;refine ⟨fun w1 F1 i hi=>⟨xs,ys,h1 w1 F1,h2 w1 F1,by omega,by omega⟩,fun w1 F1=>⟨xs,ys,h1 w1 F1,h2 w1 F1,by omega,by omega,by omega⟩,fun w1 F1 i d x H1 hd y=>?_⟩;obtain ⟨t,v1,v2,xs',ys',rfl,ht,rfl,g1,g2,hx,hy⟩:=y;obtain ⟨z1,z2,hz1,hz2,rfl⟩:=zhG hd;cases (h1 w1 F1).symm.trans g1;cases (h2 w1 F1).symm.trans g2;obtain ⟨d1,q1,s1⟩:=r1.get hx;obtain ⟨d2,q2,s2⟩:=r2.get hy;rw [hz1] at q1;cases q1;rw [hz2] at q2;cases q2;exact ⟨w1.add t _,rfl,zaD ht _,Shd.newT ht (.cons (s1.up F1) (.cons (s2.up F1) .nil))⟩
def zqS(hg:Gl X "zip")(hm:X.mg "zip" = none)(ha:PA X [a,e] (tAs cl E [fa,f]))(hs:starEach [a,e] X.env=(false,eval a X.env)::starEach [e] X.env)(hs2:(backTo pos (starEach [e] X.env)).any (·.1)=false):PI X (.Tuple es kk tp) (.Call (.Name "zip" p) [a,e] [] pos) (tI cl E (zqs fa f)):=by
 intro pins s σ H R' I q;refine Call_ (zgr I hg hm L2.zmZ (ybA (thn (ha pos pins s σ H (fun vs H1=>∃l m xs ys,vs=[.ref l,.ref m]/\H1 l=some (.tup xs)/\H1 m=some (.tup ys)/\R' (ItZ l m) H1) I ?_) fun us s1 ⟨vs,H1,I1,r1,q1⟩=>?_) hs hs2))
 ·obtain ⟨B,w,ρ,S,rfl,R,q⟩:=q;refine ⟨B,w,ρ,S,rfl,R,?_⟩;dsimp only [zqs] at q
  cases hf:zao [fa,f] ρ S with
  | bad=>rw [hf] at q;exact q.elim
  | exc c S1=>rwa [hf] at q
  | ok ds S1 =>
   rw [hf] at q;dsimp only [Out.bind] at q;intro vs w' R2 F2 sh
   have hz:(∃l k,ds=[.tup l,.tup k])\/(match ds with | [.tup l,.tup k]=>Out.ok (zfU l k) S1 | _=>.bad)=.bad:=by
    split
    ·exact .inl ⟨_,_,rfl⟩
    ·exact .inr rfl
   rcases hz with ⟨l,k,rfl⟩ | e
   ·cases sh with
    | cons h1 h2 =>
     cases h2 with
     | cons h2 h3 =>
      cases h3
      cases h1 with
      | tup e1 k1 r1 =>
       cases h2 with
       | tup e2 k2 r2 =>
        exact ⟨_,_,_,_,rfl,(Fut.refl w').keep _ _ e1 k1 |>.1,(Fut.refl w').keep _ _ e2 k2 |>.1,q _ w' R2 F2 (zsf (fun w1 F1=>(F1.keep _ _ e1 k1).1) (fun w1 F1=>(F1.keep _ _ e2 k2).1) r1 r2)⟩
   ·rw [e] at q;exact q.elim
 ·obtain ⟨l,m,xs,ys,rfl,g1,g2,q⟩:=q1
  cases r1 with
  | cons a1 r1 =>
   cases r1 with
   | cons a2 r1=>cases r1;cases a1;cases a2;exact zqu I1 g1 g2 q
end
section
variable{X:Cx}{cl:Cf}{E:St->XK}{e:Expr}{f:Fe}{pos':Pos}
def eMt(g:List D->D->Option D)(i:Nat)(f:Fe):Fe:=fun ρ S=>match ρ[i]? with | some (some (_,.lst l))=>(f ρ S).bind fun d S1=>Out.of (g l d) S1 | _=>.bad
def ze8(l:List D)(d:D):Option D:=if d.fit 8&&D.fits 8 l then some (.int ((l.countP (zdZ · d):Nat):Int)) else none
def ze2(l:List D)(d:D):Option D:=if d.fit 8&&D.fits 8 l&&decide (l.length<=1000000)&&zje d l then some (.int ((l.findIdx (zdZ · d):Nat):Int)) else none
def Rel.lstAny{B:Base}{σ:St}{w:Wd}{ρ:Env}{S:Sto}{i:Nat}{o:Bool}{l:List D}(R:Rel cl B σ w ρ S)(h:ρ[i]?=some (some (o,.lst l))):∃a xs,σ[i]?=some (some (.ref a))/\w.H a=some (.lst xs)/\Shds cl w xs l:=by
 cases o with
 | true=>obtain ⟨a,xs,e1,_,h2,t⟩:=R.list h;exact ⟨a,xs,e1,h2,t⟩
 | false =>
  obtain ⟨v,e1,sh⟩:=R.slots i false _ h
  cases sh with
  | lst ep k r=>exact ⟨_,_,e1,ep,r⟩
noncomputable def MtB(X:Cx)(cl:Cf)(id:String)(g:List D->D->Option D):Prop:=MtM X id fun x vs H Q=>∃(a:Addr) (xs:List V) (l:List D) (w:Wd) (d:D) (v:V) (r:Int),w.H=H/\x=.ref a/\vs=[v]/\w.H a=some (.lst xs)/\Shds cl w xs l/\TopV cl w v d/\g l d=some (.int r)/\Q (.int r) H
theorem zdQ{s:Shared}{d:D}:∀{its:List Value} {ds:List D} {as:List Addr},ReadsAll s.heap its (D.pys ds) as->D.fits 8 ds=true->its.countP (fun y=>(SeqAt.readOf s.heap y).eqv d.py)=ds.countP (zdZ · d)
 | [],[],_,_,_=>rfl
 | [],_::_,_,h,_=>by cases h
 | _::_,[],_,h,_=>by cases h
 | v::its,e::ds,_,h,f=>by
  simp only [D.fits,yaa] at f
  cases h with
  | cons h1 h2 =>
   rw [List.countP_cons,List.countP_cons,zdQ h2 f.2,zg2 (D.lay f.1).1 h1];rfl
theorem zdE{s:Shared}{d:D}:∀{its:List Value} {ds:List D} {as:List Addr},ReadsAll s.heap its (D.pys ds) as->D.fits 8 ds=true->∀(m:Nat) (hm:m<its.length),∃e,ds[m]?=some e/\(SeqAt.readOf s.heap its[m]).eqv d.py=zdZ e d
 | [],_,_,_,_,m,hm=>by simp at hm
 | _::_,[],_,h,_,_,_=>by cases h
 | v::its,e::ds,_,h,f,m,hm=>by
  simp only [D.fits,yaa] at f
  cases h with
  | cons h1 h2 =>
   cases m with
   | zero=>exact ⟨e,rfl,by show (SeqAt.readOf s.heap v).eqv d.py=_;rw [zg2 (D.lay f.1).1 h1];rfl⟩
   | succ m =>
    obtain ⟨e',h3,h4⟩:=zdE h2 f.2 m (by simpa using hm);exact ⟨e',by simpa using h3,by simpa using h4⟩
theorem zeW{s:Shared}:∀{its:List Value} {ds:List D} {as:List Addr},ReadsAll s.heap its (D.pys ds) as->its.length=ds.length
 | [],[],_,_=>rfl
 | [],_::_,_,h=>by cases h
 | _::_,[],_,h=>by cases h
 | _::its,_::ds,_,h=>by
  cases h with
  | cons _ h2=>rw [yaf,yaf,zeW h2]
def zmq(hK:X.K=cl.K)(hu:X.A.units+64<cLine):MtB X cl "list.count" ze8:=by
 intro pins s σ H x vs v us Q I rx rv h;obtain ⟨a,xs,l,w,d,v',r,rfl,rfl,rfl,hH,sh,tv,hg,q⟩:=h;unfold ze8 at hg;split at hg
 ·rename_i hf;cases hg;rw [yaa] at hf;cases rx;obtain ⟨u,rfl,ru⟩:=rv.one;obtain ⟨bs,rb⟩:=zgb I hK tv hf.1 ru;obtain ⟨z,its,n,r,hl,e⟩:=I.lstM hH;obtain ⟨as,ra⟩:=zc4 I hK sh hf.2 r;refine ycP F.slot_list_count ⟨_,e,rfl⟩ F.entry_list_count (F.args_list_count_2 _ _) (SeqAt.list_countAt a _ n none #[] u (fun y=>(SeqAt.readOf s.heap y).eqv d.py)) ⟨e,fun y hy=>zbT hu rb hf.1 ra hf.2 y hy,?_⟩;rw [zdQ ra hf.2];exact ⟨.int _,w.H,I.tok _,⟨_,rfl⟩,q⟩
 ·cases hg
theorem zmp(hK:X.K=cl.K)(hu:X.A.units+64<cLine):MtB X cl "list.index" ze2:=by
 intro pins s σ H x vs v us Q I rx rv h;obtain ⟨a,xs,l,w,d,v',r,rfl,rfl,rfl,hH,sh,tv,hg,q⟩:=h;unfold ze2 at hg;split at hg
 ·rename_i hf;cases hg;simp only [yaa,yaV] at hf;obtain ⟨⟨⟨f1,f2⟩,f3⟩,f4⟩:=hf;cases rx;obtain ⟨u,rfl,ru⟩:=rv.one;obtain ⟨bs,rb⟩:=zgb I hK tv f1 ru;obtain ⟨z,its,n,r,hl,e⟩:=I.lstM hH;obtain ⟨as,ra⟩:=zc4 I hK sh f2 r;have hlen:=zeW ra
  have hlt:l.findIdx (zdZ · d)<l.length:=by
   rw [List.findIdx_lt_length];unfold zje at f4;rwa [List.any_eq_true] at f4
  refine ycP F.slot_list_index ⟨_,e,rfl⟩ F.entry_list_index (F.args_list_index_2 _ _) (SeqAt.list_indexAt a _ n none #[] u (fun y=>(SeqAt.readOf s.heap y).eqv d.py) (l.findIdx (zdZ · d)) (by rw [yam];omega) (by omega) ?_ ?_) ⟨e,fun y hy=>zbT hu rb f1 ra f2 y hy,?_⟩
  ·obtain ⟨e',h1,h2⟩:=zdE (d:=d) ra f2 (l.findIdx (zdZ · d)) (by omega);simp only [List.getElem_toArray];rw [h2];rw [yac hlt] at h1;cases h1;exact List.findIdx_getElem (w:=hlt)
  ·intro m hm hmj
   have lm:m<its.length:=by rwa [yam] at hm
   obtain ⟨e',h1,h2⟩:=zdE (d:=d) ra f2 m lm;simp only [List.getElem_toArray];rw [h2];rw [yac (by omega)] at h1;cases h1;exact List.not_of_lt_findIdx hmj
  ·exact ⟨.int _,w.H,I.tok _,⟨_,rfl⟩,q⟩
 ·cases hg
def zq2{id:String}{ap cp:Pos}(slot:Slot "list" name id)(hty:typeOf (.builtin id)=pure (.type "method_descriptor"))(hm:MtB X cl id g)(hgb:∀l d r,g l d=some r->∃n,r=.int n)
  (hN:X.N[i]?=some x) (hv:Vis X.env.scope x) (hd:(x == ("__debug__":Str))=false) (hcd:(x == ("__classdict__":Str))=false) (he:PE X e (tH cl E f)) (hpl:zbr e=true) (hln:(ap.endLine == cp.line)=true) :
  PE X (.Call (.Attribute (.Name x pos') name ap) [e] [] cp) (tE cl E (eMt g i f)):=by
 refine PE.imp (zmg (es:=[]) ybd slot hty hm (zaU hN hv hd hcd) (zjB he znh (zbh hpl)) (hfew:=zim (by simp [hpl]) (by simp)) (hline:=hln) (hs:=zbh hpl) (hplain:=rfl)) ?_;rintro σ H Q ⟨B,w,ρ,S,rfl,R,q⟩
 have key:(∃o l,ρ[i]?=some (some (o,.lst l)))\/eMt g i f ρ S=.bad:=by
  unfold eMt;split
  ·rename_i o l hl;exact .inl ⟨o,l,hl⟩
  ·exact .inr rfl
 rcases key with ⟨o,l,hl⟩ | hb
 ·have e':eMt g i f ρ S=(f ρ S).bind fun d S1=>Out.of (g l d) S1:=by unfold eMt;rw [hl]
  rw [e'] at q;obtain ⟨a,xs,e1,h2,t⟩:=R.lstAny hl;refine ⟨_,e1,.inl ⟨rfl,_,SqL.of h2⟩,B,w,ρ,S,rfl,R,?_⟩
  cases hf:f ρ S with
  | bad=>rw [hf] at q;exact q.elim
  | exc c S1 =>
   rw [hf] at q;simp only [zao,hf,Out.bind];exact q
  | ok d S1 =>
   rw [hf] at q;simp only [zao,hf,Out.bind];intro vs w' R' F' sh;dsimp only [Out.bind] at q
   cases hg:g l d with
   | none=>rw [hg] at q;exact q.elim
   | some r =>
    rw [hg] at q;obtain ⟨n,rfl⟩:=hgb l d r hg;obtain ⟨a',xs',e1',h2',t'⟩:=R'.lstAny hl;rw [e1] at e1';cases e1'
    cases sh with
    | cons h1 hn =>
     cases hn;exact ⟨a,xs',l,w',d,_,n,rfl,rfl,rfl,h2',t',h1.top R',hg,q _ w' R' F' (.int _)⟩
 ·rw [hb] at q;exact q.elim
end
noncomputable def ziY(g:Str->Str->Option Bool)(C:Str):D->Option D
 | .exc c=>(g c C).map .bl
 | _=>none
noncomputable def clsV(cl:Cf)(C:Str):Value:=if C = "ValueError" then .type "ValueError" else .ref (cl C)
section
variable{X:Cx}{cl:Cf}{E:St->XK}{own:Bool}{e:Expr}{f fe:Fe}{pos pos':Pos}
def Shd.excI{w:Wd}{v:V}{c:Str}(h:Shd cl w v (.exc c)):∃a ob,v=.ref a/\w.H a=some (.frz ob (.own a))/\ob.cls=.ref (cl c):=by
 cases h with
 | exc h1 _ h2=>exact ⟨_,_,rfl,h1,h2⟩
theorem TopV.excI{w:Wd}{v:V}{c:Str}(h:TopV cl w v (.exc c)):∃a ob,v=.ref a/\w.H a=some (.frz ob (.own a))/\ob.cls=.ref (cl c):=by
 cases h with
 | sh h=>exact h.excI
 | ow _ t=>cases t
theorem zfe:bootBuiltins "ValueError" = some (.type "ValueError"):=by decide +kernel
def zhX{g:Str->Str->Option Bool}{C:Str}{vC:V}{p p2:Pos}(hg:Gl X "isinstance")(hm:X.mg "isinstance" = none)(hC:PE X (.Name C p2) (tC vC))(hv:∀u,zaW vC u->u=clsV cl C)
  (hk:∀c b,g c C=some b->PySem.W.ExcCls X.K (cl c)/\PySem.W.kitOne X.K (.ref (cl c)) (clsV cl C)=some b) (hp:zbr e=true) (he:PE X e (tH cl E f)) :
  PE X (.Call (.Name "isinstance" p) [e,.Name C p2] [] pos) (tE cl E (eUn (ziY g C) f)):=by
 refine PE.imp (zcq zi8 hg hm zgM (zaX he (zaX hC zbS rfl) (zbh hp)) (he:=zbh hp) (hpl:=rfl)) ?_;rintro σ H Q ⟨B,w,ρ,S,rfl,R,q⟩;refine ⟨B,w,ρ,S,rfl,R,?_⟩;unfold eUn at q
 cases hf:f ρ S with
 | bad=>rwa [hf] at q
 | exc c S1=>rwa [hf] at q
 | ok d S1 =>
  rw [hf] at q;intro v w1 R1 F1 h1;dsimp only [Out.bind] at q
  cases d with
  | exc c =>
   dsimp only [ziY] at q
   cases hb:g c C with
   | none=>rw [hb] at q;exact q.elim
   | some b =>
    rw [hb] at q;obtain ⟨k1,k2⟩:=hk c b hb;obtain ⟨a,ob,rfl,h2,h3⟩:=(h1.top R1).excI;exact ⟨a,_,ob,vC,_,b,rfl,h2,h3,k1,hv,k2,q _ w1 R1 F1 (.bl _)⟩
  | _=>exact q.elim
end
end S2
namespace PySem.F
end PySem.F
namespace L2
open PySem PySem.Spec PyProof.Rows
end L2
namespace PySem.F
end PySem.F
namespace L2
open PySem PySem.Spec PyProof.Rows
end L2
namespace S2
open PySem PySem.Spec PyProof.Rows L2
section
variable{X:Cx}{cl:Cf}{E:St->XK}{e:Expr}{f:Fe}{pos:Pos}
noncomputable def zpy:D->Option (List Int) | .tup l=>zdP l | _=>none
def keysOf:List D->Option (List (List Int))
 | []=>some []
 | d::l=>(zpy d).bind fun k=>(keysOf l).bind fun ks=>some (k::ks)
def zc9:D->Option D | .tup l=>(keysOf l).bind fun ks=>if decide (ks.length<=18) then some (.int (ST.ddN ks)) else none | _=>none
theorem zkx{K:PySem.W.Frag}{w:Wd}:∀{xs:List V} {ds:List D} {ks:Z2},Shds cl w xs ds->keysOf ds=some ks->zgV K w.H xs ks
 | _,_,ks,.nil,h=>by cases h;exact .nil
 | _,_,ks,.cons r t,h=>by
  unfold keysOf at h;rename_i v d vs ds'
  cases hk:zpy d with
  | none=>rw [hk] at h;cases h
  | some k =>
   rw [hk] at h;dsimp only [Option.bind] at h
   cases hks:keysOf ds' with
   | none=>rw [hks] at h;cases h
   | some ks' =>
    rw [hks] at h;cases h;refine .cons ?_ (zkx t hks)
    cases r with
    | tup e' _ rs =>
     have:zdP _=some k:=hk;obtain rfl:=zkE rs this;exact ⟨_,rfl,SqT.of e'⟩
    | _=>cases hk
def zus(ks:Z2):ST.ddN ks<=ks.length:=(ST.zsy ks).1
theorem zjF{p p2 pos2:Pos}(hc:X.calm=true)(hu:X.A.units+8<cLine)(hg:Gl X "len")(hm:X.mg "len" = none)(hg2:Gl X "set")(hm2:X.mg "set" = none)(he:PE X e (tE cl E f))(hs:starEach [e] X.env=[(false,eval e X.env)]) :
  PE X (.Call (.Name "len" p) [.Call (.Name "set" p2) [e] [] pos2] [] pos) (tE cl E (eUn zc9 f)):=by
 refine PE.imp (zcq zfK hg hm PySem.boot_len (zaX (zed (zeS hc hu) hg2 hm2 (by decide +kernel) (zaN he zea hs) (he:=hs) (hpl:=rfl)) zbS)) ?_;rintro σ H Q ⟨B,w,ρ,S,rfl,R,q⟩;refine ⟨B,w,ρ,S,rfl,R,?_⟩;unfold eUn at q
 cases hf:f ρ S with
 | bad=>rw [hf] at q;exact q.elim
 | exc c S1=>rw [hf] at q;simp only [zao,hf,Out.bind];exact q
 | ok d S1 =>
  rw [hf] at q;simp only [zao,hf,Out.bind];intro vs w1 R1 F1 sh;dsimp only [Out.bind] at q
  cases d with
  | tup l =>
   cases hk:keysOf l with
   | none=>simp [zc9,hk,Out.of] at q
   | some ks =>
    by_cases h18:ks.length<=18
    ·simp only [zc9,hk,Option.bind,h18,decide_true,yck] at q
     cases sh with
     | cons h1 hn =>
      cases hn
      cases h1 with
      | tup ep k r =>
       refine ⟨_,_,ks,rfl,SqT.of ep,zkx r hk,h18,fun l hl=>?_⟩;have hd:=zus ks;refine ⟨l,_,rfl,zap,by omega,?_⟩;exact q _ (w1.add l (.ext (ziz l (ST.ddN ks)))) (R1.grow (zaD hl _)) (F1.trans (zaD hl _).fut) (.int _)
    ·simp [zc9,hk,h18,Out.of] at q
  | _=>exact q.elim
end
noncomputable def ziN(f:Str)(o:Bool)(d:D):List (Str×Bool×D)->List (Str×Bool×D)
 | []=>[(f,o,d)]
 | (g,x)::r=>if g=f then (g,o,d)::r else (g,x)::ziN f o d r
def Ob.put(ob:Ob)(f:Str)(o:Bool)(d:D):Ob:=⟨ob.cls,ziN f o d ob.fs⟩
section
variable{cl:Cf}{w:Wd}{n:Nat}
def zcA.len(h:zcA cl w n fs gs):fs.length=gs.length:=Paired.length h
def zcA.look(h:zcA cl w n fs gs)(e:gs.lookup f=some (o,d)):∃v,fs.lookup f=some v/\zhA cl w (.fld n f) o v d:=by
 induction h with
 | nil=>cases e
 | @cons p q l1 l2 h t ih =>
  obtain ⟨h1,h2⟩:=h;obtain ⟨g,v⟩:=p;obtain ⟨g',o',d'⟩:=q;have h1':g=g':=h1;subst h1';rw [yaz] at e ⊢
  cases hb:f == g with
  | true =>
   rw [hb] at e;cases e;have:=eq_of_beq hb;subst this;exact ⟨v,rfl,h2⟩
  | false =>
   rw [hb] at e;exact ih e
def zcA.miss(h:zcA cl w n fs gs)(e:gs.lookup f=none):fs.lookup f=none:=by
 induction h with
 | nil=>rfl
 | @cons p q l1 l2 h t ih =>
  obtain ⟨h1,h2⟩:=h;obtain ⟨g,v⟩:=p;obtain ⟨g',o',d'⟩:=q;have h1':g=g':=h1;subst h1';rw [yaz] at e ⊢
  cases hb:f == g with
  | true=>rw [hb] at e;cases e
  | false=>rw [hb] at e;exact ih e
def zcA.put(h:zcA cl w n fs gs)(hy:zhA cl w (.fld n f) o y d):zcA cl w n (zc7 f y fs) (ziN f o d gs):=by
 induction h with
 | nil=>exact .cons ⟨rfl,hy⟩ .nil
 | @cons p q l1 l2 h t ih =>
  obtain ⟨h1,h2⟩:=h;obtain ⟨g,v⟩:=p;obtain ⟨g',o',d'⟩:=q;have h1':g=g':=h1;subst h1';show zcA cl w n (if g=f then (g,y)::l1 else (g,v)::zc7 f y l1) (if g=f then (g,o,d)::l2 else (g,o',d')::ziN f o d l2)
  by_cases hg:g=f
  ·subst hg;rw [if_pos rfl,if_pos rfl];exact .cons ⟨rfl,hy⟩ t
  ·rw [if_neg hg,if_neg hg];exact .cons ⟨rfl,h2⟩ ih
def zcA.keepBut(f:Fut w w')(k:∀a o g,g≠x->w.H a=some o->w.ow a=some (.fld n g)->w'.H a=some o/\w'.ow a=some (.fld n g))(h:zcA cl w n fs gs)(hn:∀q∈gs,q.1=x->q.2.1=false):zcA cl w' n fs gs:=by
 induction h with
 | nil=>exact .nil
 | @cons p q l1 l2 h t ih =>
  obtain ⟨h1,h2⟩:=h;refine .cons ⟨h1,?_⟩ (ih fun q hq=>hn q (yak _ hq))
  by_cases hx:q.1=x
  ·have ho:=hn q yar hx;rw [ho] at h2 ⊢
   rcases h2 with ⟨_,h2⟩ | ⟨e,_⟩
   ·exact .inl ⟨rfl,Shd.up f h2⟩
   ·cases e
  ·exact h2.keep f fun a o ha hr=>k a o q.1 hx ha hr
def zcA.keepF(f:Fut w w')(k:∀a o g,w.H a=some o->w.ow a=some (.fld n g)->w'.H a=some o/\w'.ow a=some (.fld n g))(h:zcA cl w n fs gs):zcA cl w' n fs gs:=by
 induction h with
 | nil=>exact .nil
 | @cons p q l1 l2 h t ih=>exact .cons ⟨h.1,h.2.keep f fun a o ha hr=>k a o q.1 ha hr⟩ ih
variable{B:Base}{σ:St}{ρ:Env}{S:Sto}
def World'.atObj(W:World' cl B w S)(h:S[n]?=some ob)(e:w.mu[n]?=some a):zsS cl w n a ob:=by
 obtain ⟨a',e',x⟩:=W.obj n ob h;rw [e] at e';cases e';exact x
def zhf(h:(S.set n ob)[m]?=some ob'):(m=n/\ob'=ob)\/(m≠n/\S[m]?=some ob'):=by
 by_cases e:n=m
 ·subst e
  have hlt:n<S.length:=by
   have:=(yag.mp h).1;rwa [yaI] at this
  rw [yaA hlt] at h;cases h;exact .inl ⟨rfl,rfl⟩
 ·rw [yaL e] at h;exact .inr ⟨fun z=>e z.symm,h⟩
def Rel.setf(R:Rel cl B σ w ρ S)(hn:S[n]?=some ob)(hmu:w.mu[n]?=some a)(how:w.ow a=some (.obj n))(hH:w.H a=some (.ins (cl ob.cls) dx fs))(hF:zcA cl w n fs ob.fs)(hy:Shd cl w y d) :
  Rel cl B σ (w.mut a (.ins (cl ob.cls) dx (zc7 f y fs))) ρ (S.set n (ob.put f false d))/\Fut w (w.mut a (.ins (cl ob.cls) dx (zc7 f y fs))):=by
 have ff:=zdF (w:=w) (p:=a) (o:=.ins (cl ob.cls) dx (zc7 f y fs)) (by rw [how];exact yaB _)
 have kp:∀b u,w.H b=some u->w.ow b≠some (.obj n)->(w.mut a (.ins (cl ob.cls) dx (zc7 f y fs))).H b=some u/\(w.mut a (.ins (cl ob.cls) dx (zc7 f y fs))).ow b=w.ow b:=fun b u hb hne=>⟨by
  show upd w.H a _ b=_
  rw [zac (fun z=>hne (by rw [z];exact how))];exact hb,rfl⟩
 have hB:B.Fr a=none:=(R.wd.own a _ how).elim (fun z=>by cases z) fun z=>z
 refine ⟨⟨⟨fun b u h=>?_,R.wd.own,by rw [yaI];exact R.wd.len,fun m ob' h=>?_,R.wd.tab.keep ff fun P ps h1 h2=>⟨(kp P _ h1 (by rw [h2];simp)).1,(kp P _ h1 (by rw [h2];simp)).2.trans h2⟩⟩,R.len,fun i o e h=>?_⟩,ff⟩
 ·refine ⟨?_,(R.wd.fr b u h).2⟩;show upd w.H a _ b=_;rw [zac (fun z=>by rw [z,hB] at h;cases h)];exact (R.wd.fr b u h).1
 ·rcases zhf h with ⟨rfl,rfl⟩ | ⟨hne,h⟩
  ·refine ⟨a,hmu,how,dx,_,zap,?_⟩;exact zcA.put (hF.keepF ff fun b u g hb hg=>⟨(kp b u hb (by rw [hg];exact fun z=>by cases z)).1,hg⟩) (.inl ⟨rfl,hy.up ff⟩)
  ·obtain ⟨b,e,x⟩:=R.wd.obj m ob' h;exact ⟨b,e,x.keep ff fun b u hb hm=>kp b u hb fun z=>by rw [z] at hm;exact hne hm.symm⟩
 ·obtain ⟨v,e1,x⟩:=R.slots i o e h;exact ⟨v,e1,x.keep ff fun b u hb hr=>⟨(kp b u hb (by rw [hr];exact fun z=>by cases z)).1,hr⟩⟩
def Wd.addF(w:Wd)(p:Addr)(o:HO)(n:Nat)(f:Str):Wd:=⟨upd w.H p o,fun b=>if b=p then some (.fld n f) else w.ow b,w.mu⟩
noncomputable def zdO(ob:Ob):Bool:=decide (ob.fs.map (·.1)).Nodup
def zcA.dic(ff:Fut w w')(k:∀b o g,g≠f->w.H b=some o->w.ow b=some (.fld n g)->w'.H b=some o/\w'.ow b=some (.fld n g))(hy:zhA cl w' (.fld n f) true (.ref a) d):∀{fs:List (Str×V)} {gs:List (Str×Bool×D)},zcA cl w n fs gs->(gs.map (·.1)).Nodup->fs.lookup f=some (.ref a)->zcA cl w' n fs (ziN f true d gs):=by
 intro fs gs h
 induction h with
 | nil=>intro _ e;cases e
 | @cons p q l1 l2 h t ih =>
  intro nd e;obtain ⟨h1,h2⟩:=h;obtain ⟨g,v⟩:=p;obtain ⟨g',o',d'⟩:=q;have h1':g=g':=h1;subst h1';rw [yaw,ya7] at nd;show zcA cl w' n ((g,v)::l1) (if g=f then (g,true,d)::l2 else (g,o',d')::ziN f true d l2);rw [yaz] at e
  by_cases hg:g=f
  ·subst hg;rw [if_pos rfl];simp only [ybr] at e;cases e;refine .cons ⟨rfl,hy⟩ ?_;have t':zcA cl w n l1 l2:=t;exact t'.keepBut ff k fun q hq hx=>absurd (yau.mpr ⟨q,hq,hx⟩) nd.1
  ·rw [if_neg hg];have hb:(f == g)=false:=ya6.mpr fun z=>hg z.symm
   rw [hb] at e;exact .cons ⟨rfl,h2.keep ff fun b o hb hr=>k b o g hg hb hr⟩ (ih nd.2 e)
def Wd.addO(w:Wd)(x dx C:Addr)(n:Nat):Wd:=⟨upd (upd w.H dx (.own x)) x (.ins C dx []),fun b=>if b=x then some (.obj n) else if b=dx then none else w.ow b,w.mu++[x]⟩
theorem Rel.made(R:Rel cl B σ w ρ S)(hx:w.H x=none)(hdx:w.H dx=none)(ne:dx≠x):Rel cl B σ (w.addO x dx (cl c) S.length) ρ (S++[⟨c,[]⟩])/\Fut w (w.addO x dx (cl c) S.length):=by
 have kp:∀b o,w.H b=some o->(w.addO x dx (cl c) S.length).H b=some o/\(w.addO x dx (cl c) S.length).ow b=w.ow b:=fun b o hb=>by
  have n1:b≠x:=zaw hb hx;have n2:b≠dx:=zaw hb hdx;refine ⟨?_,?_⟩
  ·show upd (upd w.H dx _) x _ b=_;rw [zac n1,zac n2];exact hb
  ·show (if b=x then _ else if b=dx then _ else w.ow b)=_;rw [if_neg n1,if_neg n2]
 have ff:Fut w (w.addO x dx (cl c) S.length):=⟨fun b o hb hk=>⟨(kp b o hb).1,(kp b o hb).2.trans hk⟩,fun n a h=>by
  show (w.mu++[x])[n]?=some a
  rw [yaE (yag.mp h).1];exact h⟩
 have hBx:B.Fr x=none:=by
  cases z:B.Fr x with
  | none=>rfl
  | some u=>have:=(R.wd.fr x u z).1;rw [hx] at this;cases this
 refine ⟨⟨⟨fun b o h=>?_,fun b r h=>?_,by show (w.mu++[x]).length=_;rw [yas,yas,R.wd.len];rfl,fun m ob h=>?_,R.wd.tab.keep ff fun P ps h1 h2=>⟨(kp P _ h1).1,(kp P _ h1).2.trans h2⟩⟩,R.len,fun i o e h=>?_⟩,ff⟩
 ·have:=kp b o (R.wd.fr b o h).1;exact ⟨this.1,this.2.trans (R.wd.fr b o h).2⟩
 ·have h':(if b=x then some (Root.obj S.length) else if b=dx then none else w.ow b)=some r:=h;split at h'
  ·rename_i z;rw [z];exact .inr hBx
  ·split at h'
   ·cases h'
   ·exact R.wd.own b r h'
 ·by_cases hm:m<S.length
  ·rw [yaE hm] at h;obtain ⟨b,e,y⟩:=R.wd.obj m ob h;exact ⟨b,ff.mu _ _ e,y.keep ff fun b o hb _=>kp b o hb⟩
  ·have hm':m=S.length:=by
    have:=(yag.mp h).1;rw [yas,ybB] at this;omega
   subst hm';rw [yaK (yai _),Nat.sub_self] at h;cases h;refine ⟨x,?_,if_pos rfl,dx,[],zap,.nil⟩;show (w.mu++[x])[S.length]?=some x;rw [yaK (by rw [R.wd.len];exact yai _),R.wd.len,Nat.sub_self];rfl
 ·obtain ⟨v,e1,y⟩:=R.slots i o e h;exact ⟨v,e1,y.keep ff fun b o hb hr=>⟨(kp b o hb).1,(kp b o hb).2.trans hr⟩⟩
end
noncomputable def zmI(cn f:Str)(d:D)(S:Sto):Option D:=match d with
 | .ref n=>(match S[n]? with
  | some ob=>if ob.cls=cn then (match ob.fs.lookup f with | some (false,d)=>some d | _=>none) else none
  | none=>none)
 | _=>none
def znS(cn f:Str)(fe:Fe):Fe:=fun ρ S=>(fe ρ S).bind fun d S1=>match zmI cn f d S1 with | some r=>.ok r S1 | none=>.bad
noncomputable def zfR(cl:Cf)(cn f:Str):Prop:=Cls cl.K (cl cn)/\zcj cl.K (cl cn) f
section
variable{cl:Cf}{cn:Str}{X:Cx}{E:St->XK}{e:Expr}{fe:Fe}{f:Str}{pos:Pos}{B:Base}{σ:St}{w:Wd}{ρ:Env}{S:Sto}
def zfg(R:Rel cl B σ w ρ S)(hv:Shd cl w v (.ref n))(hn:S[n]?=some ob):∃a dx fs,v=.ref a/\w.mu[n]?=some a/\w.ow a=some (.obj n)/\w.H a=some (.ins (cl ob.cls) dx fs)/\zcA cl w n fs ob.fs:=by
 cases hv with
 | ref e =>
  obtain ⟨h1,dx,fs,h2,h3⟩:=R.wd.atObj hn e;exact ⟨_,dx,fs,rfl,e,h1,h2,h3⟩
def znZ(hk:zfR cl cn f)(R:Rel cl B σ w ρ S)(hv:Shd cl w v d)(hd:zmI cn f d S=some r):∃a C dx fs y,v=.ref a/\w.H a=some (.ins C dx fs)/\Cls cl.K C/\zcj cl.K C f/\fs.lookup f=some y/\Shd cl w y r:=by
 unfold zmI at hd
 cases d with
 | ref n =>
  dsimp only at hd
  cases hS:S[n]? with
  | none=>rw [hS] at hd;cases hd
  | some ob =>
   rw [hS] at hd;dsimp only at hd;split at hd
   ·rename_i hfk;split at hd
    ·rename_i d hl;cases hd;obtain ⟨a,dx,fs,rfl,_,_,hH,hF⟩:=zfg R hv hS;obtain ⟨v,lv,fr⟩:=hF.look hl
     rcases fr with ⟨_,fr⟩ | ⟨z,_⟩
     ·exact ⟨a,_,dx,fs,v,rfl,hH,hfk ▸ hk.1,hfk ▸ hk.2,lv,fr⟩
     ·cases z
    ·cases hd
   ·cases hd
 | _=>cases hd
def zq4(hk:zfR cl cn f)(kk:X.K=cl.K)(he:PE X e (tE cl E fe))(hb:attributeBase e f X.env (eval e X.env)=eval e X.env):PE X (.Attribute e f pos) (tE cl E (znS cn f fe)):=by
 refine PE.imp (zbR he hb) ?_;rintro σ H Q ⟨B,w,ρ,S,rfl,R,q⟩;refine ⟨B,w,ρ,S,rfl,R,?_⟩;unfold znS at q
 cases hf:fe ρ S with
 | bad=>rwa [hf] at q
 | exc c S1=>rwa [hf] at q
 | ok d S1 =>
  rw [hf] at q;intro v w1 R1 F1 h1;dsimp only [Out.bind] at q
  cases hd:zmI cn f d S1 with
  | none=>rw [hd] at q;exact q.elim
  | some r =>
   rw [hd] at q;obtain ⟨a,C,dx,fs,y,rfl,e1,e2,e3,e4,e5⟩:=znZ hk R1 h1 hd;rw [kk];exact ⟨a,C,dx,fs,y,rfl,e1,e2,e3,e4,q y w1 R1 F1 e5⟩
end
end S2
namespace L2
open PySem PySem.Spec PyProof.Rows
end L2
namespace S2
open PySem PySem.Spec PyProof.Rows L2
def zjK(cn f:Str)(fo fe:Fe):Fs:=fun ρ S=>match fe ρ S with
 | .bad=>.bad
 | .exc c S1=>.ex c ρ S1
 | .ok r S1=>(match fo ρ S1 with
  | .bad=>.bad
  | .exc c S2=>.ex c ρ S2
  | .ok (.ref n) S2=>(match S2[n]? with
   | some ob=>if decide (ob.cls=cn)&&decide (ob.fs.length<1000) then .nx ρ (S2.set n (ob.put f false r)) else .bad
   | none=>.bad)
  | .ok _ _=>.bad)
noncomputable def zaG(c m:Str)(d:D)(S:Sto):Bool:=match d with
 | .ref n=>(match S[n]? with | some ob=>decide (ob.cls=c)&&(ob.fs.lookup m).isNone | none=>false)
 | _=>false
def zbf(c m:Str)(G:List D->Sto->Out D)(fo:Fe)(fs:List Fe):Fe:=fun ρ S=>(fo ρ S).bind fun d S1=>if zaG c m d S1 then (zao fs ρ S1).bind fun ds S2=>G (d::ds) S2 else .bad
def eMk(c:Str)(dds:List D)(G:List D->Sto->Out D)(fs:List Fe):Fe:=fun ρ S=>(zao fs ρ S).bind fun ds S1=>(G (.ref S1.length::(ds++dds)) (S1++[⟨c,[]⟩])).bind fun r S2=>match r with | .non=>.ok (.ref S1.length) S2 | _=>.bad
structure Same'(cl:Cf)(X:Cx):Prop where
 kk:X.K=cl.K
 pp:X.prog=cl.P
 ww:X.w=cl.wo
section
variable{cl:Cf}{cn:Str}{X:Cx}{E:St->XK}{a o e:Expr}{fa fo fe:Fe}{f:Str}{pos apos:Pos}{own:Bool}
def zov(sm:Same' cl X)(hk:zfR cl cn f)(ho:PE X o (tE cl E fo))(he:PE X e (tE cl E fe))(hs:swapsWith e (some (.Attribute o f apos)) pos.line X.env=pure false):PS X (.Assign [.Attribute o f apos] e pos) (tS cl E own (zjK cn f fo fe)):=by
 refine PS.imp (zj5 ho he hs) ?_;rintro De σ H ⟨B,w,ρ,S,rfl,R,q⟩;refine ⟨B,w,ρ,S,rfl,R,?_⟩;unfold zjK at q
 cases hf:fe ρ S with
 | bad=>rwa [hf] at q
 | exc c S1=>rw [hf] at q;exact fun w' R' F'=>q σ w' R' F'
 | ok r S1 =>
  rw [hf] at q;intro v w1 R1 F1 h1;dsimp only at q;refine ⟨B,w1,ρ,S1,rfl,R1,?_⟩
  cases hfo:fo ρ S1 with
  | bad=>rwa [hfo] at q
  | exc c S2=>rw [hfo] at q;exact fun w' R' F'=>q σ w' R' (F1.trans F')
  | ok d S2 =>
   rw [hfo] at q;intro y w2 R2 F2 h2
   cases d with
   | ref n =>
    dsimp only at q
    cases hS:S2[n]? with
    | none=>rw [hS] at q;exact q.elim
    | some ob =>
     rw [hS] at q;dsimp only at q;split at q
     ·rename_i hc0;rw [yaa] at hc0;obtain ⟨a,dx,fs,rfl,hmu,how,hH,hF⟩:=zfg R2 h2 hS;rw [sm.kk];refine ⟨a,_,dx,fs,rfl,hH,yaq hc0.1 ▸ hk.1,yaq hc0.1 ▸ hk.2,by rw [hF.len];exact yaq hc0.2,?_⟩;obtain ⟨R3,F3⟩:=R2.setf (f:=f) hS hmu how hH hF (h1.up F2);exact q σ _ R3 (F1.trans (F2.trans F3))
     ·exact q.elim
   | _=>exact q.elim
end
noncomputable def zf0(C:Addr)(m:Str)(sp:Sp)(dvs:List V)(E:St->XK)(ta:TE)(t:TA):TE:=fun σ H Q=>ta σ H fun x H1=>∃a dx fs,x=.ref a/\H1 a=some (.ins C dx fs)/\fs.lookup m=none ∧
 t σ H1 fun vs H2=>sp (x::(vs++dvs)) H2 Q (E σ)
noncomputable def znc(C:Addr)(sp:Sp)(dvs:List V)(E:St->XK)(t:TA):TE:=fun σ H Q=>t σ H fun vs H1=>∀x dx,H1 x=none->H1 dx=none->dx≠x →
 sp (.ref x::(vs++dvs)) (upd (upd H1 dx (.own x)) x (.ins C dx [])) (fun v H2=>v=.non/\Q (.ref x) H2) (E σ)
section
variable{X:Cx}{CX:CXT}{k:Nat}{f C:Addr}{fd:FuncData}{ps:List Str}{sp:Sp}{dvs:List V}{ds:List Value}{E:St->XK}{x m:Str}{p pos apos:Pos}{e o:Expr}{es:List Expr}{ta:TE}{t:TA}
def zl8(he:PE X o ta)(c:Cls X.K C)(hm:Meth X.K C m f)(F:FnOk X.prog X.w X.K X.mg X.base CX k f fd ps sp)(hr:Room k X.A)(hb:zcx X.K fd ps ds)(hd:Vals dvs ds)(hx:zcP CX X E)(ha:PA X (e::es) t)
  (hst:starEach (e::es) X.env=(false,eval e X.env)::starEach es X.env) (hpl:(backTo pos (starEach es X.env)).any (·.1)=false)
  (ht:eval (.Call (.Attribute o m apos) (e::es) [] pos) X.env=(do
   let ov ← eval o X.env
   standAt apos.atName
   let (f,first) ← holding [ov] (getMethod ov m pl)
   callWith pos f first (backTo pos (starEach (e::es) X.env)) (backToKw pos (keywordEach [] X.env)))) :
  PE X (.Call (.Attribute o m apos) (e::es) [] pos) (zf0 C m sp dvs E ta t):=by
 intro pins s σ H Q I h;refine PySem.W.methodCall_KW (pl:=pl) (thn (he pins s σ H _ I h) fun u s1 ⟨x,H1,I1,rx,a,dx,fs,ex,ea,l,q⟩=>?_) ht;subst ex;obtain rfl:u=Value.ref a:=rx;refine ze3 I1 ea c hm l ?_;refine yby (first:=[.ref a]) (h₀:=X.base) I.ok.mod.kin hm.kp (thn (ha pos pins s1 σ H1 _ I1 q) fun us s2 ⟨vs,H2,I2,r,q2⟩=>⟨I2.kIn,?_⟩) hst hpl;exact zfm (us:=.ref a::us) (vs:=.ref a::vs) F hr hb hd hx I2 (.cons rfl r) q2
def zkd(he:PE X o ta)(c:Cls X.K C)(hm:Meth X.K C m f)(F:FnOk X.prog X.w X.K X.mg X.base CX k f fd ps sp)(hr:Room k X.A)(hb:zcx X.K fd ps ds)(hd:Vals dvs ds)(hx:zcP CX X E)
  (ht:eval (.Call (.Attribute o m apos) [] [] pos) X.env=(do
   let ov ← eval o X.env
   standAt apos.atName
   let (f,first) ← holding [ov] (getMethod ov m pl)
   callWith pos f first (backTo pos (starEach [] X.env)) (backToKw pos (keywordEach [] X.env)))) :
  PE X (.Call (.Attribute o m apos) [] [] pos) (zf0 C m sp dvs E ta zsX):=by
 intro pins s σ H Q I h;refine PySem.W.methodCall_KW (pl:=pl) (thn (he pins s σ H _ I h) fun u s1 ⟨x,H1,I1,rx,a,dx,fs,ex,ea,l,q⟩=>?_) ht;subst ex;obtain rfl:u=Value.ref a:=rx;refine ze3 I1 ea c hm l ?_;exact PySem.W.callWith_K0 (first:=[.ref a]) I1.kIn hm.kp (zfm (us:=[.ref a]) (vs:=[.ref a]) F hr hb hd hx I1 (.cons rfl .nil) q)
def zjQ(M:Mk X.K C f)(F:FnOk X.prog X.w X.K X.mg X.base CX k f fd ps sp)(hr:Room (k+1) X.A)(hb:zcx X.K fd ps ds)(hd:Vals dvs ds)
  (hx:zcP CX X E) (I:Inv X pins σ H s) (r:Vals vs us)
  (h:∀x dx,H x=none->H dx=none->dx≠x->sp (.ref x::(vs++dvs)) (upd (upd H dx (.own x)) x (.ins C dx [])) (fun v H2=>v=.non/\Q (.ref x) H2) (E σ)) :
  wpAny (model X.prog X.w) X.A (call (.ref C) us) (EP X pins σ Q) X.xe s:=by
 have hq:=h (s.heap.objs.size+1) s.heap.objs.size (I.hok.fresh (ybg _)) (I.hok.fresh (yai _)) (yav (Nat.lt_succ_self _));have I2:=Inv.made (C:=C) I;have r2:Vals (V.ref (s.heap.objs.size+1)::(vs++dvs)) (Value.ref (s.heap.objs.size+1)::(us++ds)):=.cons rfl (r.append hd)
 have hl:(Value.ref (s.heap.objs.size+1)::us++ds).length=ps.length:=by
  have e:=r2.length;rw [F.len _ _ _ _ hq] at e;exact e.symm
 refine ycG (zmr (f:=f) I.kIn M.makes M.init (ybH.mp M.fn) (ybo (F.run _ X.stack _ _ ⟨Value.ref (s.heap.objs.size+1)::us,[]⟩ (Value.ref (s.heap.objs.size+1)::(us++ds)) _ _ (E σ) (hr.make C us [])
  (I2.env0.make C us []) (hb _ (Value.ref (s.heap.objs.size+1)::us) I2.kIn hl) r2 hq) fun r s' hq'=>?_))
 cases r with
 | error e=>exact hx pins σ _ _ e s' I2 hq'
 | ok fl =>
  cases fl with
  | ret u =>
   obtain ⟨v,H',I3,rv,ev,q3⟩:=I2.after hq';subst ev;exact ⟨rv,⟨V.ref (s.heap.objs.size+1),H',I3,rfl,q3⟩⟩
  | next=>exact False.elim hq'
  | brk=>exact False.elim hq'
  | cont=>exact False.elim hq'
def zh3(M:Mk X.K C f)(F:FnOk X.prog X.w X.K X.mg X.base CX k f fd ps sp)(hr:Room (k+1) X.A)(hg:Gl X x)(hm:X.mg x=some (.ref C))(hb:zcx X.K fd ps ds)(hd:Vals dvs ds)(hx:zcP CX X E)
  (ha:PA X (e::es) t) (hdb:(x == ("__debug__":Str))=false) (he:starEach (e::es) X.env=(false,eval e X.env)::starEach es X.env) (hpl:(backTo pos (starEach es X.env)).any (·.1)=false) :
  PE X (.Call (.Name x p) (e::es) [] pos) (znc C sp dvs E t):=by
 intro pins s σ H Q I h;refine ya4 (zcI I hg hm ?_ hdb);refine yby (h₀:=X.base) I.ok.mod.kin M.kp (thn (ha pos pins s σ H _ I h) fun us s1 ⟨vs,H1,I1,r,q⟩=>⟨I1.kIn,?_⟩) he hpl;exact zjQ M F hr hb hd hx I1 r q
end
section
variable{cl:Cf}{E:St->XK}{fs:List Fe}{fo:Fe}{G:List D->Sto->Out D}{σ:St}{H:Hp}{Q:VK}{n:Nat}{c m:Str}{ρ:Env}
theorem zdq:∀{fs:List Fe} {S S1:Sto} {ds:List D},zao fs ρ S=.ok ds S1->ds.length=fs.length
 | [],S,S1,ds,h=>by cases h;rfl
 | f::fs,S,S1,ds,h=>by
  unfold zao at h
  cases h1:f ρ S with
  | bad=>rw [h1] at h;cases h
  | exc c S2=>rw [h1] at h;cases h
  | ok d S2 =>
   rw [h1] at h;dsimp only [Out.bind] at h
   cases h2:zao fs ρ S2 with
   | bad=>rw [h2] at h;cases h
   | exc c S3=>rw [h2] at h;cases h
   | ok es S3=>rw [h2] at h;cases h;rw [yaf,yaf,zdq h2]
def zko(R:Rel cl B σ w ρ S)(hv:Shd cl w v d)(h:zaG c m d S=true):∃a dx fs,v=.ref a/\w.H a=some (.ins (cl c) dx fs)/\fs.lookup m=none:=by
 unfold zaG at h
 cases d with
 | ref n =>
  dsimp only at h
  cases hS:S[n]? with
  | none=>rw [hS] at h;cases h
  | some ob =>
   rw [hS] at h;dsimp only at h;rw [yaa] at h;obtain ⟨a,dx,fs,rfl,_,_,hH,hF⟩:=zfg R hv hS;have e:=yaq h.1;subst e;exact ⟨a,dx,fs,rfl,hH,hF.miss (by simpa using h.2)⟩
 | _=>cases h
def zr3(q:tE cl E (zbf c m G fo fs) σ H Q)(hn:fs.length+1=n):zf0 (cl c) m (zfS cl n false G) [] E (tE cl E fo) (tAs cl E fs) σ H Q:=by
 obtain ⟨B,w,ρ,S,rfl,R,q⟩:=q;refine ⟨B,w,ρ,S,rfl,R,?_⟩;unfold zbf at q
 cases hfo:fo ρ S with
 | bad=>rwa [hfo] at q
 | exc c S1=>rwa [hfo] at q
 | ok d S0 =>
 rw [hfo] at q;intro v w0 R0 F0 h0;dsimp only [Out.bind] at q
 cases hok:zaG c m d S0 with
 | false=>rw [hok] at q;exact q.elim
 | true =>
 rw [hok,if_pos rfl] at q;obtain ⟨a,dx,fs',rfl,hH,hm⟩:=zko R0 h0 hok;refine ⟨a,dx,fs',rfl,hH,hm,B,w0,ρ,S0,rfl,R0,?_⟩
 cases hf:zao fs ρ S0 with
 | bad=>rwa [hf] at q
 | exc c S1=>rw [hf] at q;exact fun w1 R1 F1=>q w1 R1 (F0.trans F1)
 | ok ds S1 =>
  rw [hf] at q;intro vs w1 R1 F1 h1;dsimp only at q;refine ⟨?_,w1.base,w1.inn,d::ds,S1,rfl,R1.wd.enter,?_,?_⟩
  ·rw [yaY,yaf,h1.length,zdq hf];exact hn
  ·rw [yaY];exact .cons ((h0.up F1).up (zbB w1)) (h1.up (zbB w1))
  cases hg:G (d::ds) S1 with
  | bad=>rwa [hg] at q
  | exc c S2 =>
   rw [hg] at q;intro w2 W2 F2;obtain ⟨R3,F3⟩:=R1.leave W2 F2;exact q (w1.back w2) R3 (F0.trans (F1.trans F3))
  | ok r S2 =>
   rw [hg] at q;intro v w2 W2 F2 r2;obtain ⟨R3,F3⟩:=R1.leave W2 F2;exact q v (w1.back w2) R3 (F0.trans (F1.trans F3)) (Shd.up (zb3 W2) r2)
def zr2(q:tN cl E (zbf c m G fo fs) σ H Q)(hn:fs.length+1=n):zf0 (cl c) m (zfS cl n true G) [] E (tE cl E fo) (tAs cl E fs) σ H Q:=by
 obtain ⟨B,w,ρ,S,rfl,R,q⟩:=q;refine ⟨B,w,ρ,S,rfl,R,?_⟩;unfold zbf at q
 cases hfo:fo ρ S with
 | bad=>rwa [hfo] at q
 | exc c S1=>rwa [hfo] at q
 | ok d S0 =>
 rw [hfo] at q;intro v w0 R0 F0 h0;dsimp only [Out.bind] at q
 cases hok:zaG c m d S0 with
 | false=>rw [hok] at q;exact q.elim
 | true =>
 rw [hok,if_pos rfl] at q;obtain ⟨a,dx,fs',rfl,hH,hm⟩:=zko R0 h0 hok;refine ⟨a,dx,fs',rfl,hH,hm,B,w0,ρ,S0,rfl,R0,?_⟩
 cases hf:zao fs ρ S0 with
 | bad=>rwa [hf] at q
 | exc c S1=>rw [hf] at q;exact fun w1 R1 F1=>q w1 R1 (F0.trans F1)
 | ok ds S1 =>
  rw [hf] at q;intro vs w1 R1 F1 h1;dsimp only at q;refine ⟨?_,w1.base,w1.inn,d::ds,S1,rfl,R1.wd.enter,?_,?_⟩
  ·rw [yaY,yaf,h1.length,zdq hf];exact hn
  ·rw [yaY];exact .cons ((h0.up F1).up (zbB w1)) (h1.up (zbB w1))
  cases hg:G (d::ds) S1 with
  | bad=>rwa [hg] at q
  | exc c S2 =>
   rw [hg] at q;intro w2 W2 F2;obtain ⟨R3,F3⟩:=R1.leave W2 F2;exact q (w1.back w2) R3 (F0.trans (F1.trans F3))
  | ok r S2 =>
   rw [hg] at q;intro v w2 W2 F2 r2;obtain ⟨R3,F3⟩:=R1.leave W2 F2;obtain ⟨a,o,i,rfl,k1,k2,t⟩:=r2;have hfr:w1.base.Fr a=none:=(W2.own a _ k1).elim (fun z=>by cases z) fun z=>z
   have k3:(w1.back w2).ow a=some .far:=by
    show (if (w1.base.Fr a).isSome=true then w1.ow a else Root.out (w2.ow a))=_;rw [hfr,k1];rfl
   have hb:B.Fr a=none:=by
    cases z:B.Fr a with
    | none=>rfl
    | some u=>rw [zcv R1.wd z] at hfr;cases hfr
   have hd:=zhg (w:=w1.back w2) (a:=a) (by rw [k3];exact yaB _);have:=q a o ((w1.back w2).del a) (R3.del k3 hb) (F0.trans (F1.trans (F3.trans hd))) (if_pos rfl) ((t.up (zb3 W2)).up hd);rwa [zjh (w:=w1.back w2) k2] at this
def zvb(hdv:∀w,Shds cl w dvs dds)(q:tE cl E (eMk c dds G fs) σ H Q)(hn:fs.length+dds.length+1=n):znc (cl c) (zfS cl n false G) dvs E (tAs cl E fs) σ H Q:=by
 obtain ⟨B,w,ρ,S,rfl,R,q⟩:=q;refine ⟨B,w,ρ,S,rfl,R,?_⟩;unfold eMk at q
 cases hf:zao fs ρ S with
 | bad=>rwa [hf] at q
 | exc c S1=>rwa [hf] at q
 | ok ds S1 =>
  rw [hf] at q;intro vs w1 R1 F1 h1;dsimp only [Out.bind] at q;intro x dx hx hdx ne;obtain ⟨R2,F2⟩:=R1.made (c:=c) hx hdx ne
  have hmu:(w1.addO x dx (cl c) S1.length).mu[S1.length]?=some x:=by
   show (w1.mu++[x])[S1.length]?=some x;rw [yaK (by rw [R1.wd.len];exact yai _),R1.wd.len,Nat.sub_self];rfl
  refine ⟨?_,(w1.addO x dx (cl c) S1.length).base,(w1.addO x dx (cl c) S1.length).inn,.ref S1.length::(ds++dds),S1++[⟨c,[]⟩],rfl,R2.wd.enter,?_,?_⟩
  ·rw [yaf,yas,h1.length,zdq hf,(hdv w1).length];exact hn
  ·exact .cons (.ref hmu) (((h1.up F2).up (zbB _)).append (hdv _))
  cases hg:G (.ref S1.length::(ds++dds)) (S1++[⟨c,[]⟩]) with
  | bad=>rwa [hg] at q
  | exc c S2 =>
   rw [hg] at q;intro w2 W2 F3;obtain ⟨R3,F4⟩:=R2.leave W2 F3;exact q ((w1.addO x dx _ S1.length).back w2) R3 (F1.trans (F2.trans F4))
  | ok r S2 =>
   rw [hg] at q;intro v w2 W2 F3 r2
   cases r with
   | non =>
    obtain ⟨R3,F4⟩:=R2.leave W2 F3;refine ⟨by cases r2;rfl,q (.ref x) ((w1.addO x dx _ S1.length).back w2) R3 (F1.trans (F2.trans F4)) (.ref (F4.mu _ _ hmu))⟩
   | _=>exact q.elim
end
end S2
namespace L2
open PySem PySem.Spec PyProof.Rows
end L2
namespace S2
open PySem PySem.Spec PyProof.Rows L2
end S2
namespace PySem
open Sem (wp)
namespace F
def zgp:typeLookup (.type "list") "keys" = pure none:=by rw [typeLookup_type,builtinLookup_eq_fast];kernel_rfl
end F
section
variable{prog:Program}{w:World}{A:Around}{E:Z5}{s:Shared}{a:Addr}{o:Obj}
theorem zkw{xs:Array Value}{k:Nat}{sl:Array (Option Value)}{Q:Option Value->Shared->Prop}(hx:s.heap.get? a=some { cls:=.type "list",dict:=none,data:=.seq xs k,slots:=sl })(hA:A.handled=none)
  (h:∀h' tk,(∀b o,s.heap.get? b=some o->h'.get? b=some o)->Q none { s with heap:=h',toks:=tk }) :
  wpAny (model prog w) A (getAttr? (.ref a) "keys") Q E s:=by
 obtain ⟨hp,g,d,tk,os⟩:=s;have hT:∀tk',(⟨hp,g,d,tk',os⟩:Shared).TypeIs (.ref a) "list":=fun _=>⟨_,hx,rfl⟩
 have f1:=sub_AttributeError;have f3:=ybY.lookup;have f4:=ybY.bind (.ref a);have f5:=am_list_getattr_none;unfold getAttr? getAttrBy? getAttrBy
 repeat (any_goals (first | assumption | exact hT _ | ((with_reducible show wpAny _ _ (call (Value.builtin "list.__getattribute__") _ _) _ _ _);refine ycP ybY (hT _) am_entry_list_getattribute (F.args_list_getattribute_2 _ _) (meets_getattribute_miss_list a xs k sl "keys" _ F.zgp (by decide)) ⟨hx,hA,fun h' tk' e hx'=>?_⟩) | wp_step))
 obtain ⟨t',u',he⟩:=hx'.there;show wpAny _ _ (getattributeRaised _ _ _ _ _ _ _) _ _ _;unfold getattributeRaised
 repeat (any_goals (first | assumption | wp_step))
 exact h _ _ fun b o e=>hx'.keeps b o e
end
namespace F
def zbs:entryFor table "dict.update.loop" = some Builtin.«dict.update.loop»:=entryFor_of_tree (by kernel_rfl)
theorem zaC:plainId "dict.update.loop" = true:=by decide +kernel
end F
end PySem
namespace ST
open PySem PySem.Spec PyProof.Rows
section
variable{prog:Program}{w:World}{K:Type}[DecidableEq K]{knd:KeyKind prog w K}{A:Around}{R:Result->Shared->Prop}{I:Addr}{fp wr:List Addr}{G:Array GenState->Array GenState->Prop}{n:Nat}{P:Nat->Value->Prop}{St:Nat->Shared->Prop}
noncomputable def znu(ks:Nat->K)(vf:Nat->Value)(i:Nat):List (K×Value):=(List.range i).foldl (fun acc j=>stored acc (ks j) (vf j)) []
def zeb{ks:Nat->K}{vf:Nat->Value}{i:Nat}:znu ks vf (i+1)=stored (znu ks vf i) (ks i) (vf i):=by
 unfold znu;rw [List.range_succ,ycJ];rfl
theorem zh0{ks:Nat->K}{vf:Nat->Value}:∀{i:Nat},(znu ks vf i).length<=i
 | 0=>yai _
 | i+1=>by
  rw [zeb];refine yax ?_ (ybS (zh0 (ks:=ks) (vf:=vf) (i:=i)));unfold stored;split
  ·rw [yad];exact ybg _
  ·rw [yas];exact yai _
theorem zkY(W:WalksS prog w A.in1 I fp wr G n P St)(S:Addr)(hSf:S ∉ fp)(T:Nat->Addr)(ks:Nat->K)(kf vf:Nat->Value)(hval:∀i v,P i v->v=.ref (T i))(hk:∀i,i<n->knd.is (ks i) (kf i)=true)(hT:∀i,i<n->T i ∉ S::wr)(hn:n<=sizeLine) :
  ∀(k i:Nat) (tk:Tok) (s:Shared),n-i=k->i<=n->St i s->s.heap.DictOf knd S (znu ks vf i)->(∀i,i<n->s.heap.IsTuple (T i) #[kf i,vf i]) →
   (∀s',Moved (S::wr) G s s'->s'.heap.DictOf knd S (znu ks vf n)->R (.ok (.ret .none)) s') →
   codeAny (model prog w) A (.builtin "dict.update.loop" ⟨[.ref S,.ref I,.int i tk,.none],[]⟩) R s:=by
 have hSw:S ∉ wr:=fun h=>hSf (W.sub _ h)
 have hsub:∀b∈wr,b∈S::wr:=fun b hb=>yak _ hb
 intro k
 induction k with
 | zero =>
  intro i tk s hk' hi hst hS hTs hR
  have hin:i=n:=by omega
  subst hin;refine ybE PySem.F.zbs ?_;rw [ybP PySem.F.zaC _];show wpAny _ A.in1 (pyNext (.ref I) >>= _) _ _ s;refine yab (W.done s _ _ hst fun s' hm=>?_);show wpAny _ A.in1 (Builtin.Dict.addKeywords S [] >>= _) _ _ s';exact yab (yal (yal (hR s' (hm.mono hsub) (hS.at fun o ho=>hm.heap S _ hSw ho))))
 | succ k ih =>
  intro i tk s hk' hi hst hS hTs hR
  have hlt:i<n:=by omega
  refine ybE PySem.F.zbs ?_;rw [ybP PySem.F.zaC _];show wpAny _ A.in1 (pyNext (.ref I) >>= _) _ _ s;refine yab (W.item i s _ _ hlt hst fun v s' hP hst' hm=>?_);obtain rfl:=hval i v hP
  have hTs':∀i,i<n->s'.heap.IsTuple (T i) #[kf i,vf i]:=fun i hi=>by
   obtain ⟨o,ho,r⟩:=hTs i hi;exact ⟨o,hm.heap _ _ (fun z=>hT i hi (hsub _ z)) ho,r⟩
  have hS':=hS.at (h':=s'.heap) fun o ho=>hm.heap S _ hSw ho
  refine yab (ybb (yab ?_));refine wpAny_tryCatch ?_;unfold Builtin.Dict.pairItems;obtain ⟨ot,hot,hct,nt,hdt⟩:=hTs' i hlt;have hTy:s'.TypeIs (.ref (T i)) "tuple":=⟨ot,hot,hct⟩;refine yab (wpAny_typeOf hTy ?_);rw [if_pos (by decide)];refine yab (ybl hot hdt (yal ?_));show wpAny _ _ (holding [kf i,vf i] (dictSet S (kf i) (vf i))) _ _ _;refine ybb (wpAny_dictSet_pairs (hk i hlt) hS' (fun h' hd hsb=>?_) (yax zh0 (by omega)));rw [<-zeb] at hd;refine yal ⟨plainId_quiet PySem.F.zaC _,?_⟩;refine ih (i+1) _ _ (by omega) hlt (W.frame _ s' _ _ hst' (ybg _) fun b hb o e=>?_) hd (fun j hj=>?_) fun s'' hm'' hS''=>?_
  ·rw [hsb.2 b (fun h:b=S=>hSf (by rw [<-h];exact hb))];exact e
  ·obtain ⟨o,ho,r⟩:=hTs' j hj;exact ⟨o,(hsb.2 _ (fun z=>hT j hj (by rw [z];exact yar))).trans ho,r⟩
  ·refine hR s'' (Moved.trans W.gtrans ((hm.mono hsub).then_heap (ybg _) fun b o hb e=>?_) hm'') hS'';rw [hsb.2 b (fun h:b=S=>hb (by rw [h];exact yar))];exact e
end
end ST
namespace PySem
section
variable{prog:Program}{w:World}{K:Type}[DecidableEq K]{knd:KeyKind prog w K}{A:Around}{E:Z5}{s:Shared}
theorem zi9{l:Addr}{items:Array Value}{Q:Z5}(T:Nat->Addr)(ks:Nat->K)(kf vf:Nat->Value)(hh:A.handled=none){kl:Nat}{sl:Array (Option Value)}(hl:s.heap.get? l=some { cls:=.type "list",dict:=none,data:=.seq items kl,slots:=sl })
  (hi:∀(i:Nat) (v:Value),items[i]?=some v->v=.ref (T i)) (hk:∀i,i<items.size->knd.is (ks i) (kf i)=true) (hT:∀i,i<items.size->s.heap.IsTuple (T i) #[kf i,vf i]) (hn:items.size<=sizeLine)
  (h:∀(h':Heap) (tk:Nat),h'.DictOf knd s.heap.objs.size (ST.znu ks vf items.size)->(∀b o,s.heap.get? b=some o->h'.get? b=some o)->Q (.ref s.heap.objs.size) { s with heap:=h',toks:=tk }) :
  wpAny (model prog w) A (call (.type "dict") [.ref l]) Q E s:=by
 refine callType_codes (Q₁:=fun obj s₁=>obj=.ref s.heap.objs.size/\s₁={ s with heap:=s.heap.push { cls:=.type "dict",data:=.dict #[] } }) F.kt_called_dict (F.kt_typeCall_dict_1 _) F.entry_dict_init (kt_code_dict_new _ ⟨rfl,rfl⟩) ?_;rintro obj s₁ ⟨rfl,rfl⟩;generalize hG:s.heap.push { cls:=.type "dict",data:=.dict #[] }=G;have hnew:G.DictOf knd s.heap.objs.size []:=hG ▸ Heap.DictOf.new s.heap;have upG:∀b o,s.heap.get? b=some o->G.get? b=some o:=fun b o e=>hG ▸ yae _ e
 have hl':=upG _ _ hl;refine ⟨hnew.typeIs,F.args_dict_init_2 _ _,?_⟩;unfold Builtin.«dict.__init__»;refine yab ?_;unfold Builtin.Dict.selfAndRest;refine yab (wpAny_notOrdered_dict hnew.typeIs ?_);show wpAny _ _ (pure (s.heap.objs.size,[Value.ref l])) _ _ _;refine yal ?_;show wpAny _ _ (Builtin.Dict.updateFrom "dict.__init__" s.heap.objs.size (.ref l) [] .none) _ _ _;unfold Builtin.Dict.updateFrom;refine yab (wpAny_typeOf (T:="list") ⟨_,hl',rfl⟩ ?_);rw [if_pos (by decide)];refine yab (zkw hl' (by simp [hh]) fun h₁ tk₁ k₁=>?_);refine yab (wpAny_rule ?_);have hl1:h₁.IsList l items:=⟨_,k₁ _ _ hl',rfl,_,rfl⟩;refine yab (ycC hl1 ?_);have hlS:l<s.heap.objs.size:=yaj hl
 have hS1:s.heap.objs.size<h₁.objs.size:=by
  obtain ⟨o,_,_,ho,_⟩:=hnew;exact yaj (k₁ _ _ ho)
 have hh3:A.in1.in1.handled=none:=by simp [hh]
 have hneI:l≠h₁.objs.size:=yav (Nat.lt_trans hlS hS1);have kP:∀b o,s.heap.get? b=some o->∀o',(h₁.push o').get? b=some o:=fun b o e o'=>yae _ (k₁ _ _ (upG _ _ e))
 refine yal ⟨plainId_quiet F.zaC _,?_⟩;refine ST.zkY ((Walks.list hh3 _ l hneI items).toS) s.heap.objs.size ?_ T ks kf vf hi hk (fun i hi=>?_) hn (items.size-0) 0 _ _ (by omega) (yaD _) ⟨⟨_,yap _ rfl,rfl,rfl⟩,(hl1.push _)⟩ ?_ (fun i hi=>?_) ?_
 ·simp only [yat,yaN,ycm,or_false,not_or];exact ⟨yav hS1,yaR hlS⟩
 ·obtain ⟨o,ho,_⟩:=hT i hi;have:=yaj ho;simp only [yat,yaN,ycm,or_false,not_or];exact ⟨yav this,yav (Nat.lt_trans this hS1)⟩
 ·exact (hnew.at fun o e=>yae _ (k₁ _ _ e))
 ·obtain ⟨o,ho,r⟩:=hT i hi;exact ⟨o,kP _ _ ho _,r⟩
 ·intro s' hm hS';obtain ⟨h',g',d',tk',os'⟩:=s';have eg:g'=s.gens:=hm.gens;have ed:d'=s.drawn:=hm.drawn;have eo:os'=s.os:=hm.os;subst eg;subst ed;subst eo;refine ⟨rfl,h h' tk' hS' fun b o e=>?_⟩;have hb1:b≠s.heap.objs.size:=yav (yaj e);have hb2:b≠h₁.objs.size:=yav (Nat.lt_trans (yaj e) hS1);exact hm.heap b o (by simp only [yat,yaN,ycm,or_false,not_or];exact ⟨hb1,hb2⟩) (kP _ _ e _)
end
end PySem
namespace ST
open PySem PySem.Spec PyProof.Rows
end ST
namespace PySem
end PySem
namespace ST
open PySem PySem.Spec PyProof.Rows
open PySem PySem.Spec PySem.W PyProof.Rows
end ST
namespace L2
open PySem PySem.Spec PySem.W PyProof.Rows
noncomputable def leS(a b:Str):Prop:=a.cps.toList<=b.cps.toList
noncomputable def zqq(x:Str):List Str->List Str
 | []=>[x]
 | y::r=>if decide (y.cps.toList<x.cps.toList) then y::zqq x r else x::y::r
noncomputable def zbP:List Str->List Str
 | []=>[]
 | x::r=>zqq x (zbP r)
theorem zeo(x:Str):∀l:List Str,(zqq x l).Perm (x::l)
 | []=>.refl _
 | y::r=>by
  unfold zqq;split
  ·exact ((zeo x r).cons y).trans (List.Perm.swap x y r)
  ·exact .refl _
theorem zaJ:∀l:List Str,(zbP l).Perm l
 | []=>.refl _
 | x::r=>(zeo x (zbP r)).trans ((zaJ r).cons x)
def zgq{a b c:Str}(h:leS a b)(h':leS b c):leS a c:=List.le_trans h h'
theorem zik(x:Str):∀l:List Str,l.Pairwise leS->(zqq x l).Pairwise leS
 | [],_=>List.pairwise_singleton _ _
 | y::r,h=>by
  have h1:=yba.mp h;unfold zqq;split
  ·rename_i hl;have hl:=yaq hl;refine yba.mpr ⟨fun z hz=>?_,zik x r h1.2⟩
   rcases yat.mp ((zeo x r).mem_iff.mp hz) with rfl | hz
   ·exact List.le_of_lt hl
   ·exact h1.1 z hz
  ·rename_i hl;have hl:¬ y.cps.toList<x.cps.toList:=fun z=>hl (yaC z)
   have hxy:leS x y:=List.not_lt.mp hl;refine yba.mpr ⟨fun z hz=>?_,h⟩
   rcases yat.mp hz with rfl | hz
   ·exact hxy
   ·exact zgq hxy (h1.1 z hz)
theorem zdf:∀l:List Str,(zbP l).Pairwise leS
 | []=>.nil
 | x::r=>zik x _ (zdf r)
theorem zf8:∀(p:Str) (l:List Str),risingS p l=true->(p::l).Pairwise leS
 | p,[],_=>List.pairwise_singleton _ _
 | p,x::r,h=>by
  have h':(!ltCps x.cps.toList p.cps.toList&&risingS x r)=true:=h;rw [yaa,ybe] at h';have ih:=zf8 x r h'.2
  have hpx:leS p x:=by
   have e:=h'.1;rw [ltCps_eq] at e;exact List.not_lt.mp (of_decide_eq_false e)
  refine yba.mpr ⟨fun z hz=>?_,ih⟩
  rcases yat.mp hz with rfl | hz
  ·exact hpx
  ·exact zgq hpx ((yba.mp ih).1 z hz)
theorem zjw:∀(l:List Str),sortedS l=true->l.Pairwise leS
 | [],_=>.nil
 | x::r,h=>zf8 x r h
def zhP{a b:Str}(h:a.cps.toList=b.cps.toList):a=b:=by
 cases a;cases b;simp only at h;congr 1;exact Array.toList_inj.mp h
def ziF{a b:List Str}(p:a.Perm b)(h:sortedS a=true):a=zbP b :=
 List.Perm.eq_of_pairwise (le:=leS) (fun x y _ _ h1 h2=>zhP (List.le_antisymm h1 h2)) (zjw a h) (zdf b) (p.trans (zaJ b).symm)
section
variable{X:Cx}{pins:Z3}{σ:St}{H:Hp}{s:Shared}{a:Addr}{kvs:List (Key×V)}{A:Around}{E:Z5}{ks:List Str}
theorem zdI:∀{vs:List Value} {ss:List Str},StrsAre vs ss->Vals (ss.map V.str) vs
 | _,_,.nil=>.nil
 | _,_,.cons x t h=>.cons ⟨t,rfl⟩ (zdI h)
theorem zdK:∀{ks:List Str} {vs:List Value} (h:vs.length=ks.length),(∀(i:Nat) (v:Value) (k:Str),vs[i]?=some v->ks[i]?=some k->∃t,v=Value.str k t)->StrsAre vs ks
 | [],[],_,_=>.nil
 | k::ks,v::vs,h,hv=>by
  obtain ⟨t,rfl⟩:=hv 0 v k rfl rfl;exact .cons k t (zdK (by simpa using h) fun i v k h1 h2=>hv (i+1) v k (by simpa using h1) (by simpa using h2))
theorem zkv:∀{kvs:List (Key×V)} {vs:List (Key×Value)},KV kvs vs->kvs.map (·.1)=vs.map (·.1)
 | _,_,.nil=>rfl
 | _,_,.cons h t=>by rw [yaw,yaw,h.1,zkv t]
def zmy{P:Program}{w:World}{k:Str}{v:Value}(h:(zaA P w).is (Sum.inr k) v=true):∃t,v=Value.str k t:=by
 have h':Value.isStrOf k v=true:=h
 cases v<;>first | (cases h';done) | skip
 rename_i x t
 have e:x=k:=by simpa [Value.isStrOf] using h'
 exact ⟨t,by rw [e]⟩
theorem zmS{Q:Z5}(hh:A.handled=none)(I:Inv X pins σ H s)(e:Rd H a (.dK kvs))(hk:kvs.map (·.1)=ks.map Sum.inr)(h64:ks.length<64)
  (h:∀p s',H p=none->Inv X pins σ (upd H p (.lst ((zbP ks).map V.str))) s'->Q (.ref p) s'):wpAny (model X.prog X.w) A (call (.builtin "sorted") [.ref a]) Q E s:=by
 obtain ⟨z,hd,vs,rel,dd⟩:=zeR I.hok e;obtain ⟨ep,da⟩:=dd.dictAt
 have hlen:vs.length=ks.length:=by
  rw [<-rel.length];have:=congrArg List.length hk;simpa using this
 have hkeys:vs.map (·.1)=ks.map Sum.inr:=by
  rw [<-hk];exact (zkv rel).symm
 refine Calls.call_function_entry kind_sorted plain_sorted entry_sorted (args_sorted1 _) ?_;unfold Builtin.«sorted»;refine yab (m:=checkCount "sorted" 1 1 _) (yal ?_);refine yab (kdu_collect (A:=A.in1) (kdl_dict (prog:=X.prog) hd) hh da (by rw [hlen,ycL];omega) fun h' tk acc kp hacc=>?_)
 have hl:acc.toList.length=ks.length:=by rw [yaU,hacc.1,hlen]
 have hS:StrsAre acc.toList ks:=zdK hl fun i v k h1 h2=>by
  obtain ⟨k',x,e1,e2⟩:=hacc.2 i v (by rw [<-yaS];exact h1);have e3:=congrArg (fun l=>l[i]?) hkeys;simp only [yao,e1,h2,Option.map_some] at e3;cases e3;exact zmy e2
 refine yab (wpAny_newList ?_ (by rw [hl,ycL];omega));have hoL:(h'.push (seqObj "list" acc.toList.toArray 0)).get? h'.objs.size=some (seqObj "list" acc.toList.toArray 0):=yap _ rfl;refine yab (ybb (ybR slot_list_sort ⟨_,hoL,rfl⟩ entry_list_sort (list_sort_treeK strKind_oneLt (s:={ s with heap:=h'.push (seqObj "list" acc.toList.toArray 0),toks:=tk }) hoL hS.keysOf (fun v₁ v₂ za7 e=>keyKind_strs (by rw [<-e];exact hS)) (by rw [hl];exact h64) fun st' hp hs=>⟨_,rfl,?_⟩) (args_list_sort _)));refine yal ⟨_,rfl,?_⟩;obtain ⟨ss',b1,b2,b3⟩:=sorted_out_str hS hp hs;obtain ⟨e',he⟩:=sortedHeap_at (out:=(arrOf st').map (·.2)) hoL;have I1:=I.kept kp (t':=tk);have eu:=ziF b2 b3;refine h h'.objs.size _ (I1.hok.fresh (yai _)) (I1.laid (t':=tk) (o:=.lst ((zbP ks).map V.str)) (fun b o hb=>?_) (yai _) (show zaT X.prog X.w _ _ _ (.lst _) from ⟨?_,((arrOf st').map (·.2)).toList,e',?_,?_⟩))
 ·have hlt:b<h'.objs.size:=yaj hb;rw [sortedHeap_old (yav hlt) (by rw [size_push'];exact yca hlt)];exact yae _ hb
 ·rw [yad,(zaJ ks).length_eq,ycL];omega
 ·rw [<-eu];exact zdI b1
 ·rw [Array.toArray_toList];exact he
end
open PySem PySem.Spec PyProof.Rows
noncomputable def kvS(ps:List (Str×V)):List (Key×V):=ps.foldl (fun acc p=>zfo acc (.inr p.1) p.2) []
theorem zpu{ps:List (Str×V)}:(kvS ps).length<=ps.length:=by
 have go:∀(ps:List (Str×V)) (acc:List (Key×V)),(ps.foldl (fun acc p=>zfo acc (.inr p.1) p.2) acc).length<=acc.length+ps.length:=by
  intro ps
  induction ps with
  | nil=>intro acc;exact yai _
  | cons p ps ih =>
   intro acc;have h1:=ih (zfo acc (.inr p.1) p.2);have h2:=zc8 acc (.inr p.1:Key) p.2;rw [ybn,yaf];omega
 have:=go ps [];rwa [List.length_nil,Nat.zero_add] at this
section
variable{X:Cx}
theorem zfL(hc:X.calm=true):zdt X (.type "dict") (fun xs H Q=>∃(p:Addr) (qs:List Addr) (ps:List (Str×V)),xs=[.ref p]/\SqL X.K H p (qs.map V.ref)/\qs.length=ps.length/\(∀(i:Nat) q c,qs[i]?=some q->ps[i]?=some c->SqT X.K H q [.str c.1,c.2])/\∀l,H l=none->Q (.ref l) (upd H l (.dK (kvS ps)))):=by
 intro pins s σ H xs us Q I r h;obtain ⟨p,qs,ps,rfl,hq,hn,ht,q⟩:=h;obtain ⟨u,rfl,rx⟩:=zfW r;cases rx;obtain ⟨its,rv,pl,hz⟩:=I.list hq
 have hl:its.length=ps.length:=by rw [<-rv.length,yad];exact hn
 have hz':ps.length<=sizeLine:=by rwa [yad,hn] at hz
 obtain ⟨o,kl,ho,hc1,hc2,hc3⟩:=pl;obtain ⟨c,dc,dt,sl⟩:=o;simp only at hc1 hc2 hc3;subst hc1 hc2 hc3
 have hch:∀i:Nat,∃kv:Value×Value,i<ps.length->s.heap.IsTuple (qs.getD i 0) #[kv.1,kv.2]/\zaW (.str (ps.getD i ("",.non)).1) kv.1/\zaW (ps.getD i ("",.non)).2 kv.2:=by
  intro i
  by_cases hi:i<ps.length
  ·have e1:qs[i]?=some (qs.getD i 0):=by rw [yaM,yac (by omega)];rfl
   have e2:ps[i]?=some (ps.getD i ("",.non)):=by rw [yaM,yac hi];rfl
   obtain ⟨ts,rt,pt,_⟩:=I.tuple (ht i _ _ e1 e2)
   cases rt with
   | cons r1 rt =>
    cases rt with
    | cons r2 rt=>cases rt;exact ⟨(_,_),fun _=>⟨pt,r1,r2⟩⟩
  ·exact ⟨(.none,.none),fun z=>absurd z hi⟩
 obtain ⟨kv,hkv⟩:=Classical.axiomOfChoice hch
 have hits:∀(i:Nat) (v:Value),its.toArray[i]?=some v->v=.ref (qs.getD i 0):=by
  intro i v hv;rw [yci] at hv;have hi:i<its.length:=(yag.mp hv).1
  have e1:(qs.map V.ref)[i]?=some (.ref (qs.getD i 0)):=by rw [yao,yaM,yac (by omega)];rfl
  obtain ⟨u,hu,ru⟩:=rv.get e1;rw [hu] at hv;cases hv;exact ru
 have hsz:its.toArray.size=ps.length:=by rw [yam];exact hl
 refine zi9 (knd:=zaA X.prog X.w) (fun i=>qs.getD i 0) (fun i=>(.inr (ps.getD i ("",.non)).1:Key)) (fun i=>(kv i).1) (fun i=>(kv i).2) (I.ok.hd hc) ho hits (fun i hi=>zfu (k:=.inr _) (hkv i (hsz ▸ hi)).2.1) (fun i hi=>(hkv i (hsz ▸ hi)).1) (hsz ▸ hz') fun h' tk D k=>?_
 have rel:∀i,i<=ps.length->KV (kvS (ps.take i)) (ST.znu (fun i=>(.inr (ps.getD i ("",.non)).1:Key)) (fun i=>(kv i).2) i):=by
  intro i
  induction i with
  | zero=>intro _;exact .nil
  | succ i ih =>
   intro hi
   have e2:ps[i]?=some (ps.getD i ("",.non)):=by rw [yaM,yac (by omega)];rfl
   rw [ST.zeb,List.take_succ,e2];unfold kvS;rw [ycJ];exact (ih (by omega)).put _ (hkv i (by omega)).2.2
 have rel':=rel ps.length (yai _);rw [List.take_length] at rel';rw [hsz] at D;refine ⟨.ref s.heap.objs.size,_,I.laid (t':=tk) (o:=.dK (kvS ps)) k (yai _) ⟨yax zpu hz',?_,_,rel',D⟩,rfl,q _ (I.hok.fresh (yai _))⟩;exact beq_false_of_ne (yaR I.big)
def zc5(hc:X.calm=true):zdt X (.builtin "sorted") (fun xs H Q=>∃(a:Addr) (kvs:List (Key×V)) (ks:List Str),xs=[.ref a]/\Rd H a (.dK kvs)/\kvs.map (·.1)=ks.map Sum.inr/\ks.length<64/\∀p,H p=none->Q (.ref p) (upd H p (.lst ((zbP ks).map V.str)))):=by
 intro pins s σ H xs us Q I r h;obtain ⟨a,kvs,ks,rfl,ha,hk,h64,q⟩:=h;obtain ⟨u,rfl,rx⟩:=zfW r;cases rx;exact zmS (I.ok.hd hc) I ha hk h64 fun p s' hp I'=>⟨.ref p,_,I',rfl,q p hp⟩
end
end L2
namespace S2
open PySem PySem.Spec PyProof.Rows L2
noncomputable def zj7:List D->Option (List (Str×D))
 | []=>some []
 | .tup [.str k,d]::l=>(zj7 l).map ((k,d)::·)
 | _=>none
noncomputable def zoY(ps:List (Str×D)):List (D×D):=ps.foldl (fun acc p=>putS p.1 p.2 acc) []
def zhq:List D->Option D | [.lst l]=>(zj7 l).map fun ps=>.dic (zoY ps) | _=>none
def zdx:List D->Option D | [.dic ds]=>if zaf ds&&decide (ds.length<64) then some (.lst ((zbP (za9 ds)).map D.str)) else none | _=>none
section
variable{X:Cx}{cl:Cf}
theorem zdl{k x:Str}{d:D}:∀{ds:List (D×D)},zaf ds=true->zad x (putS k d ds)=if k=x then some d else zad x ds
 | [],_=>rfl
 | (.str y,e)::r,h=>by
  unfold zaf at h;rw [yaa] at h;unfold putS
  by_cases hy:y=k
  ·subst hy;rw [if_pos rfl];unfold zad
   by_cases hx:y=x
   ·rw [if_pos hx,if_pos hx]
   ·rw [if_neg hx,if_neg hx,if_neg hx]
  ·rw [if_neg hy];unfold zad
   by_cases hx:y=x
   ·rw [if_pos hx,if_neg (fun z=>hy (hx.trans z.symm)),if_pos hx]
   ·rw [if_neg hx,zdl h.2,if_neg hx]
theorem zd0{k:Str}{d:D}:∀{ds:List (D×D)},zaf ds=true->zaf (putS k d ds)=true
 | [],_=>rfl
 | (.str y,e)::r,h=>by
  have h':=h;unfold zaf at h;rw [yaa] at h;unfold putS
  by_cases hy:y=k
  ·rw [if_pos hy];unfold zaf;rw [yaa];exact h
  ·rw [if_neg hy];unfold zaf;rw [yaa,zdl h.2,if_neg (fun z=>hy z.symm)];exact ⟨h.1,zd0 h.2⟩
theorem zh1{w:Wd}:∀{l:List D} {ps:List (Str×D)} {xs:List V},zj7 l=some ps->Shds cl w xs l->∃(qs:List Addr) (vs:List (Str×V)),xs=qs.map V.ref/\qs.length=vs.length/\(∀(i:Nat) q c,qs[i]?=some q->vs[i]?=some c->w.H q=some (.tup [.str c.1,c.2]))/\Paired (fun (v:Str×V) (p:Str×D)=>v.1=p.1/\Shd cl w v.2 p.2) vs ps
 | [],ps,xs,e,r=>by
  cases e;cases r;exact ⟨[],[],rfl,rfl,(fun i q c z=>by cases z),.nil⟩
 | .tup [.str k,d]::l,ps,xs,e,r=>by
  cases e1:zj7 l with
  | none=>rw [show zj7 (.tup [.str k,d]::l)=(zj7 l).map ((k,d)::·) from rfl,e1] at e;cases e
  | some ps' =>
   rw [show zj7 (.tup [.str k,d]::l)=(zj7 l).map ((k,d)::·) from rfl,e1] at e;cases e
   cases r with
   | cons r1 r2 =>
    obtain ⟨qs,vs,rfl,hn,hp,hv⟩:=zh1 e1 r2
    cases r1 with
    | tup ep k0 rt =>
     cases rt with
     | cons t1 t2 =>
      cases t2 with
      | cons t2 t3 =>
       cases t3;cases t1;refine ⟨_::qs,(k,_)::vs,rfl,congrArg Nat.succ hn,fun i q c h1 h2=>?_,.cons ⟨rfl,t2⟩ hv⟩
       cases i with
       | zero=>cases h1;cases h2;exact ep
       | succ i=>exact hp i q c h1 h2
theorem zhZ{w:Wd}:∀{vs:List (Str×V)} {ps:List (Str×D)} {kvs:List (Key×V)} {ds:List (D×D)},Paired (fun (v:Str×V) (p:Str×D)=>v.1=p.1/\Shd cl w v.2 p.2) vs ps->ShdK cl w kvs ds->zaf ds=true →
  ShdK cl w (vs.foldl (fun acc p=>zfo acc (.inr p.1) p.2) kvs) (ps.foldl (fun acc p=>putS p.1 p.2 acc) ds)/\zaf (ps.foldl (fun acc p=>putS p.1 p.2 acc) ds)=true
 | _,_,_,_,.nil,h,o=>⟨h,o⟩
 | _,_,_,_,.cons ⟨e,hv⟩ t,h,o=>by
  rw [ybn,ybn,e];exact zhZ t (h.putS o hv) (zd0 o)
def zpY(hc:X.calm=true):zqj X cl (.type "dict") zhq:=by
 intro pins s σ H xs us Q I r h;obtain ⟨w,ds,d,rfl,hx,hg,q⟩:=h;unfold zhq at hg;split at hg
 ·rename_i l;obtain ⟨ps,h1,rfl⟩:=yan.mp hg
  cases hx with
  | cons h2 h3 =>
   cases h3;obtain ⟨p,ys,rfl,ep,rs⟩:=h2.lstI;obtain ⟨qs,vs,rfl,hn,hp,hv⟩:=zh1 h1 rs;exact zfL hc pins s σ w.H _ us Q I r ⟨p,qs,vs,rfl,SqL.of ep,hn,fun i q c e1 e2=>SqT.of (hp i q c e1 e2),fun l hl=>q _ _ w (Grow.refl _) hl (.dicK (zhZ hv .nil rfl).1)⟩
 ·cases hg
theorem zd7{w:Wd}:∀{l:List Str},Shds cl w (l.map V.str) (l.map D.str)
 | []=>.nil
 | i::l=>.cons (.str i) (zd7 (l:=l))
def zld(hc:X.calm=true):zqj X cl (.builtin "sorted") zdx:=by
 intro pins s σ H xs us Q I r h;obtain ⟨w,ds,d,rfl,hx,hg,q⟩:=h;unfold zdx at hg;split at hg
 ·rename_i l;split at hg
  ·rename_i ho;rw [yaa,yaV] at ho;cases hg
   cases hx with
   | cons h2 h3 =>
    cases h3;obtain ⟨p,kvs,rfl,ep,rs⟩:=h2.dicI;obtain ⟨k1,k2⟩:=zd1 rs ho.1;exact zc5 hc pins s σ w.H _ us Q I r ⟨p,kvs,_,rfl,ep,k1,by rw [k2];exact ho.2,fun l hl=>q _ _ w (Grow.refl _) hl (.lst zd7)⟩
  ·cases hg
 ·cases hg
end
end S2
namespace L2
open PySem PySem.Spec PyProof.Rows
def zlM{X:Cx}(hu:X.A.units+1<cLine):zvX X (fun o i v H Q=>∃a H',o=.ref a/\zqh H a i v H'/\Q H'):=by
 intro pins s σ H o i v ov iv vv Q I ro ri rv h;obtain ⟨a,H',rfl,g,q⟩:=h;cases ro;exact zgG hu I g ri rv fun s' I'=>⟨H',I',q⟩
end L2
namespace S2
open PySem PySem.Spec PyProof.Rows L2
noncomputable def zmK:Fe:=fun _ S=>.ok (.dic []) S
def zjz(i:Nat)(ρ:Env):Option (List (D×D)):=match ρ[i]? with | some (some (true,.dic ds))=>if zaf ds&&small ds.length then some ds else none | _=>none
def zeJ(i:Nat)(fk fe:Fe):Fs:=fun ρ S=>match zjz i ρ with
 | some ds=>(match fe ρ S with
  | .ok d S1=>(match fk ρ S1 with
   | .ok k S2=>(match k with
    | .str x=>.nx (ρ.set i (some (true,.dic (putS x d ds)))) S2
    | _=>.bad)
   | .exc c S2=>.ex c ρ S2 | .bad=>.bad)
  | .exc c S1=>.ex c ρ S1 | .bad=>.bad)
 | _=>.bad
section
variable{X:Cx}{cl:Cf}{E:St->XK}{own:Bool}{a b e:Expr}{f g fe fk:Fe}{pos pos':Pos}{i:Nat}{x:Str}{ap cp:Pos}
def zg0:PE X (.Dict [] [] pos) (tN cl E zmK):=PE.imp zh4 fun σ H Q ⟨B,w,ρ,S,e,R,q⟩=>by
 subst e;intro p hp;exact q p _ w R (Fut.refl _) hp (.dicK .nil)
def zhU{B:Base}{σ:St}{w:Wd}{ρ:Env}{S:Sto}{ds:List (D×D)}(R:Rel cl B σ w ρ S)(h:zjz i ρ=some ds):∃p kvs,σ[i]?=some (some (.ref p))/\w.ow p=some (.slot i)/\w.H p=some (.dK kvs)/\ShdK cl w kvs ds/\zaf ds=true/\small ds.length=true:=by
 unfold zjz at h;split at h
 ·rename_i ds' hd;split at h
  ·rename_i ho;cases h;rw [yaa] at ho;obtain ⟨v,e1,p,o,rfl,h1,h2,t⟩:=R.slots i true _ hd
   cases t with
   | dicK t=>exact ⟨p,_,e1,h1,h2,t,ho.1,ho.2⟩
  ·cases h
 ·cases h
def zor{p3:Pos}(hu:X.A.units+1<cLine)(hN:X.N[i]?=some x)(hv:Vis X.env.scope x)(hd:(x == ("__debug__":Str))=false)(hcd:(x == ("__classdict__":Str))=false)(hk:PE X a (tE cl E fk))(he:PE X e (tE cl E fe))(sw:swapsWithSole [.Subscript (.Name x pos') a p3] e pos.line X.env=pure false)(sw2:swappedStores [.Subscript (.Name x pos') a p3] e X.env=pure none)
  (ha:∀v,assign (.Subscript (.Name x pos') a p3) X.env v=(do
   let ov ← holding [v] (eval (.Name x pos') X.env)
   let iv ← holding [v,ov] (eval a X.env)
   standAt p3
   holding [v,ov,iv] (setItem ov iv v)
   release [v,ov,iv] [])) :
  PS X (.Assign [.Subscript (.Name x pos') a p3] e pos) (tS cl E own (zeJ i fk fe)):=by
 refine PS.imp (znx he (zrv (zaU hN hv hd hcd) hk (zlM hu) ha) sw sw2 rfl) ?_;rintro De σ H ⟨B,w,ρ,S,rfl,R,q⟩;unfold zeJ at q
 cases hs:zjz i ρ with
 | none=>rw [hs] at q;exact q.elim
 | some ds =>
  rw [hs] at q;refine ⟨B,w,ρ,S,rfl,R,?_⟩
  cases hev:fe ρ S with
  | bad=>rwa [hev] at q
  | exc c S1=>rw [hev] at q;exact fun w' R' F'=>q σ w' R' F'
  | ok d S1 =>
   rw [hev] at q;intro v w1 R1 F1 sv;obtain ⟨p,kvs,e1,_,_,_,_,_⟩:=zhU R1 hs;refine ⟨_,e1,B,w1,ρ,S1,rfl,R1,?_⟩;dsimp only at q
   cases hkv:fk ρ S1 with
   | bad=>rwa [hkv] at q
   | exc c S2=>rw [hkv] at q;exact fun w' R' F'=>q σ w' R' (F1.trans F')
   | ok k S2 =>
    rw [hkv] at q;intro y w2 R2 F2 sy;dsimp only at q
    cases k with
    | str k =>
     cases sy;obtain ⟨p',kvs',e1',h1,h2,t,ho,hm⟩:=zhU R2 hs;rw [e1] at e1';cases e1';refine ⟨p,_,rfl,zqh.k (k:=.inr k) h2 (by rw [t.length];exact zdg hm),?_⟩;exact q σ _ (R2.mut (d0:=.non) e1 h1 (.dicK (t.putS ho (sv.up F2)))) ((F1.trans F2).trans (zdF (by rw [h1];exact yaB _)))
    | _=>exact q.elim
end
noncomputable def zuv(nm:List (Str×NameKind))(ts:List Expr):Bool:=ts.any fun | .Name x _=>!decide (nm.lookup x=some .local) | _=>false
theorem zsn{α β:Type}(f:α->Option β):∀(l:List α),(∃a∈l,f a=none)->(l.filterMap f).length<l.length
 | [],h=>by obtain ⟨_,h,_⟩:=h;cases h
 | a::l,h=>by
  rw [yaf,ybT];have hle:=List.length_filterMap_le f l
  cases ha:f a with
  | none=>exact Nat.lt_succ_of_le hle
  | some b =>
   show (l.filterMap f).length+1<_;obtain ⟨c,hc,e⟩:=h
   rcases yat.mp hc with rfl | hc
   ·rw [ha] at e;cases e
   ·have:=zsn f l ⟨c,hc,e⟩;omega
section
variable{X:Cx}{cl:Cf}{E:St->XK}{own:Bool}{nm:List (Str×NameKind)}
def zpZ(hs:X.env.scope.names=nm)(h:zuv nm ts=true):swappedStores [.Tuple ts k p] (.Tuple vs k2 p2) X.env=pure none:=by
 unfold swappedStores;dsimp only;split
 ·rfl
 ·split
  ·rfl
  ·split
   ·rfl
   ·rename_i hn;exfalso;apply hn;rw [ycu];left;rw [bne_iff_ne];apply yav;apply zsn;unfold zuv at h;rw [List.any_eq_true] at h;obtain ⟨x,hx,hb⟩:=h;refine ⟨x,hx,?_⟩
    cases x with
    | Name y q =>
     have hb':¬ nm.lookup y=some .local:=by simpa using hb
     have:¬ X.env.kindOf y=some .local:=by unfold Env.kindOf;rw [hs];exact hb'
     simp [this]
    | _=>cases hb
variable{i j h:Nat}{x y z:Str}{a e:Expr}{f f1:Fe}{px py pz pt pt2 p2 pos:Pos}{kt k2:Nat}
end
def zeu(g:Str->Str->Option Bool):Fs :=
 zar (zc3 1 true (zin [eUn (ziY g "NoFill") (zaj 0),eUn (ziY g "NoName") (zaj 0),eUn (ziY g "NoPlace") (zaj 0),eUn (ziY g "NoText") (zaj 0)]))
 (zar (zc3 1 false (zak zci (zaj 1) (zin [eUn (ziY g "NoTile") (zaj 0),eUn (ziY g "Nothing") (zaj 0),eUn (ziY g "Unlike") (zaj 0)])))
 (zar (sIf (eOr (zak neD (eMt ze8 1 (zai (.bl true))) (zai (.int 1))) (eUn zcG (eUn (ziY g "ValueError") (zaj 0)))) (zar (zbt (zai (.str "wrong"))) sNx) sNx)
 (zar (zbt (zak ixD (zin [zai (.str "no fill"),zai (.str "no name"),zai (.str "no place"),zai (.str "no text"),zai (.str "no tile"),zai (.str "nothing"),zai (.str "unlike")]) (eMt ze2 1 (zai (.bl true))))) sNx)))
def znW(g:Str->Str->Option Bool)(c:Str)(S:Sto):Out D:=match zeu g [some (false,.exc c),none] S with | .rt d S'=>.ok d S' | _=>.bad
noncomputable def zhu(ρ:Env):List Nat->Option (List D)
 | []=>some []
 | i::is=>match ρ[i]? with | some (some (false,d))=>(zhu ρ is).map (d::·) | _=>none
def zdT(und:Str->Str->Bool)(isx:Str->Str->Option Bool)(caps:List Nat)(fb:Fe):Fe:=fun ρ S=>match zhu ρ caps with
 | none=>.bad
 | some ds=>match fb (ds.map fun d=>some (false,d)) S with
  | .ok d S'=>.ok d S'
  | .exc c S'=>if und c "FloorError" then znW isx c S' else .bad
  | .bad=>.bad
structure CapsOk(X:Cx)(N:List Str)(caps:List Nat):Prop where
 len:caps.length=N.length
 at':∀(j:Nat) (x:Str) (i:Nat),N[j]?=some x->caps[j]?=some i->X.N[i]?=some x/\X.env.scope.names.lookup x=some .cell/\X.fn x=true
noncomputable def zsQ(cl:Cf)(und:Str->Str->Bool)(isx:Str->Str->Option Bool)(P:Program)(wo:PySem.World)(K:PySem.W.Frag)(mg:Z6)(base:Heap)(k:Nat)(cod:Option (Addr×Str))(e:Expr)(N:List Str)(fb:Fe):Prop :=
 ∀(X:Cx) (E:St->XK) (caps:List Nat) (p pos:Pos),X.prog=P->X.w=wo->X.K=K->X.mg=mg->X.base=base->Room k X.A->X.calm=true->Gl X "_law_told" -> (∀c,cod=some c->X.env.code=.ref c.1/\X.env.qual=c.2)->CapsOk X N caps →
  PE X (.Call (.Name "_law_told" p) [e] [] pos) (tE cl E (zdT und isx caps fb))
theorem ziu{cl:Cf}{B:Base}{σ:St}{w:Wd}{ρ:Env}{S:Sto}(R:Rel cl B σ w ρ S):∀{caps:List Nat} {ds:List D},zhu ρ caps=some ds->∃vs,vs.length=caps.length/\(∀(j i:Nat) (v:V),caps[j]?=some i->vs[j]?=some v->σ[i]?=some (some v))/\Shds cl w vs ds
 | [],ds,h=>by cases h;exact ⟨[],rfl,fun j i v h=>by simp at h,.nil⟩
 | i::is,ds,h=>by
  unfold zhu at h;split at h
  ·rename_i d hd
   cases h1:zhu ρ is with
   | none=>rw [h1] at h;cases h
   | some ds' =>
    rw [h1] at h;cases h;obtain ⟨vs,l,e,sh⟩:=ziu R h1;obtain ⟨v,e1,x⟩:=R.slots i false d hd;refine ⟨v::vs,by rw [yaf,yaf,l],fun j i' v' h1 h2=>?_,.cons x sh⟩
    cases j with
    | zero=>cases h1;cases h2;exact e1
    | succ j=>exact e j i' v' h1 h2
  ·cases h
def Rel.tabUp{cl:Cf}{B:Base}{σ:St}{w:Wd}{ρ:Env}{S:Sto}{P:Addr}{ps ps':Array Value}(R:Rel cl B σ w ρ S)(h1:w.H P=some (.tbl ps))(h2:w.ow P=some .tab)(h3:∀q,cl.tabs P=some q->zls w q ps') :
  Rel cl B σ (w.mut P (.tbl ps')) ρ S/\Fut w (w.mut P (.tbl ps')):=by
 have ff:=zdF (w:=w) (p:=P) (o:=.tbl ps') (by rw [h2];exact yaB _)
 have kp:∀a u,w.H a=some u->w.ow a≠some .tab->(w.mut P (.tbl ps')).H a=some u/\(w.mut P (.tbl ps')).ow a=w.ow a:=fun a u ha hn=>⟨by
  show upd w.H P _ a=_
  rw [zac (fun z=>hn (by rw [z];exact h2))];exact ha,rfl⟩
 have hB:B.Fr P=none:=(R.wd.own P _ h2).elim (fun z=>by cases z) fun z=>z
 refine ⟨⟨⟨fun a u h=>?_,R.wd.own,R.wd.len,fun n ob h=>?_,fun P' q h=>?_⟩,R.len,fun i o d h=>?_⟩,ff⟩
 ·refine ⟨?_,(R.wd.fr a u h).2⟩;show upd w.H P _ a=_;rw [zac (fun z=>by rw [z,hB] at h;cases h)];exact (R.wd.fr a u h).1
 ·obtain ⟨a,e,x⟩:=R.wd.obj n ob h;exact ⟨a,e,x.keep ff fun b u hb hn=>kp b u hb fun z=>by rwa [z] at hn⟩
 ·by_cases hP:P'=P
  ·subst hP;exact ⟨ps',zap,h2,(h3 q h).up ff⟩
  ·obtain ⟨qs,g1,g2,g3⟩:=R.wd.tab P' q h;refine ⟨qs,?_,g2,g3.up ff⟩;show upd w.H P _ P'=_;rw [zac hP];exact g1
 ·obtain ⟨v,e1,x⟩:=R.slots i o d h;refine ⟨v,e1,x.keep ff fun a u ha hr=>?_⟩;have:=kp a u ha (by rw [hr];simp);exact ⟨this.1,this.2.trans hr⟩
structure FnI where
 ar:Nat
 own:Bool
 run:List D->Sto->Out D
structure ObE where
 cur:Str
 fk:Str->Str->Bool
 df:Str->Bool
 mt:Str->Option (Str×FnI)
 mks:Str->Option (List D×FnI)
structure Genv where
 con:Str->Option D
 fn:Str->Option FnI
 blt:Str->Bool
 exc:Str->Bool
 und:Str->Str->Bool
 isx:Str->Str->Option Bool
 ob:ObE
 ds:Str->Bool
 lam:Expr->Option (List Str×Fe)
 cod:Option (Addr×Str)
abbrev bmV:List Value:=[.type "ValueError",.type "Exception",.type "BaseException",.type "object"]
structure GOk(cl:Cf)(G:Genv)(P:Program)(wo:PySem.World)(K:PySem.W.Frag)(mg:Z6)(base:Heap)(k:Nat):Prop where
 con:∀x d,G.con x=some d->∃v u,mg x=some u/\zaW v u/\∀w,Shd cl w v d
 fn:∀x fi,G.fn x=some fi->∃f fd ps,mg x=some (.ref f)/\PySem.W.keepIn K (.ref f)=true/\zcx K fd ps []/\FnOk P wo K mg base (CXE P wo) k f fd ps (zfS cl fi.ar fi.own fi.run)
 blt:∀x,G.blt x=true->mg x=none
 exc:∀c,G.exc c=true->mg c=some (.ref (cl c))/\PySem.W.excIn K (cl c) bmV "ValueError.__new__" = true
 und:∀c C,G.und c C=true->L2.zqf K (cl c) (cl C)
 isx:∀c C b,G.isx c C=some b->PySem.W.ExcCls K (cl c)/\PySem.W.kitOne K (.ref (cl c)) (clsV cl C)=some b
 fk:∀c f,G.ob.fk c f=true->zfR cl c f
 mt:∀m c fi,G.ob.mt m=some (c,fi)->∃f fd ps,Cls K (cl c)/\Meth K (cl c) m f/\zcx K fd ps []/\FnOk P wo K mg base (CXE P wo) k f fd ps (zfS cl fi.ar fi.own fi.run)
 mks:∀c dds fi,G.ob.mks c=some (dds,fi)->∃f fd ps dvs ds k',k'+1<=k/\mg c=some (.ref (cl c))/\Mk K (cl c) f/\zcx K fd ps []/\zcx K fd ps ds/\Vals dvs ds/\(∀w,Shds cl w dvs dds)/\FnOk P wo K mg base (CXE P wo) k' f fd ps (zfS cl fi.ar false fi.run)
 tl:∀e N fb,G.lam e=some (N,fb)->zsQ cl G.und G.isx P wo K mg base k G.cod e N fb
noncomputable abbrev Names:=List (Str×NameKind)
structure Gx(cl:Cf)(G:Genv)(k:Nat)(X:Cx)(nm:Names)(N:List Str)(E:St->XK):Prop where
 gok:GOk cl G X.prog X.w X.K X.mg X.base k
 room:Room k X.A
 calm:X.calm=true
 pass:zcP (CXE X.prog X.w) X E
 eN:X.N=N
 kk:X.K=cl.K
 pp:X.prog=cl.P
 ww:X.w=cl.wo
 nd:N.Nodup
 vis:∀x kd,nm.lookup x=some kd->∃kd',X.env.scope.names.lookup x=some kd'/\(kd'=kd\/(kd=.free/\kd'=.cell))
 fnx:∀x,nm.lookup x=some .local->X.env.scope.names.lookup x=some .local
 cod:∀c,G.cod=some c->X.env.code=.ref c.1/\X.env.qual=c.2
 fnc:∀x,nm.lookup x=some .cell->X.fn x=true
noncomputable def idx:List Str->Str->Option Nat
 | [],_=>none
 | y::l,x=>if y=x then some 0 else (idx l x).map (·+1)
theorem zep:∀{N:List Str} {x:Str} {i:Nat},idx N x=some i->N[i]?=some x
 | y::l,x,i,h=>by
  unfold idx at h;split at h
  ·rename_i e;cases h;rw [e];rfl
  ·cases hr:idx l x with
   | none=>rw [hr] at h;cases h
   | some j=>rw [hr] at h;cases h;simpa using zep hr
noncomputable def zh6(x:Str):Bool:=!(x == ("__debug__":Str))&&!(x == ("__classdict__":Str))&&!decide (x = "__name__")
def zgj(h:zh6 x=true):(x == ("__debug__":Str))=false/\(x == ("__classdict__":Str))=false/\x ≠ "__name__":=by
 unfold zh6 at h;simp only [yaa,ybe,yb6] at h;exact ⟨h.1.1,h.1.2,h.2⟩
noncomputable def zue:Option NameKind->Bool | some .local=>true | some .cell=>true | some .free=>true | _=>false
def zbq(nm:Names)(N:List Str)(x:Str):Option Nat:=if zue (nm.lookup x)&&zh6 x then idx N x else none
noncomputable def zbF(nm:Names)(x:Str):Bool:=decide (nm.lookup x=some .globalImplicit)&&zh6 x
section
variable{cl:Cf}{G:Genv}{k:Nat}{X:Cx}{nm:Names}{N:List Str}{E:St->XK}
def Gx.slot(g:Gx cl G k X nm N E)(h:zbq nm N x=some i):X.N[i]?=some x/\Vis X.env.scope x/\(x == ("__debug__":Str))=false/\(x == ("__classdict__":Str))=false:=by
 unfold zbq at h;split at h
 ·rename_i hv;rw [yaa] at hv;obtain ⟨h1,h2,_⟩:=zgj hv.2;refine ⟨by rw [g.eN];exact zep h,?_,h1,h2⟩
  cases hk:nm.lookup x with
  | none=>rw [hk] at hv;exact absurd hv.1 (by decide)
  | some kd =>
   obtain ⟨kd',e,z⟩:=g.vis x kd hk;rw [hk] at hv;unfold Vis;rw [e]
   rcases z with rfl | ⟨_,rfl⟩
   ·cases kd'<;>first | exact .inl rfl | exact .inr (.inl rfl) | exact .inr (.inr rfl) | exact absurd hv.1 (by decide)
   ·exact .inr (.inl rfl)
 ·cases h
def Gx.glob(g:Gx cl G k X nm N E)(h:zbF nm x=true):Gl X x/\(x == ("__debug__":Str))=false/\x ≠ "__name__":=by
 unfold zbF at h;rw [yaa] at h;obtain ⟨h1,_,h3⟩:=zgj h.2;obtain ⟨kd',e,z⟩:=g.vis x _ (yaq h.1)
 rcases z with rfl | ⟨z,_⟩
 ·exact ⟨e,h1,h3⟩
 ·cases z
end
noncomputable abbrev Rec:=Names->List Str->Expr->Option (Bool×Fe)
noncomputable def okE:Expr->Bool | .Starred _ _=>false | .Set _ _ _=>false | _=>true
def zay(h:okE e=true):zbr e=true:=by cases e<;>first | rfl | cases h
def zee(h:okE e=true):behindInMarks op e=false:=by cases e<;>first | rfl | cases h
def zfp(h:okE e=true)(v:Value):foldedSetIterable e env v=pure v:=by cases e<;>first | rfl | cases h
noncomputable def zbG:Expr->Bool | .IfExp _ _ _ _=>false | _=>true
noncomputable def zbi(cl:Cf)(G:Genv)(k:Nat)(rc:Rec):Prop:=∀(X:Cx) (nm:Names) (N:List Str) (E:St->XK),Gx cl G k X nm N E->∀(e:Expr) (o:Bool) (f:Fe),rc nm N e=some (o,f) →
 (o=true->PE X e (tN cl E f))/\PE X e (tE cl E f)/\(zbG e=true->PT X e (tTr cl E f))/\okE e=true
noncomputable def shE(rc:Rec)(nm:Names)(N:List Str)(e:Expr):Option Fe:=(rc nm N e).map (·.2)
def opE(rc:Rec)(nm:Names)(N:List Str)(e:Expr):Option Fe:=match e with
 | .Name x _=>(match zbq nm N x with | some i=>some (zaj i) | none=>shE rc nm N e)
 | _=>shE rc nm N e
def shL(rc:Rec)(nm:Names)(N:List Str):List Expr->Option (List Fe)
 | []=>some []
 | e::es=>(shE rc nm N e).bind fun f=>(shL rc nm N es).bind fun fs=>some (f::fs)
def opL(rc:Rec)(nm:Names)(N:List Str):List Expr->Option (List Fe)
 | []=>some []
 | e::es=>(opE rc nm N e).bind fun f=>(opL rc nm N es).bind fun fs=>some (f::fs)
section
variable{cl:Cf}{G:Genv}{k:Nat}{rc:Rec}{X:Cx}{nm:Names}{N:List Str}{E:St->XK}
def zbj(hs:zbi cl G k rc)(g:Gx cl G k X nm N E)(h:shE rc nm N e=some f):PE X e (tE cl E f)/\(zbG e=true->PT X e (tTr cl E f))/\okE e=true:=by
 unfold shE at h
 cases hr:rc nm N e with
 | none=>rw [hr] at h;cases h
 | some p =>
  obtain ⟨o,f'⟩:=p;rw [hr] at h;cases h;obtain ⟨_,h2,h3,h4⟩:=hs X nm N E g e o _ hr;exact ⟨h2,h3,h4⟩
def zdk(hs:zbi cl G k rc)(g:Gx cl G k X nm N E)(h:opE rc nm N e=some f):PE X e (tH cl E f)/\okE e=true:=by
 unfold opE at h;split at h
 ·rename_i x pos;split at h
  ·rename_i i hi;cases h;obtain ⟨h1,h2,h3,h4⟩:=g.slot hi;exact ⟨zjH h1 h2 h3 h4,rfl⟩
  ·obtain ⟨h1,_,h3⟩:=zbj hs g h;exact ⟨zck h1,h3⟩
 ·obtain ⟨h1,_,h3⟩:=zbj hs g h;exact ⟨zck h1,h3⟩
theorem zd8(hs:zbi cl G k rc)(g:Gx cl G k X nm N E):∀{es:List Expr} {fs:List Fe},shL rc nm N es=some fs->PA X es (tAs cl E fs)/\es.all zbr=true/\fs.length=es.length
 | [],fs,h=>by cases h;exact ⟨zea,rfl,rfl⟩
 | e::es,fs,h=>by
  unfold shL at h
  cases h1:shE rc nm N e with
  | none=>rw [h1] at h;cases h
  | some f =>
   rw [h1] at h
   cases h2:shL rc nm N es with
   | none=>rw [h2] at h;cases h
   | some fs' =>
    rw [h2] at h;cases h;obtain ⟨a1,_,a3⟩:=zbj hs g h1;obtain ⟨b1,b2,b3⟩:=zd8 hs g h2;exact ⟨zaN a1 b1 (zbh (zay a3)),by rw [ya2,zay a3,b2];rfl,by rw [yaf,yaf,b3]⟩
theorem znD(hs:zbi cl G k rc)(g:Gx cl G k X nm N E):∀{es:List Expr} {fs:List Fe},opL rc nm N es=some fs->PA X es (tHs cl E fs)/\es.all zbr=true/\fs.length=es.length
 | [],fs,h=>by cases h;exact ⟨znh,rfl,rfl⟩
 | e::es,fs,h=>by
  unfold opL at h
  cases h1:opE rc nm N e with
  | none=>rw [h1] at h;cases h
  | some f =>
   rw [h1] at h
   cases h2:opL rc nm N es with
   | none=>rw [h2] at h;cases h
   | some fs' =>
    rw [h2] at h;cases h;obtain ⟨a1,a3⟩:=zdk hs g h1;obtain ⟨b1,b2,b3⟩:=znD hs g h2;exact ⟨zjB a1 b1 (zbh (zay a3)),by rw [ya2,zay a3,b2];rfl,by rw [yaf,yaf,b3]⟩
end
noncomputable def zvU:Const->Option D
 | .int i=>some (.int i)
 | .bool b=>some (.bl b)
 | .none=>some .non
 | .str x=>some (.str x)
 | _=>none
def zux:Operator->Option (D->D->Option D)
 | .Add=>some zci | .Sub=>some ztv | .Mult=>some ziQ | .Mod=>some znH | .FloorDiv=>some zsw | _=>none
noncomputable def zpF:Expr->Bool | .Constant .none _ _=>true | _=>false
def ltD:=zqt fun i j=>decide (i<j)
def leD:=zt1
def gtD:=zqt fun i j=>decide (j<i)
def geD:=zqt fun i j=>decide (j<=i)
def zsE:CmpOp->Expr->Option (D->D->Option D)
 | .Eq,_=>some eqD | .NotEq,_=>some neD | .Lt,_=>some ltD | .LtE,_=>some leD | .Gt,_=>some gtD | .GtE,_=>some geD | .In,_=>some inD | .NotIn,_=>some zlx
 | .Is,b=>if zpF b then some zly else none
 | .IsNot,_=>none
def zja(rc:Rec)(nm:Names)(N:List Str)(op:BoolOp):List Expr->Option Fe
 | []=>none
 | [a]=>if zbG a then shE rc nm N a else none
 | a::b::r=>if zbG a then (shE rc nm N a).bind fun f=>(zja rc nm N op (b::r)).bind fun h=>some (match op with | .And=>zfT f h | .Or=>eOr f h) else none
structure BI where
 g:List D->Option D
 nw:Bool
def zlk(x:Str):Option BI :=
 if x = "len" then some ⟨zcH,false⟩
 else if x = "all" then some ⟨zlz,false⟩
 else if x = "tuple" then some ⟨zcB,false⟩
 else if x = "dict" then some ⟨zhq,true⟩
 else if x = "sorted" then some ⟨zdx,true⟩
 else none
noncomputable def zqx(x:Str):Option String:=if x = "int" then some "int" else if x = "bool" then some "bool" else if x = "tuple" then some "tuple" else if x = "str" then some "str" else if x = "list" then some "list" else none
noncomputable def zuu(G:Genv)(t:Str):Bool:=if t = "ValueError" then G.blt t else G.exc t
def zp2(G:Genv)(rc:Rec)(nm:Names)(N:List Str)(x:Str)(args:List Expr):Option (Bool×Fe) :=
 if zbF nm x then
  match G.fn x with
  | some fi=>if args.length=fi.ar then (shL rc nm N args).bind fun fs=>some (fi.own,eFn fi.run fs) else none
  | none=>if G.blt x then
    (if x = "isinstance" then (match args with
     | [a,.Name t _]=>if zbF nm t&&G.blt t&&(zqx t).isSome then (zqx t).bind fun T=>(opE rc nm N a).bind fun f=>some (false,eUn (zdR T) f)
      else if zbF nm t&&zuu G t then (opE rc nm N a).bind fun f=>some (false,eUn (ziY G.isx t) f) else none
     | _=>none)
    else match args with
     | []=>none
     | _::_=>(zlk x).bind fun bi=>(opL rc nm N args).bind fun fs=>some (bi.nw,zaz bi.g fs)) else none
 else none
noncomputable def zsh:Expr->Bool | .Tuple _ _ _=>true | _=>false
def ziX(G:Genv)(rc:Rec)(nm:Names)(N:List Str)(tg e:Expr):Option Fi:=match e with
 | .Call (.Name x p) args [] pos=>if x = "range" then (if zbF nm x&&G.blt x then (match args with
   | [a]=>(shE rc nm N a).bind fun f=>some (zex f)
   | _=>none) else none)
  else if x = "zip" then (if zbF nm x&&G.blt x&&zsh tg then (match args with
   | [a,b]=>(shE rc nm N a).bind fun f=>(shE rc nm N b).bind fun h=>some (zqs f h)
   | _=>none) else none)
  else (shE rc nm N e).map zbn
 | _=>(shE rc nm N e).map zbn
noncomputable def ztA:Expr->Option (Str×Expr×Pos×Pos) | .Call (.Name y p) [a] [] q=>some (y,a,p,q) | _=>none
noncomputable def spA:List Expr->Option (Str×Expr×Pos×Pos) | [e]=>ztA e | _=>none
def zqR(h:spA args=some c):args=[.Call (.Name c.1 c.2.2.1) [c.2.1] [] c.2.2.2]:=by
 match args,h with
 | [e],h =>
  have h':ztA e=some c:=h;unfold ztA at h';split at h'
  ·cases h';rfl
  ·cases h'
def spG(G:Genv)(rc:Rec)(nm:Names)(N:List Str)(x:Str)(args:List Expr):Option (Bool×Fe):=(spA args).bind fun c =>
 if decide (x = "len")&&decide (c.1 = "set")&&zbF nm "len" && G.blt "len" && zbF nm "set" && G.blt "set" then (shE rc nm N c.2.1).map fun f=>(false,eUn zc9 f)
 else none
section
variable{cl:Cf}{G:Genv}{k:Nat}{rc:Rec}{X:Cx}{nm:Names}{N:List Str}{E:St->XK}
theorem Gx.units(g:Gx cl G k X nm N E):X.A.units+64<cLine:=g.room.units
def znY(h:zux op=some gg):OpD X cl (binaryOp op) gg:=by
 cases op<;>simp [zux] at h<;>subst h
 ·exact znE
 ·exact zrN
 ·exact zrQ
 ·exact zrR
 ·exact zrU
def zfa(g:Gx cl G k X nm N E)(h:zsE op b=some gg):OpD X cl (compareOp op) gg:=by
 cases op<;>simp only [zsE] at h
 ·cases h;exact ztY g.kk g.units
 ·cases h;exact zrP g.kk g.units
 ·cases h;exact zfq ztT
 ·cases h;exact zrS
 ·cases h;exact zfq ztV
 ·cases h;exact zfq ztW
 ·split at h
  ·cases h;exact zrT
  ·cases h
 ·cases h
 ·cases h;exact ztX g.kk g.units
 ·cases h;exact zrO g.kk g.units
theorem zli(hs:zbi cl G k rc)(g:Gx cl G k X nm N E):∀{es:List Expr} {f:Fe},zja rc nm N op es=some f->PE X (.BoolOp op es pos) (tE cl E f)/\PW X (.BoolOp op es pos) (tTr cl E f)
 | [],f,h=>by cases h
 | [a],f,h=>by
  unfold zja at h;split at h
  ·rename_i ht;obtain ⟨h1,h2,_⟩:=zbj hs g h;refine ⟨zrw h1,?_⟩
   cases op with
   | And=>exact zoW (h2 ht)
   | Or=>exact znt (h2 ht)
  ·cases h
 | a::b::r,f,h=>by
  unfold zja at h;split at h
  ·rename_i ht
   cases h1:shE rc nm N a with
   | none=>rw [h1] at h;cases h
   | some fa =>
    rw [h1] at h
    cases h2:zja rc nm N op (b::r) with
    | none=>rw [h2] at h;cases h
    | some fb =>
     rw [h2] at h;obtain ⟨a1,a2,_⟩:=zbj hs g h1;obtain ⟨b1,b2⟩:=zli hs g (pos:=pos) h2
     cases op with
     | And=>cases h;exact ⟨zq6 a1 b1,zqL (a2 ht) b2⟩
     | Or=>cases h;exact ⟨ztB a1 b1,zqJ (a2 ht) b2⟩
  ·cases h
theorem zm2:bootBuiltins "all" = some (.builtin "all"):=by decide +kernel
theorem zff:bootBuiltins "tuple" = some (.type "tuple"):=by decide +kernel
theorem zlg:bootBuiltins "list" = some (.type "list"):=by decide +kernel
theorem zm1:bootBuiltins "int" = some (.type "int"):=by decide +kernel
theorem zlh:bootBuiltins "bool" = some (.type "bool"):=by decide +kernel
theorem zs7:bootBuiltins "max" = some (.builtin "max"):=by decide +kernel
theorem zs6:bootBuiltins "min" = some (.builtin "min"):=by decide +kernel
theorem zm0:bootBuiltins "str" = some (.type "str"):=by decide +kernel
theorem zsJ(g:Gx cl G k X nm N E)(h:zlk x=some bi)(hg:zbF nm x=true)(hb:G.blt x=true)(ha:PA X (e::es) (tHs cl E fs))(hp:(e::es).all zbr=true) :
  (bi.nw=true->PE X (.Call (.Name x p) (e::es) [] pos) (tN cl E (zaz bi.g fs)))/\PE X (.Call (.Name x p) (e::es) [] pos) (tE cl E (zaz bi.g fs)):=by
 obtain ⟨g1,g2,g3⟩:=g.glob hg;have m:=g.gok.blt x hb;rw [ya2,yaa] at hp;have st:=zbh (es:=es) (env:=X.env) hp.1;have pl:=zbl (pos:=pos) (env:=X.env) hp.2
 have D1:∀{id:String} {gg:List D->Option D},zlw X cl (.builtin id) gg->bootBuiltins x=some (.builtin id)->PE X (.Call (.Name x p) (e::es) [] pos) (tE cl E (zaz gg fs)):=fun hc hv =>
  PE.imp (zcq hc g1 m hv ha g3 g2 st pl) fun _ _ _ q=>zqG (fun _ _ _ z=>z) q
 have D2:∀{T:String} {gg:List D->Option D},zlw X cl (.type T) gg->bootBuiltins x=some (.type T)->PE X (.Call (.Name x p) (e::es) [] pos) (tE cl E (zaz gg fs)):=fun hc hv =>
  PE.imp (zed hc g1 m hv ha g3 g2 st pl) fun _ _ _ q=>zqG (fun _ _ _ z=>z) q
 have N2:∀{T:String} {gg:List D->Option D},zqj X cl (.type T) gg->bootBuiltins x=some (.type T)->PE X (.Call (.Name x p) (e::es) [] pos) (tN cl E (zaz gg fs)):=fun hc hv =>
  PE.imp (zed hc g1 m hv ha g3 g2 st pl) fun _ _ _ q=>zqF (fun _ _ _ z=>z) q
 unfold zlk at h;split at h
 ·rename_i e';cases h;exact ⟨(fun z=>absurd z (by decide)),D1 (zsF g.kk) (by rw [e'];exact PySem.boot_len)⟩
 split at h
 ·rename_i e';cases h;exact ⟨(fun z=>absurd z (by decide)),D1 (zsG g.calm) (by rw [e'];exact zm2)⟩
 split at h
 ·rename_i e';cases h;exact ⟨(fun z=>absurd z (by decide)),D2 zmW (by rw [e'];exact zff)⟩
 split at h
 ·rename_i e';cases h;have n:=N2 (zpY g.calm) (by rw [e'];decide +kernel);exact ⟨fun _=>n,zbZ n⟩
 split at h
 ·rename_i e';cases h;have n:PE X (.Call (.Name x p) (e::es) [] pos) (tN cl E (zaz zdx fs)):=PE.imp (zcq (zld g.calm) g1 m (by rw [e'];decide +kernel) ha g3 g2 st pl) fun _ _ _ q=>zqF (fun _ _ _ z=>z) q
  exact ⟨fun _=>n,zbZ n⟩
 ·cases h
def ztj(h:zqx t=some T):bootBuiltins t=some (.type T):=by
 unfold zqx at h;split at h
 ·rename_i e;cases h;rw [e];exact zm1
 split at h
 ·rename_i e;cases h;rw [e];exact zlh
 split at h
 ·rename_i e;cases h;rw [e];exact zff
 split at h
 ·rename_i e;cases h;rw [e];exact zm0
 split at h
 ·rename_i e;cases h;rw [e];exact zlg
 ·cases h
def zp1(hs:zbi cl G k rc)(g:Gx cl G k X nm N E)(h:zp2 G rc nm N x args=some (o,f)) :
  (o=true->PE X (.Call (.Name x p) args [] pos) (tN cl E f))/\PE X (.Call (.Name x p) args [] pos) (tE cl E f):=by
 unfold zp2 at h;split at h
 ·rename_i hg;obtain ⟨g1,g2,g3⟩:=g.glob hg;split at h
  ·rename_i fi hfi;split at h
   ·rename_i hl;obtain ⟨fa,fd,ps,m1,m2,m3,m4⟩:=g.gok.fn x fi hfi
    cases h1:shL rc nm N args with
    | none=>rw [h1] at h;cases h
    | some fs =>
     rw [h1] at h;cases h;obtain ⟨a1,a2,a3⟩:=zd8 hs g h1;have hlen:fs.length=fi.ar:=a3.trans hl
     have main:PE X (.Call (.Name x p) args [] pos) (zf1 (zfS cl fi.ar fi.own fi.run) [] E (tAs cl E fs)):=by
      cases args with
      | nil =>
       cases h1;refine PE.imp (zke m4 g.room g1 m1 m2 m3 .nil g.pass g2) ?_;rintro σ H Q ⟨B,w,ρ,S,rfl,R,q⟩;exact q [] w R (Fut.refl _) .nil
      | cons e es =>
       rw [ya2,yaa] at a2;exact zmf m4 g.room g1 m1 m2 m3 .nil g.pass a1 g2 (zbh a2.1) (zbl a2.2)
     cases ho:fi.own with
     | false =>
      rw [ho] at main;exact ⟨(fun z=>by cases z),PE.imp main fun _ _ _ q=>zsI q hlen⟩
     | true =>
      rw [ho] at main;have n:PE X (.Call (.Name x p) args [] pos) (tN cl E (eFn fi.run fs)):=PE.imp main fun _ _ _ q=>zsH q hlen
      exact ⟨fun _=>n,zbZ n⟩
   ·cases h
  ·split at h
   ·rename_i hb;split at h
    ·rename_i hx;subst hx;split at h
     ·rename_i a t p2;split at h
      ·rename_i ht;rw [yaa,yaa] at ht;replace ht:=ht.1
       cases hT:zqx t with
       | none=>rw [hT] at h;cases h
       | some T =>
        rw [hT] at h
        cases h1:opE rc nm N a with
        | none=>rw [h1] at h;cases h
        | some fa =>
         rw [h1] at h;cases h;obtain ⟨t1,t2,t3⟩:=g.glob ht.1;obtain ⟨a1,a2⟩:=zdk hs g h1;exact ⟨(fun z=>by cases z),zoK g1 (g.gok.blt _ hb) t1 (g.gok.blt _ ht.2) (ztj hT) t3 t2 (zay a2) a1⟩
      ·split at h
       ·rename_i ht;rw [yaa] at ht
        cases h1:opE rc nm N a with
        | none=>rw [h1] at h;cases h
        | some fa =>
         rw [h1] at h;cases h;obtain ⟨t1,t2,t3⟩:=g.glob ht.1;obtain ⟨a1,a2⟩:=zdk hs g h1;refine ⟨(fun z=>by cases z),?_⟩
         by_cases hv:t = "ValueError"
         ·subst hv
          have ht2:G.blt "ValueError" = true:=by simpa [zuu] using ht.2
          exact zhX (vC:=.ty "ValueError") g1 (g.gok.blt _ hb) (zg9 t1 (g.gok.blt _ ht2) zfe rfl t3 t2) (fun u r=>by rw [show u=Value.type "ValueError" from r];rfl) (fun c b hc=>g.gok.isx c _ b hc) (zay a2) a1
         ·have ht2:G.exc t=true:=by simpa [zuu,hv] using ht.2
          exact zhX (vC:=.ref (cl t)) g1 (g.gok.blt _ hb) (zg7 t1 (g.gok.exc t ht2).1 rfl t2) (fun u r=>by rw [show u=Value.ref (cl t) from r];unfold clsV;rw [if_neg hv]) (fun c b hc=>g.gok.isx c _ b hc) (zay a2) a1
       ·cases h
     ·cases h
    ·split at h
     ·cases h
     ·rename_i e es
      cases h2:zlk x with
      | none=>rw [h2] at h;cases h
      | some bi =>
       rw [h2] at h
       cases h1:opL rc nm N (e::es) with
       | none=>rw [h1] at h;cases h
       | some fs =>
        rw [h1] at h;cases h;obtain ⟨a1,a2,_⟩:=znD hs g h1;exact zsJ g h2 hg hb a1 a2
   ·cases h
 ·cases h
def zkC(hs:zbi cl G k rc)(g:Gx cl G k X nm N E)(h:ziX G rc nm N tg e=some fi):PI X tg e (tI cl E fi)/\okE e=true:=by
 have gen:∀{e:Expr},(shE rc nm N e).map zbn=some fi->PI X tg e (tI cl E fi)/\okE e=true:=fun {e} h=>by
  cases h1:shE rc nm N e with
  | none=>rw [h1] at h;cases h
  | some f =>
   rw [h1] at h;cases h;obtain ⟨a1,_,a3⟩:=zbj hs g h1;exact ⟨zqW g.kk a1,a3⟩
 unfold ziX at h;split at h
 ·rename_i x p args pos;split at h
  ·rename_i hx;subst hx;split at h
   ·rename_i hb;rw [yaa] at hb;obtain ⟨g1,_,_⟩:=g.glob hb.1;have m:=g.gok.blt _ hb.2;split at h
    ·rename_i a
     cases h1:shE rc nm N a with
     | none=>rw [h1] at h;cases h
     | some f =>
      rw [h1] at h;cases h;obtain ⟨a1,_,a3⟩:=zbj hs g h1;exact ⟨zoD g1 m (zaN a1 zea (zbh (zay a3))) (zbh (zay a3)),rfl⟩
    ·cases h
   ·cases h
  split at h
  ·rename_i hx;subst hx;split at h
   ·rename_i hb;rw [yaa,yaa] at hb;obtain ⟨g1,_,_⟩:=g.glob hb.1.1;have m:=g.gok.blt _ hb.1.2;split at h
    ·rename_i a b
     cases h1:shE rc nm N a with
     | none=>rw [h1] at h;cases h
     | some f =>
      rw [h1] at h
      cases h2:shE rc nm N b with
      | none=>rw [h2] at h;cases h
      | some f2 =>
       rw [h2] at h;cases h;obtain ⟨a1,_,a3⟩:=zbj hs g h1;obtain ⟨b1,_,b3⟩:=zbj hs g h2;have s1:=zbh (es:=[b]) (env:=X.env) (zay a3);have s2:=zbh (es:=[]) (env:=X.env) (zay b3)
       cases tg with
       | Tuple es kk tp=>exact ⟨zqS g1 m (zaN a1 (zaN b1 zea s2) s1) s1 (zbl (by simp [zay b3])),rfl⟩
       | _=>cases hb.2
    ·cases h
   ·cases h
  ·exact gen h
 ·exact gen h
def ztz(hs:zbi cl G k rc)(g:Gx cl G k X nm N E)(h:spG G rc nm N x args=some (o,f)):(o=true->PE X (.Call (.Name x p) args [] pos) (tN cl E f))/\PE X (.Call (.Name x p) args [] pos) (tE cl E f):=by
 unfold spG at h
 cases hc:spA args with
 | none=>rw [hc] at h;cases h
 | some c =>
 rw [hc] at h;obtain rfl:=zqR hc;obtain ⟨y,a,p2,pos2⟩:=c;dsimp only [Option.bind] at h ⊢;clear hc;split at h
 ·rename_i hb;simp only [yaa,yaV] at hb;obtain ⟨⟨⟨⟨⟨rfl,rfl⟩,b1⟩,b2⟩,b3⟩,b4⟩:=hb;obtain ⟨g1,_,_⟩:=g.glob b1;obtain ⟨g2,_,_⟩:=g.glob b3
  cases h1:shE rc nm N a with
  | none=>rw [h1] at h;cases h
  | some fa =>
   rw [h1] at h;cases h;obtain ⟨a1,_,a3⟩:=zbj hs g h1;exact ⟨(fun z=>by cases z),zjF g.calm (ycA (Nat.add_le_add_left (by decide) _) g.units) g1 (g.gok.blt _ b2) g2 (g.gok.blt _ b4) a1 (zbh (zay a3))⟩
 ·cases h
noncomputable def zno:Expr->Bool | .Name _ _=>true | .Call (.Name _ _) (_::_) _ _=>true | .Attribute (.Name _ _) _ _=>true | _=>false
def zpo(G:Genv)(rc:Rec)(nm:Names)(N:List Str)(o:Expr)(m:Str)(ap cp:Pos)(args:List Expr)(kws:List Keyword):Option (Bool×Fe) :=
 if kws.isEmpty&&zno o&&(ap.endLine == cp.line)&&decide (args.length<30) then (G.ob.mt m).bind fun c=>if args.length+1=c.2.ar then (shE rc nm N o).bind fun fo=>(shL rc nm N args).bind fun fs=>some (c.2.own,zbf c.1 m c.2.run fo fs) else none else none
def mkG(G:Genv)(rc:Rec)(nm:Names)(N:List Str)(x:Str)(args:List Expr):Option (Bool×Fe) :=
 if zbF nm x&&!args.isEmpty then (G.ob.mks x).bind fun c=>(shL rc nm N args).bind fun fs =>
  if args.length+1=c.2.ar then some (false,eMk x [] c.2.run fs) else if args.length+c.1.length+1=c.2.ar then some (false,eMk x c.1 c.2.run fs) else none
 else none
noncomputable def zpH:Expr->Bool | .Name _ _=>true | _=>false
def zum(G:Genv)(rc:Rec)(nm:Names)(N:List Str)(o:Expr)(f:Str):Option (Bool×Fe):=if zpH o&&G.ob.fk G.ob.cur f then (shE rc nm N o).map fun fo=>(false,znS G.ob.cur f fo) else none
noncomputable def zvV:Expr->Option (Expr×Str×Pos) | .Attribute o m p=>some (o,m,p) | _=>none
def zp6(h:zvV e=some x):e=.Attribute x.1 x.2.1 x.2.2:=by cases e<;>first | (cases h;done) | (cases h;rfl)
noncomputable def nmF:Expr->Option (Str×Pos) | .Name x p=>some (x,p) | _=>none
def znF(h:nmF e=some x):e=.Name x.1 x.2:=by cases e<;>first | (cases h;done) | (cases h;rfl)
def Gx.same(g:Gx cl G k X nm N E):Same' cl X:=⟨g.kk,g.pp,g.ww⟩
def zal{α β:Type}{o:Option α}{f:α->Option β}{b:β}(h:o.bind f=some b):∃a,o=some a/\f a=some b:=by
 cases o with
 | none=>cases h
 | some a=>exact ⟨a,rfl,h⟩
def zsp(hs:zbi cl G k rc)(g:Gx cl G k X nm N E)(h:zum G rc nm N o f=some (w,fe)):w=false/\PE X (.Attribute o f pos) (tE cl E fe):=by
 unfold zum at h;split at h
 ·rename_i hc;rw [yaa] at hc
  cases h1:shE rc nm N o with
  | none=>rw [h1] at h;cases h
  | some fo =>
   rw [h1] at h;cases h;refine ⟨rfl,zq4 (g.gok.fk _ _ hc.2) g.kk (zbj hs g h1).1 ?_⟩
   cases o<;>first | rfl | cases hc.1
 ·cases h
def zw9(hp:args.all zbr=true)(hl:args.length<30):methodCallForm (args.length+0) (backTo pos (starEach args env)) (backToKw pos (keywordEach [] env))=true:=by
 have h:=zbl (pos:=pos) (env:=env) hp;unfold methodCallForm
 have h1:(backTo pos (starEach args env)).all (!·.1)=true:=by
  rw [List.all_eq_not_any_not];simpa using h
 rw [h1];show (true&&true&&decide (args.length+0+0<30))=true;rw [yaC (by omega)];rfl
def zkn(hb:attributeBase o m env (eval o env)=eval o env)(hf:methodCallForm (args.length+0) (backTo pos (starEach args env)) (backToKw pos (keywordEach [] env))=true)(hp:(ap.endLine == pos.line)=true) :
  eval (.Call (.Attribute o m ap) args [] pos) env=(do
   let ov ← eval o env
   standAt ap.atName
   let (f,first) ← holding [ov] (getMethod ov m (do return (← importBound o env).getD true))
   callWith pos f first (backTo pos (starEach args env)) (backToKw pos (keywordEach [] env))):=by
 show (do
  let ov ← attributeBase o m env (eval o env)
  standAt ap.atName
  methodCall o m ap pos env ov (args.length+0) (backTo pos (starEach args env)) (backToKw pos (keywordEach [] env)))=_
 rw [hb]
 have e:∀ov,methodCall o m ap pos env ov (args.length+0) (backTo pos (starEach args env)) (backToKw pos (keywordEach [] env))=(do
   let (f,first) ← holding [ov] (getMethod ov m (do return (← importBound o env).getD true))
   callWith pos f first (backTo pos (starEach args env)) (backToKw pos (keywordEach [] env))):=fun ov=>by
  unfold methodCall calleeOf methodCallPos;rw [hf,hp];rfl
 simp only [e]
def zpn(hs:zbi cl G k rc)(g:Gx cl G k X nm N E)(h:zpo G rc nm N o m ap pos args kws=some (w,fe)):(w=true->PE X (.Call (.Attribute o m ap) args kws pos) (tN cl E fe))/\PE X (.Call (.Attribute o m ap) args kws pos) (tE cl E fe):=by
 unfold zpo at h;split at h
 ·rename_i hc;simp only [yaa,yaV] at hc;obtain ⟨⟨⟨z1,z2⟩,z3⟩,z4⟩:=hc;obtain rfl:=ycn.mp z1;obtain ⟨⟨c,fi⟩,h1,h⟩:=zal h;dsimp only at h;split at h
  ·rename_i hl;obtain ⟨fo,h2,h⟩:=zal h;obtain ⟨fs,h3,h⟩:=zal h;cases h;obtain ⟨f,fd,ps,c1,c2,c3,c4⟩:=g.gok.mt m c fi h1;obtain ⟨a1,a2,a3⟩:=zd8 hs g h3
   have hlen:fs.length+1=fi.ar:=by rw [a3];exact hl
   have hb:attributeBase o m X.env (eval o X.env)=eval o X.env:=by
    unfold zno at z2
    split at z2<;>first | rfl | cases z2
   have ht:=zkn (ap:=ap) hb (zw9 (pos:=pos) a2 z4) z3
   have main:PE X (.Call (.Attribute o m ap) args [] pos) (zf0 (cl c) m (zfS cl fi.ar fi.own fi.run) [] E (tE cl E fo) (tAs cl E fs)):=by
    cases args with
    | nil =>
     cases h3;refine PE.imp (zkd (zbj hs g h2).1 c1 c2 c4 g.room c3 .nil g.pass ht) ?_;rintro σ H Q ⟨B,w,ρ,S,rfl,R,q⟩;refine ⟨B,w,ρ,S,rfl,R,?_⟩
     cases hfo:fo ρ S with
     | bad=>rwa [hfo] at q
     | exc c S1=>rwa [hfo] at q
     | ok d S1 =>
      rw [hfo] at q;intro v w1 R1 F1 sh;obtain ⟨a,dx,fs,e1,e2,e3,B',w',ρ',S',e4,R',q⟩:=q v w1 R1 F1 sh;refine ⟨a,dx,fs,e1,e2,e3,?_⟩;have:=q [] w' R' (Fut.refl _) .nil;rwa [e4] at this
    | cons e es =>
     rw [ya2,yaa] at a2;exact zl8 (zbj hs g h2).1 c1 c2 c4 g.room c3 .nil g.pass a1 (zbh a2.1) (zbl a2.2) ht
   cases ho:fi.own with
   | false =>
    rw [ho] at main;exact ⟨(fun z=>by cases z),PE.imp main fun _ _ _ q=>zr3 q hlen⟩
   | true =>
    rw [ho] at main;have n:=PE.imp main fun _ _ _ q=>zr2 q hlen
    exact ⟨fun _=>n,zbZ n⟩
  ·cases h
 ·cases h
def zt0(hs:zbi cl G k rc)(g:Gx cl G k X nm N E)(h:mkG G rc nm N x args=some (w,fe)):w=false/\PE X (.Call (.Name x p) args [] pos) (tE cl E fe):=by
 unfold mkG at h;split at h
 ·rename_i hc;rw [yaa] at hc;obtain ⟨⟨dds,fi⟩,h1,h⟩:=zal h;obtain ⟨fs,h2,h⟩:=zal h;dsimp only at h;obtain ⟨f,fd,ps,dvs,ds,k',hk,mC,M,B0,BD,vd,sd,F⟩:=g.gok.mks x dds fi h1;obtain ⟨a1,a2,a3⟩:=zd8 hs g h2;obtain ⟨g1,g2,g3⟩:=g.glob hc.1
  cases args with
  | nil=>cases hc.2
  | cons e es =>
   rw [ya2,yaa] at a2;have hr:Room (k'+1) X.A:=g.room.mono hk;split at h
   ·rename_i hl;cases h;exact ⟨rfl,PE.imp (zh3 M F hr g1 mC B0 .nil g.pass a1 g2 (zbh a2.1) (zbl a2.2)) fun _ _ _ q=>zvb (dds:=[]) (fun _=>.nil) q (by rw [a3];exact hl)⟩
   ·split at h
    ·rename_i hl;cases h;exact ⟨rfl,PE.imp (zh3 M F hr g1 mC BD vd g.pass a1 g2 (zbh a2.1) (zbl a2.2)) fun _ _ _ q=>zvb sd q (by rw [a3];exact hl)⟩
    ·cases h
 ·cases h
end
section
variable{cl:Cf}{w:Wd}{n:Nat}{B:Base}{σ:St}{ρ:Env}{S:Sto}
def Rel.newo{a dx p:Addr}{ob:Ob}{fs:List (Str×V)}{f:Str}{o0:HO}{d0:D}(R:Rel cl B σ w ρ S)(hn:S[n]?=some ob)(hmu:w.mu[n]?=some a)(how:w.ow a=some (.obj n))(hH:w.H a=some (.ins (cl ob.cls) dx fs))(hF:zcA cl w n fs ob.fs)(hp:w.H p=none)(ht:Top cl w o0 d0) :
  Rel cl B σ ((w.addF p o0 n f).mut a (.ins (cl ob.cls) dx (zc7 f (.ref p) fs))) ρ (S.set n (ob.put f true (.tup [d0])))/\Fut w ((w.addF p o0 n f).mut a (.ins (cl ob.cls) dx (zc7 f (.ref p) fs))):=by
 have hap:a≠p:=zaw hH hp
 have kp:∀b u,w.H b=some u->w.ow b≠some (.obj n)->((w.addF p o0 n f).mut a (.ins (cl ob.cls) dx (zc7 f (.ref p) fs))).H b=some u/\((w.addF p o0 n f).mut a (.ins (cl ob.cls) dx (zc7 f (.ref p) fs))).ow b=w.ow b:=fun b u hb hne=>by
  have hbp:b≠p:=zaw hb hp;refine ⟨?_,?_⟩
  ·show upd (upd w.H p _) a _ b=_;rw [zac (fun z=>hne (by rw [z];exact how)),zac hbp];exact hb
  ·show (if b=p then _ else w.ow b)=_;rw [if_neg hbp]
 have ff:Fut w ((w.addF p o0 n f).mut a (.ins (cl ob.cls) dx (zc7 f (.ref p) fs))):=⟨fun b u hb hk=>by
  have:=kp b u hb (by rw [hk];exact fun z=>by cases z)
  exact ⟨this.1,this.2.trans hk⟩,fun _ _ h=>h⟩
 have hB:B.Fr a=none:=(R.wd.own a _ how).elim (fun z=>by cases z) fun z=>z
 have hBp:B.Fr p=none:=by
  cases z:B.Fr p with
  | none=>rfl
  | some u=>have:=(R.wd.fr p u z).1;rw [hp] at this;cases this
 have Hp:((w.addF p o0 n f).mut a (.ins (cl ob.cls) dx (zc7 f (.ref p) fs))).H p=some o0:=by
  show upd (upd w.H p _) a _ p=_;rw [zac hap.symm,zap]
 have owp:((w.addF p o0 n f).mut a (.ins (cl ob.cls) dx (zc7 f (.ref p) fs))).ow p=some (.fld n f):=if_pos rfl
 have owa:((w.addF p o0 n f).mut a (.ins (cl ob.cls) dx (zc7 f (.ref p) fs))).ow a=some (.obj n):=by
  show (if a=p then _ else w.ow a)=_;rw [if_neg hap];exact how
 refine ⟨⟨⟨fun b u h=>?_,fun b r h=>?_,by rw [yaI];exact R.wd.len,fun m ob' h=>?_,R.wd.tab.keep ff fun P ps h1 h2=>⟨(kp P _ h1 (by rw [h2];simp)).1,(kp P _ h1 (by rw [h2];simp)).2.trans h2⟩⟩,R.len,fun i o e h=>?_⟩,ff⟩
 ·have:=kp b u (R.wd.fr b u h).1 fun z=>by
   rcases R.wd.own b _ z with y | y
   ·cases y
   ·rw [h] at y;cases y
  exact ⟨this.1,this.2.trans (R.wd.fr b u h).2⟩
 ·have h':(if b=p then some (Root.fld n f) else w.ow b)=some r:=h;split at h'
  ·rename_i z;rw [z];exact .inr hBp
  ·exact R.wd.own b r h'
 ·rcases zhf h with ⟨rfl,rfl⟩ | ⟨hne,h⟩
  ·refine ⟨a,hmu,owa,dx,_,zap,?_⟩;refine zcA.put (hF.keepF ff fun b u g hb hg=>?_) (.inr ⟨rfl,d0,rfl,p,o0,rfl,owp,Hp,ht.up ff⟩);have:=kp b u hb (by rw [hg];exact fun z=>by cases z);exact ⟨this.1,this.2.trans hg⟩
  ·obtain ⟨b,e,x⟩:=R.wd.obj m ob' h;exact ⟨b,e,x.keep ff fun b u hb hm=>kp b u hb fun z=>by rw [z] at hm;exact hne hm.symm⟩
 ·obtain ⟨v,e1,x⟩:=R.slots i o e h
  exact ⟨v,e1,x.keep ff fun b u hb hr=>by
   have:=kp b u hb (by rw [hr];exact fun z=>by cases z)
   exact ⟨this.1,this.2.trans hr⟩⟩
def Rel.seto{a dx c:Addr}{ob:Ob}{fs:List (Str×V)}{f:Str}{o0:HO}{d0:D}(R:Rel cl B σ w ρ S)(hn:S[n]?=some ob)(hmu:w.mu[n]?=some a)(how:w.ow a=some (.obj n))(hH:w.H a=some (.ins (cl ob.cls) dx fs))(hF:zcA cl w n fs ob.fs)
  (hl:fs.lookup f=some (.ref c)) (hc:w.ow c=some (.fld n f)) (ht:Top cl w o0 d0) (nd:zdO ob=true) :
  Rel cl B σ (w.mut c o0) ρ (S.set n (ob.put f true (.tup [d0])))/\Fut w (w.mut c o0):=by
 have ff:=zdF (w:=w) (p:=c) (o:=o0) (by rw [hc];exact yaB _)
 have kp:∀b o,w.H b=some o->w.ow b≠some (.fld n f)->(w.mut c o0).H b=some o/\(w.mut c o0).ow b=w.ow b:=fun b o hb hne=>⟨by
  show upd w.H c _ b=_
  rw [zac (fun z=>hne (by rw [z];exact hc))];exact hb,rfl⟩
 have hB:B.Fr c=none:=(R.wd.own c _ hc).elim (fun z=>by cases z) fun z=>z
 refine ⟨⟨⟨fun b o h=>?_,R.wd.own,by rw [yaI];exact R.wd.len,fun m' ob' h=>?_,R.wd.tab.keep ff fun P ps h1 h2=>⟨(kp P _ h1 (by rw [h2];simp)).1,(kp P _ h1 (by rw [h2];simp)).2.trans h2⟩⟩,R.len,fun i o e h=>?_⟩,ff⟩
 ·refine ⟨?_,(R.wd.fr b o h).2⟩;show upd w.H c _ b=_;rw [zac (fun z=>by rw [z,hB] at h;cases h)];exact (R.wd.fr b o h).1
 ·rcases zhf h with ⟨rfl,rfl⟩ | ⟨hne,h⟩
  ·refine ⟨a,hmu,how,dx,fs,?_,?_⟩
   ·exact (kp a _ hH (by rw [how];exact fun z=>by cases z)).1
   ·refine zcA.dic (a:=c) ff (fun b o g hg hb hr=>?_) (.inr ⟨rfl,d0,rfl,c,o0,rfl,hc,zap,ht.up ff⟩) hF (yaq nd) hl
    ·exact ⟨(kp b o hb (by rw [hr];exact fun z=>hg (by cases z;rfl))).1,hr⟩
  ·obtain ⟨b,e,x⟩:=R.wd.obj m' ob' h;exact ⟨b,e,x.keep ff fun b o hb hm=>kp b o hb fun z=>by rw [z] at hm;exact hne hm.symm⟩
 ·obtain ⟨v',e1,x⟩:=R.slots i o e h;exact ⟨v',e1,x.keep ff fun b o hb hr=>⟨(kp b o hb (by rw [hr];exact fun z=>by cases z)).1,hr⟩⟩
end
noncomputable def zqo(cn f:Str)(d:D)(S:Sto):Option (Nat×Ob×D):=match d with
 | .ref n=>(match S[n]? with
  | some ob=>if ob.cls=cn then (match ob.fs.lookup f with | some (true,.tup [d])=>some (n,ob,d) | _=>none) else none
  | none=>none)
 | _=>none
section
variable{cl:Cf}{cn:Str}{X:Cx}{E:St->XK}{e:Expr}{fe:Fe}{f:Str}{pos:Pos}{B:Base}{σ:St}{w:Wd}{ρ:Env}{S:Sto}
def zsK{v:V}{d:D}{n:Nat}{ob:Ob}{d0:D}(hk:zfR cl cn f)(R:Rel cl B σ w ρ S)(hv:Shd cl w v d)(hd:zqo cn f d S=some (n,ob,d0)) :
  ∃a dx fs c o,v=.ref a/\S[n]?=some ob/\w.mu[n]?=some a/\w.ow a=some (.obj n)/\w.H a=some (.ins (cl ob.cls) dx fs)/\zcA cl w n fs ob.fs/\Cls cl.K (cl ob.cls)/\zcj cl.K (cl ob.cls) f/\fs.lookup f=some (.ref c)/\w.ow c=some (.fld n f)/\w.H c=some o/\Top cl w o d0:=by
 unfold zqo at hd
 cases d with
 | ref n' =>
  dsimp only at hd
  cases hS:S[n']? with
  | none=>rw [hS] at hd;cases hd
  | some ob' =>
   rw [hS] at hd;dsimp only at hd;split at hd
   ·rename_i hfk;split at hd
    ·rename_i ds' hl;cases hd;obtain ⟨a,dx,fs,rfl,hmu,how,hH,hF⟩:=zfg R hv hS;obtain ⟨v,lv,fr⟩:=hF.look hl
     rcases fr with ⟨z,_⟩ | ⟨_,d1,z,c,o,rfl,c1,c2,c3⟩
     ·cases z
     ·cases z;exact ⟨a,dx,fs,c,o,rfl,hS,hmu,how,hH,hF,hfk ▸ hk.1,hfk ▸ hk.2,lv,c1,c2,c3⟩
    ·cases hd
   ·cases hd
 | _=>cases hd
end
noncomputable abbrev Fq:=Env->Sto->Option D
noncomputable def tQ(cl:Cf)(g:Fq):TE:=fun σ H Q=>∃B w ρ S d,w.H=H/\Rel cl B σ w ρ S/\g ρ S=some d/\∀v,Shd cl w v d->Q v H
def zhk:List Fq->Env->Sto->Option (List D)
 | [],_,_=>some []
 | g::gs,ρ,S=>(g ρ S).bind fun d=>(zhk gs ρ S).map (d::·)
noncomputable def zbw(i:Nat):Fq:=fun ρ _=>match ρ[i]? with | some (some (false,d))=>some d | _=>none
noncomputable def ztJ(d:D):Fq:=fun _ _=>some d
def ztI(cn f:Str)(g:Fq):Fq:=fun ρ S=>(g ρ S).bind fun d=>zmI cn f d S
section
variable{X:Cx}{cl:Cf}{e o:Expr}{es:List Expr}{g:Fq}{gs:List Fq}{pos:Pos}{f cn:Str}
def znr{i:Nat}{x:Str}(hN:X.N[i]?=some x)(hv:Vis X.env.scope x)(hd:(x == ("__debug__":Str))=false)(hcd:(x == ("__classdict__":Str))=false):PE X (.Name x pos) (tQ cl (zbw i)):=by
 refine PE.imp (zaU hN hv hd hcd) ?_;rintro σ H Q ⟨B,w,ρ,S,d,rfl,R,hg,q⟩;unfold zbw at hg;split at hg
 ·rename_i d' hi;cases hg;obtain ⟨v,ev,rv⟩:=R.slots i false _ hi;exact ⟨v,ev,q v rv⟩
 ·cases hg
def zns{v:V}{d:D}(h:PE X e (tC v))(hd:∀w,Shd cl w v d):PE X e (tQ cl (ztJ d)):=by
 refine PE.imp h ?_;rintro σ H Q ⟨B,w,ρ,S,d',rfl,R,hg,q⟩;cases hg;exact q v (hd w)
def zrk(hk:zfR cl cn f)(kk:X.K=cl.K)(he:PE X e (tQ cl g))(hb:attributeBase e f X.env (eval e X.env)=eval e X.env):PE X (.Attribute e f pos) (tQ cl (ztI cn f g)):=by
 refine PE.imp (zbR he hb) ?_;rintro σ H Q ⟨B,w,ρ,S,d,rfl,R,hg,q⟩;unfold ztI at hg
 cases h1:g ρ S with
 | none=>rw [h1] at hg;cases hg
 | some d1 =>
  rw [h1] at hg;refine ⟨B,w,ρ,S,d1,rfl,R,h1,fun v hv=>?_⟩;obtain ⟨a,C,dx,fs,y,rfl,e1,e2,e3,e4,e5⟩:=znZ hk R hv hg;rw [kk];exact ⟨a,C,dx,fs,y,rfl,e1,e2,e3,e4,q y e5⟩
noncomputable def tQs(cl:Cf)(gs:List Fq):TA:=fun σ H Q=>∃B w ρ S ds,w.H=H/\Rel cl B σ w ρ S/\zhk gs ρ S=some ds/\∀vs,Shds cl w vs ds->Q vs H
def zrh:PA X [] (tQs cl []):=PA.imp zbS fun σ H Q ⟨B,w,ρ,S,ds,e,R,h,q⟩=>by cases h;exact q [] .nil
def zoS(he:PE X e (tQ cl g))(ht:PA X es (tQs cl gs))(hs:starEach (e::es) X.env=(false,eval e X.env)::starEach es X.env):PA X (e::es) (tQs cl (g::gs)):=by
 refine PA.imp (zaX he ht hs) ?_;rintro σ H Q ⟨B,w,ρ,S,ds,rfl,R,hg,q⟩;unfold zhk at hg
 cases h1:g ρ S with
 | none=>rw [h1] at hg;cases hg
 | some d1 =>
  rw [h1] at hg
  cases h2:zhk gs ρ S with
  | none=>rw [h2] at hg;cases hg
  | some ds1 =>
   rw [h2] at hg;cases hg;exact ⟨B,w,ρ,S,d1,rfl,R,h1,fun v hv=>⟨B,w,ρ,S,ds1,rfl,R,h2,fun vs hvs=>q _ (.cons hv hvs)⟩⟩
end
noncomputable def zh5(cn f:Str)(ρ:Env)(S:Sto)(i:Nat):Option (Nat×Ob×D):=match ρ[i]? with | some (some (false,d))=>zqo cn f d S | _=>none
def zeK(cn f:Str)(i:Nat):Fs:=fun ρ S=>match ρ[i]? with
 | some (some (false,.ref n))=>(match S[n]? with
   | some ob=>if decide (ob.cls=cn)&&decide (ob.fs.length<1000) then .nx ρ (S.set n (ob.put f true (.tup [.lst []]))) else .bad
   | none=>.bad)
 | _=>.bad
def zoN(cn f:Str)(i:Nat)(g:Fq):Fs:=fun ρ S=>match zh5 cn f ρ S i,g ρ S with
 | some (n,ob,.lst l),some d=>if small l.length&&zdO ob then .nx ρ (S.set n (ob.put f true (.tup [.lst (l++[d])]))) else .bad
 | _,_=>.bad
def zpU(cn f:Str)(i:Nat):Fe:=fun ρ S=>match zh5 cn f ρ S i with
 | some (n,ob,.lst l)=>(match l[l.length-1]? with | some d=>if zdO ob then .ok d (S.set n (ob.put f true (.tup [.lst l.dropLast]))) else .bad | none=>.bad)
 | _=>.bad
def zfH(cn f:Str)(i:Nat):Fe:=fun ρ S=>match zh5 cn f ρ S i with
 | some (_,_,.lst l)=>.ok (.int l.length) S
 | _=>.bad
section
variable{X:Cx}{cl:Cf}{E:St->XK}{own:Bool}{e:Expr}{es:List Expr}{g:Fq}{gs:List Fq}{pos pos' apos ap cp p p2:Pos}{f cn:Str}{i:Nat}{x:Str}
def zdA{B:Base}{σ:St}{w:Wd}{ρ:Env}{S:Sto}{n:Nat}{ob:Ob}{d0:D}(hk:zfR cl cn f)(R:Rel cl B σ w ρ S)(h:zh5 cn f ρ S i=some (n,ob,d0)) :
  ∃a dx fs c o,σ[i]?=some (some (.ref a))/\S[n]?=some ob/\w.mu[n]?=some a/\w.ow a=some (.obj n)/\w.H a=some (.ins (cl ob.cls) dx fs)/\zcA cl w n fs ob.fs/\Cls cl.K (cl ob.cls)/\zcj cl.K (cl ob.cls) f/\fs.lookup f=some (.ref c)/\w.ow c=some (.fld n f)/\w.H c=some o/\Top cl w o d0:=by
 unfold zh5 at h;split at h
 ·rename_i d hi;obtain ⟨v,ev,rv⟩:=R.slots i false _ hi;obtain ⟨a,dx,fs,c,o,rfl,h1⟩:=zsK hk R rv h;exact ⟨a,dx,fs,c,o,ev,h1⟩
 ·cases h
def zow(hN:X.N[i]?=some x)(hv:Vis X.env.scope x)(hd:(x == ("__debug__":Str))=false)(hcd:(x == ("__classdict__":Str))=false)(sm:Same' cl X)(hk:zfR cl cn f)(hs:swapsWith (.List [] p) (some (.Attribute (.Name x p2) f apos)) pos.line X.env=pure false):PS X (.Assign [.Attribute (.Name x p2) f apos] (.List [] p) pos) (tS cl E own (zeK cn f i)):=by
 refine PS.imp (zj5 (zaU hN hv hd hcd) (znz zbS) hs) ?_;rintro De σ H ⟨B,w,ρ,S,rfl,R,q⟩;refine ⟨by decide,fun pd hpd=>?_⟩;unfold zeK at q;split at q
 ·rename_i n hi;obtain ⟨v,ev,rv⟩:=R.slots i false _ hi
  cases hS:S[n]? with
  | none=>rw [hS] at q;exact q.elim
  | some ob =>
   rw [hS] at q;dsimp only at q;split at q
   ·rename_i hc0;rw [yaa] at hc0;obtain ⟨a,dx,fs,rfl,hmu,how,hH,hF⟩:=zfg R rv hS;rw [sm.kk];refine ⟨_,ev,a,_,dx,fs,rfl,?_,yaq hc0.1 ▸ hk.1,yaq hc0.1 ▸ hk.2,by rw [hF.len];exact yaq hc0.2,?_⟩
    ·rw [zac (zaw hH hpd)];exact hH
    ·obtain ⟨R3,F3⟩:=R.newo (f:=f) hS hmu how hH hF hpd (.lst .nil);exact q σ _ R3 F3
   ·exact q.elim
 ·exact q.elim
def zoz(hN:X.N[i]?=some x)(hv:Vis X.env.scope x)(hd:(x == ("__debug__":Str))=false)(hcd:(x == ("__classdict__":Str))=false)(sm:Same' cl X)(hk:zfR cl cn f)(hb:attributeBase (.Name x p) f X.env (eval (.Name x p) X.env)=eval (.Name x p) X.env)(he:PE X e (tQ cl g))(hbase:attributeBase (.Attribute (.Name x p) f apos) "append" X.env (eval (.Attribute (.Name x p) f apos) X.env)=eval (.Attribute (.Name x p) f apos) X.env)
  (hpl:zbr e=true) (hln:(ap.endLine == cp.line)=true):PS X (.Expr (.Call (.Attribute (.Attribute (.Name x p) f apos) "append" ap) [e] [] cp) pos) (tS cl E own (zoN cn f i g)):=by
 refine PS.imp (zec (zmg (es:=[]) ybd ybW ybX zef (zbR (zaU hN hv hd hcd) hb) (zaX he zbS (zbh hpl)) (hbase:=hbase) (hfew:=zim (by simp [hpl]) (by simp)) (hline:=hln) (hs:=zbh hpl) (hplain:=rfl))) ?_;rintro De σ H ⟨B,w,ρ,S,rfl,R,q⟩;unfold zoN at q;split at q
 ·rename_i n ob l d hl hg;obtain ⟨a,dx,fs,c,o,ev,hS,hmu,how,hH,hF,c1,c2,lv,oc,hc,t⟩:=zdA hk R hl;split at q
  ·rename_i hz;rw [yaa] at hz
   cases t with
   | lst t =>
    rw [sm.kk];refine ⟨_,ev,a,_,dx,fs,_,rfl,hH,c1,c2,lv,.inl ⟨rfl,_,SqL.of hc⟩,B,w,ρ,S,d,rfl,R,hg,fun v h'=>?_⟩;refine ⟨c,_,v,rfl,rfl,hc,by rw [t.length];exact zdg hz.1,?_⟩;obtain ⟨R3,F3⟩:=R.seto hS hmu how hH hF lv oc (.lst (t.append (.cons h' .nil))) hz.2;exact q σ _ R3 F3
  ·exact q.elim
 ·exact q.elim
def zoI(hN:X.N[i]?=some x)(hv:Vis X.env.scope x)(hd:(x == ("__debug__":Str))=false)(hcd:(x == ("__classdict__":Str))=false)(sm:Same' cl X)(hk:zfR cl cn f)(hb:attributeBase (.Name x p) f X.env (eval (.Name x p) X.env)=eval (.Name x p) X.env)(hbase:attributeBase (.Attribute (.Name x p) f apos) "pop" X.env (eval (.Attribute (.Name x p) f apos) X.env)=eval (.Attribute (.Name x p) f apos) X.env)
  (hln:(ap.endLine == cp.line)=true):PE X (.Call (.Attribute (.Attribute (.Name x p) f apos) "pop" ap) [] [] cp) (tE cl E (zpU cn f i)):=by
 refine PE.imp (zrz ybd PySem.F.slot_list_pop PySem.F.type_list_pop zr1 (zbR (zaU hN hv hd hcd) hb) (hbase:=hbase) (hline:=hln)) ?_;rintro σ H Q ⟨B,w,ρ,S,rfl,R,q⟩;unfold zpU at q
 cases hl:zh5 cn f ρ S i with
 | none=>rw [hl] at q;exact q.elim
 | some u =>
  obtain ⟨n,ob,d0⟩:=u;rw [hl] at q
  cases d0 with
  | lst l =>
   dsimp only at q;obtain ⟨a,dx,fs,c,o,ev,hS,hmu,how,hH,hF,c1,c2,lv,oc,hc,t⟩:=zdA hk R hl
   cases hy:l[l.length-1]? with
   | none=>rw [hy] at q;exact q.elim
   | some d =>
    rw [hy] at q;dsimp only at q
    cases hnd:zdO ob with
    | false=>rw [hnd,if_neg (by decide)] at q;exact q.elim
    | true =>
     rw [hnd,if_pos rfl] at q
     cases t with
     | @lst xs _ t =>
      obtain ⟨v,ev',rv⟩:=t.at hy;rw [sm.kk]
      have hdl:Shds cl w xs.dropLast l.dropLast:=by
       rw [List.dropLast_eq_take,List.dropLast_eq_take,t.length];exact t.take _
      refine ⟨_,ev,a,_,dx,fs,_,rfl,hH,c1,c2,lv,.inl ⟨rfl,_,SqL.of hc⟩,c,xs,v,rfl,rfl,hc,by rw [t.length];exact ev',?_⟩;obtain ⟨R3,F3⟩:=R.seto hS hmu how hH hF lv oc (.lst hdl) hnd;exact q v _ R3 F3 (rv.up F3)
  | _=>exact q.elim
def zoJ{q1:Pos}{y:Str}(hN:X.N[i]?=some x)(hv:Vis X.env.scope x)(hd:(x == ("__debug__":Str))=false)(hcd:(x == ("__classdict__":Str))=false)(sm:Same' cl X)(hk:zfR cl cn f)(hb:attributeBase (.Name x p) f X.env (eval (.Name x p) X.env)=eval (.Name x p) X.env)(hg:Gl X "len")(hm:X.mg "len" = none) :
  PE X (.Call (.Name "len" q1) [.Attribute (.Name x p) f apos] [] cp) (tE cl E (zfH cn f i)):=by
 refine PE.imp (zcq zb5 hg hm PySem.boot_len (zaX (zbR (zaU hN hv hd hcd) hb) zbS)) ?_;rintro σ H Q ⟨B,w,ρ,S,rfl,R,q⟩;unfold zfH at q
 cases hl:zh5 cn f ρ S i with
 | none=>rw [hl] at q;exact q.elim
 | some u =>
  obtain ⟨n,ob,d0⟩:=u;rw [hl] at q
  cases d0 with
  | lst l =>
   dsimp only at q;obtain ⟨a,dx,fs,c,o,ev,hS,hmu,how,hH,hF,c1,c2,lv,oc,hc,t⟩:=zdA hk R hl
   cases t with
   | lst t =>
    rw [sm.kk];refine ⟨_,ev,a,_,dx,fs,_,rfl,hH,c1,c2,lv,c,_,rfl,.inl (SqL.of hc),?_⟩;rw [t.length];exact q _ w R (Fut.refl _) (.int _)
  | _=>exact q.elim
end
noncomputable def eQ(g:Fq):Fe:=fun ρ S=>match g ρ S with | some d=>.ok d S | none=>.bad
def dicI(cn f:Str)(ρ:Env)(S:Sto)(i:Nat):Option (Nat×Ob×List (D×D)):=match zh5 cn f ρ S i with
 | some (n,ob,.dic ds)=>if zaf ds then some (n,ob,ds) else none
 | _=>none
def zl0(cn f:Str)(i:Nat)(g:Fq):Fq:=fun ρ S=>match g ρ S,dicI cn f ρ S i with | some (.str k),some (_,_,ds)=>some (.bl (zad k ds).isSome) | _,_=>none
def zeN(cn f:Str)(i:Nat)(g:Fq):Fq:=fun ρ S=>match g ρ S,dicI cn f ρ S i with | some (.str k),some (_,_,ds)=>some (.bl (!(zad k ds).isSome)) | _,_=>none
def zoV(cn f:Str)(i:Nat)(g:Fq):Fq:=fun ρ S=>match g ρ S,dicI cn f ρ S i with | some (.str k),some (_,_,ds)=>zad k ds | _,_=>none
def zgd(cn f:Str)(i:Nat)(g:Fq):Fq:=fun ρ S=>match g ρ S,dicI cn f ρ S i with | some (.str k),some (_,_,ds)=>some ((zad k ds).getD .non) | _,_=>none
def zjL(cn f:Str)(i:Nat):Fs:=fun ρ S=>match ρ[i]? with
 | some (some (false,.ref n))=>(match S[n]? with
   | some ob=>if decide (ob.cls=cn)&&decide (ob.fs.length<1000) then .nx ρ (S.set n (ob.put f true (.tup [.dic []]))) else .bad
   | none=>.bad)
 | _=>.bad
def ziH(cn f:Str)(i:Nat)(gk ge:Fq):Fs:=fun ρ S=>match gk ρ S,ge ρ S,dicI cn f ρ S i with
 | some (.str k),some d,some (n,ob,ds)=>if small ds.length&&zdO ob then .nx ρ (S.set n (ob.put f true (.tup [.dic (putS k d ds)]))) else .bad
 | _,_,_=>.bad
def ziI(cn f:Str)(i:Nat)(gk:Fq):Fs:=fun ρ S=>match gk ρ S,dicI cn f ρ S i with
 | some (.str k),some (n,ob,ds)=>if zdO ob then (if (zad k ds).isSome then .nx ρ (S.set n (ob.put f true (.tup [.dic (dropS k ds)]))) else .nx ρ S) else .bad
 | _,_=>.bad
section
variable{X:Cx}{cl:Cf}{E:St->XK}{own:Bool}{e o:Expr}{g gk ge:Fq}{pos apos ap cp p p2 p3:Pos}{f cn:Str}{i:Nat}{x:Str}{σ:St}{H:Hp}{Q:VK}
def zoj(q:tE cl E (eQ g) σ H Q):tQ cl g σ H Q:=by
 obtain ⟨B,w,ρ,S,rfl,R,q⟩:=q;unfold eQ at q
 cases hg:g ρ S with
 | none=>rw [hg] at q;exact q.elim
 | some d=>rw [hg] at q;exact ⟨B,w,ρ,S,d,rfl,R,hg,fun v hv=>q v w R (Fut.refl _) hv⟩
def ztD(h:PE X e (tQ cl g)):PE X e (tE cl E (eQ g)):=PE.imp h fun _ _ _ q=>zoj q
def zfI{B:Base}{w:Wd}{ρ:Env}{S:Sto}{n:Nat}{ob:Ob}{ds:List (D×D)}(hk:zfR cl cn f)(R:Rel cl B σ w ρ S)(h:dicI cn f ρ S i=some (n,ob,ds)) :
  ∃a dx fs c kvs,σ[i]?=some (some (.ref a))/\S[n]?=some ob/\w.mu[n]?=some a/\w.ow a=some (.obj n)/\w.H a=some (.ins (cl ob.cls) dx fs)/\zcA cl w n fs ob.fs/\Cls cl.K (cl ob.cls)/\zcj cl.K (cl ob.cls) f/\fs.lookup f=some (.ref c)/\w.ow c=some (.fld n f)/\w.H c=some (.dK kvs)/\ShdK cl w kvs ds/\zaf ds=true:=by
 unfold dicI at h;split at h
 ·rename_i n' ob' ds' hl;split at h
  ·rename_i ho;cases h;obtain ⟨a,dx,fs,c,o,ev,h1,h2,h3,h4,h5,h6,h7,h8,h9,h10,t⟩:=zdA hk R hl;obtain ⟨kvs,rfl,t2⟩:=zoa t ho;exact ⟨a,dx,fs,c,kvs,ev,h1,h2,h3,h4,h5,h6,h7,h8,h9,h10,t2,ho⟩
  ·cases h
 ·cases h
def zeV{w:Wd}{v:V}{k:Str}(h:Shd cl w v (.str k)):v=.str k:=by cases h;rfl
def zlZ{B:Base}{w:Wd}{ρ:Env}{S:Sto}{k:Str}{n:Nat}{ob:Ob}{ds:List (D×D)}{P:Option V->Prop}(hk:zfR cl cn f)(kk:X.K=cl.K)(R:Rel cl B σ w ρ S)(h:dicI cn f ρ S i=some (n,ob,ds))
  (hq:∀ov:Option V,(ov=none/\zad k ds=none)\/(∃v d,ov=some v/\zad k ds=some d/\Shd cl w v d)->P ov) :
  ∃v,σ[i]?=some (some v)/\∃a C dx fs c,v=.ref a/\w.H a=some (.ins C dx fs)/\Cls X.K C/\zcj X.K C f/\fs.lookup f=some (.ref c)/\IsD w.H c/\∃ov,zhB w.H c (.str k) ov/\P ov:=by
 obtain ⟨a,dx,fs,c,kvs,ev,_,_,_,h4,_,h6,h7,h8,_,h10,t,ho⟩:=zfI hk R h;rw [kk];exact ⟨_,ev,a,_,dx,fs,c,rfl,h4,h6,h7,h8,.inl ⟨kvs,.inl h10⟩,_,zhB.k (k:=.inr k) h10,hq _ (zb8 k t ho)⟩
def zvQ(hk:zfR cl cn f)(kk:X.K=cl.K)(q:tQ cl (zl0 cn f i g) σ H Q):zu6 (tQ cl g) (ztq X.K (ztm i) f) σ H Q:=by
 obtain ⟨B,w,ρ,S,d,rfl,R,hg,q⟩:=q;unfold zl0 at hg;split at hg
 ·rename_i k n ob ds h1 h2;cases hg;refine ⟨B,w,ρ,S,_,rfl,R,h1,fun v hv=>?_⟩;rw [zeV hv]
  obtain ⟨v',e0,a,C,dx,fs,c,e1,e2,e3,e4,e5,_,ov,e6,e7⟩:=zlZ (P:=fun ov=>Q (.bl ov.isSome) w.H) hk kk R h2 fun ov h=>by
   rcases h with ⟨rfl,h⟩ | ⟨_,_,rfl,h,_⟩<;>rw [h] at q<;>exact q _ (.bl _)
  exact ⟨v',e0,a,C,dx,fs,_,e1,e2,e3,e4,e5,c,ov,rfl,e6,e7⟩
 ·cases hg
def znG(hk:zfR cl cn f)(kk:X.K=cl.K)(q:tQ cl (zeN cn f i g) σ H Q):zjs (tQ cl g) (ztq X.K (ztm i) f) σ H Q:=by
 obtain ⟨B,w,ρ,S,d,rfl,R,hg,q⟩:=q;unfold zeN at hg;split at hg
 ·rename_i k n ob ds h1 h2;cases hg;refine ⟨B,w,ρ,S,_,rfl,R,h1,fun v hv=>?_⟩;rw [zeV hv]
  obtain ⟨v',e0,a,C,dx,fs,c,e1,e2,e3,e4,e5,_,ov,e6,e7⟩:=zlZ (P:=fun ov=>Q (.bl (!ov.isSome)) w.H) hk kk R h2 fun ov h=>by
   rcases h with ⟨rfl,h⟩ | ⟨_,_,rfl,h,_⟩<;>rw [h] at q<;>exact q _ (.bl _)
  exact ⟨v',e0,a,C,dx,fs,_,e1,e2,e3,e4,e5,c,ov,rfl,e6,e7⟩
 ·cases hg
variable(hN:X.N[i]?=some x)(hv:Vis X.env.scope x)(hd:(x == ("__debug__":Str))=false)(hcd:(x == ("__classdict__":Str))=false)(sm:Same' cl X)(hk:zfR cl cn f)(hb:attributeBase (.Name x p) f X.env (eval (.Name x p) X.env)=eval (.Name x p) X.env)
include hN hv hd hcd sm hk hb
def zrj(hu:X.A.units+1<cLine)(he:PE X e (tQ cl g))(hm:behindInMarks .In (.Attribute (.Name x p) f apos)=false):PE X (.Compare e [.In] [.Attribute (.Name x p) f apos] pos) (tQ cl (zl0 cn f i g)) :=
 PE.imp (znB (znC hu he (zbR (zaU hN hv hd hcd) hb)) hm) fun _ _ _ q=>zvQ hk sm.kk q
def zoT(hu:X.A.units+1<cLine)(he:PE X e (tQ cl g))(hm:behindInMarks .NotIn (.Attribute (.Name x p) f apos)=false):PE X (.Compare e [.NotIn] [.Attribute (.Name x p) f apos] pos) (tQ cl (zeN cn f i g)) :=
 PE.imp (znB (zgi hu he (zbR (zaU hN hv hd hcd) hb)) hm) fun _ _ _ q=>znG hk sm.kk q
def zrg(hu:X.A.units+1<cLine)(he:PE X e (tQ cl g))(hm:behindInMarks .In (.Attribute (.Name x p) f apos)=false):PT X (.Compare e [.In] [.Attribute (.Name x p) f apos] pos) (tTr cl E (eQ (zl0 cn f i g))) :=
 PT.imp (znv (znC hu he (zbR (zaU hN hv hd hcd) hb)) hm) fun _ _ _ q=>zvQ hk sm.kk (zoj (zfZ q))
def zoR(hu:X.A.units+1<cLine)(he:PE X e (tQ cl g))(hm:behindInMarks .NotIn (.Attribute (.Name x p) f apos)=false):PT X (.Compare e [.NotIn] [.Attribute (.Name x p) f apos] pos) (tTr cl E (eQ (zeN cn f i g))) :=
 PT.imp (znv (zgi hu he (zbR (zaU hN hv hd hcd) hb)) hm) fun _ _ _ q=>znG hk sm.kk (zoj (zfZ q))
def zoU(hu:X.A.units+1<cLine)(he:PE X e (tQ cl g))(m:M1 X (.Attribute (.Name x p) f apos) "get" ap e cp):PE X (.Call (.Attribute (.Attribute (.Name x p) f apos) "get" ap) [e] [] cp) (tQ cl (zgd cn f i g)):=by
 refine PE.imp (zmb hu (zbR (zaU hN hv hd hcd) hb) he m) ?_;rintro σ H Q ⟨B,w,ρ,S,d,rfl,R,hg,q⟩;unfold zgd at hg;split at hg
 ·rename_i k n ob ds h1 h2;cases hg
  obtain ⟨v',e0,a,C,dx,fs,c,e1,e2,e3,e4,e5,e55,ov,e6,e7⟩:=zlZ (P:=fun ov=>Q (ov.getD .non) w.H) hk sm.kk R h2 fun ov h=>by
   rcases h with ⟨rfl,h⟩ | ⟨_,_,rfl,h,r⟩<;>rw [h] at q
   ·exact q _ .non
   ·exact q _ r
  refine ⟨v',e0,a,C,dx,fs,_,e1,e2,e3,e4,e5,c,rfl,e55,B,w,ρ,S,_,rfl,R,h1,fun v hv=>?_⟩;rw [zeV hv];exact ⟨ov,e6,e7⟩
 ·cases hg
def zri(hu:X.A.units+1<cLine)(he:PE X e (tQ cl g))(hs:zuE e):PE X (.Subscript (.Attribute (.Name x p) f apos) e pos) (tQ cl (zoV cn f i g)):=by
 refine PE.imp (zpb hu (zbR (zaU hN hv hd hcd) hb) he hs) ?_;rintro σ H Q ⟨B,w,ρ,S,d,rfl,R,hg,q⟩;unfold zoV at hg;split at hg
 ·rename_i k n ob ds h1 h2
  obtain ⟨v',e0,a,C,dx,fs,c,e1,e2,e3,e4,e5,e55,ov,e6,v,rfl,e7⟩:=zlZ (P:=fun ov=>∃v,ov=some v/\Q v w.H) hk sm.kk R h2 fun ov h=>by
   rcases h with ⟨rfl,h⟩ | ⟨v,_,rfl,h,r⟩<;>rw [h] at hg
   ·cases hg
   ·cases hg;exact ⟨v,rfl,q _ r⟩
  refine ⟨v',e0,a,C,dx,fs,_,e1,e2,e3,e4,e5,B,w,ρ,S,_,rfl,R,h1,fun y hv=>?_⟩;rw [zeV hv];exact ⟨c,v,rfl,e6,e7⟩
 ·cases hg
omit hb
def zox(hs:swapsWith (.Dict [] [] p) (some (.Attribute (.Name x p2) f apos)) pos.line X.env=pure false):PS X (.Assign [.Attribute (.Name x p2) f apos] (.Dict [] [] p) pos) (tS cl E own (zjL cn f i)):=by
 refine PS.imp (zj5 (zaU hN hv hd hcd) zh4 hs) ?_;rintro De σ H ⟨B,w,ρ,S,rfl,R,q⟩;intro pd hpd;unfold zjL at q;split at q
 ·rename_i n hi;obtain ⟨v,ev,rv⟩:=R.slots i false _ hi
  cases hS:S[n]? with
  | none=>rw [hS] at q;exact q.elim
  | some ob =>
   rw [hS] at q;dsimp only at q;split at q
   ·rename_i hc0;rw [yaa] at hc0;obtain ⟨a,dx,fs,rfl,hmu,how,hH,hF⟩:=zfg R rv hS;rw [sm.kk];refine ⟨_,ev,a,_,dx,fs,rfl,?_,yaq hc0.1 ▸ hk.1,yaq hc0.1 ▸ hk.2,by rw [hF.len];exact yaq hc0.2,?_⟩
    ·rw [zac (zaw hH hpd)];exact hH
    ·obtain ⟨R3,F3⟩:=R.newo (f:=f) hS hmu how hH hF hpd (.dicK .nil);exact q σ _ R3 F3
   ·exact q.elim
 ·exact q.elim
include hb
def zos(hu:X.A.units+1<cLine)(hek:PE X e (tQ cl gk))(heo:PE X o (tQ cl ge))(hs:swapsWith o (some (.Subscript (.Attribute (.Name x p) f apos) e p3)) pos.line X.env=pure false):PS X (.Assign [.Subscript (.Attribute (.Name x p) f apos) e p3] o pos) (tS cl E own (ziH cn f i gk ge)):=by
 refine PS.imp (zo4 hu (zbR (zaU hN hv hd hcd) hb) hek heo hs) ?_;rintro De σ H ⟨B,w,ρ,S,rfl,R,q⟩;unfold ziH at q;split at q
 ·rename_i k d n ob ds h1 h2 h3;split at q
  ·rename_i hz;rw [yaa] at hz;refine ⟨B,w,ρ,S,_,rfl,R,h2,fun v hv=>?_⟩;obtain ⟨a,dx,fs,c,kvs,ev,hS,hmu,how,hH,hF,c1,c2,lv,oc,hc,t,ho⟩:=zfI hk R h3;rw [sm.kk];refine ⟨_,ev,a,_,dx,fs,_,rfl,hH,c1,c2,lv,B,w,ρ,S,_,rfl,R,h1,fun y hy=>?_⟩;rw [zeV hy];refine ⟨c,_,rfl,zqh.k (k:=.inr k) hc (by rw [t.length];exact zdg hz.1),?_⟩;obtain ⟨R3,F3⟩:=R.seto hS hmu how hH hF lv oc (.dicK (t.putS ho hv)) hz.2;exact q σ _ R3 F3
  ·exact q.elim
 ·exact q.elim
def zot{j:Nat}(hek:PE X e (tQ cl gk))(m:M2 X (.Attribute (.Name x p) f apos) "pop" ap e (.Constant .none j p2) cp):PS X (.Expr (.Call (.Attribute (.Attribute (.Name x p) f apos) "pop" ap) [e,.Constant .none j p2] [] cp) pos) (tS cl E own (ziI cn f i gk)):=by
 refine PS.imp (zec (zma (zbR (zaU hN hv hd hcd) hb) hek zkc m)) ?_;rintro De σ H ⟨B,w,ρ,S,rfl,R,q⟩;unfold ziI at q;split at q
 ·rename_i k n ob ds h1 h3;split at q
  ·rename_i hz;obtain ⟨a,dx,fs,c,kvs,ev,hS,hmu,how,hH,hF,c1,c2,lv,oc,hc,t,ho⟩:=zfI hk R h3;rw [sm.kk];refine ⟨_,ev,a,_,dx,fs,_,rfl,hH,c1,c2,lv,c,rfl,.inl ⟨kvs,.inl hc⟩,B,w,ρ,S,_,rfl,R,h1,fun y hy=>?_⟩;rw [zeV hy];refine ⟨kvs,.inr k,hc,rfl,fun v hv=>?_,fun hn=>?_⟩
   ·rcases zb8 k t ho with ⟨z,_⟩ | ⟨_,_,_,z,_⟩
    ·rw [z] at hv;cases hv
    ·rw [z] at q;simp only [ycz,yck] at q;obtain ⟨R3,F3⟩:=R.seto hS hmu how hH hF lv oc (.dicK (t.dropS (k:=k) ho)) hz;exact q σ _ R3 F3
   ·rcases zb8 k t ho with ⟨_,z⟩ | ⟨_,_,z,_⟩
    ·rw [z] at q;simp only [Option.isSome_none,yaJ,ybI] at q;exact q σ w R (Fut.refl _)
    ·rw [z] at hn;cases hn
  ·exact q.elim
 ·exact q.elim
end
def ziJ(cn f:Str)(i:Nat)(gs:List Fq):Fs:=fun ρ S=>match zh5 cn f ρ S i,zhk gs ρ S with
 | some (n,ob,.lst l),some ds=>if small l.length&&small ds.length&&zdO ob then .nx ρ (S.set n (ob.put f true (.tup [.lst (l++[.tup ds])]))) else .bad
 | _,_=>.bad
section
variable{X:Cx}{cl:Cf}{E:St->XK}{own:Bool}{es:List Expr}{gs:List Fq}{pos apos ap cp p p2:Pos}{f cn:Str}{i kk:Nat}{x:Str}
def zoy(hN:X.N[i]?=some x)(hv:Vis X.env.scope x)(hd:(x == ("__debug__":Str))=false)(hcd:(x == ("__classdict__":Str))=false)(sm:Same' cl X)(hk:zfR cl cn f)(hb:attributeBase (.Name x p) f X.env (eval (.Name x p) X.env)=eval (.Name x p) X.env)(he:PA X es (tQs cl gs))(hbase:attributeBase (.Attribute (.Name x p) f apos) "append" X.env (eval (.Attribute (.Name x p) f apos) X.env)=eval (.Attribute (.Name x p) f apos) X.env)
  (hln:(ap.endLine == cp.line)=true):PS X (.Expr (.Call (.Attribute (.Attribute (.Name x p) f apos) "append" ap) [.Tuple es kk p2] [] cp) pos) (tS cl E own (ziJ cn f i gs)):=by
 refine PS.imp (zec (zmg (es:=[]) ybd ybW ybX zef (zbR (zaU hN hv hd hcd) hb) (zaX (zny he) zbS (zbh rfl)) (hbase:=hbase) (hfew:=zim rfl (by simp)) (hline:=hln) (hs:=zbh rfl) (hplain:=rfl))) ?_;rintro De σ H ⟨B,w,ρ,S,rfl,R,q⟩;unfold ziJ at q;split at q
 ·rename_i n ob l ds hl hg;obtain ⟨a,dx,fs,c,o,ev,hS,hmu,how,hH,hF,c1,c2,lv,oc,hc,t⟩:=zdA hk R hl;split at q
  ·rename_i hz;rw [yaa,yaa] at hz
   cases t with
   | lst t =>
    rw [sm.kk];refine ⟨_,ev,a,_,dx,fs,_,rfl,hH,c1,c2,lv,.inl ⟨rfl,_,SqL.of hc⟩,B,w,ρ,S,ds,rfl,R,hg,fun vs hvs=>⟨by rw [hvs.length];exact zaZ hz.1.2,fun pn hpn=>?_⟩⟩;have gr:=zaD hpn (.tup vs);have R2:Rel cl B σ (w.add pn (.tup vs)) ρ S:=R.grow gr;obtain ⟨a',dx',fs',c',o',ev',_,hmu',how',hH',hF',_,_,lv',oc',hc',t'⟩:=zdA hk R2 hl;rw [ev] at ev';cases ev';have e1:=(gr.keep a _ hH).1;rw [hH'] at e1;cases e1;rw [lv] at lv';cases lv';have e2:=(gr.keep c _ hc).1;rw [hc'] at e2;cases e2
    cases t' with
    | lst t' =>
     refine ⟨c,_,_,rfl,rfl,hc',by rw [t.length];exact zdg hz.1.1,?_⟩;obtain ⟨R3,F3⟩:=R2.seto hS hmu' how' hH' hF' lv oc' (.lst (t'.append (.cons (Shd.newT hpn hvs) .nil))) hz.2;exact q σ _ R3 (gr.fut.trans F3)
  ·exact q.elim
 ·exact q.elim
end
noncomputable def zqp(f:Str):Bool:=decide (f = "done")||decide (f = "undone")||decide (f = "before")||decide (f = "after")
noncomputable def zmP(f:Str):Bool:=decide (f = "named")
structure FA where
 i:Nat
 x:Str
 p:Pos
 f:Str
 ap:Pos
def faG(G:Genv)(nm:Names)(N:List Str)(e:Expr):Option FA :=
 (zvV e).bind fun t=>(nmF t.1).bind fun x=>if G.ob.fk G.ob.cur t.2.1 then (zbq nm N x.1).map fun i=>⟨i,x.1,x.2,t.2.1,t.2.2⟩ else none
def quG(G:Genv)(nm:Names)(N:List Str)(e:Expr):Option Fq:=match e with
 | .Name x _=>(zbq nm N x).map zbw
 | .Constant .none _ _=>some (ztJ .non)
 | .Constant (.str s) _ _=>some (ztJ (.str s))
 | .Attribute o f p=>(faG G nm N (.Attribute o f p)).bind fun a=>if zqp a.f||zmP a.f then none else some (ztI G.ob.cur a.f (zbw a.i))
 | .Call (.Attribute o m ap) [.Name y _] [] cp=>if decide (m = "get")&&(ap.endLine == cp.line) then (faG G nm N o).bind fun a=>if zmP a.f then (zbq nm N y).map fun j=>zgd G.ob.cur a.f a.i (zbw j) else none else none
 | _=>none
def quL(G:Genv)(nm:Names)(N:List Str):List Expr->Option (List Fq)
 | []=>some []
 | e::es=>(quG G nm N e).bind fun g=>(quL G nm N es).map (g::·)
def ztR(G:Genv)(nm:Names)(N:List Str)(e:Expr):Option Fe:=match e with
 | .Compare (.Name y _) [.In] [b] _=>(faG G nm N b).bind fun t=>if zmP t.f then (zbq nm N y).map fun j=>eQ (zl0 G.ob.cur t.f t.i (zbw j)) else none
 | .Compare (.Name y _) [.NotIn] [b] _=>(faG G nm N b).bind fun t=>if zmP t.f then (zbq nm N y).map fun j=>eQ (zeN G.ob.cur t.f t.i (zbw j)) else none
 | .Subscript b (.Name y _) _=>(faG G nm N b).bind fun t=>if zmP t.f then (zbq nm N y).map fun j=>eQ (zoV G.ob.cur t.f t.i (zbw j)) else none
 | .Call (.Name x _) [b] [] _=>if decide (x = "len")&&zbF nm x&&G.blt x then (faG G nm N b).bind fun t=>if zqp t.f then some (zfH G.ob.cur t.f t.i) else none else none
 | .Call (.Attribute o m ap) [] [] cp=>if decide (m = "pop")&&(ap.endLine == cp.line) then (faG G nm N o).bind fun t=>if zqp t.f then some (zpU G.ob.cur t.f t.i) else none else none
 | _=>none
section
variable{cl:Cf}{G:Genv}{k:Nat}{X:Cx}{nm:Names}{N:List Str}{E:St->XK}
def zdo(g:Gx cl G k X nm N E){e:Expr}{a:FA}(h:faG G nm N e=some a):e=.Attribute (.Name a.x a.p) a.f a.ap/\X.N[a.i]?=some a.x/\Vis X.env.scope a.x/\(a.x == ("__debug__":Str))=false/\(a.x == ("__classdict__":Str))=false/\zfR cl G.ob.cur a.f:=by
 unfold faG at h;obtain ⟨t,h1,h⟩:=zal h;obtain ⟨x,h2,h⟩:=zal h;split at h
 ·rename_i hf;obtain ⟨i,h3,h⟩:=yan.mp h;subst h;obtain ⟨s1,s2,s3,s4⟩:=g.slot h3;have e1:=zp6 h1;have e2:=znF h2;rw [e2] at e1;exact ⟨e1,s1,s2,s3,s4,g.gok.fk _ _ hf⟩
 ·cases h
def Gx.u1(g:Gx cl G k X nm N E):X.A.units+1<cLine:=ycA (Nat.add_le_add_left (by decide) _) g.units
def zeM(g:Gx cl G k X nm N E){x:Str}{p:Pos}{j:Nat}(h:zbq nm N x=some j):PE X (.Name x p) (tQ cl (zbw j)):=by
 obtain ⟨s1,s2,s3,s4⟩:=g.slot h;exact znr s1 s2 s3 s4
def zrf(g:Gx cl G k X nm N E){e:Expr}{q:Fq}(h:quG G nm N e=some q):PE X e (tQ cl q)/\zbr e=true:=by
 unfold quG at h;split at h
 ·obtain ⟨i,h1,h⟩:=yan.mp h;subst h;exact ⟨zeM g h1,rfl⟩
 ·cases h;exact ⟨zns zkc fun w=>.non,rfl⟩
 ·cases h;exact ⟨zns zkb fun w=>.str _,rfl⟩
 ·obtain ⟨a,h1,h⟩:=zal h;split at h
  ·cases h
  ·cases h;obtain ⟨e1,s1,s2,s3,s4,fk⟩:=zdo g h1;rw [e1];exact ⟨zrk fk g.kk (znr s1 s2 s3 s4) rfl,rfl⟩
 ·split at h
  ·rename_i hc;rw [yaa] at hc;have em:=yaq hc.1;subst em;obtain ⟨a,h1,h⟩:=zal h;split at h
   ·obtain ⟨j,h2,h⟩:=yan.mp h;subst h;obtain ⟨e1,s1,s2,s3,s4,fk⟩:=zdo g h1;subst e1;exact ⟨zoU s1 s2 s3 s4 g.same fk rfl g.u1 (zeM g h2) ⟨rfl,rfl,hc.2,rfl⟩,rfl⟩
   ·cases h
  ·cases h
 ·cases h
theorem znq(g:Gx cl G k X nm N E):∀{es:List Expr} {gs:List Fq},quL G nm N es=some gs->PA X es (tQs cl gs)
 | [],gs,h=>by cases h;exact zrh
 | e::es,gs,h=>by
  unfold quL at h;obtain ⟨q,h1,h⟩:=zal h;obtain ⟨gs',h2,h⟩:=yan.mp h;subst h;obtain ⟨a1,a2⟩:=zrf g h1;exact zoS a1 (znq g h2) (zbh a2)
def zg8{e:Expr}{f:Fe}(p:PE X e (tE cl E f))(h:∀whole,isTrue e X.env whole=(do let v ← whole;standAt e.pos;holding [v] (truthy v)))(o:okE e=true):PE X e (tE cl E f)/\PT X e (tTr cl E f)/\okE e=true:=⟨p,zbp p h,o⟩
def zpf(g:Gx cl G k X nm N E){e:Expr}{f:Fe}(h:ztR G nm N e=some f):PE X e (tE cl E f)/\PT X e (tTr cl E f)/\okE e=true:=by
 unfold ztR at h;split at h
 ·obtain ⟨a,h1,h⟩:=zal h;split at h
  ·obtain ⟨j,h2,h⟩:=yan.mp h;subst h;obtain ⟨e1,s1,s2,s3,s4,fk⟩:=zdo g h1;subst e1;exact ⟨ztD (zrj s1 s2 s3 s4 g.same fk rfl g.u1 (zeM g h2) rfl),zrg s1 s2 s3 s4 g.same fk rfl g.u1 (zeM g h2) rfl,rfl⟩
  ·cases h
 ·obtain ⟨a,h1,h⟩:=zal h;split at h
  ·obtain ⟨j,h2,h⟩:=yan.mp h;subst h;obtain ⟨e1,s1,s2,s3,s4,fk⟩:=zdo g h1;subst e1;exact ⟨ztD (zoT s1 s2 s3 s4 g.same fk rfl g.u1 (zeM g h2) rfl),zoR s1 s2 s3 s4 g.same fk rfl g.u1 (zeM g h2) rfl,rfl⟩
  ·cases h
 ·obtain ⟨a,h1,h⟩:=zal h;split at h
  ·obtain ⟨j,h2,h⟩:=yan.mp h;subst h;obtain ⟨e1,s1,s2,s3,s4,fk⟩:=zdo g h1;subst e1;exact zg8 (ztD (zri s1 s2 s3 s4 g.same fk rfl g.u1 (zeM g h2) fun _ _=>rfl)) (fun _=>rfl) rfl
  ·cases h
 ·split at h
  ·rename_i hc;rw [yaa,yaa] at hc;have em:=yaq hc.1.1;subst em;obtain ⟨a,h1,h⟩:=zal h;split at h
   ·cases h;obtain ⟨e1,s1,s2,s3,s4,fk⟩:=zdo g h1;subst e1;exact zg8 (zoJ (y:="") s1 s2 s3 s4 g.same fk rfl (g.glob hc.1.2).1 (g.gok.blt _ hc.2)) (fun _=>rfl) rfl
   ·cases h
  ·cases h
 ·split at h
  ·rename_i hc;rw [yaa] at hc;have em:=yaq hc.1;subst em;obtain ⟨a,h1,h⟩:=zal h;split at h
   ·cases h;obtain ⟨e1,s1,s2,s3,s4,fk⟩:=zdo g h1;subst e1;exact zg8 (zoI s1 s2 s3 s4 g.same fk rfl rfl hc.2) (fun _=>rfl) rfl
   ·cases h
  ·cases h
 ·cases h
end
def ztS(G:Genv)(nm:Names)(N:List Str)(tg e:Expr):Option Fs:=match tg,e with
 | .Attribute o f p,.List [] _=>(faG G nm N (.Attribute o f p)).bind fun t=>if zqp t.f then some (zeK G.ob.cur t.f t.i) else none
 | .Attribute o f p,.Dict [] [] _=>(faG G nm N (.Attribute o f p)).bind fun t=>if zmP t.f then some (zjL G.ob.cur t.f t.i) else none
 | .Subscript b (.Name y _) _,.Name z _=>(faG G nm N b).bind fun t=>if zmP t.f then (zbq nm N y).bind fun j=>(zbq nm N z).map fun l=>ziH G.ob.cur t.f t.i (zbw j) (zbw l) else none
 | _,_=>none
def ztQ(G:Genv)(nm:Names)(N:List Str)(e:Expr):Option Fs:=match e with
 | .Call (.Attribute o m ap) [.Tuple es _ _] [] cp=>if decide (m = "append")&&(ap.endLine == cp.line) then (faG G nm N o).bind fun t=>if zqp t.f then (quL G nm N es).map fun gs=>ziJ G.ob.cur t.f t.i gs else none else none
 | .Call (.Attribute o m ap) [a] [] cp=>if decide (m = "append")&&(ap.endLine == cp.line) then (faG G nm N o).bind fun t=>if zqp t.f then (quG G nm N a).map fun g=>zoN G.ob.cur t.f t.i g else none else none
 | .Call (.Attribute o m ap) [.Name y _,.Constant .none _ _] [] cp=>if decide (m = "pop")&&(ap.endLine == cp.line) then (faG G nm N o).bind fun t=>if zmP t.f then (zbq nm N y).map fun j=>ziI G.ob.cur t.f t.i (zbw j) else none else none
 | _=>none
section
variable{cl:Cf}{G:Genv}{k:Nat}{X:Cx}{nm:Names}{N:List Str}{E:St->XK}{own:Bool}
def zpg(g:Gx cl G k X nm N E){tg e:Expr}{f:Fs}{pos:Pos}(h:ztS G nm N tg e=some f):PS X (.Assign [tg] e pos) (tS cl E own f):=by
 unfold ztS at h;split at h
 ·obtain ⟨a,h1,h⟩:=zal h;split at h
  ·cases h;obtain ⟨e1,s1,s2,s3,s4,fk⟩:=zdo g h1;rw [e1];exact zow s1 s2 s3 s4 g.same fk rfl
  ·cases h
 ·obtain ⟨a,h1,h⟩:=zal h;split at h
  ·cases h;obtain ⟨e1,s1,s2,s3,s4,fk⟩:=zdo g h1;rw [e1];exact zox s1 s2 s3 s4 g.same fk rfl
  ·cases h
 ·obtain ⟨a,h1,h⟩:=zal h;split at h
  ·obtain ⟨j,h2,h⟩:=zal h;obtain ⟨l,h3,h⟩:=yan.mp h;subst h;obtain ⟨e1,s1,s2,s3,s4,fk⟩:=zdo g h1;rw [e1];exact zos s1 s2 s3 s4 g.same fk rfl g.u1 (zeM g h2) (zeM g h3) rfl
  ·cases h
 ·cases h
def zpe(g:Gx cl G k X nm N E){e:Expr}{f:Fs}{pos:Pos}(h:ztQ G nm N e=some f):PS X (.Expr e pos) (tS cl E own f):=by
 unfold ztQ at h;split at h
 ·split at h
  ·rename_i hc;rw [yaa] at hc;have em:=yaq hc.1;subst em;obtain ⟨a,h1,h⟩:=zal h;split at h
   ·obtain ⟨gs,h2,h⟩:=yan.mp h;subst h;obtain ⟨e1,s1,s2,s3,s4,fk⟩:=zdo g h1;subst e1;exact zoy s1 s2 s3 s4 g.same fk rfl (znq g h2) rfl hc.2
   ·cases h
  ·cases h
 ·split at h
  ·rename_i hc;rw [yaa] at hc;have em:=yaq hc.1;subst em;obtain ⟨a,h1,h⟩:=zal h;split at h
   ·obtain ⟨q,h2,h⟩:=yan.mp h;subst h;obtain ⟨e1,s1,s2,s3,s4,fk⟩:=zdo g h1;subst e1;obtain ⟨b1,b2⟩:=zrf g h2;exact zoz s1 s2 s3 s4 g.same fk rfl b1 rfl b2 hc.2
   ·cases h
  ·cases h
 ·split at h
  ·rename_i hc;rw [yaa] at hc;have em:=yaq hc.1;subst em;obtain ⟨a,h1,h⟩:=zal h;split at h
   ·obtain ⟨j,h2,h⟩:=yan.mp h;subst h;obtain ⟨e1,s1,s2,s3,s4,fk⟩:=zdo g h1;subst e1;exact zot s1 s2 s3 s4 g.same fk rfl (zeM g h2) ⟨rfl,rfl,hc.2,rfl⟩
   ·cases h
  ·cases h
 ·cases h
end
end S2
namespace L2
open PySem PySem.Spec PyProof.Rows
end L2
namespace S2
open PySem PySem.Spec PyProof.Rows L2
def zi4(cn f:Str)(i:Nat):Fe:=fun ρ S=>match dicI cn f ρ S i with
 | some (_,_,ds)=>if ds.length<64 then .ok (.lst ((zbP (za9 ds)).map D.str)) S else .bad
 | none=>.bad
section
variable{X:Cx}{cl:Cf}{E:St->XK}{pos apos cp p:Pos}{f cn:Str}{i:Nat}{x:Str}
def zoH{q1:Pos}(hN:X.N[i]?=some x)(hv:Vis X.env.scope x)(hd:(x == ("__debug__":Str))=false)(hcd:(x == ("__classdict__":Str))=false)(hc:X.calm=true)(sm:Same' cl X)(hk:zfR cl cn f)(hb:attributeBase (.Name x p) f X.env (eval (.Name x p) X.env)=eval (.Name x p) X.env)(hg:Gl X "sorted")(hm:X.mg "sorted" = none) :
  PE X (.Call (.Name "sorted" q1) [.Attribute (.Name x p) f apos] [] cp) (tN cl E (zi4 cn f i)):=by
 refine PE.imp (zcq (zc5 hc) hg hm (by decide +kernel) (zaX (zbR (zaU hN hv hd hcd) hb) zbS)) ?_;rintro σ H Q ⟨B,w,ρ,S,rfl,R,q⟩;unfold zi4 at q
 cases hl:dicI cn f ρ S i with
 | none=>rw [hl] at q;exact q.elim
 | some u =>
  obtain ⟨n,ob,ds⟩:=u;rw [hl] at q;dsimp only at q
  by_cases hz:ds.length<64
  ·rw [if_pos hz] at q;obtain ⟨a,dx,fs,c,kvs,ev,hS,hmu,how,hH,hF,c1,c2,lv,oc,hc',t,ho⟩:=zfI hk R hl;obtain ⟨k1,k2⟩:=zd1 t ho;rw [sm.kk];exact ⟨_,ev,a,_,dx,fs,_,rfl,hH,c1,c2,lv,c,kvs,za9 ds,rfl,.inl hc',k1,by rw [k2];exact hz,fun pn hpn=>q pn _ w R (Fut.refl _) hpn (.lst zd7)⟩
  ·rw [if_neg hz] at q;exact q.elim
end
def zty(G:Genv)(nm:Names)(N:List Str)(e:Expr):Option Fe:=match e with
 | .Call (.Name x _) [b] [] _=>if decide (x = "sorted")&&zbF nm x&&G.blt x then (faG G nm N b).bind fun t=>if zmP t.f then some (zi4 G.ob.cur t.f t.i) else none else none
 | _=>none
def zoB{cl:Cf}{G:Genv}{k:Nat}{X:Cx}{nm:Names}{N:List Str}{E:St->XK}(g:Gx cl G k X nm N E){e:Expr}{f:Fe}(h:zty G nm N e=some f):PE X e (tN cl E f)/\PT X e (tTr cl E f)/\okE e=true:=by
 unfold zty at h;split at h
 ·split at h
  ·rename_i hc;rw [yaa,yaa] at hc;have em:=yaq hc.1.1;subst em;obtain ⟨a,h1,h⟩:=zal h;split at h
   ·cases h;obtain ⟨e1,s1,s2,s3,s4,fk⟩:=zdo g h1;subst e1;have go:∀{e:Expr} {f:Fe},PE X e (tN cl E f)->(∀whole,isTrue e X.env whole=(do let v ← whole;standAt e.pos;holding [v] (truthy v)))->okE e=true->PE X e (tN cl E f)/\PT X e (tTr cl E f)/\okE e=true:=fun p h o=>⟨p,zbp (zbZ p) h,o⟩
    exact go (zoH s1 s2 s3 s4 g.calm g.same fk rfl (g.glob hc.1.2).1 (g.gok.blt _ hc.2)) (fun _=>rfl) rfl
   ·cases h
  ·cases h
 ·cases h
noncomputable def zr0:Expr->Option Str | .Name x _=>some x | _=>none
noncomputable def zuf(df:Bool):Option NameKind->Bool | some .local=>true | some .cell=>df | _=>false
def tgI(df:Bool)(nm:Names)(N:List Str)(n:Nat)(x:Str):Option Nat:=if zuf df (nm.lookup x) then (idx N x).bind fun i=>if i<n then some i else none else none
def zqm(df:Bool)(nm:Names)(N:List Str)(n:Nat):List Expr->Option (List Nat)
 | []=>some []
 | .Name x _::es=>(tgI df nm N n x).bind fun i=>(zqm df nm N n es).bind fun is=>some (i::is)
 | _::_=>none
def tgG(df:Bool)(nm:Names)(N:List Str)(n:Nat):Expr->Option Tg
 | .Name x _=>(tgI df nm N n x).map .one
 | .Tuple es _ _=>(zqm df nm N n es).map .tup
 | _=>none
structure Sto'(X:Cx)(nm:Names)(df:Bool):Prop where
 fn:df=true->∀x,nm.lookup x=some .cell->X.fn x=true
section
variable{cl:Cf}{G:Genv}{k:Nat}{X:Cx}{nm:Names}{N:List Str}{E:St->XK}{df:Bool}{n:Nat}
def zeU(g:Gx cl G k X nm N E)(sd:Sto' X nm df)(h:tgI df nm N n x=some i):i<n/\X.N.Nodup/\X.N[i]?=some x/\Loc X.env.scope x/\(X.fn x=true\/X.env.scope.names.lookup x=some .local):=by
 unfold tgI at h;split at h
 ·rename_i hl
  cases hi:idx N x with
  | none=>rw [hi] at h;cases h
  | some j =>
   rw [hi] at h;dsimp only [Option.bind] at h;split at h
   ·rename_i hn;cases h;refine ⟨hn,by rw [g.eN];exact g.nd,by rw [g.eN];exact zep hi,?_,?_⟩
    ·cases hk:nm.lookup x with
     | none=>rw [hk] at hl;cases hl
     | some kd =>
      obtain ⟨kd',e,z⟩:=g.vis x kd hk;rw [hk] at hl;unfold L2.Loc;rw [e]
      rcases z with rfl | ⟨rfl,_⟩
      ·cases kd'<;>first | exact .inl rfl | exact .inr rfl | cases hl
      ·cases hl
    ·cases hk:nm.lookup x with
     | none=>rw [hk] at hl;cases hl
     | some kd =>
      rw [hk] at hl
      cases kd<;>first | exact .inr (g.fnx x hk) | exact .inl (sd.fn hl x hk) | cases hl
   ·cases h
 ·cases h
theorem zjl(g:Gx cl G k X nm N E)(sd:Sto' X nm df):∀{es:List Expr} {is:List Nat},zqm df nm N n es=some is->PGs X es (tGs cl n is)/\(assignEach es X.env).length=is.length/\(assignEach es X.env).findIdx? (·.1)=none
 | [],is,h=>by cases h;exact ⟨zoE,rfl,rfl⟩
 | e::es,is,h=>by
  cases e with
  | Name x pos =>
   unfold zqm at h
   cases h1:tgI df nm N n x with
   | none=>rw [h1] at h;cases h
   | some i =>
    rw [h1] at h
    cases h2:zqm df nm N n es with
    | none=>rw [h2] at h;cases h
    | some is' =>
     rw [h2] at h;cases h;obtain ⟨a1,a2,a3,a4,a5⟩:=zeU g sd h1;obtain ⟨b1,b2,b3⟩:=zjl g sd h2;refine ⟨zlK a1 a2 a3 a4 a5 b1,?_,?_⟩
     ·show (assignEach es X.env).length+1=_;rw [b2];rfl
     ·show ((false,assign (.Name x pos) X.env)::assignEach es X.env).findIdx? (·.1)=none;rw [List.findIdx?_cons];simp [b3]
  | _=>cases h
def zoe(g:Gx cl G k X nm N E)(sd:Sto' X nm df)(h:tgG df nm N n tg=some t):PG X tg (tG cl n t):=by
 unfold tgG at h;split at h
 ·rename_i x pos
  cases h1:tgI df nm N n x with
  | none=>rw [h1] at h;cases h
  | some i =>
   rw [h1] at h;cases h;obtain ⟨a1,a2,a3,a4,a5⟩:=zeU g sd h1;exact zqY a1 a2 a3 a4 a5
 ·rename_i es kk pos
  cases h1:zqm df nm N n es with
  | none=>rw [h1] at h;cases h
  | some is =>
   rw [h1] at h;cases h;obtain ⟨b1,b2,b3⟩:=zjl g sd h1;exact zqX g.calm b1 b2 b3
 ·cases h
end
def za5:Expr->List Str
 | .Name x _=>[x]
 | .Tuple es _ _=>es.filterMap zr0
 | _=>[]
def za4(names:Names)(N:List Str):List (Str×Nat):=names.filterMap fun p=>if p.2=.free then (idx N p.1).map fun i=>(p.1,i) else none
noncomputable def zw0:Option NameKind->Bool | some .cell=>true | some .free=>true | _=>false
def zla(nm:Names)(scope:Scope)(xs:List Str)(caps:List (Str×Nat)):Bool :=
 decide (scope.kind=.function)&&decide ((scope.names.map (·.1)).Nodup)&&scope.names.all (fun y=>!decide (y.2=.local)||decide (scope.names.lookup y.1=some .local))
 && scope.names.all (fun y=>!decide (y.2=.free)||zw0 (nm.lookup y.1))&&caps.all (fun p=>scope.names.all fun z=>!decide (z.1=p.1)||decide (z.2=.free))&&decide ((xs++caps.map (·.1)).Nodup)
def zmT(rc:Rec)(nm:Names)(N:List Str):List Expr->Option Fe
 | []=>some zeI
 | [c]=>if zbG c then shE rc nm N c else none
 | _=>none
def zi6(G:Genv)(rc:Rec)(nm:Names)(N:List Str)(elt:Expr)(g:Comprehension)(scope:Scope):Option Fe :=
 if decide (g.is_async=0)&&zla nm scope (za5 g.target) (za4 scope.names N) then
  (ziX G rc nm N g.target g.iter).bind fun it =>
  (tgG true scope.names (za5 g.target++(za4 scope.names N).map (·.1)) (za5 g.target).length g.target).bind fun t =>
  (zmT rc scope.names (za5 g.target++(za4 scope.names N).map (·.1)) g.ifs).bind fun c =>
  (shE rc scope.names (za5 g.target++(za4 scope.names N).map (·.1)) elt).bind fun el =>
  some (zcN (za5 g.target).length t it c el ((za4 scope.names N).map (·.2)))
 else none
theorem zc6{scope:Scope}{env:PySem.Env}:∀{names:Names} {x:Str} {kd:NameKind},names.lookup x=some kd →
  ∃kd',(names.map fun (n,k)=>if (k == NameKind.free&&env.scope.kind == .function&&env.kindOf n == some .cell) then (n,NameKind.cell) else (n,k)).lookup x=some kd'/\(kd'=kd\/(kd=.free/\kd'=.cell))
 | [],_,_,h=>by cases h
 | (n,k0)::r,x,kd,h=>by
  rw [yaz] at h;rw [yaw];dsimp only
  by_cases hc:(k0 == NameKind.free&&env.scope.kind == .function&&env.kindOf n == some .cell)=true
  ·rw [if_pos hc,yaz]
   cases hx:x == n with
   | true =>
    rw [hx] at h;cases h;simp only [yaa,ybH] at hc;exact ⟨_,rfl,.inr ⟨hc.1.1,rfl⟩⟩
   | false=>rw [hx] at h;exact zc6 (scope:=scope) h
  ·rw [if_neg hc,yaz]
   cases hx:x == n with
   | true=>rw [hx] at h;cases h;exact ⟨_,rfl,.inl rfl⟩
   | false=>rw [hx] at h;exact zc6 (scope:=scope) h
section
variable{cl:Cf}{G:Genv}{k:Nat}{rc:Rec}{X:Cx}{nm:Names}{N:List Str}{E:St->XK}
def zi5(g:Gx cl G k X nm N E)(h:zla nm scope xs (za4 scope.names N)=true):CompScopeG X.env.scope scope X.N xs (za4 scope.names N)/\(xs++(za4 scope.names N).map (·.1)).Nodup:=by
 unfold zla at h;simp only [yaa,ybs,yaV,ycu,ybe,yb6] at h;obtain ⟨⟨⟨⟨⟨h1,h2⟩,h3⟩,h4⟩,h5⟩,h6⟩:=h
 have fr:∀y∈scope.names,y.2=.free->X.env.scope.names.lookup y.1=some .cell\/X.env.scope.names.lookup y.1=some .free:=fun y hy hf=>by
  rcases h4 y hy with z | z
  ·exact absurd hf z
  ·cases hk:nm.lookup y.1 with
   | none=>rw [hk] at z;cases z
   | some kd =>
    obtain ⟨kd',e,zz⟩:=g.vis y.1 kd hk;rw [hk] at z;rw [e]
    rcases zz with rfl | ⟨_,rfl⟩
    ·cases kd'<;>first | exact .inl rfl | exact .inr rfl | cases z
    ·exact .inl rfl
 refine ⟨⟨h2,h1,fun y hy hl=>(h3 y hy).elim (fun z=>absurd hl z) fun z=>z,fr,fun p hp=>?_,fun p hp z hz e=>(h5 p hp z hz).elim (fun w=>absurd e w) fun w=>w⟩,h6⟩;unfold za4 at hp;obtain ⟨q,hq,e⟩:=ybi.mp hp;split at e
 ·rename_i hf
  cases hi:idx N q.1 with
  | none=>rw [hi] at e;cases e
  | some i =>
   rw [hi] at e;have e':(q.1,i)=p:=Option.some.inj e;subst e';refine ⟨by rw [g.eN];exact zep hi,by rw [<-hf];exact hq,?_⟩
   rcases fr q hq hf with z | z<;>rw [z]<;>exact fun w=>by cases w
 ·cases e
def zfz(g:Gx cl G k X nm N E)(hn:(xs++(za4 scope.names N).map (·.1)).Nodup)(cl':List (Str×Addr))(C:Addr)(s:Shared)(H:Hp)(fp:List Addr) :
  Gx cl G k (za6 X xs (za4 scope.names N) scope cl' C s H fp) scope.names (xs++(za4 scope.names N).map (·.1)) noE where
 gok:=g.gok
 room:=g.room
 calm:=g.calm
 pass:=fun pins σ H s e s' I q=>by
  obtain ⟨a,cls,a0,H',B,_,_,_,_,_,_,_,_,_,z⟩:=q;exact z.elim
 eN:=rfl
 kk:=g.kk
 pp:=g.pp
 ww:=g.ww
 nd:=hn
 vis:=fun x kd h=>zc6 (scope:=scope) h
 fnx:=fun x h=>lookup_relabel_local h
 cod:=fun c h=>g.cod c h
 fnc:=fun x h=>yaC h
def zpX(hs:zbi cl G k rc)(g:Gx cl G k X nm N noE)(h:zmT rc nm N ifs=some c):PIf X ifs (tTr cl noE c):=by
 unfold zmT at h;split at h
 ·cases h;intro pins s σ H Q I q;obtain ⟨B,w,ρ,S,rfl,R,q⟩:=q;exact zo7 pins s σ w.H Q I (q w R (Fut.refl _))
 ·split at h
  ·rename_i c ht;obtain ⟨_,a2,_⟩:=zbj hs g h;exact zo6 (a2 ht)
  ·cases h
 ·cases h
def ze9(hs:zbi cl G k rc)(g:Gx cl G k X nm N E)(h:zi6 G rc nm N elt gg scope=some f) :
  ∃it t c el,f=zcN (za5 gg.target).length t it c el ((za4 scope.names N).map (·.2))/\gg=⟨gg.target,gg.iter,gg.ifs,0⟩/\CompScopeG X.env.scope scope X.N (za5 gg.target) (za4 scope.names N)/\PI X gg.target gg.iter (tI cl E it)/\okE gg.iter=true ∧
   (∀cl' C s H fp,PG (za6 X (za5 gg.target) (za4 scope.names N) scope cl' C s H fp) gg.target (tG cl (za5 gg.target).length t)) ∧
   (∀cl' C s H fp,PIf (za6 X (za5 gg.target) (za4 scope.names N) scope cl' C s H fp) gg.ifs (tTr cl noE c)) ∧
   ∀cl' C s H fp,PE (za6 X (za5 gg.target) (za4 scope.names N) scope cl' C s H fp) elt (tE cl noE el):=by
 unfold zi6 at h;split at h
 ·rename_i hc;rw [yaa] at hc;obtain ⟨S,hn⟩:=zi5 g hc.2
  cases h1:ziX G rc nm N gg.target gg.iter with
  | none=>rw [h1] at h;cases h
  | some it =>
   rw [h1] at h;dsimp only [Option.bind] at h
   cases h2:tgG true scope.names (za5 gg.target++(za4 scope.names N).map (·.1)) (za5 gg.target).length gg.target with
   | none=>rw [h2] at h;cases h
   | some t =>
    rw [h2] at h;dsimp only at h
    cases h3:zmT rc scope.names (za5 gg.target++(za4 scope.names N).map (·.1)) gg.ifs with
    | none=>rw [h3] at h;cases h
    | some c =>
     rw [h3] at h;dsimp only at h
     cases h4:shE rc scope.names (za5 gg.target++(za4 scope.names N).map (·.1)) elt with
     | none=>rw [h4] at h;cases h
     | some el =>
      rw [h4] at h;cases h;obtain ⟨i1,i2⟩:=zkC hs g (tg:=gg.target) h1;refine ⟨it,t,c,el,rfl,?_,S,i1,i2,fun cl' C s H fp=>zoe (zfz g hn cl' C s H fp) ⟨fun _ x hx=>yaC hx⟩ h2,fun cl' C s H fp=>zpX hs (zfz g hn cl' C s H fp) h3,fun cl' C s H fp=>(zbj hs (zfz g hn cl' C s H fp) h4).1⟩;have:=yaq hc.1;cases gg;simp only at this;rw [this]
 ·cases h
def zk8(hs:zbi cl G k rc)(g:Gx cl G k X nm N E)(h:zi6 G rc nm N elt gg scope=some f):PE X (.ListComp elt [gg] scope pos) (tN cl E f):=by
 obtain ⟨it,t,c,el,rfl,eg,S,i1,i2,i3,i4,i5⟩:=ze9 hs g h;rw [eg];exact PE.imp (zmd g.calm S i1 i3 i4 i5 (zfp i2)) fun _ _ _ q=>znV q
end
noncomputable def zvP:Expr->Bool | .Slice _ _ _ _=>false | _=>true
def zk7:∀(l:List D) (d r:D),ze8 l d=some r->∃n,r=.int n:=by
 intro l d r h;unfold ze8 at h;split at h
 ·cases h;exact ⟨_,rfl⟩
 ·cases h
def zkG:∀(l:List D) (d r:D),ze2 l d=some r->∃n,r=.int n:=by
 intro l d r h;unfold ze2 at h;split at h
 ·cases h;exact ⟨_,rfl⟩
 ·cases h
def unG(rc:Rec)(nm:Names)(N:List Str)(a:Expr):UnaryOp->Option (Bool×Fe)
 | .Not=>if zbG a then (shE rc nm N a).map fun f=>(false,eUn zcG f) else none
 | _=>none
def zsD(rc:Rec)(nm:Names)(N:List Str)(a:Expr):List CmpOp->List Expr->Option (Bool×Fe)
 | [op],[b]=>(zsE op b).bind fun g=>(opE rc nm N a).bind fun f=>(opE rc nm N b).bind fun h=>some (false,zak g f h)
 | [op,op'],[b,c]=>(zsE op b).bind fun g=>(zsE op' c).bind fun g'=>(opE rc nm N a).bind fun f=>(opE rc nm N b).bind fun h=>(opE rc nm N c).bind fun k=>some (false,zcO g g' f h k)
 | _,_=>none
def zu8(rc:Rec)(nm:Names)(N:List Str)(a:Expr):Expr->Option (Bool×Fe)
 | i=>if zvP i then (opE rc nm N a).bind fun f=>(opE rc nm N i).bind fun h=>some (false,zak ixD f h) else none
def znX(G:Genv)(rc:Rec)(nm:Names)(N:List Str)(args:List Expr)(kws:List Keyword)(cp:Pos):Expr->Option (Bool×Fe)
 | .Attribute o m ap=>zpo G rc nm N o m ap cp args kws
 | .Name x _=>if kws.isEmpty then (match mkG G rc nm N x args with | some p=>some p | none=>(match spG G rc nm N x args with | some p=>some p | none=>zp2 G rc nm N x args)) else none
 | _=>none
def lcG(G:Genv)(rc:Rec)(nm:Names)(N:List Str)(elt:Expr)(scope:Scope):List Comprehension->Option (Bool×Fe)
 | [g]=>(zi6 G rc nm N elt g scope).map fun f=>(true,f)
 | _=>none
def zmX(nm:Names)(N:List Str):List Str->Option (List Nat)
 | []=>some []
 | x::xs=>if nm.lookup x=some .cell then (idx N x).bind fun i=>(zmX nm N xs).map (i::·) else none
def zoc(G:Genv)(nm:Names)(N:List Str)(args:List Expr)(kws:List Keyword)(f:Expr):Option (Bool×Fe):=match f,args,kws with
 | .Name x _,[e],[]=>if decide (x = "_law_told")&&zbF nm x then (G.lam e).bind fun r=>(zmX nm N r.1).map fun cs=>(false,zdT G.und G.isx cs r.2) else none
 | _,_,_=>none
def zaI(G:Genv)(rc:Rec):Rec:=fun nm N e=>match e with
 | .Constant c _ _=>(zvU c).map fun d=>(false,zai d)
 | .Name x _=>(match zbq nm N x with
  | some i=>some (false,zam i)
  | none=>if zbF nm x then (G.con x).map fun d=>(false,zai d) else none)
 | .Tuple es _ _=>(shL rc nm N es).map fun fs=>(false,zd4 fs)
 | .List es _=>(shL rc nm N es).map fun fs=>(true,zin fs)
 | .BinOp a op b _=>(zux op).bind fun g=>(opE rc nm N a).bind fun f=>(opE rc nm N b).bind fun h=>some (false,zak g f h)
 | .UnaryOp op a _=>unG rc nm N a op
 | .BoolOp op es _=>(zja rc nm N op es).map fun f=>(false,f)
 | .Compare a ops bs _=>zsD rc nm N a ops bs
 | .IfExp c a b _=>if zbG c then (shE rc nm N c).bind fun g=>(shE rc nm N a).bind fun f=>(shE rc nm N b).bind fun h=>some (false,eIf g f h) else none
 | .Subscript a i _=>zu8 rc nm N a i
 | .Attribute o f _=>zum G rc nm N o f
 | .Call f args kws cp=>(match zoc G nm N args kws f with | some p=>some p | none=>znX G rc nm N args kws cp f)
 | .ListComp elt gs scope _=>lcG G rc nm N elt scope gs
 | .Dict [] [] _=>some (true,zmK)
 | _=>none
def zhr(G:Genv)(rc:Rec):Rec:=fun nm N e=>match ztR G nm N e with
 | some f=>some (false,f)
 | none=>(match zty G nm N e with | some f=>some (true,f) | none=>zaI G rc nm N e)
noncomputable def zs5(G:Genv):Nat->Rec
 | 0=>fun _ _ _=>none
 | n+1=>zhr G (zs5 G n)
section
variable{cl:Cf}{G:Genv}{k:Nat}{rc:Rec}
def zmx(h:zvP i=true):zhz i:=by
 intro o j
 cases i<;>first | rfl | cases h
def zaa{α β:Type}{o:Option α}{f:α->Option β}{b:β}(h:o.bind f=some b):∃a,o=some a/\f a=some b:=by
 cases o with
 | none=>cases h
 | some a=>exact ⟨a,rfl,h⟩
def map_some{α β:Type}{o:Option α}{f:α->β}{b:β}(h:o.map f=some b):∃a,o=some a/\f a=b:=by
 cases o with
 | none=>cases h
 | some a=>exact ⟨a,rfl,Option.some.inj h⟩
theorem zlf{X:Cx}{nm:Names}{N:List Str}{E:St->XK}(g:Gx cl G k X nm N E):∀{xs:List Str} {cs:List Nat},zmX nm N xs=some cs->CapsOk X xs cs
 | [],cs,h=>by cases h;exact ⟨rfl,fun j x i h=>by simp at h⟩
 | x::xs,cs,h=>by
  unfold zmX at h;split at h
  ·rename_i hx;obtain ⟨i,h1,h⟩:=Option.bind_eq_some_iff.mp h;obtain ⟨cs',h2,h⟩:=yan.mp h;subst h;have c:=zlf g h2;refine ⟨by rw [yaf,yaf,c.len],fun j y i' e1 e2=>?_⟩
   cases j with
   | zero =>
    cases e1;cases e2;refine ⟨by rw [g.eN];exact zep h1,?_,g.fnc _ hx⟩;obtain ⟨kd,a1,a2⟩:=g.vis _ _ hx
    rcases a2 with z | ⟨z,_⟩
    ·rwa [z] at a1
    ·cases z
   | succ j=>exact c.at' j y i' e1 e2
  ·cases h
def zob{X:Cx}{nm:Names}{N:List Str}{E:St->XK}(g:Gx cl G k X nm N E){args:List Expr}{kws:List Keyword}{f:Expr}{cp:Pos}{o:Bool}{fe:Fe}(h:zoc G nm N args kws f=some (o,fe)):o=false/\PE X (.Call f args kws cp) (tE cl E fe):=by
 unfold zoc at h;split at h
 ·rename_i x p e;split at h
  ·rename_i hc;rw [yaa] at hc;have ex:=yaq hc.1;subst ex;obtain ⟨r,h1,h⟩:=Option.bind_eq_some_iff.mp h;obtain ⟨cs,h2,h⟩:=yan.mp h;cases h;exact ⟨rfl,g.gok.tl e r.1 r.2 h1 X E cs p cp rfl rfl rfl rfl rfl g.room g.calm (g.glob hc.2).1 g.cod (zlf g h2)⟩
  ·cases h
 ·cases h
def zk1(hs:zbi cl G k rc):zbi cl G k (zaI G rc):=by
 intro X nm N E g e o f h;cases e
 case Constant =>
  unfold zaI at h;dsimp only at h;obtain ⟨d,h1,h2⟩:=map_some h;cases h2;rename_i c kk pos
  have p:PE X (.Constant c kk pos) (tE cl E (zai d)):=by
   cases c<;>simp [zvU] at h1<;>subst h1
   ·exact zfl zkc fun w=>.non
   ·exact zfl zpd fun w=>.bl _
   ·exact zfl znA fun w=>.int _
   ·exact zfl zkb fun w=>.str _
  exact ⟨(fun z=>by cases z),p,fun _=>zbp p (fun _=>rfl),rfl⟩
 case Name =>
  unfold zaI at h;dsimp only at h;rename_i x pos;split at h
  ·rename_i i hi;cases h;obtain ⟨h1,h2,h3,h4⟩:=g.slot hi;have p:PE X (.Name x pos) (tE cl E (zam i)):=zqZ h1 h2 h3 h4;exact ⟨(fun z=>by cases z),p,fun _=>zbp p (fun _=>rfl),rfl⟩
  ·split at h
   ·rename_i hg;obtain ⟨d,h1,h2⟩:=map_some h;cases h2;obtain ⟨g1,g2,g3⟩:=g.glob hg;obtain ⟨v,u,m,r,sh⟩:=g.gok.con x d h1;have p:PE X (.Name x pos) (tE cl E (zai d)):=zfl (zg7 g1 m r g2) sh;exact ⟨(fun z=>by cases z),p,fun _=>zbp p (fun _=>rfl),rfl⟩
   ·cases h
 case Tuple =>
  unfold zaI at h;dsimp only at h;obtain ⟨fs,h1,h2⟩:=map_some h;cases h2;rename_i es kk pos;have p:PE X (.Tuple es kk pos) (tE cl E (zd4 fs)):=zq0 (zd8 hs g h1).1;exact ⟨(fun z=>by cases z),p,fun _=>zbp p (fun _=>rfl),rfl⟩
 case List =>
  unfold zaI at h;dsimp only at h;obtain ⟨fs,h1,h2⟩:=map_some h;cases h2;rename_i es pos;have p:PE X (.List es pos) (tN cl E (zin fs)):=zhW (zd8 hs g h1).1;exact ⟨fun _=>p,zbZ p,fun _=>zbp (zbZ p) (fun _=>rfl),rfl⟩
 case BinOp =>
  unfold zaI at h;dsimp only at h;obtain ⟨gg,h1,h⟩:=zaa h;obtain ⟨fa,h2,h⟩:=zaa h;obtain ⟨fb,h3,h⟩:=zaa h;cases h;exact ⟨(fun z=>by cases z),zjI (znY h1) (zdk hs g h2).1 (zdk hs g h3).1,fun _=>zbp (zjI (znY h1) (zdk hs g h2).1 (zdk hs g h3).1) (fun _=>rfl),rfl⟩
 case UnaryOp =>
  unfold zaI at h;dsimp only at h;rename_i op a pos;unfold unG at h;split at h
  ·split at h
   ·rename_i ht;obtain ⟨fa,h1,h2⟩:=map_some h;cases h2;obtain ⟨a1,a2,_⟩:=zbj hs g h1;exact ⟨(fun z=>by cases z),zq1 a1,fun _=>znd (a2 ht),rfl⟩
   ·cases h
  ·cases h
 case BoolOp =>
  unfold zaI at h;dsimp only at h;obtain ⟨fa,h1,h2⟩:=map_some h;cases h2;rename_i op es pos;obtain ⟨b1,b2⟩:=zli hs g (pos:=pos) h1;exact ⟨(fun z=>by cases z),b1,fun _=>b2.pt,rfl⟩
 case Compare =>
  unfold zaI at h;dsimp only at h;rename_i a ops bs pos;unfold zsD at h;split at h
  ·obtain ⟨gg,h1,h⟩:=zaa h;obtain ⟨fa,h2,h⟩:=zaa h;obtain ⟨fb,h3,h⟩:=zaa h;cases h;obtain ⟨a1,_⟩:=zdk hs g h2;obtain ⟨b1,b2⟩:=zdk hs g h3;exact ⟨(fun z=>by cases z),zq5 (zfa g h1) a1 b1 (zee b2),fun _=>zne (zfa g h1) a1 b1 (zee b2),rfl⟩
  ·obtain ⟨gg,h1,h⟩:=zaa h;obtain ⟨gg',h1',h⟩:=zaa h;obtain ⟨fa,h2,h⟩:=zaa h;obtain ⟨fb,h3,h⟩:=zaa h;obtain ⟨fc,h4,h⟩:=zaa h;cases h;obtain ⟨a1,_⟩:=zdk hs g h2;obtain ⟨b1,_⟩:=zdk hs g h3;obtain ⟨c1,c2⟩:=zdk hs g h4;have hm:∀{op op':CmpOp} {b c:Expr},okE c=true->lastMarks [op,op'] [b,c]=false:=fun h=>zee h
   exact ⟨(fun z=>by cases z),zlN (zfa g h1) (zfa g h1') a1 b1 c1 (hm c2),fun _=>zlH (zfa g h1) (zfa g h1') a1 b1 c1 (hm c2),rfl⟩
  ·cases h
 case IfExp =>
  unfold zaI at h;dsimp only at h;split at h
  ·rename_i c a b pos ht;obtain ⟨fc,h1,h⟩:=zaa h;obtain ⟨fa,h2,h⟩:=zaa h;obtain ⟨fb,h3,h⟩:=zaa h;cases h;obtain ⟨_,c2,_⟩:=zbj hs g h1;exact ⟨(fun z=>by cases z),ztC (c2 ht) (zbj hs g h2).1 (zbj hs g h3).1,(fun z=>by cases z),rfl⟩
  ·cases h
 case Subscript =>
  unfold zaI at h;dsimp only at h;rename_i a i pos;unfold zu8 at h;dsimp only at h;split at h
  ·rename_i hix;obtain ⟨fa,h1,h⟩:=zaa h;obtain ⟨fb,h2,h⟩:=zaa h;cases h;have p:PE X (.Subscript a _ pos) (tE cl E (zak ixD fa fb)):=zq3 (zsi g.kk g.units) (zdk hs g h1).1 (zdk hs g h2).1 (zmx hix);exact ⟨(fun z=>by cases z),p,fun _=>zbp p (fun _=>rfl),rfl⟩
  ·cases h
 case Attribute =>
  unfold zaI at h;dsimp only at h;rename_i o fl pos;obtain ⟨rfl,n1⟩:=zsp hs g (pos:=pos) h;exact ⟨(fun z=>by cases z),n1,fun _=>zbp n1 (fun _=>rfl),rfl⟩
 case Call =>
  unfold zaI at h;dsimp only at h;rename_i fn args kws cp;split at h
  ·rename_i pt hpt;obtain ⟨w,fe⟩:=pt;cases h;obtain ⟨rfl,n1⟩:=zob g (cp:=cp) hpt;exact ⟨(fun z=>by cases z),n1,fun _=>zbp n1 (fun _=>rfl),rfl⟩
  rename_i hno;clear hno;unfold znX at h;split at h
  ·rename_i o m ap;obtain ⟨a1,a2⟩:=zpn hs g (ap:=ap) (pos:=cp) h;exact ⟨a1,a2,fun _=>zbp a2 (fun _=>rfl),rfl⟩
  ·rename_i x p;split at h
   ·rename_i hk
    have hk':kws=[]:=by simpa using hk
    subst hk';split at h
    ·rename_i pm hmk;obtain ⟨w,fe⟩:=pm;cases h;obtain ⟨rfl,n1⟩:=zt0 hs g (p:=p) (pos:=cp) hmk;exact ⟨(fun z=>by cases z),n1,fun _=>zbp n1 (fun _=>rfl),rfl⟩
    split at h
    ·rename_i hsp;cases h;obtain ⟨a1,a2⟩:=ztz hs g (p:=p) (pos:=cp) hsp;exact ⟨a1,a2,fun _=>zbp a2 (fun _=>rfl),rfl⟩
    ·obtain ⟨a1,a2⟩:=zp1 hs g (p:=p) (pos:=cp) h;exact ⟨a1,a2,fun _=>zbp a2 (fun _=>rfl),rfl⟩
   ·cases h
  ·cases h
 case ListComp =>
  unfold zaI at h;dsimp only at h;rename_i elt gs scope pos;unfold lcG at h;split at h
  ·obtain ⟨fa,h1,h2⟩:=map_some h;cases h2;rename_i gg;have p:PE X (.ListComp elt [gg] scope pos) (tN cl E f):=zk8 hs g h1;exact ⟨fun _=>p,zbZ p,fun _=>zbp (zbZ p) (fun _=>rfl),rfl⟩
  ·cases h
 case Dict ks vs _ =>
  cases ks with
  | cons _ _=>cases h
  | nil =>
   cases vs with
   | cons _ _=>cases h
   | nil =>
    unfold zaI at h;dsimp only at h;rename_i pos;cases h;exact ⟨fun _=>zg0,zbZ (zg0),fun _=>zbp (zbZ (zg0)) (fun _=>rfl),rfl⟩
 all_goals cases h
def zmQ(hs:zbi cl G k rc):zbi cl G k (zhr G rc):=by
 intro X nm N E g e o f h;unfold zhr at h;split at h
 ·rename_i f' ho;cases h;obtain ⟨p1,p2,p3⟩:=zpf g ho;exact ⟨(fun z=>by cases z),p1,fun _=>p2,p3⟩
 ·split at h
  ·rename_i f' ho;cases h;obtain ⟨p1,p2,p3⟩:=zoB g ho;exact ⟨fun _=>p1,zbZ p1,fun _=>p2,p3⟩
  ·exact zk1 hs X nm N E g e o f h
theorem zk2:∀n,zbi cl G k (zs5 G n)
 | 0=>fun _ _ _ _ _ _ _ _ h=>by cases h
 | n+1=>zmQ (zk2 n)
end
noncomputable def zlt(X:Cx)(E:St->XK):Prop:=∀(C:Addr) (pins:Z3) (σ:St) (H:Hp) (s:Shared) (e:Addr) (h':Heap) (vs:List Value),Inv X pins σ H s->Heap.MadeExcOf s.heap h' e (.ref C) vs->E σ (.ref C) none H->X.xe (.ref e) { s with heap:=h' }
noncomputable def zoi(C:Addr)(E:St->XK)(t:TA):TS:=fun _ σ H=>t σ H fun vs H1=>vs.length<=sizeLine/\E σ (.ref C) none H1
theorem zj4(hr:zlt X E)(hc:X.calm=true)(hg:Gl X x)(hm:X.mg x=some (.ref C))
  (z:PySem.W.excIn X.K C bmV "ValueError.__new__" = true) (ha:PA X (e::es) t)
  (he:starEach (e::es) X.env=(false,eval e X.env)::starEach es X.env) (hpl:(backTo cpos (starEach es X.env)).any (·.1)=false) (hdb:(x == ("__debug__":Str))=false) :
  PS X (.Raise (some (.Call (.Name x np) (e::es) [] cpos)) none pos) (zoi C E t):=by
 intro pins s σ H D I h;obtain ⟨bm,N,nm,qn,bs,hd,sn,sub,ab,col,dd,c0,c1,c2,c3,c5,mN,o1,o2,o3,o4⟩:=zhj I.mod.kin z
 refine wpAny_Raise_call_subU (C:=C) (nm:=nm) (q:=qn) (N:=N) (bs:=bs) (bm:=bm) (hdct:=hd) (sn:=sn) (sub:=sub) (ab:=ab) (col:=col) (dd:=dd) (k0:=c0) (k1:=c1) (k2:=c2) (k3:=c3) (k5:=c5)
  ybM (by decide +kernel) ybM (mN:=mN) (o4.hasType ybM.hasBase) (I.ok.hd hc) (by rw [he];show (false||(backTo cpos (starEach es X.env)).any (·.1))=false;rw [hpl];rfl) o3 (zcI I hg hm ⟨rfl,?_⟩ hdb)
 have go:=ha cpos pins s σ H _ I h;rw [he] at go ⊢;exact ybN (thn go fun us s2 ⟨vs,H2,I2,r2,q1,q2⟩=>⟨rfl,by rw [<-r2.length];exact q1,I2.bk _ _ o1,o2.keeps I2.bk,o4.keeps I2.bk,fun h' a mk=>hr C pins σ H2 s2 a h' us I2 mk q2⟩)
def sRz(c:Str)(fs:List Fe):Fs:=fun ρ S=>match zao fs ρ S with | .ok ds S'=>if small ds.length then .ex c ρ S' else .bad | .exc x S'=>.ex x ρ S' | .bad=>.bad
noncomputable def zn9(X:Cx)(pins:Z3)(E:St->XK):Cx:={ X with pn:=X.pn++pins,xe:=fun e s'=>∃σ H1 s1,Inv X pins σ H1 s1/\CXE X.prog X.w X.stack H1 s1 (E σ) e s' }
section
variable{X:Cx}{pins:Z3}{σ:St}{H:Hp}{s:Shared}{E:St->XK}
def zrL(ok:X.Ok):(zn9 X pins E).Ok :=
 ⟨ok.mod,ok.kind,ok.glob,ok.blt,ok.above,ok.inj,ok.has,ok.cab,ok.hd,ok.frames,ok.stk,ok.exf,ok.bs,ok.bsz,ok.noex,ok.exfs,ok.funs,ok.frf⟩
def zmk(ok:(zn9 X pins E).Ok):X.Ok :=
 ⟨ok.mod,ok.kind,ok.glob,ok.blt,ok.above,ok.inj,ok.has,ok.cab,ok.hd,ok.frames,ok.stk,ok.exf,ok.bs,ok.bsz,ok.noex,ok.exfs,ok.funs,ok.frf⟩
def zpI(I:Inv X pins σ H s):Inv (zn9 X pins E) [] σ H s :=
 ⟨zrL I.ok,I.os,I.bare,I.base,I.loc,I.cell,I.free,I.freeC,fun p hp=>I.pin p (by simpa [zn9] using hp),I.hok,I.len⟩
def zcJ{pins':Z3}(I:Inv (zn9 X pins E) pins' σ H s):Inv X pins σ H s :=
 ⟨zmk I.ok,I.os,I.bare,I.base,I.loc,I.cell,I.free,I.freeC,fun p hp=>I.pin p (yco _ hp),I.hok,I.len⟩
def zlI{De:Ends}{f:Flow}(h:SP (zn9 X pins E) [] De f s):SP X pins De f s:=by
 cases f with
 | next=>obtain ⟨σ',H',I,q⟩:=h;exact ⟨σ',H',zcJ I,q⟩
 | brk=>obtain ⟨σ',H',I,q⟩:=h;exact ⟨σ',H',zcJ I,q⟩
 | cont=>obtain ⟨σ',H',I,q⟩:=h;exact ⟨σ',H',zcJ I,q⟩
 | ret u=>obtain ⟨v,σ',H',I,r,q⟩:=h;exact ⟨v,σ',H',zcJ I,r,q⟩
end
noncomputable def ztl(K:PySem.W.Frag)(C:Addr)(i:Nat)(th:TS)(De:Ends):St->XK:=fun σ cls _ H'=>∃C',cls=.ref C'/\zqf K C' C/\∀a ob,H' a=none->ob.cls=.ref C'->th (De.goes i) (σ.set i (some (.ref a))) (upd H' a (.frz ob (.own a)))
def zo1{X:Cx}{body:List Stmt}{b0:Stmt}{suite:List Stmt}{c n:Str}{C:Addr}{i:Nat}{bD:List Value}{iD:String}{tb:(St->XK)->TS}{th:TS}{np hpos pos:Pos}(hs:X.stack=X.env::X.outer)(hf:X.env.frame=some X.env.locals)(hN:X.N.Nodup)(hi:X.N[i]?=some n)
  (hk:X.env.scope.names.lookup n=some .local) (hg:Gl X c) (hm:X.mg c=some (.ref C)) (z:PySem.W.excIn X.K C bD iD=true) (hb:bD.contains (.type "BaseException")=true) (h1:∀pins E,PSs (zn9 X pins E) body (tb E)) (h2:∀a,PSs (X.inH a) (b0::suite) th) (hdb:(c == ("__debug__":Str))=false) :
  PS X (.Try body [.ExceptHandler (some (.Name c np)) (some n) (b0::suite) hpos] [] [] pos) (fun De σ H=>tb (ztl X.K C i th De) De σ H):=by
 intro pins s σ H D I h
 have hfr:X.A.frames=some (X.env::X.outer):=by rw [<-hs];exact I.ok.frames
 refine wpAny_Try_except (yaW (h1 pins (ztl X.K C i th D) [] s σ H D (zpI I) h) (fun f s1 q=>?_) fun e s1 q=>?_)
 ·have q':=zlI q
  cases f with
  | next=>exact ycr q'
  | ret v=>exact q'
  | brk=>exact q'
  | cont=>exact q'
 ·obtain ⟨σ1,H1,s2,I1,a,cls,a0,H',B,rfl,fl,c1,c2,c3,os,bare,un,hok,C',rfl,⟨⟨bC,iC,zC⟩,up⟩,q⟩:=q;have fl':=fl;rw [hs] at fl';refine wpAny_looks_onW hfr hf fl' fun h4 hd4 u4=>?_
  refine wpAny_landsW hd4 fun h5 fl5 u5=>?_
  rw [<-hs] at fl5;obtain ⟨I5,ob5,oc5,og5,_,_⟩:=zfc (s':=s1) I1 fl5 (u4.trans u5) c1 c2 c3 os bare un hok;refine wpAny_handleBy_cons (codeAny_handlers_test ?_) (by intro q;cases q);refine zcI (I5.inH a) hg hm ?_ hdb;refine zft I5.kIn zC z og5 oc5 hb up ?_;refine codeAny_handlers_suite_as ?_;refine lands_againW fl5 fun h6 fl6 u6=>?_
  obtain ⟨_,ob,oc,og,na,I6⟩:=zfc (s':=s1) I1 fl6 ((u4.trans u5).trans u6) c1 c2 c3 os bare un hok;refine zcT (v:=.ref a) I6 hN hi (.inl hk) rfl (fun s7 I7=>?_) (.inr hk);exact yaW (h2 a pins s7 _ _ (D.goes i) (I7.inH a) (q a ob na oc)) (fun f s8 q8=>zoC I.ok hN hi hk q8) fun _ _ z=>z.elim
noncomputable def Base.hold(B:Base)(p:Addr)(o:HO):Base:=⟨fun a=>if a=p then some o else B.Fr a,fun a=>if a=p then some .far else B.fw a⟩
noncomputable def Wd.claim(w:Wd)(p:Addr)(r:Root):Wd:=⟨w.H,fun a=>if a=p then some r else if w.ow a=some r then some .far else w.ow a,w.mu⟩
section
variable{cl:Cf}{B:Base}{σ:St}{w:Wd}{ρ:Env}{S:Sto}
theorem Rel.hold(R:Rel cl B σ w ρ S)(hp:w.H p=none):Rel cl (B.hold p o) σ (w.addAs p o .far) ρ S:=by
 have ff:=zbU (w:=w) (p:=p) (o:=o) (r:=.far) hp
 have kp:∀a u,w.H a=some u->(w.addAs p o .far).H a=some u/\(w.addAs p o .far).ow a=w.ow a:=fun a u ha=>by
  have n:a≠p:=zaw ha hp;refine ⟨?_,?_⟩
  ·show upd w.H p o a=_;rw [zac n];exact ha
  ·show (if a=p then _ else if w.ow a=some Root.far then some Root.far else w.ow a)=_;rw [if_neg n];split
   ·rename_i e;exact e.symm
   ·rfl
 refine ⟨⟨fun a u h=>?_,fun a r h=>?_,R.wd.len,fun n ob h=>?_,R.wd.tab.keep ff fun P ps h1 h2=>⟨(kp P _ h1).1,(kp P _ h1).2.trans h2⟩⟩,R.len,fun j b e hj=>?_⟩
 ·by_cases ha:a=p
  ·subst ha;have h':(if a=a then some o else B.Fr a)=some u:=h;rw [if_pos rfl] at h';cases h';exact ⟨zap,by show (if a=a then some Root.far else _)=(if a=a then some Root.far else _);rw [if_pos rfl,if_pos rfl]⟩
  ·have h':(if a=p then some o else B.Fr a)=some u:=h;rw [if_neg ha] at h';have:=kp a u (R.wd.fr a u h').1;refine ⟨this.1,this.2.trans ?_⟩;show _=(if a=p then some Root.far else B.fw a);rw [if_neg ha];exact (R.wd.fr a u h').2
 ·by_cases ha:a=p
  ·have h':(if a=p then some Root.far else if w.ow a=some Root.far then some Root.far else w.ow a)=some r:=h;rw [if_pos ha] at h';cases h';exact .inl rfl
  ·have h':(if a=p then some Root.far else if w.ow a=some Root.far then some Root.far else w.ow a)=some r:=h;rw [if_neg ha] at h';split at h'
   ·cases h';exact .inl rfl
   ·rcases R.wd.own a r h' with z | z
    ·exact .inl z
    ·refine .inr ?_;show (if a=p then some o else B.Fr a)=none;rw [if_neg ha];exact z
 ·obtain ⟨a,e,x⟩:=R.wd.obj n ob h;exact ⟨a,e,x.keep ff fun b u hb _=>kp b u hb⟩
 ·obtain ⟨v,e1,x⟩:=R.slots j b e hj;exact ⟨v,e1,x.keep ff fun a u ha hr=>⟨(kp a u ha).1,(kp a u ha).2.trans hr⟩⟩
def Rel.unhold(R:Rel cl (B.hold p o) σ w ρ S)(hB:B.Fr p=none):Rel cl B σ w ρ S:=by
 refine ⟨⟨fun a u h=>?_,fun a r h=>?_,R.wd.len,R.wd.obj,R.wd.tab⟩,R.len,R.slots⟩
 ·have na:a≠p:=fun z=>by rw [z,hB] at h;cases h
  have h2:=R.wd.fr a u (show (if a=p then some o else B.Fr a)=some u by rw [if_neg na];exact h);exact ⟨h2.1,h2.2.trans (show (if a=p then some Root.far else B.fw a)=_ from if_neg na)⟩
 ·rcases R.wd.own a r h with z | z
  ·exact .inl z
  ·have z':(if a=p then some o else B.Fr a)=none:=z;split at z'
   ·cases z'
   ·exact .inr z'
def zeq(h:w.ow p≠none):Fut w (w.claim p r) where
 keep:=fun a u ha hk=>by
  have n:a≠p:=fun z=>h (by rw [<-z];exact hk)
  refine ⟨ha,?_⟩;show (if a=p then some r else if w.ow a=some r then some Root.far else w.ow a)=none;rw [if_neg n,if_neg (by rw [hk];exact fun z=>by cases z)];exact hk
 mu:=fun _ _ h=>h
theorem Rel.claim(R:Rel cl (B.hold p o) σ w ρ S)(hB:B.Fr p=none)(t:Top cl w o d):Rel cl B (σ.set i (some (.ref p))) (w.claim p (.slot i)) (ρ.set i (some (true,d))) S:=by
 have hp:=R.wd.fr p o (show (if p=p then some o else B.Fr p)=some o from if_pos rfl);have hfar:w.ow p=some .far:=hp.2.trans (show (if p=p then some Root.far else B.fw p)=_ from if_pos rfl);have ff:=zeq (w:=w) (p:=p) (r:=.slot i) (by rw [hfar];exact yaB _)
 have kp:∀a u,w.H a=some u->w.ow a≠some .far->w.ow a≠some (.slot i)->(w.claim p (.slot i)).H a=some u/\(w.claim p (.slot i)).ow a=w.ow a:=fun a u ha hk hk2=>by
  have n:a≠p:=fun z=>hk (by rw [z];exact hfar)
  refine ⟨ha,?_⟩;show (if a=p then _ else if w.ow a=some (Root.slot i) then some Root.far else w.ow a)=_;rw [if_neg n,if_neg hk2]
 refine ⟨⟨fun a u h=>?_,fun a r h=>?_,R.wd.len,fun n ob h=>?_,R.wd.tab.keep ff fun P ps h1 h2=>⟨(kp P _ h1 (by rw [h2];simp) (by rw [h2];simp)).1,(kp P _ h1 (by rw [h2];simp) (by rw [h2];simp)).2.trans h2⟩⟩,by rw [yaI,yaI];exact R.len,fun j b e hj=>?_⟩
 ·have na:a≠p:=fun z=>by rw [z,hB] at h;cases h
  have h2:=R.wd.fr a u (show (if a=p then some o else B.Fr a)=some u by rw [if_neg na];exact h);have h3:w.ow a=B.fw a:=h2.2.trans (show (if a=p then some Root.far else B.fw a)=_ from if_neg na)
  have hne:w.ow a≠some (.slot i):=fun z=>by
   rcases R.wd.own a _ z with y | y
   ·cases y
   ·have y':(if a=p then some o else B.Fr a)=none:=y;rw [if_neg na,h] at y';cases y'
  refine ⟨h2.1,?_⟩;show (if a=p then some (Root.slot i) else if w.ow a=some (Root.slot i) then some Root.far else w.ow a)=_;rw [if_neg na,if_neg hne];exact h3
 ·have h':(if a=p then some (Root.slot i) else if w.ow a=some (Root.slot i) then some Root.far else w.ow a)=some r:=h;split at h'
  ·rename_i e;rw [e];exact .inr hB
  ·rename_i na;split at h'
   ·cases h';exact .inl rfl
   ·rcases R.wd.own a r h' with z | z
    ·exact .inl z
    ·have z':(if a=p then some o else B.Fr a)=none:=z;rw [if_neg na] at z';exact .inr z'
 ·obtain ⟨a,e,x⟩:=R.wd.obj n ob h;exact ⟨a,e,x.keep ff fun b u hb hn=>kp b u hb (fun z=>by rwa [z] at hn) (fun z=>by rwa [z] at hn)⟩
 ·by_cases hij:i=j
  ·subst hij
   have hlt:i<ρ.length:=by
    have:=(yag.mp hj).1;rwa [yaI] at this
   rw [yaA hlt] at hj;cases hj;exact ⟨.ref p,by rw [yaA (by rw [R.len];exact hlt)],p,o,rfl,if_pos rfl,hp.1,t.up ff⟩
  ·rw [yaL hij] at hj ⊢;obtain ⟨v,e1,x⟩:=R.slots j b e hj;refine ⟨v,e1,x.keep ff fun a u ha hr=>?_⟩;have:=kp a u ha (by rw [hr];exact fun z=>by cases z) (by rw [hr];exact fun z=>hij (by cases z;rfl));exact ⟨this.1,this.2.trans hr⟩
end
noncomputable def tO(cl:Cf)(E:St->XK):Bool->Fe->TE | true,f=>tN cl E f | false,f=>tE cl E f
noncomputable def znk(i j:Nat)(o1:Bool)(f1:Fe)(o2:Bool)(f2:Fe):Fs:=fun ρ S=>match f1 ρ S with
 | .ok d1 S1=>(match f2 ρ S1 with
  | .ok d2 S2=>.nx ((ρ.set i (some (o1,d1))).set j (some (o2,d2))) S2
  | .exc c S'=>.ex c ρ S'
  | .bad=>.bad)
 | .exc c S'=>.ex c ρ S'
 | .bad=>.bad
section
variable{X:Cx}{cl:Cf}{E:St->XK}{own:Bool}
def zmh(q:tS cl E own (znk i j o1 f1 o2 f2) De σ H):zu4 i j (zok (tO cl E o1 f1) (zok (tO cl E o2 f2) zsX)) De σ H:=by
 obtain ⟨B,w,ρ,S,rfl,R,q⟩:=q;unfold znk at q
 cases o1 with
 | false =>
  refine ⟨B,w,ρ,S,rfl,R,?_⟩
  cases h1:f1 ρ S with
  | bad=>rwa [h1] at q
  | exc c S1=>rw [h1] at q;exact fun w' R' F'=>q σ w' R' F'
  | ok d1 S1 =>
   rw [h1] at q;dsimp only at q;intro v w1 R1 F1 sh1
   cases o2 with
   | false =>
    refine ⟨B,w1,ρ,S1,rfl,R1,?_⟩
    cases h2:f2 ρ S1 with
    | bad=>rwa [h2] at q
    | exc c S2=>rw [h2] at q;exact fun w' R' F'=>q σ w' R' (F1.trans F')
    | ok d2 S2 =>
     rw [h2] at q;intro v2 w2 R2 F2 sh2;exact ⟨v,v2,rfl,q _ w2 ((R2.put (sh1.up F2)).put sh2) (F1.trans F2)⟩
   | true =>
    refine ⟨B,w1,ρ,S1,rfl,R1,?_⟩
    cases h2:f2 ρ S1 with
    | bad=>rwa [h2] at q
    | exc c S2=>rw [h2] at q;exact fun w' R' F'=>q σ w' R' (F1.trans F')
    | ok d2 S2 =>
     rw [h2] at q;intro p2 u2 w2 R2 F2 hp2 t2;exact ⟨v,.ref p2,rfl,q _ (w2.addAs p2 u2 (.slot j)) ((R2.put (sh1.up F2)).own hp2 t2) (F1.trans (F2.trans (zbU hp2)))⟩
 | true =>
  refine ⟨B,w,ρ,S,rfl,R,?_⟩
  cases h1:f1 ρ S with
  | bad=>rwa [h1] at q
  | exc c S1=>rw [h1] at q;exact fun w' R' F'=>q σ w' R' F'
  | ok d1 S1 =>
   rw [h1] at q;dsimp only at q;intro p u w1 R1 F1 hp t1;have Rh:=R1.hold (o:=u) hp;have fa:=zbU (w:=w1) (p:=p) (o:=u) (r:=.far) hp
   have hB:B.Fr p=none:=by
    cases z:B.Fr p with
    | none=>rfl
    | some x=>have:=(R1.wd.fr p x z).1;rw [hp] at this;cases this
   cases o2 with
   | false =>
    refine ⟨B.hold p u,w1.addAs p u .far,ρ,S1,rfl,Rh,?_⟩
    cases h2:f2 ρ S1 with
    | bad=>rwa [h2] at q
    | exc c S2=>rw [h2] at q;exact fun w' R' F'=>q σ w' (R'.unhold hB) (F1.trans (fa.trans F'))
    | ok d2 S2 =>
     rw [h2] at q;intro v2 w2 R2 F2 sh2;have hpp:=R2.wd.fr p u (show (if p=p then some u else B.Fr p)=some u from if_pos rfl)
     have hfar:w2.ow p≠none:=by rw [hpp.2,show (B.hold p u).fw p=some Root.far from if_pos rfl];exact yaB _
     have fc:=zeq (w:=w2) (p:=p) (r:=.slot i) hfar;exact ⟨.ref p,v2,rfl,q _ (w2.claim p (.slot i)) ((R2.claim hB (t1.up (fa.trans F2))).put (sh2.up fc)) (F1.trans (fa.trans (F2.trans fc)))⟩
   | true =>
    refine ⟨B.hold p u,w1.addAs p u .far,ρ,S1,rfl,Rh,?_⟩
    cases h2:f2 ρ S1 with
    | bad=>rwa [h2] at q
    | exc c S2=>rw [h2] at q;exact fun w' R' F'=>q σ w' (R'.unhold hB) (F1.trans (fa.trans F'))
    | ok d2 S2 =>
     rw [h2] at q;intro p2 u2 w2 R2 F2 hp2 t2;have hpp:=R2.wd.fr p u (show (if p=p then some u else B.Fr p)=some u from if_pos rfl)
     have hfar:w2.ow p≠none:=by rw [hpp.2,show (B.hold p u).fw p=some Root.far from if_pos rfl];exact yaB _
     have fc:=zeq (w:=w2) (p:=p) (r:=.slot i) hfar;exact ⟨.ref p,.ref p2,rfl,q _ ((w2.claim p (.slot i)).addAs p2 u2 (.slot j)) ((R2.claim hB (t1.up (fa.trans F2))).own (w:=w2.claim p (.slot i)) hp2 (t2.up fc)) (F1.trans (fa.trans (F2.trans (fc.trans (zbU (w:=w2.claim p (.slot i)) hp2)))))⟩
end
noncomputable def zgv:Expr->Bool | .ListComp _ _ _ _=>true | .SetComp _ _ _ _=>true | .DictComp _ _ _ _ _=>true | _=>false
def zde(h:zgv e=false):swapsWith e t l env=pure false:=by
 cases e<;>first | rfl | cases h
structure Gd(cl:Cf)(G:Genv)(k:Nat)(X:Cx)(nm:Names)(N:List Str)(E:St->XK)(zcz:Bool):Prop where
 gx:Gx cl G k X nm N E
 fn:∀x,X.fn x=true
 kind:X.env.scope.kind=.function
 sc:X.env.scope.names=nm
 own:zcz=true->PassesOwn (model X.prog X.w) X.A X.env X.xe
 raises:zcz=true->zlt X E
 stk:X.stack=X.env::X.outer
 frm:X.env.frame=some X.env.locals
def zcp:Nat->Names->List Str->Expr->List Nat
 | 0,_,_,_=>[]
 | n+1,nm,N,e =>
  let rc:=zcp n nm N
  let op:=fun (e:Expr)=>match e with | .Name _ _=>[] | e=>rc e
  match e with
  | .Name x _=>(zbq nm N x).toList
  | .Tuple es _ _=>es.flatMap rc
  | .List es _=>es.flatMap rc
  | .BinOp a _ b _=>op a++op b
  | .UnaryOp _ a _=>rc a
  | .BoolOp _ es _=>es.flatMap rc
  | .Compare a _ bs _=>op a++bs.flatMap op
  | .IfExp c a b _=>rc c++rc a++rc b
  | .Subscript a (.Slice lo hi _ _) _=>op a++lo.toList.flatMap op++hi.toList.flatMap op
  | .Subscript a i _=>op a++op i
  | .Call (.Name f _) args [] _=>if (zlk f).isSome||decide (f = "isinstance") then args.flatMap op else args.flatMap rc
  | .Call (.Attribute o _ _) args [] _=>op o++args.flatMap rc
  | .Dict _ _ _=>[]
  | .Attribute o _ _=>op o
  | .ListComp _ [g] scope _=>rc g.iter++(za4 scope.names N).map (·.2)
  | .Lambda _ _ scope _=>(za4 scope.names N).map (·.2)
  | _=>[]
def zeL(t:Tg)(f:Fe):Fs:=fun ρ S=>match f ρ S with
 | .ok d S'=>(match t.put ρ d with | some ρ'=>.nx ρ' S' | none=>.bad)
 | .exc c S'=>.ex c ρ S'
 | .bad=>.bad
noncomputable def zmi(nm:Names)(x y:Str)(px py:Pos)(a b:Expr):Bool :=
 decide (nm.lookup x=some .local)&&decide (nm.lookup y=some .local)&&decide (px.line=py.line)&&!decide (x=y)&&zbr a&&zbr b&&!([a,b].all (foldedForSure 8))&&!([a,b].all (constantsAlone 8))
noncomputable def znO:Expr->Bool | .Constant _ _ _=>true | _=>false
noncomputable def zwZ:Expr->Bool | .Name _ _=>true | .Constant _ _ _=>true | .Subscript _ _ _=>true | .BinOp _ _ _ _=>true | _=>false
noncomputable def zrK{α:Type}:List α->Option α | [a]=>some a | _=>none
def zkh{α:Type}{l:List α}{a:α}(h:zrK l=some a):l=[a]:=by
 cases l with
 | nil=>cases h
 | cons b t=>cases t with
  | nil=>cases h;rfl
  | cons _ _=>cases h
noncomputable def zgm:Expr->Option (Str×Pos) | .Name x p=>some (x,p) | _=>none
def zcV(h:zgm e=some x):e=.Name x.1 x.2:=by cases e<;>first | (cases h;done) | (cases h;rfl)
noncomputable def zp3:Expr->Option (Expr×List Expr×List Keyword×Pos) | .Call f a k p=>some (f,a,k,p) | _=>none
def ziv(h:zp3 e=some x):e=.Call x.1 x.2.1 x.2.2.1 x.2.2.2:=by cases e<;>first | (cases h;done) | (cases h;rfl)
noncomputable def zs8:Expr->Option (Expr×Str×Pos) | .Attribute o m p=>some (o,m,p) | _=>none
def zlm(h:zs8 e=some x):e=.Attribute x.1 x.2.1 x.2.2:=by cases e<;>first | (cases h;done) | (cases h;rfl)
noncomputable def zql:Expr->Option (List Expr×Nat×Pos) | .Tuple es k p=>some (es,k,p) | _=>none
def zgX(h:zql e=some x):e=.Tuple x.1 x.2.1 x.2.2:=by cases e<;>first | (cases h;done) | (cases h;rfl)
noncomputable def zu9:Expr->Option (Expr×Expr×Pos) | .Subscript a i p=>some (a,i,p) | _=>none
def zom(h:zu9 e=some x):e=.Subscript x.1 x.2.1 x.2.2:=by cases e<;>first | (cases h;done) | (cases h;rfl)
noncomputable def lcE:Expr->Option (Expr×List Comprehension×Scope×Pos) | .ListComp elt gs scope p=>some (elt,gs,scope,p) | _=>none
def zr4(h:lcE e=some x):e=.ListComp x.1 x.2.1 x.2.2.1 x.2.2.2:=by cases e<;>first | (cases h;done) | (cases h;rfl)
noncomputable def ztk{α:Type}:List α->Option (α×α) | [a,b]=>some (a,b) | _=>none
def znb{α:Type}{l:List α}{a:α×α}(h:ztk l=some a):l=[a.1,a.2]:=by
 cases l with
 | nil=>cases h
 | cons b t=>cases t with
  | nil=>cases h
  | cons c t=>cases t with
   | nil=>cases h;rfl
   | cons _ _=>cases h
def zuB(G:Genv)(rc:Rec)(nm:Names)(N:List Str)(x:Str)(e:Expr):Option Fs :=
 (tgI true nm N N.length x).bind fun i=>match lcE e with
  | some c=>(zrK c.2.1).bind fun g=>(zi6 G rc nm N c.1 g c.2.2.1).bind fun f=>some (zc3 i true f)
  | none=>if zgv e then none else (rc nm N e).bind fun p=>some (zc3 i p.1 p.2)
def zxc(rc:Rec)(nm:Names)(N:List Str)(t:List Expr×Nat×Pos)(vs:List Expr)(e:Expr):Option Fs:=(tgG true nm N N.length (.Tuple t.1 t.2.1 t.2.2)).bind fun t=>(shE rc nm N e).bind fun f=>some (zeL t f)
def zuA(rc:Rec)(nm:Names)(N:List Str)(t:List Expr×Nat×Pos)(e:Expr):Option Fs:=match zql e with
 | some v=>if zuv nm t.1 then zxc rc nm N t v.1 e else (ztk t.1).bind fun xy=>(zgm xy.1).bind fun x=>(zgm xy.2).bind fun y=>(ztk v.1).bind fun ab =>
  if zmi nm x.1 y.1 x.2 y.2 ab.1 ab.2 then (tgI true nm N N.length x.1).bind fun i=>(tgI true nm N N.length y.1).bind fun j=>if i=j then none else (rc nm N ab.1).bind fun p=>(rc nm N ab.2).bind fun q=>some (znk i j p.1 p.2 q.1 q.2)
  else if znO ab.1&&znO ab.2 then (tgG true nm N N.length (.Tuple t.1 t.2.1 t.2.2)).bind fun t=>(shE rc nm N e).bind fun f=>some (zeL t f) else none
 | none=>(tgG true nm N N.length (.Tuple t.1 t.2.1 t.2.2)).bind fun t=>(shE rc nm N e).bind fun f=>some (zeL t f)
def zuC(G:Genv)(rc:Rec)(nm:Names)(N:List Str)(o:Expr)(f:Str)(e:Expr):Option Fs :=
 (nmF o).bind fun x=>if !G.ob.fk G.ob.cur f then none else (shE rc nm N o).bind fun fo=>(shE rc nm N e).bind fun fe=>some (zjK G.ob.cur f fo fe)
def zuD(rc:Rec)(nm:Names)(N:List Str)(x:Str)(ix e:Expr):Option Fs :=
 if zwZ ix&&!zgv e then (zbq nm N x).bind fun i=>(shE rc nm N ix).bind fun k=>(shE rc nm N e).bind fun f=>some (zeJ i k f) else none
def zsN(G:Genv)(rc:Rec)(nm:Names)(N:List Str)(q:Expr×Expr×Pos)(e:Expr):Option Fs:=(zgm q.1).bind fun x=>zuD rc nm N x.1 q.2.1 e
def zqa(G:Genv)(rc:Rec)(nm:Names)(N:List Str)(tg e:Expr):Option Fs:=match zgm tg with
 | some x=>zuB G rc nm N x.1 e
 | none=>match zql tg with
  | some t=>zuA rc nm N t e
  | none=>match zs8 tg with
   | some a=>zuC G rc nm N a.1 a.2.1 e
   | none=>(zu9 tg).bind fun q=>zsN G rc nm N q e
def zta(G:Genv)(rc:Rec)(nm:Names)(N:List Str)(tg e:Expr):Option Fs:=match ztS G nm N tg e with
 | some f=>some f
 | none=>zqa G rc nm N tg e
structure Mc where
 x:Str
 px:Pos
 m:Str
 ap:Pos
 a:Expr
 cp:Pos
def zmo(e:Expr):Option Mc:=(zp3 e).bind fun c=>if c.2.2.1.isEmpty then (zs8 c.1).bind fun t=>(zgm t.1).bind fun x=>(zrK c.2.1).bind fun a=>some ⟨x.1,x.2,t.2.1,t.2.2,a,c.2.2.2⟩ else none
def zkV(G:Genv)(rc:Rec)(nm:Names)(N:List Str)(e:Expr):Option Fs:=match zmo e with
 | some c=>if decide (c.m = "append")&&(c.ap.endLine == c.cp.line) then (zbq nm N c.x).bind fun i=>(shE rc nm N c.a).bind fun f=>some (znl i f)
  else if zgv e then none else (shE rc nm N e).map zjM
 | none=>if zgv e then none else (shE rc nm N e).map zjM
def zpR(G:Genv)(rc:Rec)(nm:Names)(N:List Str)(e:Expr):Option Fs:=match ztQ G nm N e with
 | some f=>some f
 | none=>zkV G rc nm N e
def ztG(rc:Rec)(nm:Names)(N:List Str)(own:Bool)(e:Expr):Option Fs:=match own with
 | true=>(match e with
  | .Name x _=>(zbq nm N x).map zoL
  | e=>(rc nm N e).bind fun p=>if p.1 then some (zbt p.2) else none)
 | false=>(shE rc nm N e).map zbt
def rzG(G:Genv)(rc:Rec)(nm:Names)(N:List Str)(zcz:Bool)(a b:Option Expr):Option Fs:=if b.isNone then a.bind fun e=>(zp3 e).bind fun c=>(zgm c.1).bind fun x=>if c.2.2.1.isEmpty&&!c.2.1.isEmpty&&zcz&&zbF nm x.1&&G.exc x.1 then (shL rc nm N c.2.1).bind fun fs=>some (sRz x.1 fs) else none else none
def stG(G:Genv)(rc:Rec)(rs:Bool->List Stmt->Option Fs)(nm:Names)(N:List Str)(own zcz:Bool)(st:Stmt):Option Fs:=match st with
 | .Pass _=>some sNx
 | .Assign ts e _=>(zrK ts).bind fun tg=>zta G rc nm N tg e
 | .Expr e _=>zpR G rc nm N e
 | .Return o _=>(match o with | some e=>ztG rc nm N own e | none=>if own then none else some zoM)
 | .If c a b _=>if zbG c then (shE rc nm N c).bind fun f=>(rs zcz a).bind fun g=>(rs zcz b).bind fun h=>some (sIf f g h) else none
 | .For tg it body el _=>if zcz&&el.isEmpty then (ziX G rc nm N tg it).bind fun i=>(tgG true nm N N.length tg).bind fun t=>(rs zcz body).bind fun b=>some (zlO t i b) else none
 | .Raise a b _=>rzG G rc nm N zcz a b
 | _=>none
def zo5(n:Nat)(own:Bool)(nm:Names)(N:List Str):Stmt->List Nat
 | .Assign [_] e _=>zcp n nm N e
 | .Expr (.Call (.Attribute _ _ _) args [] _) _=>args.flatMap (zcp n nm N)
 | .Expr e _=>zcp n nm N e
 | .Return (some (.Name x p)) _=>if own then [] else zcp n nm N (.Name x p)
 | .Return (some e) _=>zcp n nm N e
 | .If c _ _ _=>zcp n nm N c
 | .For _ it _ _ _=>zcp n nm N it
 | .While c _ _ _=>zcp n nm N c
 | _=>[]
def blk(ds:Stmt->Option Fs):List Stmt->Option Fs
 | []=>some sNx
 | s::r=>(ds s).bind fun f=>(blk ds r).bind fun g=>some (zar f g)
def zmR(G:Genv)(own:Bool):Nat->Bool->Names->List Str->Stmt->Option Fs
 | 0,_,_,_,_=>none
 | n+1,zcz,nm,N,st=>(stG G (zs5 G n) (fun fl b=>blk (zmR G own n fl nm N) b) nm N own zcz st).map (sFz (zo5 n own nm N st))
section
variable{cl:Cf}{G:Genv}{k:Nat}{rc:Rec}{X:Cx}{nm:Names}{N:List Str}{E:St->XK}{own zcz:Bool}
def Gd.sto(g:Gd cl G k X nm N E zcz):Sto' X nm true:=⟨fun _ x _=>g.fn x⟩
def ziD:∃b,swapsWith (.ListComp elt gs scope p) (some (.Name x px)) l env=pure b:=⟨_,rfl⟩
def zlq(q:tS cl E own (zeL t f) De σ H):zqn (tE cl E f) (tG cl n t) De σ H:=by
 obtain ⟨B,w,ρ,S,rfl,R,q⟩:=q;refine ⟨B,w,ρ,S,rfl,R,?_⟩;unfold zeL at q
 cases hf:f ρ S with
 | bad=>rwa [hf] at q
 | exc c S1=>rw [hf] at q;exact fun w' R' F'=>q σ w' R' F'
 | ok d S1 =>
  rw [hf] at q;intro v w' R' F' h';dsimp only at q
  cases hp:t.put ρ d with
  | none=>rw [hp] at q;exact q.elim
  | some ρ'=>rw [hp] at q;exact ⟨B,w',ρ,S1,d,ρ',rfl,R',h',hp,fun σ' _ _ R2=>q σ' w' R2 F'⟩
def zrC(hk:X.env.scope.kind=.function)(hs:X.env.scope.names=nm)(h:zmi nm x y px py a b=true) :
  swappedStores [.Tuple [.Name x px,.Name y py] kt pt] (.Tuple [a,b] k2 pt2) X.env=pure (some [x,y]):=by
 unfold zmi at h;simp only [yaa,yaV,ybe,yb6] at h;obtain ⟨⟨⟨⟨⟨⟨⟨h1,h2⟩,h3⟩,h4⟩,h5⟩,h6⟩,h7⟩,h8⟩:=h
 have hb:X.env.blockKind=.function:=by unfold Env.blockKind;rw [hk];rfl
 have k1:X.env.kindOf x=some .local:=by unfold Env.kindOf;rw [hs];exact h1
 have k2':X.env.kindOf y=some .local:=by unfold Env.kindOf;rw [hs];exact h2
 have st:([a,b].any fun | .Starred ..=>true | _=>false)=false:=by
  rw [List.any_eq_false];intro e he
  have hp:zbr e=true:=by
   rcases yat.mp he with z | z
   ·rw [z];exact h5
   ·rw [yaN.mp z];exact h6
  cases e<;>first | (cases hp;done) | (intro z;cases z)
 have ed:[x,y].eraseDups.length=2:=by
  have:(y == x)=false:=by rw [ya6];exact fun z=>h4 z.symm
  simp [List.eraseDups_cons,this]
 unfold swappedStores;simp only [hb,st];simp [k1,k2',h3,h7,h8,ed,show (Expr.Name x px).pos=px from rfl,show (Expr.Name y py).pos=py from rfl];intro z;exfalso
 rcases z with z | z
 ·cases a<;>first | (cases h5;done) | cases z
 ·cases b<;>first | (cases h6;done) | cases z
def zmU(hs:zbi cl G k rc)(g:Gd cl G k X nm N E zcz)(hi:tgI true nm N N.length x=some i)(h:zi6 G rc nm N elt gg scope=some f) :
  PS X (.Assign [.Name x px] (.ListComp elt [gg] scope p) pos) (tS cl E own (zc3 i true f)):=by
 obtain ⟨a1,a2,a3,a4,a5⟩:=zeU g.gx g.sto hi;obtain ⟨b,hb⟩:=ziD (elt:=elt) (gs:=[gg]) (scope:=scope) (p:=p) (px:=px) (x:=x) (l:=pos.line) (env:=X.env)
 cases b with
 | false=>exact zgZ a2 a3 a4 (zk8 hs g.gx h) hb a5
 | true =>
  obtain ⟨it,t,c,el,rfl,eg,S,i1,i2,i3,i4,i5⟩:=ze9 hs g.gx h;rw [eg] at hb ⊢;refine PS.imp (zl4 g.gx.calm S a2 a3 a4 i1 i3 i4 i5 hb a5 (zfp i2)) ?_;intro De σ H q;exact znV (zsM q)
def zsC{x y:Str}{px py pt pt2 p1 p2:Pos}{kt k2:Nat}{a b:Const}{ka kb:Nat}{env:PySem.Env}:swappedStores [.Tuple [.Name x px,.Name y py] kt pt] (.Tuple [.Constant a ka p1,.Constant b kb p2] k2 pt2) env=pure none:=by
 have hf:∀(c:Const) (k:Nat) (p:Pos),foldedForSure 8 (.Constant c k p)=true:=fun _ _ _=>rfl
 unfold swappedStores;simp only [ya2,List.all_nil,hf,ycO,yck]
 split<;>first | rfl | (split<;>first | rfl | (split<;>rfl))
def zqI:swapsWithSole [.Subscript a i p] e l env=pure false:=by cases e<;>rfl
def zqN:swappedStores [.Subscript a i p] e env=pure none:=by cases e<;>rfl
def zqH:swapsWithSole [.Tuple es kk p] e l env=pure false:=by cases e<;>rfl
def zqM(h:zql e=none):swappedStores [.Tuple es kk p] e env=pure none:=by cases e<;>first | rfl | cases h
def zqK:swapsWith e (some (.Attribute o f p)) l env=pure false:=by cases e<;>rfl
def zp9(hs:zbi cl G k rc)(g:Gd cl G k X nm N E zcz)(h:zuB G rc nm N x e=some f):PS X (.Assign [.Name x px] e pos) (tS cl E own f):=by
 unfold zuB at h;obtain ⟨i,h1,h⟩:=zaa h
 cases hl:lcE e with
 | some c =>
  rw [hl] at h;obtain ⟨gg,h2,h⟩:=zaa h;obtain ⟨fe,h3,h⟩:=zaa h;cases h;rw [zr4 hl,zkh h2];exact zmU hs g h1 h3
 | none =>
  rw [hl] at h;dsimp only at h;split at h
  ·cases h
  ·rename_i hc;obtain ⟨⟨o,fe⟩,h2,h⟩:=zaa h;cases h;obtain ⟨a1,a2,a3,a4,a5⟩:=zeU g.gx g.sto h1;obtain ⟨b1,b2,_,_⟩:=hs X nm N E g.gx _ o fe h2;have sw:=zde (t:=some (.Name x px)) (l:=pos.line) (env:=X.env) (by simpa using hc)
   cases o with
   | false=>exact zng a2 a3 a4 b2 sw a5
   | true=>exact zgZ a2 a3 a4 (b1 rfl) sw a5
def zp8(hs:zbi cl G k rc)(g:Gd cl G k X nm N E zcz)(h:zuA rc nm N t e=some f):PS X (.Assign [.Tuple t.1 t.2.1 t.2.2] e pos) (tS cl E own f):=by
 have tupCase:swappedStores [.Tuple t.1 t.2.1 t.2.2] e X.env=pure none->((tgG true nm N N.length (.Tuple t.1 t.2.1 t.2.2)).bind fun t=>(shE rc nm N e).bind fun f=>some (zeL t f))=some f->PS X (.Assign [.Tuple t.1 t.2.1 t.2.2] e pos) (tS cl E own f):=by
  intro sw2 h;obtain ⟨t',h1,h⟩:=zaa h;obtain ⟨fe,h2,h⟩:=zaa h;cases h;exact PS.imp (znx (zbj hs g.gx h2).1 (zoe g.gx g.sto h1) zqH sw2 rfl) fun _ _ _ q=>zlq q
 unfold zuA at h
 cases hv:zql e with
 | none =>
  rw [hv] at h;exact tupCase (zqM hv) h
 | some v =>
  rw [hv] at h;dsimp only at h;split at h
  ·rename_i hce;have ev:=zgX hv;refine tupCase ?_ h;rw [ev];exact zpZ g.sc hce
  obtain ⟨xy,h1,h⟩:=zaa h;obtain ⟨x,h2,h⟩:=zaa h;obtain ⟨y,h3,h⟩:=zaa h;obtain ⟨ab,h4,h⟩:=zaa h;have ev:=zgX hv
  have et:t.1=[.Name x.1 x.2,.Name y.1 y.2]:=by rw [znb h1,zcV h2,zcV h3]
  rw [znb h4] at ev;obtain ⟨a,b⟩:=ab;dsimp only at h ev;split at h
  ·rename_i hp;obtain ⟨i,h1,h⟩:=zaa h;obtain ⟨j,h2,h⟩:=zaa h;split at h
   ·cases h
   ·rename_i hij;obtain ⟨⟨o1,f1⟩,h3,h⟩:=zaa h;obtain ⟨⟨o2,f2⟩,h4,h⟩:=zaa h;cases h;obtain ⟨_,a2,a3,_,_⟩:=zeU g.gx g.sto h1;obtain ⟨_,_,b3,_,_⟩:=zeU g.gx g.sto h2;obtain ⟨p1,p2,_,p4⟩:=hs X nm N E g.gx a o1 f1 h3;obtain ⟨q1,q2,_,q4⟩:=hs X nm N E g.gx b o2 f2 h4
    have hx:X.env.scope.names.lookup x.1=some .local/\X.env.scope.names.lookup y.1=some .local:=by
     unfold zmi at hp;simp only [yaa,yaV] at hp;rw [g.sc];exact ⟨hp.1.1.1.1.1.1.1,hp.1.1.1.1.1.1.2⟩
    have P1:PE X a (tO cl E o1 f1):=by cases o1 with | false=>exact p2 | true=>exact p1 rfl
    have P2:PE X b (tO cl E o2 f2):=by cases o2 with | false=>exact q2 | true=>exact q1 rfl
    rw [et,ev];exact PS.imp (zrp g.gx.calm a2 a3 b3 hij hx.1 hx.2 (zaX P1 (zaX P2 zbS (zbh (zay q4))) (zbh (zay p4))) (zrC g.kind g.sc hp) rfl) fun _ _ _ q=>zmh q
  ·split at h
   ·rename_i hc;rw [yaa] at hc;refine tupCase ?_ h;rw [et,ev]
    cases a<;>first | (cases hc.1;done) | (cases b<;>first | (cases hc.2;done) | exact zsC)
   ·cases h
def zqb(hs:zbi cl G k rc)(g:Gd cl G k X nm N E zcz)(h:zuC G rc nm N o fl e=some f):PS X (.Assign [.Attribute o fl ap] e pos) (tS cl E own f):=by
 unfold zuC at h;obtain ⟨x,h1,hz⟩:=zaa h;have e1:=znF h1;clear h h1;subst e1;split at hz
 ·cases hz
 ·rename_i hf;rw [Bool.not_eq_true,Bool.not_eq_false'] at hf;obtain ⟨fo,h2,hz⟩:=zaa hz;obtain ⟨fe,h3,hz⟩:=zaa hz;cases hz;exact zov g.gx.same (g.gx.gok.fk _ _ hf) (zbj hs g.gx h2).1 (zbj hs g.gx h3).1 zqK
def zqc(hs:zbi cl G k rc)(g:Gd cl G k X nm N E zcz)(h:zuD rc nm N x ix e=some f):PS X (.Assign [.Subscript (.Name x px) ix p3] e pos) (tS cl E own f):=by
 unfold zuD at h;split at h
 ·rename_i hx;rw [yaa] at hx;obtain ⟨i,h1,h⟩:=zaa h;obtain ⟨fi,h2,h⟩:=zaa h;obtain ⟨fe,h3,h⟩:=zaa h;cases h;obtain ⟨s1,s2,s3,s4⟩:=g.gx.slot h1;refine zor g.gx.u1 s1 s2 s3 s4 (zbj hs g.gx h2).1 (zbj hs g.gx h3).1 zqI zqN ?_
  cases ix<;>first | (intro _;rfl) | cases hx.1
 ·cases h
def zp7(hs:zbi cl G k rc)(g:Gd cl G k X nm N E zcz){tg e:Expr}{f:Fs}{pos:Pos}(h:zqa G rc nm N tg e=some f):PS X (.Assign [tg] e pos) (tS cl E own f):=by
 unfold zqa at h
 cases h1:zgm tg with
 | some x=>rw [h1] at h;rw [zcV h1];exact zp9 hs g h
 | none =>
  rw [h1] at h
  cases h2:zql tg with
  | some t=>rw [h2] at h;rw [zgX h2];exact zp8 hs g h
  | none =>
   rw [h2] at h
   cases h3:zs8 tg with
   | some a=>rw [h3] at h;rw [zlm h3];exact zqb hs g h
   | none =>
    rw [h3] at h;obtain ⟨q,h4,h⟩:=zaa h;rw [zom h4];unfold zsN at h;obtain ⟨x,h6,h⟩:=zaa h;rw [zcV h6];exact zqc hs g h
def zsL(hs:zbi cl G k rc)(g:Gd cl G k X nm N E zcz)(h:zta G rc nm N tg e=some f):PS X (.Assign [tg] e pos) (tS cl E own f):=by
 unfold zta at h;split at h
 ·rename_i f' ho;cases h;exact zpg g.gx ho
 ·exact zp7 hs g h
def zmn(h:zmo e=some c):e=.Call (.Attribute (.Name c.x c.px) c.m c.ap) [c.a] [] c.cp:=by
 unfold zmo at h;obtain ⟨c1,h1,h⟩:=zaa h;split at h
 ·rename_i hk;obtain ⟨t,h2,h⟩:=zaa h;obtain ⟨x,h3,h⟩:=zaa h;obtain ⟨a,h4,h⟩:=zaa h;cases h;rw [ziv h1,zlm h2,zcV h3,zkh h4,ycn.mp hk]
 ·cases h
def zmJ(hs:zbi cl G k rc)(g:Gd cl G k X nm N E zcz){e:Expr}{f:Fs}{pos:Pos}(h:zkV G rc nm N e=some f):PS X (.Expr e pos) (tS cl E own f):=by
 unfold zkV at h
 cases hc:zmo e with
 | some c =>
  obtain ⟨x,px,m,ap,a,cp⟩:=c;obtain rfl:=zmn hc;rw [hc] at h;dsimp only at h;split at h
  ·rename_i hm;rw [yaa] at hm;have em:=yaq hm.1;subst em;obtain ⟨i,h1,h⟩:=zaa h;obtain ⟨fe,h2,h⟩:=zaa h;cases h;obtain ⟨s1,s2,s3,s4⟩:=g.gx.slot h1;obtain ⟨a1,_,a3⟩:=zbj hs g.gx h2;exact zqQ s1 s2 s3 s4 a1 (zay a3) hm.2
  split at h
  ·cases h
  ·rename_i hc;obtain ⟨fe,h2,h⟩:=map_some h;subst h;exact znf (zbj hs g.gx h2).1 (zde (by simpa using hc))
 | none =>
  rw [hc] at h;dsimp only at h;split at h
  ·cases h
  ·rename_i hc;obtain ⟨fe,h2,h⟩:=map_some h;subst h;exact znf (zbj hs g.gx h2).1 (zde (by simpa using hc))
def zpQ(hs:zbi cl G k rc)(g:Gd cl G k X nm N E zcz)(h:zpR G rc nm N e=some f):PS X (.Expr e pos) (tS cl E own f):=by
 unfold zpR at h;split at h
 ·rename_i f' ho;cases h;exact zpe g.gx ho
 ·exact zmJ hs g h
def zra(hs:zbi cl G k rc)(g:Gd cl G k X nm N E zcz)(h:ztG rc nm N own e=some f):PS X (.Return (some e) pos) (tS cl E own f):=by
 unfold ztG at h;split at h
 ·split at h
  ·obtain ⟨i,h1,h⟩:=map_some h;subst h;obtain ⟨s1,s2,s3,s4⟩:=g.gx.slot h1;exact zoo s1 s2 s3 s4
  ·obtain ⟨⟨o,fe⟩,h1,h⟩:=zaa h;dsimp only at h;split at h
   ·rename_i ho;cases h;exact zop ((hs X nm N E g.gx _ o fe h1).1 ho)
   ·cases h
 ·obtain ⟨fe,h2,h⟩:=map_some h;subst h;exact zjv (zbj hs g.gx h2).1
def ztw(hs:zbi cl G k rc){rs:Bool->List Stmt->Option Fs}(hr:∀(fl:Bool) (X:Cx) (E:St->XK),Gd cl G k X nm N E fl->∀b f,rs fl b=some f->PSs X b (tS cl E own f))(g:Gd cl G k X nm N E zcz){st:Stmt}{f:Fs}(h:stG G rc rs nm N own zcz st=some f):PS X st (tS cl E own f):=by
 cases st with
 | Pass p=>cases h;exact zou
 | Assign ts e p =>
  obtain ⟨tg,h1,h⟩:=zaa (show ((zrK ts).bind fun tg=>zta G rc nm N tg e)=some f from h);obtain rfl:=zkh h1;exact zsL hs g h
 | Expr e p=>exact zpQ hs g h
 | Return o p =>
  cases o with
  | some e=>exact zra hs g h
  | none =>
   have h':(if own then none else some zoM)=some f:=h;split at h'
   ·cases h'
   ·rename_i ho;cases h'
    have:own=false:=by simpa using ho
    subst this;exact zoq
 | If c a b p =>
  have h':(if zbG c then (shE rc nm N c).bind fun f=>(rs zcz a).bind fun g=>(rs zcz b).bind fun h=>some (sIf f g h) else none)=some f:=h;split at h'
  ·rename_i ht;obtain ⟨fc,h1,h⟩:=zaa h';obtain ⟨fa,h2,h⟩:=zaa h;obtain ⟨fb,h3,h⟩:=zaa h;cases h;exact zqO ((zbj hs g.gx h1).2.1 ht) (hr zcz X E g a fa h2) (hr zcz X E g b fb h3)
  ·cases h'
 | For tg it body el p =>
  have h':(if zcz&&el.isEmpty then (ziX G rc nm N tg it).bind fun i=>(tgG true nm N N.length tg).bind fun t=>(rs zcz body).bind fun b=>some (zlO t i b) else none)=some f:=h;split at h'
  ·rename_i hf;rw [yaa] at hf;obtain rfl:=ycn.mp hf.2;obtain ⟨it,h1,h⟩:=zaa h';obtain ⟨t,h2,h⟩:=zaa h;obtain ⟨fb,h3,h⟩:=zaa h;cases h;obtain ⟨i1,i2⟩:=zkC hs g.gx (tg:=_) h1;exact zqP (g.own hf.1) g.gx.calm i1 (zoe g.gx g.sto h2) (hr zcz X E g _ fb h3) (zfp i2)
  ·cases h'
 | Raise ea eb p =>
  have h':rzG G rc nm N zcz ea eb=some f:=h;unfold rzG at h';split at h'
  ·rename_i hb;obtain rfl:=Option.isNone_iff_eq_none.mp hb;obtain ⟨e0,e1,hz⟩:=zaa h';obtain ⟨c0,h1,hy⟩:=zaa hz;obtain ⟨⟨c,p⟩,h2,hx⟩:=zaa hy;have e2:=ziv h1;obtain ⟨fn,args,kws,cp⟩:=c0;have e3:fn=.Name c p:=zcV h2;clear h h' hz hy h1 h2;subst e1;subst e2;subst e3;dsimp only at hx ⊢;split at hx
   ·rename_i hf;simp only [yaa] at hf;obtain ⟨⟨⟨⟨k0,a0⟩,f0⟩,g0⟩,x0⟩:=hf;obtain rfl:=ycn.mp k0
    cases args with
    | nil=>cases a0
    | cons e es =>
    obtain ⟨fs,h1,h⟩:=zaa hx;cases h;obtain ⟨g1,g2,_⟩:=g.gx.glob g0;obtain ⟨m,z⟩:=g.gx.gok.exc c x0;obtain ⟨a1,a2,_⟩:=zd8 hs g.gx h1;rw [ya2,yaa] at a2;refine PS.imp (zj4 (g.raises f0) g.gx.calm g1 m z a1 (zbh a2.1) (zbl a2.2) g2) ?_;rintro De σ H ⟨B,w,ρ,S,rfl,R,q⟩;refine ⟨B,w,ρ,S,rfl,R,?_⟩;unfold sRz at q
    cases hv:zao fs ρ S with
    | bad=>rwa [hv] at q
    | exc c S1=>rw [hv] at q;exact fun w' R' F'=>q σ w' R' F'
    | ok ds S1 =>
     rw [hv] at q;dsimp only at q
     cases hz:small ds.length with
     | false=>rw [hz,if_neg (by decide)] at q;exact q.elim
     | true =>
      rw [hz,if_pos rfl] at q;exact fun vs w' R' F' sh=>⟨by rw [sh.length];exact zaZ hz,q σ w' R' F'⟩
   ·cases hx
  ·cases h'
 | _=>cases h
theorem ziw(hd:∀st f,ds st=some f->PS X st (tS cl E own f)):∀{b:List Stmt} {f:Fs},blk ds b=some f->PSs X b (tS cl E own f)
 | [],f,h=>by cases h;exact zhR
 | s::r,f,h=>by
  unfold blk at h;obtain ⟨f1,h1,h⟩:=zaa h;obtain ⟨f2,h2,h⟩:=zaa h;cases h;exact zdv (hd s f1 h1) (ziw hd h2)
theorem zfJ:∀(n:Nat) (fl:Bool) (X:Cx) (E:St->XK),Gd cl G k X nm N E fl->∀st f,zmR G own n fl nm N st=some f->PS X st (tS cl E own f)
 | 0,_,_,_,_,_,_,h=>by cases h
 | n+1,fl,X,E,g,st,f,h=>by
  unfold zmR at h;obtain ⟨f1,h1,h⟩:=map_some h;subst h;exact ztx _ (ztw (zk2 n) (fun fl X E g b f hb=>ziw (fun st f hst=>zfJ n fl X E g st f hst) hb) g h1)
end
noncomputable def zby(nN:Nat)(own:Bool)(fs:Fs)(ds:List D)(S:Sto):Out D:=match fs (ds.map (fun d=>some (false,d))++List.replicate (nN-ds.length) none) S with
 | .rt d S'=>.ok d S'
 | .nx _ S'=>if own then .bad else .ok .non S'
 | .ex c _ S'=>.exc c S'
 | _=>.bad
def zgF(G:Genv)(own:Bool)(N:List Str)(st:Stmt):Option Fs:=blk (zmR G own 40 true (zag st).names N) (zaM st)
theorem zmE{P:Program}{wo:PySem.World}{K:PySem.W.Frag}{mg:Z6}{base:Heap}{cl:Cf}{G:Genv}{k:Nat}{x qual:Str}{st:Stmt}{f:Addr}{fd:FuncData}{N ps:List Str}{own:Bool}{fs:Fs}(F:Fun K x qual st f fd)(S:FnScope N ps (zag st))(hG:GOk cl G P wo K mg base k)
  (hk:K=cl.K) (hP:P=cl.P) (hW:wo=cl.wo) (hd:zgF G own N st=some fs) (hc:G.cod=none:=by rfl):FnOk P wo K mg base (CXE P wo) (k+1) f fd ps (zfS cl ps.length own (zby N.length own fs)):=by
 obtain ⟨oc,od,kV,doc,pm,an,cdv,ct,osl,rfl,lk,hcd⟩:=F.ex;refine zsl lk hcd S (fun vs H Q E h=>h.1) fun A outer s H vs Q E hr hsp=>?_
 refine ⟨tS cl (fun _=>E) own fs,?_,?_⟩
 ·have g:Gd cl G k (zgI (CXE P wo) P wo K mg base N qual (zag st) f cdv A outer s H E) (zag st).names N (fun _=>E) true :=
   ⟨⟨hG,hr,rfl,fun pins σ H1 s1 e s' I q=>zrB pins σ H1 s1 e s' I q,rfl,hk,hP,hW,S.nd,fun x kd h=>⟨kd,h,.inl rfl⟩,(fun x h=>h),(fun c h=>by rw [hc] at h;cases h),(fun x h=>rfl)⟩,fun _=>rfl,S.kind,rfl,fun _=>PassesOwn.leaving,fun _ C pins σ H1 s1 e h' vs I mk q=>zj1 C pins σ H1 s1 e h' vs I mk q,rfl,rfl⟩
  exact ziw (fun st f hst=>zfJ 40 true _ _ g st f hst) hd
 ·obtain ⟨hl,B,w,ds,S0,rfl,W,sh,q⟩:=hsp;have hdl:ds.length=vs.length:=sh.length.symm;refine ⟨B,w,ds.map (fun d=>some (false,d))++List.replicate (N.length-ds.length) none,S0,rfl,⟨W,?_,fun i o d hi=>?_⟩,?_⟩
  ·unfold L2.zcy;rw [yas,yas,yad,yad,yaH,yaH,hdl]
  ·by_cases hlt:i<ds.length
   ·rw [yaE (by rw [yad];exact hlt),yao] at hi
    cases hdi:ds[i]? with
    | none=>rw [hdi] at hi;cases hi
    | some d' =>
     rw [hdi] at hi;cases hi;obtain ⟨v,e1,e2⟩:=sh.at hdi;refine ⟨v,?_,e2⟩;unfold L2.zcy;rw [yaE (by rw [yad];omega),yao,e1];rfl
   ·rw [yaK (by rw [yad];omega),ybc] at hi
    split at hi<;>cases hi
  ·unfold zby at q
   cases hf:fs (ds.map (fun d=>some (false,d))++List.replicate (N.length-ds.length) none) S0 with
   | bad=>rwa [hf] at q
   | bk _ _=>rw [hf] at q;exact q.elim
   | ct _ _=>rw [hf] at q;exact q.elim
   | rt d S'=>rwa [hf] at q
   | ex c ρ' S'=>rw [hf] at q;exact fun σ' w' R' F'=>q w' R'.wd F'
   | nx ρ' S' =>
    rw [hf] at q;dsimp only at q
    cases own with
    | true=>exact q.elim
    | false=>exact fun σ' w' R' F'=>q .non w' R'.wd F' .non
noncomputable def inC(j:Nat):Stmt->Stmt | .ClassDef _ _ _ b ..=>b.getD j (.Pass ⟨0,0,0,0⟩) | s=>s
end S2
namespace L2
open PySem PySem.Spec PyProof.Rows
noncomputable def zm7(tabs:List (Addr×Addr))(H:Hp):Prop:=∀b,H b=none\/(∃o xs,H b=some (.frz o (.lst xs)))\/(H b=some (.tbl #[])/\b∈tabs.map (·.2))
def zkt{P:Program}{w:World}{K:PySem.W.Frag}{mg mb:Z6}{CX:CXT}{k:Nat}{fa a:Addr}{fd:FuncData}{x:Str}{sp:Sp}{s₁:Shared}{vs:List Value}{ns:List Int}{tabs:List (Addr×Addr)}
  (KX:K.In s₁.heap) (hns:s₁.heap.Ns mainGlobals mg) (hb:s₁.heap.Ns builtinsNs mb) (hbb:∀x:Str,x ≠ "__name__" -> mb x=bootBuiltins x) (hlim:s₁.heap.NoLimit) (hg:s₁.gens=#[])
  (ha:s₁.heap.get? a=some { cls:=.type "list",data:=.seq vs.toArray }) (hi:IntsAre vs ns) (hl:ns.length<=sizeLine) (hr:Room k callerA)
  (hT:PySem.W.TabsAt tabs s₁.heap) (hnt:PySem.W.noTabs K=true) (hbm:zm8 mg s₁.heap)
  (F:∀base:Heap,K.In base->base.Ns mainGlobals mg->zm8 mg base->(∀q∈tabs,PySem.W.CodeHd base q.1 q.2)->FnOk P w K mg base CX k fa fd [x] sp) (hbind:∀(s:Shared) (u:Value),BindsTo s fd ⟨[u],[]⟩ [(x,u)])
  (hsp:∀H:Hp,zm7 tabs H->(∀q∈tabs,H q.2=some (.tbl #[]))->(∀q∈tabs,q.2≠a)->SqL K H a (ns.map V.int)->sp [.ref a] H (fun v _=>v=.bl true) fun _ _ _=>False)
  (hCX:∀H e s',CX [] H s₁ (fun _ _ _=>False) e s'->False) :
  codeAny (model P w) callerA (.call (.ref fa) ⟨[.ref a],[]⟩) (fun r s'=>r=.ok (.ret (.bool true))/\OldK s₁.heap s'.heap/\s'.os=s₁.os/\AllBare s'.gens) s₁:=by
 have rv:=zfV hi;have lenV:=hi.length
 have tP:∀b∈tabs.map (·.2),s₁.heap.get? b=some (PySem.W.tabObj #[]):=fun b hb=>by
  obtain ⟨q,hq,rfl⟩:=yau.mp hb;exact (hT q hq).2
 have na:a ∉ tabs.map (·.2):=fun z=>by have e:=tP a z;rw [ha] at e;cases e
 have tK:∀b∈tabs.map (·.2),K.lookup b=none:=fun b hb=>by
  cases e:K.lookup b with
  | none=>rfl
  | some o =>
   have e1:=KX b o e;rw [tP b hb] at e1;cases e1;have h2:=ybs.mp hnt _ (PySem.W.mem_of_lookupK e);exact absurd (show false=true from h2) ya9
 have core:∀H:Hp,zm7 tabs H->(∀q∈tabs,H q.2=some (.tbl #[]))->SqL K H a (ns.map V.int)->HOk P w H s₁.heap->(∀b,H b≠none->b=a\/b∈tabs.map (·.2))->(H a≠none->K.lookup a=none) →
   codeAny (model P w) callerA (.call (.ref fa) ⟨[.ref a],[]⟩) (fun r s'=>r=.ok (.ret (.bool true))/\OldK s₁.heap s'.heap/\s'.os=s₁.os/\AllBare s'.gens) s₁:=by
  intro H hO hTb hS hok hA hK;have zcv:∀{b:Addr} {o:Obj},s₁.heap.get? b=some o->H b=none->(zkJ s₁.heap H).get? b=some o:=fun e n=>zmB e n
  have noX:∀{b:Addr} {o:Obj},s₁.heap.get? b=some o->(∀its n,o.data≠.seq its n)->o≠PySem.W.tabObj #[]->H b=none:=fun {b o} e d d2=>by
   cases q:H b with
   | none=>rfl
   | some u =>
    rcases hA b (by rw [q];simp) with e' | e'
    ·subst e';rw [ha] at e;cases e;exact absurd rfl (d _ _)
    ·rw [tP b e'] at e;cases e;exact absurd rfl d2
  have noA:∀{b:Addr} {o:Obj} {es:Array DictEntry} {ep:Nat},s₁.heap.get? b=some o->o.data=.dict es ep->H b=none:=fun {b o es ep} e d=>noX e (fun _ _ z=>by rw [d] at z;cases z) (fun z=>by rw [z] at d;cases d)
  have nsK:∀{b:Addr} {m:Z6},s₁.heap.Ns b m->(zkJ s₁.heap H).Ns b m:=fun {b m} ⟨o,es,ep,e,d,r⟩=>⟨o,es,ep,zcv e (noA e d),d,r⟩
  have hKb:K.In (zkJ s₁.heap H):=fun b o e=>zcv (KX b o e) (by
   cases q:H b with
   | none=>rfl
   | some u =>
    rcases hA b (by rw [q];simp) with e' | e'
    ·subst e';rw [hK (by rw [q];simp)] at e;cases e
    ·rw [tK b e'] at e;cases e)
  have hBm:zm8 mg (zkJ s₁.heap H):=by
   obtain ⟨bm,ob,b1,b2,b3,b4,b5,b6⟩:=hbm;exact ⟨bm,ob,b1,b2,zcv b3 (noX b3 (fun _ _ z=>by rw [b6] at z;cases z) (fun z=>by rw [z] at b6;cases b6)),b4,b5,b6⟩
  have hCd:∀q∈tabs,PySem.W.CodeHd (zkJ s₁.heap H) q.1 q.2:=fun q hq=>by
   obtain ⟨o,us,file,tf,flags,tg,inF,text,tt,e,r1,r2,r⟩:=(hT q hq).1;exact ⟨o,us,file,tf,flags,tg,inF,text,tt,zcv e (noX e (fun _ _ z=>by rw [r2] at z;cases z) (fun z=>by rw [z] at r1;cases r1)),r1,r2,r⟩
  have hM:Mod K mg (zkJ s₁.heap H):=⟨hKb,nsK hns,⟨mb,nsK hb,hbb⟩,let ⟨mc,h1,h2⟩:=hlim;⟨mc,nsK h1,h2⟩⟩;have e0:Env0 P w K mg (zkJ s₁.heap H) callerA [] s₁ H:=⟨rfl,hM,fun b o e=>zpj e,Nat.le_of_eq (zkI _ _),trivial,fun b hb=>absurd (show b∈([]:List Addr) from hb) (by simp),hok,.of_eq hg⟩;refine ybo ((F _ hKb (nsK hns) hBm hCd).run callerA [] s₁ H ⟨[.ref a],[]⟩ [.ref a] [.ref a] _ _ hr e0 (hbind s₁ (.ref a)) (.cons rfl .nil) (hsp H hO hTb (fun q hq z=>na (z ▸ ycw hq)) hS)) fun r s' h=>?_
  cases r with
  | error e=>exact (hCX H e s' h).elim
  | ok fl =>
   cases fl with
   | next=>exact False.elim h
   | brk=>exact False.elim h
   | cont=>exact False.elim h
   | ret u =>
    obtain ⟨v,H',os,bare,un,hok',r',q⟩:=h;have q':v=.bl true:=q;subst q';obtain rfl:u=Value.bool true:=r';refine ⟨rfl,⟨fun b o e=>?_,fun b o e=>un.there b o e (by simp)⟩,os,bare⟩
    cases q:H b with
    | none=>exact .inl (un.keep b o e q (by intro z;exact absurd (show b∈([]:List Addr) from z) (by simp)) (by simp))
    | some u =>
     rcases hO b with z | ⟨ob,xs,z⟩ | ⟨z,hb⟩
     ·rw [q] at z;cases z
     ·have z2:=un.frzs b ob _ z;obtain ⟨e1,_⟩:=hok b _ z;obtain ⟨e2,_⟩:=hok' b _ z2;rw [e] at e1;cases e1;exact .inl e2
     ·obtain ⟨more,z2⟩:=un.tbls b _ z;have e2:s'.heap.get? b=some (PySem.W.tabObj (#[]++more)):=hok' b _ z2;have e1:=tP b hb;rw [e] at e1;cases e1;obtain ⟨p,hp,rfl⟩:=yau.mp hb;exact .inr (.inl ⟨((hT p hp).1.tab (hT p hp).2).isCodeTable,rfl,#[],more,rfl,e2⟩)
 have hTO:∀(H0:Hp),HOk P w H0 s₁.heap->(∀b,H0 b≠none->b=a)->HOk P w (fun b=>if b∈tabs.map (·.2) then some (.tbl #[]) else H0 b) s₁.heap:=fun H0 h0 hA b u q=>by
  have q':(if b∈tabs.map (·.2) then some (HO.tbl #[]) else H0 b)=some u:=q;split at q'
  ·rename_i hb;cases q';exact tP b hb
  ·refine (h0 b u q').stay (fun c v _ r=>r) (fun c r=>?_) fun c xs r=>?_
   ·show (if c∈tabs.map (·.2) then _ else H0 c)=_;rw [if_neg (fun z=>na (hA c (by rw [r];simp) ▸ z))];exact r
   ·show (if c∈tabs.map (·.2) then _ else H0 c)=_;rw [if_neg (fun z=>na (hA c (by rw [r];simp) ▸ z))];exact r
 cases hk:K.lookup a with
 | some o =>
  have e:=KX a o hk;rw [ha] at e;cases e;refine core (fun b=>if b∈tabs.map (·.2) then some (.tbl #[]) else none) (fun b=>?_) (fun q hq=>if_pos (ycw hq)) (.inr ⟨_,vs.toArray,_,hk,rfl,rfl,rfl,by rw [yam,lenV];exact hl,by simpa using rv⟩) (hTO (fun _=>none) (fun b u z=>by have z':(none:Option HO)=some u:=z;cases z') fun b z=>absurd rfl z) (fun b z=>?_) fun z=>absurd (if_neg na) z
  ·by_cases hb:b∈tabs.map (·.2)
   ·exact .inr (.inr ⟨if_pos hb,hb⟩)
   ·exact .inl (if_neg hb)
  ·by_cases hb:b∈tabs.map (·.2)
   ·exact .inr hb
   ·exact absurd (if_neg hb) z
 | none =>
  have h0:HOk P w (fun b=>if b=a then some (.frz { cls:=.type "list",data:=.seq vs.toArray } (.lst (ns.map V.int))) else none) s₁.heap:=fun b u z=>by
   by_cases hb:b=a
   ·have z':=(if_pos hb).symm.trans z;cases z';subst hb;exact ⟨ha,by rw [yad];exact hl,vs,_,rv,ha⟩
   ·have z':=(if_neg hb).symm.trans z;cases z'
  refine core (fun b=>if b∈tabs.map (·.2) then some (.tbl #[]) else if b=a then some (.frz { cls:=.type "list",data:=.seq vs.toArray } (.lst (ns.map V.int))) else none) (fun b=>?_) (fun q hq=>if_pos (ycw hq)) (.inl (.inr ⟨{ cls:=.type "list",data:=.seq vs.toArray },(if_neg na).trans (if_pos rfl)⟩)) (hTO _ h0 fun b z=>?_) (fun b z=>?_) fun _=>hk
  ·by_cases hb:b∈tabs.map (·.2)
   ·exact .inr (.inr ⟨if_pos hb,hb⟩)
   ·by_cases hb2:b=a
    ·exact .inr (.inl ⟨_,_,(if_neg hb).trans (if_pos hb2)⟩)
    ·exact .inl ((if_neg hb).trans (if_neg hb2))
  ·by_cases hb:b=a
   ·exact hb
   ·exact absurd (if_neg hb) z
  ·by_cases hb:b∈tabs.map (·.2)
   ·exact .inr hb
   ·by_cases hb2:b=a
    ·exact .inl hb2
    ·exact absurd ((if_neg hb).trans (if_neg hb2)) z
def zlA{l:PySem.W.OpenLaw}{n k:Nat}{q:Program}{loose:List Str}{XP:(Str->Option Value)->Heap->Prop}{YP:World->Heap->Prop}{d:DefRec}{K:Params->PySem.W.Frag}{CX:World->CXT}{sp:World->Sp}{x:Str}{tabs:List (Addr×Addr)}
  (hn:l.most=some n) (hn2:n<=sizeLine) (hdf:d.params.defaults=[]) (hr:Room k callerA)
  (hY:∀(w:World) (h:Heap),YP w h->(K w.params).In h) (hnt:∀w:World,PySem.W.noTabs (K w.params)=true)
  (hT:∀(w:World) (mg mb:Z6) (mean:ExcName->Option Value) (h:Heap),(K w.params).In h->Top q (PySem.W.looseW q loose) mean mg mb h->PySem.W.TabsAt tabs h)
  (F:∀(w:World) (mg:Z6) (fa:Addr) (h:Heap),(K w.params).In h->h.Ns mainGlobals mg->mg d.name=some (.ref fa) →
   ∃fd:FuncData,(∀(s:Shared) (u:Value),BindsTo s fd ⟨[u],[]⟩ [(x,u)]) ∧
    ∀base:Heap,(K w.params).In base->base.Ns mainGlobals mg->zm8 mg base->(∀q∈tabs,PySem.W.CodeHd base q.1 q.2)->FnOk l.prog w (K w.params) mg base (CX w) k fa fd [x] (sp w))
  (hsp:∀(w:World) (H:Hp) (a:Addr) (ns:List Int),ns.length<=n->zm7 tabs H->(∀q∈tabs,H q.2=some (.tbl #[]))->(∀q∈tabs,q.2≠a)->SqL (K w.params) H a (ns.map V.int)->sp w [.ref a] H (fun v _=>v=.bl true) fun _ _ _=>False)
  (hCX:∀(w:World) (H:Hp) (s:Shared) (e:Value) (s':Shared),CX w [] H s (fun _ _ _=>False) e s'->False) :
  PySem.W.WalkO q loose XP YP l.row.toRowW d [] (fun f vs=>PySem.call f vs):=by
 refine Att.zhy hn hdf fun w s₀ s₁ mg mb fa o pm cd doc a vs ns G Y ho hd hcd hmg hobj hints hlen hg=>?_
 have KX:=hY w _ Y;obtain ⟨fd,hb,hF⟩:=F w mg fa _ KX G.T.g hmg;exact zkt KX G.T.g G.T.b G.T.builtins G.T.nolimit hg hobj hints (yax hlen hn2) hr (hT w mg mb _ _ KX G.T) (hnt w) G.T.bmain hF hb (fun H hO hTb hne hS=>hsp w H a ns hlen hO hTb hne hS) fun H e s'=>hCX w H s₁ e s'
end L2
namespace S2
open PySem PySem.Spec PyProof.Rows L2
structure Tab where
 con:List (Str×D)
 blt:List Str
 exc:List Str
 und:List (Str×Str)
 rz:List Str
 fk:List (Str×Str)
 df:List Str
 ds:List Str
noncomputable def zs2(rz exc:List Str)(c C:Str):Option Bool:=if rz.contains c then (if C = "ValueError" then some true else if exc.contains C then some (decide (C=c)||decide (C = "FloorError")) else none) else none
noncomputable def zqk(l:List (Str×Str))(c C:Str):Bool:=l.contains (c,C)
structure Fn3 where
 cur:Str
 fs:List (Str×FnI)
 ms:List (Str×Str×FnI)
 ks:List (Str×List D×FnI)
def Gn(T:Tab)(F:Fn3):Genv:=⟨fun x=>T.con.lookup x,fun x=>F.fs.lookup x,fun x=>T.blt.contains x,fun x=>T.exc.contains x,zqk T.und,zs2 T.rz T.exc,⟨F.cur,zqk T.fk,fun f=>T.df.contains f,fun m=>F.ms.lookup m,fun c=>F.ks.lookup c⟩,fun x=>T.ds.contains x,fun _=>none,none⟩
noncomputable def Fn3.fn(F:Fn3)(x:Str)(fi:FnI):Fn3:=⟨F.cur,(x,fi)::F.fs,F.ms,F.ks⟩
noncomputable def Fn3.mt(F:Fn3)(m c:Str)(fi:FnI):Fn3:=⟨F.cur,F.fs,(m,c,fi)::F.ms,F.ks⟩
noncomputable def Fn3.cls(F:Fn3)(c:Str)(dds:List D)(fi:FnI):Fn3:=⟨F.cur,F.fs,F.ms,(c,dds,fi)::F.ks⟩
noncomputable def Fn3.at(F:Fn3)(c:Str):Fn3:=⟨c,F.fs,F.ms,F.ks⟩
section
variable{cl:Cf}{T:Tab}{P:Program}{wo:PySem.World}{K:PySem.W.Frag}{mg:Z6}{base:Heap}{k:Nat}{fs:Fn3}
def zb2{α:Type}{a:α}{l:List (Str×α)}{b:α}(h:((x,a)::l).lookup y=some b):(y=x/\b=a)\/l.lookup y=some b:=by
 rw [yaz] at h
 cases e:y == x with
 | true=>rw [e] at h;cases h;exact .inl ⟨eq_of_beq e,rfl⟩
 | false=>rw [e] at h;exact .inr h
def zer{α:Type}{p:α->Prop}:∀x∈([]:List α),p x:=fun _ h=>nomatch h
def zav{α:Type}{p:α->Prop}{a:α}{l:List α}(h:p a)(t:∀x∈l,p x):∀x∈a::l,p x:=fun x hx=>(yat.mp hx).elim (fun e=>e ▸ h) (t x)
theorem zgn{α:Type}{a:α}:∀{l:List (Str×α)},l.lookup x=some a->(x,a)∈l
 | [],h=>by cases h
 | (y,b)::l,h=>by
  rcases zb2 h with ⟨rfl,rfl⟩ | h
  ·exact yar
  ·exact yak _ (zgn h)
noncomputable def zsT(K:PySem.W.Frag)(cl:Cf)(exc:List Str)(c:Str):Prop:=PySem.W.ExcCls K (cl c)/\PySem.W.kitOne K (.ref (cl c)) (.type "ValueError")=some true/\∀C∈exc,PySem.W.kitOne K (.ref (cl c)) (.ref (cl C))=some (decide (C=c)||decide (C = "FloorError"))
def zw5(hc:∀p∈T.con,∃v u,mg p.1=some u/\zaW v u/\∀w,Shd cl w v p.2)(hb:∀x∈T.blt,mg x=none)(he:∀c∈T.exc,mg c=some (.ref (cl c))/\PySem.W.excIn K (cl c) bmV "ValueError.__new__" = true)(hu:∀p∈T.und,L2.zqf K (cl p.1) (cl p.2))(hx:∀c∈T.rz,zsT K cl T.exc c)(hfk:∀p∈T.fk,Cls cl.K (cl p.1)/\zcj cl.K (cl p.1) p.2):GOk cl (Gn T ⟨"",[],[],[]⟩) P wo K mg base 0 where
 fk:=fun c f h=>hfk (c,f) (by simpa using (show T.fk.contains (c,f)=true from h))
 mt:=fun m c fi h=>by cases h
 mks:=fun c dds fi h=>by cases h
 tl:=fun _ _ _ h=>by cases h
 con:=fun x d h=>hc (x,d) (zgn h)
 fn:=fun x fi h=>by cases h
 blt:=fun x h=>hb x (by simpa using (show T.blt.contains x=true from h))
 exc:=fun c h=>he c (by simpa using (show T.exc.contains c=true from h))
 und:=fun c C h=>hu (c,C) (by simpa using (show T.und.contains (c,C)=true from h))
 isx:=fun c C b h=>by
  have h':zs2 T.rz T.exc c C=some b:=h;unfold zs2 at h';split at h'
  ·rename_i hc;obtain ⟨x1,x2,x3⟩:=hx c (by simpa using hc);refine ⟨x1,?_⟩;unfold clsV;split at h'
   ·rename_i hC;cases h';rw [if_pos hC];exact x2
   ·rename_i hC;rw [if_neg hC];split at h'
    ·rename_i hm;cases h';exact x3 C (by simpa using hm)
    ·cases h'
  ·cases h'
def GOk.add(g:GOk cl (Gn T fs) P wo K mg base k)(m:mg x=some (.ref f))(kp:PySem.W.keepIn K (.ref f)=true)(b:zcx K fd ps [])(F:FnOk P wo K mg base (CXE P wo) (k+1) f fd ps (zfS cl fi.ar fi.own fi.run)) :
  GOk cl (Gn T (fs.fn x fi)) P wo K mg base (k+1) where
 con:=g.con
 fn:=fun y fj h=>by
  rcases zb2 h with ⟨rfl,rfl⟩ | h
  ·exact ⟨f,fd,ps,m,kp,b,F⟩
  ·obtain ⟨f',fd',ps',h1,h2,h3,h4⟩:=g.fn y fj h;exact ⟨f',fd',ps',h1,h2,h3,h4.mono (ybg _)⟩
 blt:=g.blt
 exc:=g.exc
 und:=g.und
 isx:=g.isx
 fk:=g.fk
 tl:=fun _ _ _ h=>by cases h
 mt:=fun m c fi h=>by
  obtain ⟨f',fd',ps',h1,h2,h3,h4⟩:=g.mt m c fi h;exact ⟨f',fd',ps',h1,h2,h3,h4.mono (ybg _)⟩
 mks:=fun c dds fi h=>by
  obtain ⟨f',fd',ps',dvs,ds,k',hk,z⟩:=g.mks c dds fi h;exact ⟨f',fd',ps',dvs,ds,k',Nat.le_succ_of_le hk,z⟩
theorem GOk.at(g:GOk cl (Gn T fs) P wo K mg base k)(c:Str):GOk cl (Gn T (fs.at c)) P wo K mg base k:=⟨g.con,g.fn,g.blt,g.exc,g.und,g.isx,g.fk,g.mt,g.mks,fun _ _ _ h=>by cases h⟩
def GOk.up(g:GOk cl (Gn T fs) P wo K mg base k)(hk:k<=k'):GOk cl (Gn T fs) P wo K mg base k' where
 con:=g.con
 fn:=fun y fj h=>by
  obtain ⟨f',fd',ps',h1,h2,h3,h4⟩:=g.fn y fj h;exact ⟨f',fd',ps',h1,h2,h3,h4.mono hk⟩
 blt:=g.blt
 exc:=g.exc
 und:=g.und
 isx:=g.isx
 fk:=g.fk
 tl:=fun _ _ _ h=>by cases h
 mt:=fun m c fi h=>by
  obtain ⟨f',fd',ps',h1,h2,h3,h4⟩:=g.mt m c fi h;exact ⟨f',fd',ps',h1,h2,h3,h4.mono hk⟩
 mks:=fun c dds fi h=>by
  obtain ⟨f',fd',ps',dvs,ds,j,hj,z⟩:=g.mks c dds fi h;exact ⟨f',fd',ps',dvs,ds,j,yax hj hk,z⟩
def GOk.addM(g:GOk cl (Gn T fs) P wo K mg base k)(cc:Cls K (cl c))(hm:Meth K (cl c) m f)(b:zcx K fd ps [])(F:FnOk P wo K mg base (CXE P wo) k f fd ps (zfS cl fi.ar fi.own fi.run)) :
  GOk cl (Gn T (fs.mt m c fi)) P wo K mg base k where
 con:=g.con
 fn:=g.fn
 blt:=g.blt
 exc:=g.exc
 und:=g.und
 isx:=g.isx
 fk:=g.fk
 tl:=fun _ _ _ h=>by cases h
 mt:=fun m' c' fi' h=>by
  rcases zb2 h with ⟨rfl,e⟩ | h
  ·cases e;exact ⟨f,fd,ps,cc,hm,b,F⟩
  ·exact g.mt m' c' fi' h
 mks:=g.mks
def GOk.addK(g:GOk cl (Gn T fs) P wo K mg base k)(hk:k'+1<=k)(hm:mg c=some (.ref (cl c)))(M:Mk K (cl c) f)(b0:zcx K fd ps [])(bD:zcx K fd ps ds)(vd:Vals dvs ds)(sd:∀w,Shds cl w dvs dds)(F:FnOk P wo K mg base (CXE P wo) k' f fd ps (zfS cl fi.ar false fi.run)) :
  GOk cl (Gn T (fs.cls c dds fi)) P wo K mg base k where
 con:=g.con
 fn:=g.fn
 blt:=g.blt
 exc:=g.exc
 und:=g.und
 isx:=g.isx
 fk:=g.fk
 tl:=fun _ _ _ h=>by cases h
 mt:=g.mt
 mks:=fun c' dds' fi' h=>by
  rcases zb2 h with ⟨rfl,e⟩ | h
  ·cases e;exact ⟨f,fd,ps,dvs,ds,k',hk,hm,M,b0,bD,vd,sd,F⟩
  ·exact g.mks c' dds' fi' h
def zle{C:Addr}{b:List Value}{i:String}(x:PySem.W.excIn K C b i=true):(PySem.W.clsIn K C).isSome=true/\PySem.W.typeIn K (.ref C)=some (.type "type"):=by
 unfold PySem.W.excIn at x;split at x
 ·rename_i d cd sl e;refine ⟨?_,?_⟩
  ·unfold PySem.W.clsIn;rw [e];rfl
  ·show (K.lookup C).map (·.cls)=_;rw [e];rfl
 ·cases x
def zfj{C:Addr}{el:Value}{ed:Option Addr}{ec:ClassData}{es:Array (Option Value)}{m:List Value}{v:Value}(lk:K.lookup C=some ⟨el,ed,.cls ec,es⟩)(mr:ec.mro=.ref C::m):PySem.W.subIn K (.ref C) v=some ((Value.ref C::m).contains v):=by
 show PySem.W.mroIn K C v=_;unfold PySem.W.mroIn PySem.W.clsIn;rw [lk];show (if ec.mro.isEmpty then none else some (ec.mro.contains v))=_;rw [mr];rfl
def zjZ{a b:Addr}(h:a≠b):(Value.ref a == Value.ref b)=false:=Bool.eq_false_iff.mpr fun z=>h (Value.ref.inj (ybH.mp z))
theorem zpv{C F:Addr}{el:Value}{ed:Option Addr}{ec:ClassData}{es:Array (Option Value)}(lk:K.lookup C=some ⟨el,ed,.cls ec,es⟩)(mr:ec.mro=.ref C::.ref F::bmV):PySem.W.kitOne K (.ref C) (.type "ValueError")=some true:=by
 have h1:PySem.W.kitMeta "ValueError" = true:=by decide +kernel
 have h0:(Value.ref C == Value.type "ValueError")=false:=by with_unfolding_all rfl
 unfold PySem.W.kitOne PySem.W.kitCls;simp only [h0,h1,zfj lk mr];simp
def zpw{C D F:Addr}{el:Value}{ed:Option Addr}{ec:ClassData}{es:Array (Option Value)}{b:List Value}{i:String}(lk:K.lookup C=some ⟨el,ed,.cls ec,es⟩)(mr:ec.mro=.ref C::.ref F::bmV)(x:PySem.W.excIn K D b i=true):PySem.W.kitOne K (.ref C) (.ref D)=some (decide (D=C)||decide (D=F)):=by
 by_cases h:D=C
 ·subst h;unfold PySem.W.kitOne;rw [if_pos (ybr _)];simp
 ·obtain ⟨h1,h2⟩:=zle x;have h0:=zjZ (fun z=>h z.symm:C≠D);unfold PySem.W.kitOne PySem.W.kitCls;simp only [h0,h1,h2,zfj lk mr];have e1:(Value.ref D == Value.ref C)=false:=zjZ h;simp only [yb4,e1,Bool.false_or,yaJ,ybI,ybr,ycO,yck,h,decide_false]
  by_cases h4:D=F
  ·subst h4;simp
  ·have e2:(Value.ref D == Value.ref F)=false:=zjZ h4;simp only [e2,Bool.false_or,h4,decide_false,Option.some.injEq]
   with_unfolding_all rfl
def zkm{c:ClassData}{C F:Addr}{m:List Value}(h:c.mro=.ref C::.ref F::m):c.mro.contains (.ref F)=true:=by
 rw [h,yb4,yb4,ybr,Bool.true_or,Bool.or_true]
def zn0{L:List (Str×Addr)}:∀{C:Str},C∈L.map (·.1)->∃a,L.lookup C=some a/\(C,a)∈L:=by
 induction L with
 | nil=>intro C h;simp at h
 | cons p L ih =>
  intro C h;rw [yaz]
  cases e:C == p.1 with
  | true=>exact ⟨p.2,rfl,by rw [eq_of_beq e];exact yar⟩
  | false =>
   have:C∈L.map (·.1):=by
    rw [yaw,yat] at h
    rcases h with h | h
    ·rw [h] at e;simp at e
    ·exact h
   obtain ⟨a,h1,h2⟩:=ih this;exact ⟨a,h1,yak _ h2⟩
theorem zjx:∀{L:List (Str×Addr)},(L.map (·.2)).Nodup->∀{C c:Str} {a:Addr},(C,a)∈L->(c,a)∈L->C=c
 | [],_,_,_,_,h,_=>by simp at h
 | p::L,nd,C,c,a,h,h'=>by
  rw [yaw,ya7] at nd;rw [yat] at h h'
  rcases h with h | h<;>rcases h' with h' | h'
  ·rw [<-h'] at h;exact (Prod.mk.inj h).1
  ·exact absurd (yau.mpr ⟨_,h',by rw [<-h]⟩) nd.1
  ·exact absurd (yau.mpr ⟨_,h,by rw [<-h']⟩) nd.1
  ·exact zjx nd.2 h h'
def zsP{L:List (Str×Addr)}(nd:(L.map (·.2)).Nodup){C c:Str}(hC:C∈L.map (·.1))(hc:c∈L.map (·.1)):(L.lookup C).getD 0=(L.lookup c).getD 0↔C=c:=by
 obtain ⟨a,h1,h2⟩:=zn0 hC;obtain ⟨b,h3,h4⟩:=zn0 hc;rw [h1,h3];constructor
 ·intro e;have:a=b:=e;subst this;exact zjx nd h2 h4
 ·rintro rfl;rw [h1] at h3;cases h3;rfl
def znM{c:Str}{cl:Cf}{exc:List Str}{F:Addr}{el:Value}{ed:Option Addr}{ec:ClassData}{es:Array (Option Value)}
  (lk:K.lookup (cl c)=some ⟨el,ed,.cls ec,es⟩) (mr:ec.mro=.ref (cl c)::.ref F::bmV) (hF:cl "FloorError" = F)
  (ga:PySem.W.findIn K (.ref (cl c)) "__getattribute__" = some (some (.builtin "BaseException.__getattribute__"))) (gt:PySem.W.findIn K (.ref (cl c)) "__getattr__" = some none) (cc:PySem.W.findIn K (.ref (cl c)) "__class__" = some (some (.builtin "object.__class__")))
  (hx:∀C∈exc,PySem.W.excIn K (cl C) bmV "ValueError.__new__" = true) (hi:∀C∈exc,(cl C=cl c↔C=c)/\(cl C=cl "FloorError" ↔ C = "FloorError")):zsT K cl exc c:=by
 refine ⟨⟨ga,gt,cc,?_,?_,_,_,_,_,lk⟩,zpv lk mr,fun C hC=>?_⟩
 ·rw [zfj lk mr];simp
 ·rw [zfj lk mr];simp
 ·rw [zpw lk mr (hx C hC)];obtain ⟨i1,i2⟩:=hi C hC;rw [hF] at i2;simp only [i1,i2]
end
noncomputable def zhT(K:PySem.W.Frag)(tabs:List (Addr×Addr)):Sp:=fun vs H Q _=>∃(a:Addr) (ns:List Int),vs=[.ref a]/\ns.length<=63/\zm7 tabs H/\(∀q∈tabs,H q.2=some (.tbl #[]))/\(∀q∈tabs,q.2≠a)/\SqL K H a (ns.map V.int)/\∀H',Q (.bl true) H'
def zpq{cl:Cf}{tabs:List (Addr×Addr)}(hc:∀P q,cl.tabs P=some q->P∈tabs.map (·.2)){run:List D->Sto->Out D}(hr:∀l:List Int,l.length<=63->∃S,run [.scr l] []=.ok (.bl true) S):∀vs H Q E,zhT cl.K tabs vs H Q E->zfS cl 1 false run vs H Q E:=by
 rintro vs H Q E ⟨a,ns,rfl,hl,hO,hT,hne,hS,q⟩
 have na:a ∉ tabs.map (·.2):=fun z=>by obtain ⟨p,hp,e⟩:=yau.mp z;exact hne p hp e
 refine ⟨rfl,⟨fun _=>none,fun _=>none⟩,⟨H,fun b=>if b∈tabs.map (·.2) then some .tab else none,[]⟩,[.scr ns],[],rfl,⟨(fun a o h=>by cases h),(fun a r h=>.inr rfl),rfl,(fun n ob h=>by simp at h),fun P w h=>?_⟩,.cons ?_ .nil,?_⟩
 ·have hP:=hc P w h;obtain ⟨p,hp,rfl⟩:=yau.mp hP;exact ⟨#[],hT p hp,if_pos hP,trivial,fun pos cv e=>by cases e⟩
 ·rcases hS with (hS | ⟨o,hS⟩) | hS
  ·rcases hO a with z | ⟨o,xs,z⟩ | ⟨z,_⟩
   ·rw [hS] at z;cases z
   ·rw [hS] at z;cases z
   ·rw [hS] at z;cases z
  ·exact .scr hS (if_neg na)
  ·exact .scrK fun H=>.inr hS
 ·obtain ⟨S',e⟩:=hr ns hl;rw [e];intro v w' _ _ r;have r':Shd cl w' v (.bl true):=r;cases r';exact q _
noncomputable abbrev Rn:=List D->Sto->Out D
structure FnT(K:PySem.W.Frag)(x q:Str)(st:Stmt)(f:Addr):Prop where
 ex:∃(oc:Value) (od:Option Addr) (kV dc pm:Value) (an:Option Addr) (cd ct:Value) (sl:Array (Option Value)),K.lookup f=some ⟨oc,od,.func (PySem.W.fnOf x q (zaY st) (zaM st) (zag st) .none kV dc pm an cd ct),sl⟩/\PySem.W.codeIn K cd q=true/\PySem.W.keepIn K (.ref f)=true/\PySem.W.isFn K (.ref f)=true
structure GFn(K:PySem.W.Frag)(x:Str)(st:Stmt):Prop where
 ex:∃f,PySem.W.nsIn K mainGlobals x=some (some (.ref f))/\FnT K x x st f
structure MFn(K:PySem.W.Frag)(C:Addr)(m q:Str)(st:Stmt):Prop where
 ex:∃f,PySem.W.findIn K (.ref C) m=some (some (.ref f))/\FnT K m q st f
noncomputable def BB(x q:Str)(st:Stmt)(ps:List Str):Prop:=∀(kV doc pm:Value) (an:Option Addr) (cdv ct:Value) (us:List Value),us.length=ps.length->bindArgs (PySem.W.fnOf x q (zaY st) (zaM st) (zag st) .none kV doc pm an cdv ct) ⟨us,[]⟩=pure (ps.zip us)
def bb0{p:List Value->Prop}(h:p []):∀us:List Value,us.length=0->p us:=fun us e=>by rw [ybt e];exact h
def bbS{n:Nat}{p:List Value->Prop}(h:∀a:Value,∀us:List Value,us.length=n->p (a::us)):∀us:List Value,us.length=n+1->p us:=fun us e=>by
 cases us with
 | nil=>cases e
 | cons a us=>exact h a us (Nat.succ.inj e)
def bb1{p:List Value->Prop}(h:∀a0:Value,p [a0]):∀us:List Value,us.length=1->p us:=bbS fun a0=>bb0 (h a0)
def bb2{p:List Value->Prop}(h:∀a0 a1:Value,p [a0,a1]):∀us:List Value,us.length=2->p us:=bbS fun a0=>bbS fun a1=>bb0 (h a0 a1)
def bb3{p:List Value->Prop}(h:∀a0 a1 a2:Value,p [a0,a1,a2]):∀us:List Value,us.length=3->p us:=bbS fun a0=>bbS fun a1=>bbS fun a2=>bb0 (h a0 a1 a2)
def bb4{p:List Value->Prop}(h:∀a0 a1 a2 a3:Value,p [a0,a1,a2,a3]):∀us:List Value,us.length=4->p us:=bbS fun a0=>bbS fun a1=>bbS fun a2=>bbS fun a3=>bb0 (h a0 a1 a2 a3)
def bb5{p:List Value->Prop}(h:∀a0 a1 a2 a3 a4:Value,p [a0,a1,a2,a3,a4]):∀us:List Value,us.length=5->p us:=bbS fun a0=>bbS fun a1=>bbS fun a2=>bbS fun a3=>bbS fun a4=>bb0 (h a0 a1 a2 a3 a4)
def bb6{p:List Value->Prop}(h:∀a0 a1 a2 a3 a4 a5:Value,p [a0,a1,a2,a3,a4,a5]):∀us:List Value,us.length=6->p us:=bbS fun a0=>bbS fun a1=>bbS fun a2=>bbS fun a3=>bbS fun a4=>bbS fun a5=>bb0 (h a0 a1 a2 a3 a4 a5)
section
variable{cl:Cf}{T:Tab}{P:Program}{wo:PySem.World}{K:PySem.W.Frag}{mg:Z6}{base:Heap}{k:Nat}{fs:Fn3}
def FnT.un{x q:Str}{st:Stmt}{f:Addr}{ps:List Str}(p:FnT K x q st f)(b:BB x q st ps):∃fd,Fun K x q st f fd/\zcx K fd ps []/\PySem.W.keepIn K (.ref f)=true/\PySem.W.isFn K (.ref f)=true:=by
 obtain ⟨oc,od,kV,dc,pm,an,cd,ct,sl,l,c,kp,i⟩:=p.ex;have U:=zgw (st:=st) l c kp;exact ⟨_,U,U.binds b,kp,i⟩
end
open PySem
open L2 hiding D
noncomputable def zdG:Fs :=
  (zar (sFz [] (zbt (zfT (eUn (zdR "int") (zaj 0)) (eUn zcG (eUn (zdR "bool") (zaj 0))))))
  sNx)
noncomputable def zcc:List S2.D->Sto->Out S2.D:=zby 1 false zdG
noncomputable def zbL:Fs :=
  (zar (sFz [] (zbt (zfT (eUn (zdR "tuple") (zaj 0)) (zcO leD leD (zaj 1) (zaz zcH [(zaj 0)]) (zaj 2)))))
  sNx)
noncomputable def zaE:List S2.D->Sto->Out S2.D:=zby 3 false zbL
noncomputable def zda:Fs :=
  (zar (sFz [0] (zbt (zfT (eFn zcc [(zam 0)]) (zcO leD leD (zai (.int 0)) (zaj 0) (zai (.int 8))))))
  sNx)
noncomputable def zcn:List S2.D->Sto->Out S2.D:=zby 1 false zda
noncomputable def zet:Fs :=
  (zar (sFz [0,0] (zbt (zfT (eFn zaE [(zam 0),(zai (.int 4)),(zai (.int 4))]) (zaz zlz [(zcN 1 (.one 0) (zbn (zam 0)) zeI (eFn zcn [(zam 0)]) [])]))))
  sNx)
noncomputable def zcE:List S2.D->Sto->Out S2.D:=zby 1 false zet
noncomputable def zfE:Fs :=
  (zar (sFz [0] (sIf (eUn zcG (eFn zaE [(zam 0),(zai (.int 1)),(zai (.int 16))])) (zar (sFz [] (zbt (zai (.bl false)))) sNx) sNx))
  (zar (sFz [0,0] (zbt (zfT (zaz zlz [(zcN 1 (.one 0) (zbn (zam 0)) zeI (eFn zcE [(zam 0)]) [])]) (zak eqD (eUn zc9 (zam 0)) (zaz zcH [(zaj 0)])))))
  sNx))
noncomputable def zdi:List S2.D->Sto->Out S2.D:=zby 1 false zfE
noncomputable def zcK:Fs :=
  (zar (sFz [1] (zbt (zfT (eFn zcc [(zam 1)]) (zcO leD ltD (zai (.int 0)) (zaj 1) (zaz zcH [(zaj 0)])))))
  sNx)
noncomputable def zcF:List S2.D->Sto->Out S2.D:=zby 2 false zcK
noncomputable def zdp:Fs :=
  (zar (sFz [0,1] (zbt (eOr (zak zly (zaj 1) (zai .non)) (eFn zcF [(zam 0),(zam 1)]))))
  sNx)
noncomputable def zcb:List S2.D->Sto->Out S2.D:=zby 2 false zdp
noncomputable def zd2:Fs :=
  (zar (sFz [1,1,0] (zbt (zfT (eFn zaE [(zam 1),(zai (.int 1)),(zai (.int 6))]) (zaz zlz [(zcN 1 (.one 0) (zbn (zam 1)) zeI (eFn zcb [(zam 1),(zam 0)]) [0])]))))
  sNx)
noncomputable def zcU:List S2.D->Sto->Out S2.D:=zby 2 false zd2
noncomputable def zch:Fs :=
  (zar (sFz [1] (sIf (eUn zcG (eFn zaE [(zam 1),(zai (.int 1)),(zai (.int 6))])) (zar (sFz [] (zbt (zai (.bl false)))) sNx) sNx))
  (zar (sFz [1,0] (sIf (eUn zcG (zaz zlz [(zcN 1 (.one 0) (zbn (zam 1)) zeI (eFn zcU [(zam 1),(zam 0)]) [0])])) (zar (sFz [] (zbt (zai (.bl false)))) sNx) sNx))
  (zar (sFz [1,1] (zbt (zaz zlz [(zcN 1 (.one 0) (zbn (zam 1)) zeI (zak eqD (zaz zcH [(zaj 0)]) (zaz zcH [(zak ixD (zaj 1) (zai (.int 0)))])) [1])])))
  sNx)))
noncomputable def zaR:List S2.D->Sto->Out S2.D:=zby 2 false zch
noncomputable def zes:Fs :=
  (zar (sFz [] (zc3 1 false (eIf (zak gtD (zaz zcH [(zaj 0)]) (zai (.int 0))) (zaz zcH [(zak ixD (zaj 0) (zai (.int 0)))]) (zai (.int 0)))))
  (zar (sFz [1] (zbt (zd4 [(zaz zcH [(zaj 0)]),(zam 1)])))
  sNx))
noncomputable def zbQ:List S2.D->Sto->Out S2.D:=zby 2 false zes
noncomputable def zd3:Fs :=
  (zar (sFz [0,1] (sIf (zak neD (zak ixD (eFn zbQ [(zam 0)]) (zai (.int 0))) (zak ixD (eFn zbQ [(zam 1)]) (zai (.int 0)))) (zar (sFz [] (sRz "Unlike" [(zai (.str "the floors have not as many rows"))])) sNx) sNx))
  (zar (sFz [0,1] (zbt (zaz zcB [(zcN 2 (.tup [0,1]) (zqs (zam 0) (zam 1)) zeI (zak zci (zaj 0) (zaj 1)) [])])))
  sNx))
noncomputable def zbH:List S2.D->Sto->Out S2.D:=zby 2 false zd3
noncomputable def zfF:Fs :=
  (zar (sFz [0,1] (sIf (zak neD (zak ixD (eFn zbQ [(zam 0)]) (zai (.int 1))) (zak ixD (eFn zbQ [(zam 1)]) (zai (.int 1)))) (zar (sFz [] (sRz "Unlike" [(zai (.str "the floors have not as many columns"))])) sNx) sNx))
  (zar (sFz [] (zbt (zak zci (zaj 0) (zaj 1))))
  sNx))
noncomputable def zco:List S2.D->Sto->Out S2.D:=zby 2 false zfF
noncomputable def zgA:Fs :=
  (zar (sFz [] (sIf (eOr (eUn zcG (eUn (zdR "str") (zaj 0))) (eUn zcG (zcO leD leD (zai (.int 1)) (zaz zcH [(zaj 0)]) (zai (.int 6))))) (zar (sFz [] (zbt (zai (.bl false)))) sNx) sNx))
  (zar (sFz [0] (zbt (zaz zlz [(zcN 1 (.one 0) (zbn (zam 0)) zeI (zcO leD leD (zai (.str "a")) (zaj 0) (zai (.str "z"))) [])])))
  sNx))
noncomputable def zdj:List S2.D->Sto->Out S2.D:=zby 1 false zgA
noncomputable def zbC:Fs :=
  (zar (sFz [0] (sIf (eUn zcG (eFn zdj [(zam 0)])) (zar (sFz [] (sRz "NoName" [(zai (.str "this is no name"))])) sNx) sNx))
  sNx)
noncomputable def zaP:List S2.D->Sto->Out S2.D:=zby 1 false zbC
noncomputable def zbD:Fs :=
  (zar (sFz [1] (sIf (eUn zcG (eFn zdi [(zam 1)])) (zar (sFz [] (sRz "Unlike" [(zai (.str "this is no set"))])) sNx) sNx))
  (zar (sFz [1] (zjK "Album" "tiles" (zam 0) (zam 1)))
  (zar (sFz [] (zjL "Album" "named" 0))
  (zar (sFz [] (zeK "Album" "done" 0))
  (zar (sFz [] (zeK "Album" "undone" 0))
  sNx)))))
noncomputable def zaQ:List S2.D->Sto->Out S2.D:=zby 2 false zbD
noncomputable def zaV:Fs :=
  (zar (sFz [] (sIf (zak zly (zaj 2) (zai .non)) (zar (sFz [1] (ziI "Album" "named" 0 (zbw 1))) sNx) (zar (sFz [2] (ziH "Album" "named" 0 (zbw 1) (zbw 2))) sNx)))
  sNx)
noncomputable def zaF:List S2.D->Sto->Out S2.D:=zby 3 false zaV
noncomputable def zdH:Fs :=
  (zar (sFz [1,2,2,3] (ziJ "Album" "done" 0 [(zbw 1),(zbw 2),(zgd "Album" "named" 0 (zbw 2)),(zbw 3)]))
  (zar (sFz [] (zeK "Album" "undone" 0))
  (zar (sFz [2,3] (zjM (zbf "Album" "name_floor" zaF (zam 0) [(zam 2),(zam 3)])))
  sNx)))
noncomputable def zbN:List S2.D->Sto->Out S2.D:=zby 4 false zdH
noncomputable def zdc:Fs :=
  (zar (sFz [1] (zjM (eFn zaP [(zam 1)])))
  (zar (sFz [2] (sIf (eUn zcG (eFn zaR [(znS "Album" "tiles" (zam 0)),(zam 2)])) (zar (sFz [] (sRz "Unlike" [(zai (.str "this is no floor of the set"))])) sNx) sNx))
  (zar (sFz [] (zc3 3 false (eQ (zl0 "Album" "named" 0 (zbw 1)))))
  (zar (sFz [1,2] (zjM (zbf "Album" "do" zbN (zam 0) [(zai (.str "put")),(zam 1),(zam 2)])))
  (zar (sFz [3] (zbt (zam 3)))
  sNx)))))
noncomputable def zaH:List S2.D->Sto->Out S2.D:=zby 4 false zdc
noncomputable def zbc:Fs :=
  (zar (sFz [1] (sIf (eOr (eUn zcG (eFn zdj [(zam 1)])) (eQ (zeN "Album" "named" 0 (zbw 1)))) (zar (sFz [] (sRz "NoName" [(zai (.str "no floor has this name"))])) sNx) sNx))
  (zar (sFz [] (zbt (eQ (zoV "Album" "named" 0 (zbw 1)))))
  sNx))
noncomputable def zaq:List S2.D->Sto->Out S2.D:=zby 2 false zbc
noncomputable def zb4:Fs :=
  (zar (sFz [1] (zc3 2 false (zbf "Album" "floor_of" zaq (zam 0) [(zam 1)])))
  (zar (sFz [1] (zjM (zbf "Album" "do" zbN (zam 0) [(zai (.str "take")),(zam 1),(zai .non)])))
  (zar (sFz [2] (zbt (zam 2)))
  sNx)))
noncomputable def zax:List S2.D->Sto->Out S2.D:=zby 3 false zb4
noncomputable def zaB:Fs :=
  (zar (sFz [1] (zjM (eFn zaP [(zam 1)])))
  (zar (sFz [2] (zc3 5 false (zbf "Album" "floor_of" zaq (zam 0) [(zam 2)])))
  (zar (sFz [3] (zc3 6 false (zbf "Album" "floor_of" zaq (zam 0) [(zam 3)])))
  (zar (sFz [4,5,6,5,6] (zc3 7 false (eIf (zam 4) (eFn zbH [(zam 5),(zam 6)]) (eFn zco [(zam 5),(zam 6)]))))
  (zar (sFz [7] (sIf (eUn zcG (eFn zaR [(znS "Album" "tiles" (zam 0)),(zam 7)])) (zar (sFz [] (sRz "Unlike" [(zai (.str "both together are no floor"))])) sNx) sNx))
  (zar (sFz [1,7] (zjM (zbf "Album" "do" zbN (zam 0) [(zai (.str "join")),(zam 1),(zam 7)])))
  (zar (sFz [7] (zbt (zam 7)))
  sNx)))))))
noncomputable def zah:List S2.D->Sto->Out S2.D:=zby 8 false zaB
noncomputable def zct:Fs :=
  (zar (sFz [] (zbt (zi4 "Album" "named" 0)))
  sNx)
noncomputable def zbk:List S2.D->Sto->Out S2.D:=zby 1 true zct
noncomputable def zb9:Fs :=
  (zar (sFz [] (zbt (znS "Album" "tiles" (zam 0))))
  sNx)
noncomputable def zbx:List S2.D->Sto->Out S2.D:=zby 1 false zb9
noncomputable def zcs:Fs :=
  (zar (sFz [] (zbt (zd4 [(zfH "Album" "done" 0),(zfH "Album" "undone" 0)])))
  sNx)
noncomputable def zbJ:List S2.D->Sto->Out S2.D:=zby 1 false zcs
noncomputable def zbX:Fs :=
  (zar (sFz [] (sIf (zak ltD (zaj 1) (zaz zcH [(zaj 0)])) (zar (sFz [] (zbt (zak ixD (zaj 0) (zaj 1)))) sNx) sNx))
  (zar (sFz [] (sIf (zak eqD (zaj 0) (zin [])) (zar (sFz [] (zbt (zai (.int 0)))) sNx) sNx))
  (zar (sFz [] (zbt (zak zci (zak ziQ (zak ixD (zaj 0) (zak znH (zaj 1) (zaz zcH [(zaj 0)]))) (zai (.int 31))) (zaj 1))))
  sNx)))
noncomputable def zbv:List S2.D->Sto->Out S2.D:=zby 2 false zbX
noncomputable def zdb:Fs :=
  (zar (sFz [0,1] (zc3 3 false (zak znH (zak ziQ (zak zci (eFn zbv [(zam 0),(zam 1)]) (zak ziQ (zai (.int 6151)) (zak zci (zaj 1) (zai (.int 1))))) (zai (.int 40692))) (zai (.int 2147483399)))))
  (zar (sFz [] (zbt (zak znH (zak znH (zak zci (zak ziQ (zaj 3) (zaj 3)) (zak zsw (zaj 3) (zai (.int 31)))) (zai (.int 2147483629))) (zaj 2))))
  sNx))
noncomputable def zat:List S2.D->Sto->Out S2.D:=zby 4 false zdb
noncomputable def zba:Fs :=
  (zar (sFz [1,3,5,0] (zc3 6 false (zaz zcB [(zcN 1 (.one 0) (zex (zai (.int 4))) zeI (eFn zat [(zam 4),(zak zci (zak zci (zak zci (zaj 1) (zak ziQ (zai (.int 4)) (zaj 3))) (zai (.int 2))) (zaj 0)),(zam 2)]) [1,3,5,0])]))) (zar (sFz [0] (sIf (zak eqD (eFn zat [(zam 0),(zak zci (zak zci (zaj 1) (zai (.int 60))) (zaj 5)),(zai (.int 3))]) (zai (.int 0))) (zar (sFz [] (zc3 6 false (zd4 [(zak ixD (zaj 6) (zai (.int 0))),(zak ixD (zaj 6) (zai (.int 1))),(zak ixD (zaj 6) (zai (.int 0))),(zak ixD (zaj 6) (zai (.int 1)))]))) sNx) sNx)) (zar (sFz [] (sIf (zak zlx (zaj 6) (zaj 4)) (zar (sFz [6] (znl 4 (zam 6))) sNx) sNx)) sNx)))
noncomputable def zcL:Fs :=
  (zar (sFz [0,1] (zc3 3 false (zak zci (zai (.int 2)) (eFn zat [(zam 0),(zam 1),(zai (.int 2))]))))
  (zar (sFz [] (zc3 4 true (zin [])))
  (zar (sFz [0,2] (zlO (.one 5) (zex (zak zci (zai (.int 1)) (eFn zat [(zam 0),(zak zci (zaj 1) (zai (.int 1))),(zam 2)]))) zba))
  (zar (sFz [] (zbt (zaz zcB [(zaj 4)])))
  sNx))))
noncomputable def zb0:List S2.D->Sto->Out S2.D:=zby 7 false zcL
noncomputable def zbb:Fs :=
  (zar (sFz [0] (zc3 10 false (eFn zat [(zam 0),(zak zci (zak zci (zaj 1) (zak ziQ (zai (.int 7)) (zaj 7))) (zaj 9)),(zak ziQ (zaz zcH [(zaj 2)]) (zaj 5))]))) (zar (sFz [10] (znl 8 (eIf (zak ltD (zaj 10) (zaz zcH [(zaj 2)])) (zam 10) (zai .non)))) sNx))
noncomputable def zca:Fs :=
  (zar (sFz [] (zc3 8 true (zin []))) (zar (sFz [4] (zlO (.one 9) (zex (zam 4)) zbb)) (zar (sFz [] (znl 6 (zaz zcB [(zaj 8)]))) sNx)))
noncomputable def zcM:Fs :=
  (zar (sFz [] (zc3 6 true (zin [])))
  (zar (sFz [3] (zlO (.one 7) (zex (zam 3)) zca))
  (zar (sFz [] (zbt (zaz zcB [(zaj 6)])))
  sNx)))
noncomputable def zb1:List S2.D->Sto->Out S2.D:=zby 11 false zcM
noncomputable def zbW:Fs :=
  (zar (sFz [] (zc3 3 true (zin [(zai (.str "a")),(zai (.str "b")),(zai (.str "c")),(zai (.str "sheet"))])))
  (zar (sFz [0,1,0] (znk 4 5 false (zak ixD (zaj 3) (eFn zat [(zam 0),(zam 1),(zai (.int 4))])) false (eFn zat [(zam 0),(zak zci (zaj 1) (zai (.int 1))),(zai (.int 6))])))
  (zar (sFz [] (sIf (zak ltD (zaj 5) (zai (.int 3))) (zar (sFz [0,0] (znk 6 7 false (zak zci (zai (.int 1)) (eFn zat [(zam 0),(zak zci (zaj 1) (zai (.int 2))),(zai (.int 3))])) false (zak zci (zai (.int 1)) (eFn zat [(zam 0),(zak zci (zaj 1) (zai (.int 3))),(zai (.int 3))])))) (zar (sFz [4,0,2,6,7] (zbt (zd4 [(zai (.str "put")),(zam 4),(eFn zb1 [(zam 0),(zak zci (zaj 1) (zai (.int 10))),(zam 2),(zam 6),(zam 7),(zai (.int 2))])]))) sNx)) sNx))
  (zar (sFz [] (sIf (zak eqD (zaj 5) (zai (.int 3))) (zar (sFz [4] (zbt (zd4 [(zai (.str "take")),(zam 4)]))) sNx) sNx))
  (zar (sFz [0,0] (znk 8 9 false (zak ixD (zaj 3) (eFn zat [(zam 0),(zak zci (zaj 1) (zai (.int 4))),(zai (.int 4))])) false (zak ixD (zaj 3) (eFn zat [(zam 0),(zak zci (zaj 1) (zai (.int 5))),(zai (.int 4))]))))
  (zar (sFz [4,8,9,0] (zbt (zd4 [(zai (.str "join")),(zam 4),(zam 8),(zam 9),(zak eqD (eFn zat [(zam 0),(zak zci (zaj 1) (zai (.int 6))),(zai (.int 2))]) (zai (.int 0)))])))
  sNx))))))
noncomputable def zbu:List S2.D->Sto->Out S2.D:=zby 10 false zbW
noncomputable def zas:Fs :=
  (zar (sFz [0,1,0] (zc3 2 true (zaz zhq [(zcN 1 (.one 0) (zbn (zam 0)) (zak neD (zaj 0) (zak ixD (zaj 1) (zai (.int 1)))) (zd4 [(zam 0),(zak ixD (zaj 2) (zaj 0))]) [1,0])])))
  (zar (sFz [] (sIf (zak eqD (zak ixD (zaj 1) (zai (.int 0))) (zai (.str "put"))) (zar (sFz [] (zeJ 2 (zak ixD (zaj 1) (zai (.int 1))) (zak ixD (zaj 1) (zai (.int 2))))) (zar (sFz [2] (zbt (zd4 [(zam 2),(zak inD (zak ixD (zaj 1) (zai (.int 1))) (zaj 0))]))) sNx)) sNx))
  (zar (sFz [] (sIf (zak eqD (zak ixD (zaj 1) (zai (.int 0))) (zai (.str "take"))) (zar (sFz [2,0] (zbt (eIf (zak inD (zak ixD (zaj 1) (zai (.int 1))) (zaj 0)) (zd4 [(zam 2),(zak ixD (zaj 0) (zak ixD (zaj 1) (zai (.int 1))))]) (zd4 [(zam 0),(zai (.str "no name"))])))) sNx) sNx))
  (zar (sFz [] (sIf (eOr (zak zlx (zak ixD (zaj 1) (zai (.int 2))) (zaj 0)) (zak zlx (zak ixD (zaj 1) (zai (.int 3))) (zaj 0))) (zar (sFz [0] (zbt (zd4 [(zam 0),(zai (.str "no name"))]))) sNx) sNx))
  (zar (sFz [] (zeL (.tup [3,4,5]) (zd4 [(zak ixD (zaj 0) (zak ixD (zaj 1) (zai (.int 2)))),(zak ixD (zaj 0) (zak ixD (zaj 1) (zai (.int 3)))),(zak ixD (zaj 1) (zai (.int 4)))])))
  (zar (sFz [5,5] (sIf (eOr (zfT (zam 5) (zak neD (zaz zcH [(zaj 3)]) (zaz zcH [(zaj 4)]))) (zfT (eUn zcG (zam 5)) (zak neD (zaz zcH [(zak ixD (zaj 3) (zai (.int 0)))]) (zaz zcH [(zak ixD (zaj 4) (zai (.int 0)))])))) (zar (sFz [0] (zbt (zd4 [(zam 0),(zai (.str "unlike"))]))) sNx) sNx))
  (zar (sFz [] (zc3 6 false (zak zci (zaj 3) (zaj 4))))
  (zar (sFz [5] (sIf (zam 5) (zar (sFz [3,4] (zc3 6 false (zaz zcB [(zcN 1 (.one 0) (zex (zaz zcH [(zaj 3)])) zeI (zak zci (zak ixD (zaj 1) (zaj 0)) (zak ixD (zaj 2) (zaj 0))) [3,4])]))) sNx) sNx))
  (zar (sFz [] (sIf (eOr (zak gtD (zaz zcH [(zaj 6)]) (zai (.int 6))) (zak gtD (zaz zcH [(zak ixD (zaj 6) (zai (.int 0)))]) (zai (.int 6)))) (zar (sFz [0] (zbt (zd4 [(zam 0),(zai (.str "unlike"))]))) sNx) sNx))
  (zar (sFz [6] (zeJ 2 (zak ixD (zaj 1) (zai (.int 1))) (zam 6)))
  (zar (sFz [2,6] (zbt (zd4 [(zam 2),(zam 6)])))
  sNx)))))))))))
noncomputable def zab:List S2.D->Sto->Out S2.D:=zby 7 false zas
noncomputable def zcr:Fs :=
  (zar (sFz [0] (zbt (zaz zhq [(zcN 1 (.one 0) (zbn (zbf "Album" "names" zbk (zam 0) [])) zeI (zd4 [(zam 0),(zbf "Album" "floor_of" zaq (zam 1) [(zam 0)])]) [0])])))
  sNx)
noncomputable def zbI:List S2.D->Sto->Out S2.D:=zby 1 true zcr
noncomputable def Fo.seq(b:Fs):Fo->Fo | .nx ρ' S'=>b ρ' S' | o=>o
def zt9(a b:Fs)(ρ:Env):Out D->Fo | .ok d S'=>(match isB d with | some true=>a ρ S' | some false=>b ρ S' | none=>.bad) | .exc x S'=>.ex x ρ S' | .bad=>.bad
noncomputable def zuc(i:Nat)(o:Bool)(ρ:Env):Out D->Fo | .ok d S'=>.nx (ρ.set i (some (o,d))) S' | .exc c S'=>.ex c ρ S' | .bad=>.bad
noncomputable def zvK(ρ:Env):Out D->Fo | .ok _ S'=>.nx ρ S' | .exc c S'=>.ex c ρ S' | .bad=>.bad
noncomputable def zt7(ρ:Env):Out D->Fo | .ok d S'=>.rt d S' | .exc c S'=>.ex c ρ S' | .bad=>.bad
def zpC(i:Nat)(ρ:Env)(l:List D):Out D->Fo
 | .ok d S'=>if small l.length then .nx (ρ.set i (some (true,.lst (l++[d])))) S' else .bad
 | .exc c S'=>.ex c ρ S' | .bad=>.bad
noncomputable def zvO(i:Nat)(f:Fe)(ρ:Env)(S:Sto):Option (Option (Bool×D))->Fo | some (some (true,.lst l))=>zpC i ρ l (f ρ S) | _=>.bad
noncomputable def zpz(i j:Nat)(o1 o2:Bool)(d1:D)(ρ:Env):Out D->Fo | .ok d2 S2=>.nx ((ρ.set i (some (o1,d1))).set j (some (o2,d2))) S2 | .exc c S'=>.ex c ρ S' | .bad=>.bad
noncomputable def zvF(i j:Nat)(o1 o2:Bool)(g:Fe)(ρ:Env):Out D->Fo | .ok d1 S1=>zpz i j o1 o2 d1 ρ (g ρ S1) | .exc c S'=>.ex c ρ S' | .bad=>.bad
noncomputable def zt8(S:Sto):Option Env->Fo | some ρ'=>.nx ρ' S | none=>.bad
def zpB(t:Tg)(ρ:Env):Out D->Fo | .ok d S'=>zt8 S' (t.put ρ d) | .exc c S'=>.ex c ρ S' | .bad=>.bad
noncomputable def zvI(t:Tg)(a:Fs)(ρ:Env):Out (List D)->Fo | .ok ds S'=>zhh t a ds ρ S' | .exc c S'=>.ex c ρ S' | .bad=>.bad
noncomputable def zvB(S:Sto):Option (Option (Bool×D))->Out D | some (some (false,d))=>.ok d S | _=>.bad
noncomputable def zvM(S:Sto):Option (Option (Bool×D))->Out D | some (some (_,d))=>.ok d S | _=>.bad
def kUn(u:D->Option D):Out D->Out D | .ok a S=>Out.of (u a) S | .exc c S=>.exc c S | .bad=>.bad
def zmw(u:D->D->Option D)(a:D):Out D->Out D | .ok b S=>Out.of (u a b) S | .exc c S=>.exc c S | .bad=>.bad
noncomputable def zvN(u:D->D->Option D)(g:Fe)(ρ:Env):Out D->Out D | .ok a S=>zmw u a (g ρ S) | .exc c S=>.exc c S | .bad=>.bad
def kIf(f g:Fe)(ρ:Env):Out D->Out D | .ok d S1=>(match isB d with | some true=>f ρ S1 | some false=>g ρ S1 | none=>.bad) | .exc c S=>.exc c S | .bad=>.bad
def zud(g:Fe)(ρ:Env):Out D->Out D | .ok d S1=>(match isB d with | some true=>g ρ S1 | some false=>.ok (.bl false) S1 | none=>.bad) | .exc c S=>.exc c S | .bad=>.bad
def kOr(g:Fe)(ρ:Env):Out D->Out D | .ok d S1=>(match isB d with | some true=>.ok (.bl true) S1 | some false=>g ρ S1 | none=>.bad) | .exc c S=>.exc c S | .bad=>.bad
noncomputable def zih(d:D):Out (List D)->Out (List D) | .ok ds S=>.ok (d::ds) S | .exc c S=>.exc c S | .bad=>.bad
def zsc(fs:List Fe)(ρ:Env):Out D->Out (List D) | .ok d S=>zih d (zao fs ρ S) | .exc c S=>.exc c S | .bad=>.bad
def zvC:Out (List D)->Out D | .ok ds S=>if small ds.length then .ok (.tup ds) S else .bad | .exc c S=>.exc c S | .bad=>.bad
def zvH:Out (List D)->Out D | .ok ds S=>if small ds.length then .ok (.lst ds) S else .bad | .exc c S=>.exc c S | .bad=>.bad
def zsd(u:List D->Option D):Out (List D)->Out D | .ok ds S=>Out.of (u ds) S | .exc c S=>.exc c S | .bad=>.bad
noncomputable def kFn(r:List D->Sto->Out D):Out (List D)->Out D | .ok ds S=>r ds S | .exc c S=>.exc c S | .bad=>.bad
def zek(v:D->D->Option D)(b:D):Out D->Out D | .ok c S=>Out.of (v b c) S | .exc c S=>.exc c S | .bad=>.bad
def zej(v:D->D->Option D)(h:Fe)(ρ:Env)(b:D)(S:Sto):Option D->Out D | some d=>(match isB d with | some true=>zek v b (h ρ S) | some false=>.ok (.bl false) S | none=>.bad) | none=>.bad
noncomputable def zfv(u v:D->D->Option D)(h:Fe)(ρ:Env)(a:D):Out D->Out D | .ok b S=>zej v h ρ b S (u a b) | .exc c S=>.exc c S | .bad=>.bad
noncomputable def znJ(u v:D->D->Option D)(g h:Fe)(ρ:Env):Out D->Out D | .ok a S=>zfv u v h ρ a (g ρ S) | .exc c S=>.exc c S | .bad=>.bad
noncomputable def zwX:Out D->Out (Option Int) | .ok (.int i) S=>.ok (some i) S | .ok _ _=>.bad | .exc c S=>.exc c S | .bad=>.bad
def zvD(d:D)(l:Option Int):Out (Option Int)->Out D | .ok u S=>Out.of (slD d l u) S | .exc c S=>.exc c S | .bad=>.bad
def zvE(d:D)(u:Option Fe)(ρ:Env):Out (Option Int)->Out D | .ok l S=>zvD d l (zdS u ρ S) | .exc c S=>.exc c S | .bad=>.bad
def kSl(l u:Option Fe)(ρ:Env):Out D->Out D | .ok d S=>zvE d u ρ (zdS l ρ S) | .exc c S=>.exc c S | .bad=>.bad
def zig:Out D->Out (List D) | .ok (.str x) S=>.ok (zni x) S | .ok (.lst l) S=>.ok l S | .ok (.tup l) S=>.ok l S | .ok (.dic ds) S=>if zaf ds then .ok ((za9 ds).map D.str) S else .bad | .ok _ _=>.bad | .exc c S=>.exc c S | .bad=>.bad
def zub:Out (List D)->Out (List D) | .ok [.lst l] S=>.ok (zi3 l) S | .ok [.tup l] S=>.ok (zi3 l) S | .ok _ _=>.bad | .exc c S=>.exc c S | .bad=>.bad
def zvA:Out (List D)->Out (List D) | .ok ds S1=>(match ds with | [.tup l,.tup k]=>.ok (zfU l k) S1 | _=>.bad) | .exc c S=>.exc c S | .bad=>.bad
def zsa:Out (List D)->Out (List D) | .ok ds S1=>(match ds with | [.int j]=>if -1000000<=j/\j<=1000000 then .ok (za8 0 j) S1 else .bad | _=>.bad) | .exc c S=>.exc c S | .bad=>.bad
def zkA:Out (List D)->Out D | .ok ys S2=>if small ys.length then .ok (.lst ys) S2 else .bad | _=>.bad
def zpA(tg:Tg)(c elt:Fe)(ρ0:Env):Out (List D)->Out D | .ok ds S1=>zkA (zbY tg c elt ρ0 ds S1) | .exc c S=>.exc c S | .bad=>.bad
noncomputable def zvL:Option (Option (Bool×D))->Option (Bool×D) | some (some (false,d))=>some (false,d) | _=>none
noncomputable def zua(ρ:Env)(i:Nat):Option (Option (Bool×D))->Env | some (some (true,d))=>ρ.set i (some (false,d)) | _=>ρ
noncomputable def zs0(own:Bool):Fo->Out D | .rt d S'=>.ok d S' | .nx _ S'=>if own then .bad else .ok .non S' | .ex c _ S'=>.exc c S' | _=>.bad
def kRz(c:Str)(ρ:Env):Out (List D)->Fo | .ok ds S'=>if small ds.length then .ex c ρ S' else .bad | .exc x S'=>.ex x ρ S' | .bad=>.bad
def zvG(u:List D->D->Option D)(l:List D):Out D->Out D | .ok d S=>Out.of (u l d) S | .exc c S=>.exc c S | .bad=>.bad
noncomputable def kMt(u:List D->D->Option D)(f:Fe)(ρ:Env)(S:Sto):Option (Option (Bool×D))->Out D | some (some (_,.lst l))=>zvG u l (f ρ S) | _=>.bad
section
variable{ρ:Env}{S:Sto}{f g h k c:Fe}{a b:Fs}
@[simp] def zwf:eMt u i f ρ S=kMt u f ρ S ρ[i]?:=by
 show (match ρ[i]? with | some (some (_,.lst l))=>(f ρ S).bind fun d S1=>Out.of (u l d) S1 | _=>.bad)=_
 cases ρ[i]? with
 | none=>rfl
 | some o=>cases o with
  | none=>rfl
  | some p =>
   obtain ⟨b,d⟩:=p
   cases d with
   | lst l=>show ((f ρ S).bind fun d S1=>Out.of (u l d) S1)=zvG u l (f ρ S);cases f ρ S<;>rfl
   | _=>rfl
@[simp] def zuH:zar a b ρ S=(a ρ S).seq b:=by
 show (match a ρ S with | .nx ρ' S'=>b ρ' S' | o=>o)=_
 cases a ρ S<;>rfl
@[simp] def zvf:(Fo.nx ρ S).seq b=b ρ S:=(rfl)
@[simp] def zve:(Fo.rt d S).seq b=.rt d S:=(rfl)
@[simp] def zvd:(Fo.ex x ρ S).seq b=.ex x ρ S:=(rfl)
@[simp] def zth:zmK ρ S=.ok (.dic []) S:=(rfl)
def zj3{i:Nat}{fk fe:Fe}{ds:List (D×D)}{d:D}{x:Str}{S1 S2:Sto}(h:ρ[i]?=some (some (true,.dic ds)))(ho:zaf ds=true)(hl:ds.length<=100000)(he:fe ρ S=.ok d S1)(hk:fk ρ S1=.ok (.str x) S2):zeJ i fk fe ρ S=.nx (ρ.set i (some (true,.dic (putS x d ds)))) S2:=by
 unfold zeJ zjz;rw [h];dsimp only;rw [ho,show small ds.length=true from yaC hl]
 show (match fe ρ S with
  | .ok d S1=>(match fk ρ S1 with
   | .ok k S2=>(match k with
    | .str x=>Fo.nx (ρ.set i (some (true,.dic (putS x d ds)))) S2
    | _=>.bad)
   | .exc c S2=>.ex c ρ S2 | .bad=>.bad)
  | .exc c S1=>.ex c ρ S1 | .bad=>.bad)=_
 rw [he];dsimp only;rw [hk]
@[simp] def zv2:sFz is a ρ S=a (frz is ρ) S:=(rfl)
@[simp] def zuU:frz [] ρ=ρ:=(rfl)
@[simp] def zuT:frz (i::is) ρ=frz is (frz1 ρ i):=(rfl)
@[simp] def zwa(i:Nat):frz1 ρ i=zua ρ i ρ[i]?:=(rfl)
@[simp] def zvr:zua ρ i (some (some (true,d)))=ρ.set i (some (false,d)):=(rfl)
@[simp] def zvq:zua ρ i (some (some (false,d)))=ρ:=(rfl)
@[simp] def zv0:sNx ρ S=.nx ρ S:=(rfl)
@[simp] def zuM:zc3 i o f ρ S=zuc i o ρ (f ρ S):=(rfl)
@[simp] def zvw:zuc i o ρ (.ok d S)=.nx (ρ.set i (some (o,d))) S:=(rfl)
@[simp] def zvv:zuc i o ρ (.exc x S)=.ex x ρ S:=(rfl)
@[simp] def zuL:zjM f ρ S=zvK ρ (f ρ S):=(rfl)
@[simp] def zvs:zvK ρ (.ok d S)=.nx ρ S:=(rfl)
@[simp] def zuI:zbt f ρ S=zt7 ρ (f ρ S):=(rfl)
@[simp] def zvl:zt7 ρ (.ok d S)=.rt d S:=(rfl)
@[simp] def zvk:zt7 ρ (.exc x S)=.ex x ρ S:=(rfl)
@[simp] def zv1:sIf c a b ρ S=zt9 a b ρ (c ρ S):=(rfl)
@[simp] def zvp:zt9 a b ρ (.ok (.bl true) S)=a ρ S:=(rfl)
@[simp] def zvo:zt9 a b ρ (.ok (.bl false) S)=b ρ S:=(rfl)
@[simp] def zuN:znl i f ρ S=zvO i f ρ S ρ[i]?:=(rfl)
@[simp] def zwW:zvO i f ρ S (some (some (true,.lst l)))=zpC i ρ l (f ρ S):=(rfl)
@[simp] def zvx:zpC i ρ l (.ok d S)=if small l.length then .nx (ρ.set i (some (true,.lst (l++[d])))) S else .bad:=(rfl)
@[simp] def zuJ:znk i j o1 f o2 g ρ S=zvF i j o1 o2 g ρ (f ρ S):=(rfl)
@[simp] def zwD:zvF i j o1 o2 g ρ (.ok d S)=zpz i j o1 o2 d ρ (g ρ S):=(rfl)
@[simp] def zvm:zpz i j o1 o2 d ρ (.ok e S)=.nx ((ρ.set i (some (o1,d))).set j (some (o2,e))) S:=(rfl)
@[simp] def ztc:zeL t f ρ S=zpB t ρ (f ρ S):=by
 unfold zeL zpB
 cases f ρ S with
 | ok d S'=>dsimp only;cases t.put ρ d<;>rfl
 | exc c S'=>rfl
 | bad=>rfl
@[simp] def zvu:zpB t ρ (.ok d S)=zt8 S (t.put ρ d):=(rfl)
@[simp] def zwC:zt8 S (some ρ')=.nx ρ' S:=(rfl)
@[simp] def zuK:zlO t it a ρ S=zvI t a ρ (it ρ S):=(rfl)
@[simp] def zwN:zvI t a ρ (.ok ds S)=zhh t a ds ρ S:=(rfl)
@[simp] def zvZ:sRz x fs ρ S=kRz x ρ (zao fs ρ S):=(rfl)
@[simp] def zxj:kRz x ρ (.ok ds S)=if small ds.length then .ex x ρ S else .bad:=(rfl)
@[simp] def zuP:(Tg.tup is).put ρ (.tup ds)=zdN is ds ρ:=(rfl)
@[simp] def zuR:zdN (i::is) (d::ds) ρ=zdN is ds (ρ.set i (some (false,d))):=(rfl)
@[simp] def zuQ:zdN [] [] ρ=some ρ:=(rfl)
@[simp] def zm9:zam i ρ S=zvB S ρ[i]?:=(rfl)
@[simp] def zwz:zvB S (some (some (false,d)))=.ok d S:=(rfl)
@[simp] def zhI:zaj i ρ S=zvM S ρ[i]?:=(rfl)
@[simp] def zmv:zvM S (some (some (o,d)))=.ok d S:=(rfl)
@[simp] def zhH:zai d ρ S=.ok d S:=(rfl)
@[simp] def zwc:eUn u f ρ S=kUn u (f ρ S):=by
 unfold eUn;cases f ρ S<;>rfl
@[simp] def zwA:kUn u (.ok d S)=Out.of (u d) S:=(rfl)
@[simp] def zhJ:zak u f g ρ S=zvN u g ρ (f ρ S):=by
 unfold zak
 cases f ρ S with
 | ok a S1=>show ((g ρ S1).bind fun b S2=>Out.of (u a b) S2)=zmw u a (g ρ S1);cases g ρ S1<;>rfl
 | exc c S=>rfl
 | bad=>rfl
@[simp] def zie:zvN u g ρ (.ok d S)=zmw u d (g ρ S):=(rfl)
@[simp] def zid:zmw u d (.ok e S)=Out.of (u d e) S:=(rfl)
@[simp] def zwh:eIf c f g ρ S=kIf f g ρ (c ρ S):=by
 unfold eIf;cases c ρ S<;>rfl
@[simp] def zwM:kIf f g ρ (.ok (.bl true) S)=f ρ S:=(rfl)
@[simp] def zwL:kIf f g ρ (.ok (.bl false) S)=g ρ S:=(rfl)
@[simp] def zuZ:zfT f g ρ S=zud g ρ (f ρ S):=by
 unfold zfT;cases f ρ S<;>rfl
@[simp] def zvz:zud g ρ (.ok (.bl true) S)=g ρ S:=(rfl)
@[simp] def zvy:zud g ρ (.ok (.bl false) S)=.ok (.bl false) S:=(rfl)
@[simp] def zwe:eOr f g ρ S=kOr g ρ (f ρ S):=by
 unfold eOr;cases f ρ S<;>rfl
@[simp] def zwF:kOr g ρ (.ok (.bl true) S)=.ok (.bl true) S:=(rfl)
@[simp] def zwE:kOr g ρ (.ok (.bl false) S)=g ρ S:=(rfl)
@[simp] def zte:zao [] ρ S=.ok [] S:=(rfl)
@[simp] def ztf:zao (f::fs) ρ S=zsc fs ρ (f ρ S):=by
 show ((f ρ S).bind fun d S1=>(zao fs ρ S1).bind fun ds S2=>.ok (d::ds) S2)=_
 cases f ρ S with
 | ok a S1=>show ((zao fs ρ S1).bind fun ds S2=>.ok (a::ds) S2)=zih a (zao fs ρ S1);cases zao fs ρ S1<;>rfl
 | exc c S=>rfl
 | bad=>rfl
@[simp] def zt4:zsc fs ρ (.ok d S)=zih d (zao fs ρ S):=(rfl)
@[simp] def zt3:zih d (.ok ds S)=.ok (d::ds) S:=(rfl)
@[simp] def zuW:zd4 fs ρ S=zvC (zao fs ρ S):=by
 unfold zd4;cases zao fs ρ S<;>rfl
@[simp] def zwB:zvC (.ok ds S)=if small ds.length then .ok (.tup ds) S else .bad:=(rfl)
@[simp] def zuX:zin fs ρ S=zvH (zao fs ρ S):=by
 unfold zin;cases zao fs ρ S<;>rfl
@[simp] def zwH:zvH (.ok ds S)=if small ds.length then .ok (.lst ds) S else .bad:=(rfl)
@[simp] def zti:zaz u fs ρ S=zsd u (zao fs ρ S):=by
 unfold zaz;cases zao fs ρ S<;>rfl
@[simp] def zt6:zsd u (.ok ds S)=Out.of (u ds) S:=(rfl)
@[simp] def zwi:eFn r fs ρ S=kFn r (zao fs ρ S):=by
 unfold eFn;cases zao fs ρ S<;>rfl
@[simp] def zwO:kFn r (.ok ds S)=r ds S:=(rfl)
@[simp] def zsV:zcO u v f g h ρ S=znJ u v g h ρ (f ρ S):=by
 show ((f ρ S).bind fun a S1=>(g ρ S1).bind fun b S2=>match (u a b).bind isB with
  | some true=>(h ρ S2).bind fun c S3=>Out.of (v b c) S3
  | some false=>.ok (.bl false) S2
  | none=>.bad)=_
 cases f ρ S with
 | ok a S1 =>
  show ((g ρ S1).bind fun b S2=>match (u a b).bind isB with
   | some true=>(h ρ S2).bind fun c S3=>Out.of (v b c) S3
   | some false=>.ok (.bl false) S2
   | none=>.bad)=zfv u v h ρ a (g ρ S1)
  cases g ρ S1 with
  | ok b S2 =>
   show (match (u a b).bind isB with
    | some true=>(h ρ S2).bind fun c S3=>Out.of (v b c) S3
    | some false=>.ok (.bl false) S2
    | none=>.bad)=zej v h ρ b S2 (u a b)
   cases hu:u a b with
   | none=>rfl
   | some d =>
    show (match isB d with
     | some true=>(h ρ S2).bind fun c S3=>Out.of (v b c) S3
     | some false=>.ok (.bl false) S2
     | none=>.bad)=(match isB d with | some true=>zek v b (h ρ S2) | some false=>.ok (.bl false) S2 | none=>.bad)
    cases hb:isB d with
    | none=>rfl
    | some x=>cases x with
     | true=>show ((h ρ S2).bind fun c S3=>Out.of (v b c) S3)=zek v b (h ρ S2);cases h ρ S2<;>rfl
     | false=>rfl
  | exc c S=>rfl
  | bad=>rfl
 | exc c S=>rfl
 | bad=>rfl
@[simp] def zwU:znJ u v g h ρ (.ok d S)=zfv u v h ρ d (g ρ S):=(rfl)
@[simp] def zwT:zfv u v h ρ d (.ok e S)=zej v h ρ e S (u d e):=(rfl)
@[simp] def zwS:zej v h ρ e S (some (.bl true))=zek v e (h ρ S):=(rfl)
@[simp] def zwR:zej v h ρ e S (some (.bl false))=.ok (.bl false) S:=(rfl)
@[simp] def zwQ:zek v e (.ok d S)=Out.of (v e d) S:=(rfl)
@[simp] def zsU:zdS (some f) ρ S=zwX (f ρ S):=by
 show ((f ρ S).bind fun d S1=>match d with | .int i=>.ok (some i) S1 | _=>.bad)=_
 cases f ρ S with
 | ok d S'=>cases d<;>rfl
 | exc c S'=>rfl
 | bad=>rfl
@[simp] def zwd:eSl f l u ρ S=kSl l u ρ (f ρ S):=by
 unfold eSl
 cases f ρ S with
 | ok d S1 =>
  show ((zdS l ρ S1).bind fun l S2=>(zdS u ρ S2).bind fun u S3=>Out.of (slD d l u) S3)=zvE d u ρ (zdS l ρ S1)
  cases zdS l ρ S1 with
  | ok l S2=>show ((zdS u ρ S2).bind fun u S3=>Out.of (slD d l u) S3)=zvD d l (zdS u ρ S2);cases zdS u ρ S2<;>rfl
  | exc c S=>rfl
  | bad=>rfl
 | exc c S=>rfl
 | bad=>rfl
@[simp] def ztd:zbn f ρ S=zig (f ρ S):=by
 show ((f ρ S).bind fun d S1=>match d with | .str x=>.ok (zni x) S1 | .lst l=>.ok l S1 | .tup l=>.ok l S1 | .dic ds=>if zaf ds then .ok ((za9 ds).map D.str) S1 else .bad | _=>.bad)=_
 cases f ρ S with
 | ok d S'=>cases d<;>rfl
 | exc c S'=>rfl
 | bad=>rfl
@[simp] def zwI{ds:List (D×D)}:zig (.ok (.dic ds) S)=if zaf ds then .ok ((za9 ds).map D.str) S else .bad:=(rfl)
@[simp] def zwK:zig (.ok (.lst l) S)=.ok l S:=(rfl)
@[simp] def zwJ:zig (.ok (.tup l) S)=.ok l S:=(rfl)
@[simp] def zuV:zuq f ρ S=zub (zao [f] ρ S):=by
 show ((zao [f] ρ S).bind fun ds S1=>match ds with | [.lst l]=>.ok (zi3 l) S1 | [.tup l]=>.ok (zi3 l) S1 | _=>.bad)=_
 cases zao [f] ρ S with
 | ok ds S' =>
  cases ds with
  | nil=>rfl
  | cons d ds=>cases ds with
   | nil=>cases d<;>rfl
   | cons e ds=>cases d<;>rfl
 | exc c S'=>rfl
 | bad=>rfl
@[simp] def zvY:zqs f g ρ S=zvA (zao [f,g] ρ S):=by
 unfold zqs;cases zao [f,g] ρ S<;>rfl
@[simp] def zvc{l k:List D}:zvA (.ok [.tup l,.tup k] S)=.ok (zfU l k) S:=(rfl)
@[simp] def zuO:zex f ρ S=zsa (zao [f] ρ S):=by
 unfold zex;cases zao [f] ρ S<;>rfl
@[simp] def zvj:zsa (.ok [.int j] S)=if -1000000<=j/\j<=1000000 then .ok (za8 0 j) S else .bad:=(rfl)
@[simp] def zu0:zcN n t it c f caps ρ S=zpA t c f (zbE n caps ρ) (it ρ S):=by
 unfold zcN
 cases it ρ S with
 | ok ds S' =>
  simp only [Out.bind,zpA]
  cases zbY t c f (zbE n caps ρ) ds S'<;>rfl
 | exc c S'=>rfl
 | bad=>rfl
@[simp] def zvt:zpA t c f ρ0 (.ok ds S)=zkA (zbY t c f ρ0 ds S):=(rfl)
@[simp] def zt5:zkA (.ok ys S)=if small ys.length then .ok (.lst ys) S else .bad:=(rfl)
@[simp] def zqw:zbE n caps ρ=List.replicate n none++caps.map (zfd ρ):=(rfl)
@[simp] def zu1:zfd ρ i=zvL ρ[i]?:=(rfl)
@[simp] def zwV:zvL (some (some (false,d)))=some (false,d):=(rfl)
def zau:zby n own fs ds S=zs0 own (fs (ds.map (fun d=>some (false,d))++List.replicate (n-ds.length) none) S):=(rfl)
@[simp] def zvi:zs0 own (.rt d S)=.ok d S:=(rfl)
@[simp] def zvh:zs0 false (.nx ρ S)=.ok .non S:=(rfl)
@[simp] def zvg:zs0 own (.ex x ρ S)=.exc x S:=(rfl)
@[simp] def zv9{b:Bool}:isB (.bl b)=some b:=(rfl)
@[simp] def zv3{b:Bool}:zcG (.bl b)=some (.bl (!b)):=(rfl)
@[simp] def zu3:zci (.int i) (.int j)=some (.int (i+j)):=(rfl)
@[simp] def zu2:zci (.tup x) (.tup y)=if small (x.length+y.length) then some (.tup (x++y)) else none:=(rfl)
@[simp] def zv5:ziQ (.int i) (.int j)=if zbV i||zbV j then some (.int (i*j)) else none:=(rfl)
@[simp] def zv6:znH (.int i) (.int j)=if 0<j then some (.int (i % j)) else none:=(rfl)
@[simp] def zwj:zsw (.int i) (.int j)=if 0<j/\j<1073741824 then some (.int (i / j)) else none:=(rfl)
@[simp] def zxg:ltD (.int i) (.int j)=some (.bl (decide (i<j))):=(rfl)
@[simp] def zxh:leD (.int i) (.int j)=some (.bl (decide (i<=j))):=(rfl)
@[simp] def zxi:gtD (.int i) (.int j)=some (.bl (decide (j<i))):=(rfl)
@[simp] def zv8:ixD (.lst l) (.int i)=atI l i:=(rfl)
@[simp] def zqv:ixD (.tup l) (.int i)=atI l i:=(rfl)
@[simp] def zv7:ixD (.scr l) (.int i)=(atI l i).map D.int:=(rfl)
@[simp] def zdJ:zcH [.tup l]=some (.int l.length):=(rfl)
@[simp] def zuS:zcH [.scr l]=some (.int l.length):=(rfl)
@[simp] def zuG:zcB [.lst l]=some (.tup l):=(rfl)
@[simp] def ztb:small n=decide (n<=100000):=(rfl)
def zae{α:Type}(xs:List α)(j:Nat):atI xs (j:Int)=xs[j]?:=by
 unfold atI ixN
 by_cases h:j<xs.length
 ·simp [h]
 ·simp [h]
@[simp] def zs9{α:Type}(xs:List α):atI xs 0=xs[0]?:=zae xs 0
@[simp] def zuy{α:Type}(xs:List α):atI xs 1=xs[1]?:=zae xs 1
def zix{α:Type}{xs:List α}(h:0<=i):atI xs i=xs[i.toNat]?:=by
 obtain ⟨n,rfl⟩:=yb7 h;exact zae xs n
end
theorem zfB(Iv:Nat->Env->Prop)(step:∀k d ρ,ds[k]?=some d->Iv k ρ->∃ρ1 ρ2,tg.put ρ d=some ρ1/\body ρ1 S=.nx ρ2 S/\Iv (k+1) ρ2)(h0:Iv 0 ρ):∃ρ',zhh tg body ds ρ S=.nx ρ' S/\Iv ds.length ρ':=by
 have go:∀(n:Nat) (es:List D) (k:Nat) (ρ:Env),es.length=n->ds.drop k=es->k+n=ds.length->Iv k ρ->∃ρ',zhh tg body es ρ S=.nx ρ' S/\Iv ds.length ρ':=by
  intro n
  induction n with
  | zero =>
   intro es k ρ hl he hk hi;obtain rfl:es=[]:=ybt hl;exact ⟨ρ,rfl,by rw [show ds.length=k by omega];exact hi⟩
  | succ n ih =>
   intro es k ρ hl he hk hi
   cases es with
   | nil=>cases hl
   | cons d es =>
    have hd:ds[k]?=some d:=by
     have:=congrArg (fun l=>l[0]?) he;rw [ybj] at this;simpa using this
    obtain ⟨ρ1,ρ2,e1,e2,hi2⟩:=step k d ρ hd hi;obtain ⟨ρ',e3,e4⟩:=ih es (k+1) ρ2 (by simpa using hl) (by rw [<-List.drop_drop,he];rfl) (by omega) hi2;refine ⟨ρ',?_,e4⟩;unfold zhh;rw [e1];dsimp only;rw [e2];exact e3
 exact go ds.length ds 0 ρ rfl (by simp) (by omega) h0
theorem zeC:∀{ds:List D},(∀d∈ds,∃ρ1,tg.put ρ0 d=some ρ1/\c ρ1 S=.ok (.bl (p d)) S/\(p d=true->elt ρ1 S=.ok (g d) S))->zbY tg c elt ρ0 ds S=.ok ((ds.filter p).map g) S
 | [],_=>rfl
 | d::ds,h=>by
  obtain ⟨ρ1,e1,e2,e3⟩:=h d yar;have ih:=zeC (ds:=ds) fun x hx=>h x (yak _ hx)
  unfold zbY;rw [e1];dsimp only;rw [e2]
  cases hp:p d with
  | true=>simp [e3 hp,ih,hp]
  | false=>simp [ih,hp]
def zbo(h:∀d∈ds,∃ρ1,tg.put ρ0 d=some ρ1/\elt ρ1 S=.ok (g d) S):zbY tg zeI elt ρ0 ds S=.ok (ds.map g) S:=by
 have:=zeC (c:=zeI) (p:=fun _=>true) (tg:=tg) (elt:=elt) (ρ0:=ρ0) (S:=S) (g:=g) (ds:=ds) fun d hd=>by
  obtain ⟨ρ1,e1,e2⟩:=h d hd;exact ⟨ρ1,e1,rfl,fun _=>e2⟩
 rw [this,List.filter_eq_self.mpr (fun _ _=>rfl)]
mutual
def D.pl:D->Bool
 | .non=>true
 | .int _=>true
 | .str _=>true
 | .tup l=>D.pls l
 | .lst l=>D.pls l
 | _=>false
def D.pls:List D->Bool
 | []=>true
 | d::l=>d.pl&&D.pls l
end
theorem D.pls_iff:∀{l:List D},D.pls l=true↔∀d∈l,d.pl=true
 | []=>by simp [D.pls]
 | d::l=>by simp [D.pls,D.pls_iff (l:=l)]
mutual
theorem ze5:∀(d e:D),d.pl=true->e.pl=true->(d.py.eqv e.py=true↔d=e)
 | .non,e,_,h=>by cases e<;>simp [D.py,PyData.eqv,D.pl] at h ⊢
 | .int i,e,_,h=>by cases e<;>simp [D.py,PyData.eqv,D.pl] at h ⊢
 | .str x,e,_,h=>by cases e<;>simp [D.py,PyData.eqv,D.pl] at h ⊢
 | .tup l,e,hd,h=>by
  cases e with
  | tup k =>
   simp only [D.py,PyData.eqv,D.pl] at hd h ⊢;rw [zhl l k hd h];simp
  | _=>simp [D.py,PyData.eqv,D.pl] at h ⊢
 | .lst l,e,hd,h=>by
  cases e with
  | lst k =>
   simp only [D.py,PyData.eqv,D.pl] at hd h ⊢;rw [zhl l k hd h];simp
  | _=>simp [D.py,PyData.eqv,D.pl] at h ⊢
 | .bl _,_,hd,_=>by simp [D.pl] at hd
 | .dic _,_,hd,_=>by simp [D.pl] at hd
 | .ref _,_,hd,_=>by simp [D.pl] at hd
 | .exc _,_,hd,_=>by simp [D.pl] at hd
 | .scr _,_,hd,_=>by simp [D.pl] at hd
theorem zhl:∀(l k:List D),D.pls l=true->D.pls k=true->(PyData.eqvAll (D.pys l) (D.pys k)=true↔l=k)
 | [],[],_,_=>by simp [D.pys,PyData.eqvAll]
 | [],_::_,_,_=>by simp [D.pys,PyData.eqvAll]
 | _::_,[],_,_=>by simp [D.pys,PyData.eqvAll]
 | d::l,e::k,h1,h2=>by
  simp only [D.pls,yaa] at h1 h2;simp only [D.pys,PyData.eqvAll,yaa,List.cons.injEq];rw [ze5 d e h1.1 h2.1,zhl l k h1.2 h2.2]
end
@[simp] def zkT:D.fit n (.int i)=true:=by cases n<;>rfl
@[simp] def zpO:D.fit n .non=true:=by cases n<;>rfl
@[simp] def zwb:eqD (.int i) (.int j)=some (.bl (decide (i=j))):=by
 unfold eqD zdZ;simp [D.py,PyData.eqv]
 cases h:(i == j)<;>simp_all
@[simp] def zv4:neD (.int i) (.int j)=some (.bl (!decide (i=j))):=by
 unfold neD zdZ;simp [D.py,PyData.eqv]
 cases h:(i == j)<;>simp_all
def ze6:eqD (.scr l) (.lst [])=some (.bl (decide (l=[]))):=by
 cases l with
 | nil=>rfl
 | cons a l=>simp [eqD,D.fit,D.fits,zdZ,D.py,D.pys,PyData.eqv,PyData.eqvAll]
noncomputable def zi7(l:List Int)(k:Int):Int:=if k<l.length then l.getD k.toNat 0 else if l=[] then 0 else l.getD (k % l.length).toNat 0*31+k
def za2(l:List Int)(k:Int)(many:Int):Int :=
 let d:=(zi7 l k+6151*(k+1))*40692 % 2147483399
 (d*d+d / 31) % 2147483629 % many
def zbm(l:List Int)(k:Int)(h:0<many):0<=za2 l k many/\za2 l k many<many:=⟨yct _ (by omega),yb3 _ h⟩
@[simp] def zvR:zbV 31=true:=by decide
@[simp] def zs4:zbV 6151=true:=by decide
@[simp] def zss:zbV 40692=true:=by decide
theorem zsr(h0:-(2 ^ 64)<i)(h:i<2 ^ 64):zbV i=true:=by unfold zbV;simp;omega
theorem zlU(hk:0<=k):zbv [.scr l,.int k] S=.ok (.int (zi7 l k)) S:=by
 unfold zi7
 by_cases h:k<l.length
 ·have hx:l[k.toNat]?=some l[k.toNat]:=yac (by omega);rw [if_pos h,yaM,hx];simp [zbv,zau,zbX,h,zix hk,hx]
 ·by_cases h0:l=[]
  ·subst h0;simp [zbv,zau,zbX,ze6,show ¬ k<0 by omega]
  ·have hl:0<l.length:=by cases l with | nil=>exact absurd rfl h0 | cons _ _=>simp
   have hm0:0<=k % (l.length:Int):=yct _ (by omega);have hm1:k % (l.length:Int)<l.length:=yb3 _ (by omega);have hx:l[(k % (l.length:Int)).toNat]?=some (l[(k % (l.length:Int)).toNat]'(by omega)):=yac (by omega);rw [if_neg h,if_neg h0,yaM,hx];simp [zbv,zau,zbX,h,h0,ze6,zix hm0,hx,hl]
theorem za1(hk:0<=k)(hm:0<many):zat [.scr l,.int k,.int many] S=.ok (.int (za2 l k many)) S:=by
 unfold za2;have h0:0<=(zi7 l k+6151*(k+1))*40692 % 2147483399:=yct _ (by omega);have h1:(zi7 l k+6151*(k+1))*40692 % 2147483399<2147483399:=yb3 _ (by omega);have hf:zbV ((zi7 l k+6151*(k+1))*40692 % 2147483399)=true:=zsr (by omega) (by omega);simp [zat,zau,zdb,zlU hk,hf,hm]
noncomputable def zan(t:List Int):D:=.tup (t.map D.int)
def zmA{t u:List Int}:t.map D.int=u.map D.int↔t=u:=by
 constructor
 ·intro h
  induction t generalizing u with
  | nil=>cases u with | nil=>rfl | cons _ _=>cases h
  | cons a t ih=>cases u with
   | nil=>cases h
   | cons b u =>
    simp only [yaw,List.cons.injEq,D.int.injEq] at h;rw [h.1,ih h.2]
 ·rintro rfl;rfl
def zlF:zan t=zan u↔t=u:=by unfold zan;rw [D.tup.injEq];exact zmA
def zl6{t:List Int}:D.pls (t.map D.int)=true:=by rw [D.pls_iff];intro d hd;obtain ⟨i,_,rfl⟩:=yau.mp hd;rfl
def zg6:(zan t).pl=true:=zl6
def zkS{t:List Int}:D.fits n (t.map D.int)=true:=by rw [D.fits_iff];intro d hd;obtain ⟨i,_,rfl⟩:=yau.mp hd;exact zkT
def zfC:(zan t).fit (n+1)=true:=zkS
theorem znI:∀{l:List D},d.pl=true->D.pls l=true->(zje d l=true↔d∈l)
 | [],_,_=>by simp [zje]
 | e::l,h,hl=>by
  simp only [D.pls,yaa] at hl;have ih:=znI (d:=d) (l:=l) h hl.2;have e1:=ze5 e d hl.1 h;unfold zje;simp only [ycM,ycu,yat];unfold zje at ih;rw [ih];unfold zdZ;rw [e1]
  constructor<;>(intro z;rcases z with z | z<;>simp [z])
def zgl{ts:Z2}:zlx (zan t) (.lst (ts.map zan))=some (.bl (!decide (t∈ts))):=by
 have f1:(zan t).fit 8=true:=zfC
 have f2:D.fits 8 (ts.map zan)=true:=by rw [D.fits_iff];intro d hd;obtain ⟨i,_,rfl⟩:=yau.mp hd;exact zfC
 have p2:D.pls (ts.map zan)=true:=by rw [D.pls_iff];intro d hd;obtain ⟨i,_,rfl⟩:=yau.mp hd;exact zg6
 have m:=znI (d:=zan t) zg6 p2
 have:(zan t∈ts.map zan)↔t∈ts:=by
  rw [yau];constructor
  ·rintro ⟨u,hu,e⟩;rw [<-zlF.mp e];exact hu
  ·intro h;exact ⟨t,h,rfl⟩
 rw [this] at m;unfold zlx;simp only [zjE,f1,f2,ycO,yck,Option.some.injEq,D.bl.injEq];congr 1
 by_cases h:t∈ts
 ·rw [m.mpr h];simp [h]
 ·cases hm:zje (zan t) (ts.map zan)
  ·simp [h]
  ·exact absurd (m.mp hm) h
structure Tiles(most:Int)(ts:Z2):Prop where
 ne:1<=ts.length
 le:(ts.length:Int)<=most
 four:∀t∈ts,t.length=4
 col:∀t∈ts,∀c∈t,0<=c/\c<3
 nd:ts.Nodup
def zcD{k:Nat}(h:(za8 0 hi)[k]?=some d):d=.int k/\(k:Int)<hi:=by
 unfold za8 at h;rw [yao] at h
 cases hr:(List.range (hi-0).toNat)[k]? with
 | none=>rw [hr] at h;cases h
 | some j =>
  rw [hr] at h;obtain ⟨h1,h2⟩:=yag.mp hr;simp at h1 h2;subst h2;simp at h;exact ⟨h.symm,by omega⟩
@[simp] def zgc:(za8 0 hi).length=hi.toNat:=by unfold za8;simp
def zj0(h:d∈za8 0 hi):∃k:Nat,d=.int k/\(k:Int)<hi:=by
 obtain ⟨k,hk⟩:=ybm h;exact ⟨k,zcD hk⟩
def zkl(h:d.pl=true)(f:d.fit 9=true):neD d d=some (.bl false):=by
 unfold neD zdZ;rw [f,(ze5 d d h h).mpr rfl];rfl
def zpT(h:d.pl=true)(f:d.fit 9=true):eqD d d=some (.bl true):=by
 unfold eqD zdZ;rw [f,(ze5 d d h h).mpr rfl];rfl
def zrd:za8 0 4=[.int 0,.int 1,.int 2,.int 3]:=by rfl
@[simp] def zxb:zbV 4=true:=by decide
@[simp] def zxa:zbV 7=true:=by decide
theorem zod(ha:0<=at')(hk:0<=k)(hc:0<col)(hc3:col<=3)(hn:ts.length<=1000) :
  ∃t y',t.length=4/\(∀c∈t,0<=c/\c<3)/\zba [some (false,.scr l),some (false,.int at'),some (false,.int most),some (false,.int col),some (true,.lst (ts.map zan)),some (false,.int k),y] S
   = .nx [some (false,.scr l),some (false,.int at'),some (false,.int most),some (false,.int col),some (true,.lst ((if t∈ts then ts else ts++[t]).map zan)),some (false,.int k),y'] S:=by
 have hcomp:∀ρ0:Env,ρ0=[none,some (false,.int at'),some (false,.int col),some (false,.int k),some (false,.scr l)]->zbY (.one 0) zeI (eFn zat [(zam 4),(zak zci (zak zci (zak zci (zaj 1) (zak ziQ (zai (.int 4)) (zaj 3))) (zai (.int 2))) (zaj 0)),(zam 2)]) ρ0 (za8 0 4) S
   = .ok ([za2 l (at'+4*k+2+0) col,za2 l (at'+4*k+2+1) col,za2 l (at'+4*k+2+2) col,za2 l (at'+4*k+2+3) col].map D.int) S:=by
  rintro _ rfl;rw [zrd,zbo (g:=fun d=>match d with | .int i=>.int (za2 l (at'+4*k+2+i) col) | _=>.non)]
  ·rfl
  ·intro d hd;simp only [yat,ycm,or_false] at hd
   rcases hd with rfl | rfl | rfl | rfl<;>exact ⟨_,rfl,by simp;rw [za1 (by omega) hc]⟩
 have b0:=zbm l (at'+4*k+2+0) hc;have b1:=zbm l (at'+4*k+2+1) hc;have b2:=zbm l (at'+4*k+2+2) hc;have b3:=zbm l (at'+4*k+2+3) hc;generalize za2 l (at'+4*k+2+0) col=p0 at *;generalize za2 l (at'+4*k+2+1) col=p1 at *;generalize za2 l (at'+4*k+2+2) col=p2 at *;generalize za2 l (at'+4*k+2+3) col=p3 at *
 have fin:∀t:List Int,(zar (sFz [] (sIf (zak zlx (zaj 6) (zaj 4)) (zar (sFz [6] (znl 4 (zam 6))) sNx) sNx)) sNx) [some (false,.scr l),some (false,.int at'),some (false,.int most),some (false,.int col),some (true,.lst (ts.map zan)),some (false,.int k),some (false,zan t)] S
   = .nx [some (false,.scr l),some (false,.int at'),some (false,.int most),some (false,.int col),some (true,.lst ((if t∈ts then ts else ts++[t]).map zan)),some (false,.int k),some (false,zan t)] S:=by
  intro t
  by_cases h:t∈ts
  ·simp [zgl,h]
  ·simp [zgl,h,show ts.length<=100000 by omega]
 by_cases h3:za2 l (at'+60+k) 3=0
 ·refine ⟨[p0,p1,p0,p1],some (false,zan [p0,p1,p0,p1]),rfl,by simp;omega,?_⟩;rw [<-fin];simp [zba,hcomp,za1 (show 0<=at'+60+k by omega) (show (0:Int)<3 by omega),h3];rfl
 ·refine ⟨[p0,p1,p2,p3],some (false,zan [p0,p1,p2,p3]),rfl,by simp;omega,?_⟩;rw [<-fin];simp [zba,hcomp,za1 (show 0<=at'+60+k by omega) (show (0:Int)<3 by omega),h3];rfl
theorem zjN(ha:0<=at')(hm:0<most)(hm2:most<=100):∃ts,Tiles most ts/\zb0 [.scr l,.int at',.int most] S=.ok (.tup (ts.map zan)) S:=by
 have b:=zbm l at' (many:=2) (by omega);have n:=zbm l (at'+1) hm;have p1:=za1 (l:=l) (S:=S) ha (show (0:Int)<2 by omega);have p2:=za1 (l:=l) (S:=S) (show 0<=at'+1 by omega) hm;generalize za2 l at' 2=c at *;generalize za2 l (at'+1) most=m at *
 obtain ⟨ρ',e,ts,x,y,rfl,h1,h2,h3,h4,h5⟩:=zfB (tg:=.one 5) (body:=zba) (ds:=za8 0 (1+m)) (S:=S) (fun k ρ=>∃ts x y,ρ=[some (false,.scr l),some (false,.int at'),some (false,.int most),some (false,.int (2+c)),some (true,.lst (ts.map zan)),x,y]/\ts.length<=k/\(0<k->1<=ts.length)/\(∀t∈ts,t.length=4)/\(∀t∈ts,∀c∈t,0<=c/\c<3)/\ts.Nodup) (by
   rintro k d ρ hd ⟨ts,x,y,rfl,h1,h2,h3,h4,h5⟩;obtain ⟨rfl,hk⟩:=zcD hd;obtain ⟨t,y',a1,a2,a3⟩:=zod (l:=l) (at':=at') (most:=most) (col:=2+c) (k:=k) (S:=S) (ts:=ts) (y:=y) ha (by omega) (by omega) (by omega) (by omega);refine ⟨_,_,rfl,a3,_,_,_,rfl,?_,?_,?_,?_,?_⟩
   ·split<;>(try simp)<;>omega
   ·intro _;split
    ·rename_i h;exact List.length_pos_of_mem h
    ·simp
   ·intro u hu;split at hu
    ·exact h3 u hu
    ·rw [ya3,yaN] at hu
     rcases hu with hu | rfl
     ·exact h3 u hu
     ·exact a1
   ·intro u hu;split at hu
    ·exact h4 u hu
    ·rw [ya3,yaN] at hu
     rcases hu with hu | rfl
     ·exact h4 u hu
     ·exact a2
   ·split
    ·exact h5
    ·rename_i h;rw [ybK];refine ⟨h5,by simp,?_⟩
     intro a ha b hb;rw [yaN] at hb;subst hb;rintro rfl;exact h ha)
  (ρ:=[some (false,.scr l),some (false,.int at'),some (false,.int most),some (false,.int (2+c)),some (true,.lst []),none,none]) ⟨[],none,none,rfl,by simp,by simp,by simp,by simp,by simp⟩
 rw [zgc] at h1 h2;refine ⟨ts,⟨h2 (by omega),by omega,h3,h4,h5⟩,?_⟩;simp [zb0,zau,zcL,p1,p2,show -1000000<=1+m/\1+m<=1000000 by omega,e]
noncomputable def oD:Option Int->D | none=>.non | some i=>.int i
noncomputable def zjd(c:Nat)(g:Nat->Option Int):List D:=(List.range c).map fun j=>oD (g j)
def ztF(c:Nat)(g:Nat->Option Int):D:=.tup (zjd c g)
noncomputable def zmG(r c:Nat)(g:Z1):List D:=(List.range r).map fun i=>ztF c (g i)
def flr(r c:Nat)(g:Z1):D:=.tup (zmG r c g)
@[simp] def zlW:(zjd c g).length=c:=by simp [zjd]
@[simp] def zs3:(zmG r c g).length=r:=by simp [zmG]
def zjX:zjd (k+1) g=zjd k g++[oD (g k)]:=by simp [zjd,List.range_succ]
def zkR:zmG (k+1) c g=zmG k c g++[ztF c (g k)]:=by simp [zmG,List.range_succ]
def zkj(l:List Int)(at' n m:Int)(i j:Nat):Option Int:=if za2 l (at'+7*i+j) (n*m)<n then some (za2 l (at'+7*i+j) (n*m)) else none
theorem zrV(h:0<n*m):∀x,zkj l at' n m i j=some x->0<=x/\x<n:=by
 intro x e;unfold zkj at e;have:=zbm l (at'+7*i+j) h;split at e
 ·cases e;omega
 ·cases e
theorem zmH{l:List Int}{at' m:Int}{ts:List D}{r c:Nat}{i:Nat}{S:Sto}{A B Mm:Option (Bool×D)}{y:Option (Bool×D)}{z:Option (Bool×D)}(ha:0<=at')(hp:0<(ts.length:Int)*m)(hm:zbV m=true)(hc:c<=1000) :
  ∃y' z',zhh (.one 9) zbb (za8 0 c) [some (false,.scr l),some (false,.int at'),some (false,.tup ts),A,B,some (false,.int m),Mm,some (false,.int i),some (true,.lst []),y,z] S
   = .nx [some (false,.scr l),some (false,.int at'),some (false,.tup ts),A,B,some (false,.int m),Mm,some (false,.int i),some (true,.lst (zjd c (zkj l at' ts.length m i))),y',z'] S:=by
 obtain ⟨ρ',e,y',z',rfl⟩:=zfB (tg:=.one 9) (body:=zbb) (ds:=za8 0 c) (S:=S) (fun k ρ=>∃y z,ρ=[some (false,.scr l),some (false,.int at'),some (false,.tup ts),A,B,some (false,.int m),Mm,some (false,.int i),some (true,.lst (zjd k (zkj l at' ts.length m i))),y,z]) (by
  rintro k d ρ hd ⟨y,z,rfl⟩;obtain ⟨rfl,hk⟩:=zcD hd;have p:=za1 (l:=l) (S:=S) (show 0<=at'+7*(i:Int)+(k:Int) by omega) hp;have pn:=zbm l (at'+7*(i:Int)+(k:Int)) hp;refine ⟨_,_,rfl,?_,some (false,.int k),some (false,.int (za2 l (at'+7*i+k) (ts.length*m))),rfl⟩
  ·rw [zjX]
   by_cases h:za2 l (at'+7*(i:Int)+(k:Int)) (ts.length*m)<ts.length
   ·simp [zbb,p,hm,h,zkj,oD,show k<=100000 by omega]
   ·simp [zbb,p,hm,h,zkj,oD,show k<=100000 by omega])
  (ρ:=[some (false,.scr l),some (false,.int at'),some (false,.tup ts),A,B,some (false,.int m),Mm,some (false,.int i),some (true,.lst []),y,z]) ⟨y,z,rfl⟩
 exact ⟨y',z',by simpa using e⟩
theorem zjT(ha:0<=at')(hp:0<(ts.length:Int)*m)(hm:zbV m=true)(hr:0<=r)(hr2:r<=1000)(hc:0<=c)(hc2:c<=1000) :
  zb1 [.scr l,.int at',.tup ts,.int r,.int c,.int m] S=.ok (flr r.toNat c.toNat (zkj l at' ts.length m)) S:=by
 obtain ⟨r,rfl⟩:=yb7 hr;obtain ⟨c,rfl⟩:=yb7 hc
 obtain ⟨ρ',e,x1,x2,x3,x4,rfl⟩:=zfB (tg:=.one 7) (body:=zca) (ds:=za8 0 r) (S:=S) (fun k ρ=>∃x1 x2 x3 x4,ρ=[some (false,.scr l),some (false,.int at'),some (false,.tup ts),some (false,.int r),some (false,.int c),some (false,.int m),some (true,.lst (zmG k c (zkj l at' ts.length m))),x1,x2,x3,x4]) (by
  rintro k d ρ hd ⟨x1,x2,x3,x4,rfl⟩;obtain ⟨rfl,hk⟩:=zcD hd;obtain ⟨y',z',e⟩:=zmH (l:=l) (at':=at') (m:=m) (ts:=ts) (r:=r) (c:=c) (i:=k) (S:=S) (A:=some (false,.int r)) (B:=some (false,.int c)) (Mm:=some (true,.lst (zmG k c (zkj l at' ts.length m)))) (y:=x3) (z:=x4) ha hp hm (by omega);refine ⟨_,_,rfl,?_,some (false,.int k),some (true,.lst (zjd c (zkj l at' ts.length m k))),y',z',rfl⟩
  ·rw [zkR]
   simp [zca,e,ztF,show -1000000<=(c:Int)/\(c:Int)<=1000000 by omega,show k<=100000 by omega])
  (ρ:=[some (false,.scr l),some (false,.int at'),some (false,.tup ts),some (false,.int r),some (false,.int c),some (false,.int m),some (true,.lst []),none,none,none,none]) ⟨none,none,none,none,rfl⟩
 simp at e;simp [zb1,zau,zcM,e,flr,show -1000000<=(r:Int)/\(r:Int)<=1000000 by omega]
def zvJ(cn f:Str):Out D->Out D | .ok d S=>(match zmI cn f d S with | some r=>.ok r S | none=>.bad) | .exc c S=>.exc c S | .bad=>.bad
noncomputable def zif(G:List D->Sto->Out D)(d:D):Out (List D)->Out D | .ok ds S=>G (d::ds) S | .exc c S=>.exc c S | .bad=>.bad
def zsb(c m:Str)(G:List D->Sto->Out D)(fs:List Fe)(ρ:Env):Out D->Out D | .ok d S=>if zaG c m d S then zif G d (zao fs ρ S) else .bad | .exc c S=>.exc c S | .bad=>.bad
noncomputable def zs1(n:Nat):Out D->Out D | .ok .non S=>.ok (.ref n) S | .ok _ _=>.bad | .exc c S=>.exc c S | .bad=>.bad
noncomputable def kMk(c:Str)(dds:List D)(G:List D->Sto->Out D):Out (List D)->Out D | .ok ds S=>zs1 S.length (G (.ref S.length::(ds++dds)) (S++[⟨c,[]⟩])) | .exc c S=>.exc c S | .bad=>.bad
section
variable{ρ:Env}{S:Sto}{f:Fe}{n i:Nat}
@[simp] def zuY:znS c x f ρ S=zvJ c x (f ρ S):=by unfold znS;cases f ρ S<;>rfl
@[simp] def zwP:zvJ c x (.ok d S)=(match zmI c x d S with | some r=>.ok r S | none=>.bad):=(rfl)
@[simp] def ztg:zbf c m G f fs ρ S=zsb c m G fs ρ (f ρ S):=by
 unfold zbf
 cases f ρ S with
 | ok d S1 =>
  show (if zaG c m d S1 then (zao fs ρ S1).bind fun ds S2=>G (d::ds) S2 else .bad)=(if zaG c m d S1 then zif G d (zao fs ρ S1) else .bad)
  cases zao fs ρ S1<;>rfl
 | exc c S=>rfl
 | bad=>rfl
@[simp] def zvn:zsb c m G fs ρ (.ok d S)=if zaG c m d S then zif G d (zao fs ρ S) else .bad:=(rfl)
@[simp] def zt2:zif G d (.ok ds S)=G (d::ds) S:=(rfl)
@[simp] def zwg:eMk c dds G fs ρ S=kMk c dds G (zao fs ρ S):=by
 unfold eMk
 cases zao fs ρ S with
 | ok ds S1 =>
  show ((G (.ref S1.length::(ds++dds)) (S1++[⟨c,[]⟩])).bind fun r S2=>match r with | .non=>.ok (.ref S1.length) S2 | _=>.bad)=zs1 S1.length (G (.ref S1.length::(ds++dds)) (S1++[⟨c,[]⟩]))
  cases G (.ref S1.length::(ds++dds)) (S1++[⟨c,[]⟩]) with
  | ok r S2=>cases r<;>rfl
  | exc c S=>rfl
  | bad=>rfl
 | exc c S=>rfl
 | bad=>rfl
@[simp] def zxk:kMk c dds G (.ok ds S)=zs1 S.length (G (.ref S.length::(ds++dds)) (S++[⟨c,[]⟩])):=(rfl)
@[simp] def zwG:zs1 n (.ok .non S)=.ok (.ref n) S:=(rfl)
noncomputable def alb(ts:D)(ds:List (D×D))(dn un:List D):Ob:=⟨"Album",[("tiles",false,ts),("named",true,.tup [.dic ds]),("done",true,.tup [.lst dn]),("undone",true,.tup [.lst un])]⟩
variable{ts:D}{ds ds':List (D×D)}{dn un dn' un':List D}
def zeH:zdO (alb ts ds dn un)=true:=by
 show decide (["tiles","named","done","undone"]:List Str).Nodup=true;decide
def zc1(h:S[n]?=some (alb ts ds dn un)):zmI "Album" "tiles" (.ref n) S=some ts:=by unfold zmI;dsimp only;rw [h];rfl
def zcw(hi:ρ[i]?=some (some (false,.ref n)))(h:S[n]?=some (alb ts ds dn un))(ho:zaf ds=true):dicI "Album" "named" ρ S i=some (n,alb ts ds dn un,ds):=by
 unfold dicI zh5;rw [hi];dsimp only [zqo];rw [h];show (if zaf ds then some (n,alb ts ds dn un,ds) else none)=_;rw [if_pos ho]
def zlo(hi:ρ[i]?=some (some (false,.ref n)))(h:S[n]?=some (alb ts ds dn un)):zh5 "Album" "done" ρ S i=some (n,alb ts ds dn un,.lst dn):=by
 unfold zh5;rw [hi];dsimp only [zqo];rw [h];rfl
def zln(hi:ρ[i]?=some (some (false,.ref n)))(h:S[n]?=some (alb ts ds dn un)):zh5 "Album" "undone" ρ S i=some (n,alb ts ds dn un,.lst un):=by
 unfold zh5;rw [hi];dsimp only [zqo];rw [h];rfl
def zaS{m:Str}(h:S[n]?=some (alb ts ds dn un))(hm:(m == ("tiles":Str))=false/\(m == ("named":Str))=false/\(m == ("done":Str))=false/\(m == ("undone":Str))=false):zaG "Album" m (.ref n) S=true:=by
 unfold zaG;dsimp only;rw [h];show (true&&(List.lookup m _).isNone)=true;simp [alb,List.lookup,hm]
def zjC{ob ob':Ob}(h:S[n]?=some ob):(S.set n ob')[n]?=some ob':=by
 rw [yaA (yag.mp h).1]
def zw1{k:Str}(hi:ρ[i]?=some (some (false,.ref n)))(h:S[n]?=some (alb ts ds dn un))(ho:zaf ds=true){j:Nat}(hj:ρ[j]?=some (some (false,.str k))):eQ (zl0 "Album" "named" i (zbw j)) ρ S=.ok (.bl (zad k ds).isSome) S:=by
 unfold eQ zl0;rw [zcw hi h ho,show zbw j ρ S=some (.str k) by unfold zbw;rw [hj]]
def zrX{k:Str}(hi:ρ[i]?=some (some (false,.ref n)))(h:S[n]?=some (alb ts ds dn un))(ho:zaf ds=true){j:Nat}(hj:ρ[j]?=some (some (false,.str k))):eQ (zeN "Album" "named" i (zbw j)) ρ S=.ok (.bl (!(zad k ds).isSome)) S:=by
 unfold eQ zeN;rw [zcw hi h ho,show zbw j ρ S=some (.str k) by unfold zbw;rw [hj]]
def zwY{k:Str}{d:D}(hi:ρ[i]?=some (some (false,.ref n)))(h:S[n]?=some (alb ts ds dn un))(ho:zaf ds=true){j:Nat}(hj:ρ[j]?=some (some (false,.str k)))(hd:zad k ds=some d):eQ (zoV "Album" "named" i (zbw j)) ρ S=.ok d S:=by
 unfold eQ zoV;rw [zcw hi h ho,show zbw j ρ S=some (.str k) by unfold zbw;rw [hj]];dsimp only;rw [hd]
noncomputable def nmd(k:Str)(d:D)(ds:List (D×D)):List (D×D):=match d with | .non=>dropS k ds | d=>putS k d ds
def zlL(h:S[n]?=some ob):S.set n ob=S:=by
 apply ycI;intro m
 by_cases e:n=m
 ·subst e;rw [zjC h,h]
 ·rw [yaL e]
theorem zey{k:Str}:∀{ds:List (D×D)},zaf ds=true->zad k ds=none->dropS k ds=ds
 | [],_,_=>rfl
 | (.str x,d)::r,ho,h=>by
  unfold zaf at ho;rw [yaa] at ho;unfold zad at h;split at h
  ·cases h
  ·rename_i hx;unfold dropS;rw [if_neg hx,zey ho.2 h]
def zlQ{k:Str}{d:D}(h:S[n]?=some (alb ts ds dn un))(ho:zaf ds=true)(hl:ds.length<=100000):zaF [.ref n,.str k,d] S=.ok .non (S.set n (alb ts (nmd k d ds) dn un)):=by
 by_cases hn:zdC d=true
 ·have e:d=.non:=zgu hn;subst e
  have e1:∀ρ:Env,ρ[0]?=some (some (false,.ref n))->ρ[1]?=some (some (false,.str k))->ziI "Album" "named" 0 (zbw 1) ρ S=.nx ρ (S.set n (alb ts (dropS k ds) dn un)):=by
   intro ρ h0 h1;unfold ziI;rw [show zbw 1 ρ S=some (.str k) by unfold zbw;rw [h1],zcw h0 h ho];dsimp only;rw [if_pos zeH]
   cases hl:zad k ds with
   | some d=>rfl
   | none =>
    dsimp only [Option.isSome];have:dropS k ds=ds:=zey ho hl;rw [this,if_neg (by decide)];congr 1;exact (zlL h).symm
  have e3:zly .non .non=some (.bl true):=rfl;simp [zaF,zau,zaV,e3,e1,nmd]
 ·have e1:∀ρ:Env,ρ[0]?=some (some (false,.ref n))->ρ[1]?=some (some (false,.str k))->ρ[2]?=some (some (false,d))->ziH "Album" "named" 0 (zbw 1) (zbw 2) ρ S=.nx ρ (S.set n (alb ts (putS k d ds) dn un)):=by
   intro ρ h0 h1 h2;unfold ziH;rw [show zbw 1 ρ S=some (.str k) by unfold zbw;rw [h1],show zbw 2 ρ S=some d by unfold zbw;rw [h2],zcw h0 h ho];dsimp only;rw [if_pos (by rw [zeH,show small ds.length=true from yaC hl];rfl)];rfl
  have e2:nmd k d ds=putS k d ds:=by
   unfold nmd
   cases d<;>first | rfl | exact absurd rfl hn
  have hn':zdC d=false:=by simpa using hn
  rw [e2]
  have e3:zly d .non=some (.bl false):=by unfold zly;rw [hn'];rfl
  simp [zaF,zau,zaV,e3,e1]
end
section
variable{ρ:Env}{S:Sto}{n i:Nat}{ts:D}{ds:List (D×D)}{dn un:List D}
def qv{j:Nat}{d:D}(h:ρ[j]?=some (some (false,d))):zbw j ρ S=some d:=by unfold zbw;rw [h]
def zjU{w k:Str}{d:D}(h:S[n]?=some (alb ts ds dn un))(ho:zaf ds=true)(hl:ds.length<=100000)(hd:dn.length<=100000) :
  zbN [.ref n,.str w,.str k,d] S=.ok .non (S.set n (alb ts (nmd k d ds) (dn++[.tup [.str w,.str k,(zad k ds).getD .non,d]]) [])):=by
 have e1:∀ρ:Env,ρ[0]?=some (some (false,.ref n))->ρ[1]?=some (some (false,.str w))->ρ[2]?=some (some (false,.str k))->ρ[3]?=some (some (false,d)) →
   ziJ "Album" "done" 0 [(zbw 1),(zbw 2),(zgd "Album" "named" 0 (zbw 2)),(zbw 3)] ρ S=.nx ρ (S.set n (alb ts ds (dn++[.tup [.str w,.str k,(zad k ds).getD .non,d]]) un)):=by
  intro ρ h0 h1 h2 h3
  have q:zhk [(zbw 1),(zbw 2),(zgd "Album" "named" 0 (zbw 2)),(zbw 3)] ρ S=some [.str w,.str k,(zad k ds).getD .non,d]:=by
   have g:zgd "Album" "named" 0 (zbw 2) ρ S=some ((zad k ds).getD .non):=by unfold zgd;rw [qv h2,zcw h0 h ho]
   simp only [zhk,qv h1,qv h2,qv h3,g,Option.bind,Option.map]
  unfold ziJ;rw [zlo h0 h,q];dsimp only;rw [if_pos (by rw [zeH,show small dn.length=true from yaC hd];rfl)];rfl
 generalize hx:dn++[.tup [.str w,.str k,(zad k ds).getD .non,d]]=dn' at e1 ⊢;have h1:(S.set n (alb ts ds dn' un))[n]?=some (alb ts ds dn' un):=zjC h
 have e2:∀ρ:Env,ρ[0]?=some (some (false,.ref n))->zeK "Album" "undone" 0 ρ (S.set n (alb ts ds dn' un))=.nx ρ (S.set n (alb ts ds dn' [])):=by
  intro ρ h0;unfold zeK;rw [h0];dsimp only;rw [h1];show (if _ then Fo.nx ρ ((S.set n (alb ts ds dn' un)).set n (alb ts ds dn' [])) else _)=_;rw [if_pos (by rfl),List.set_set]
 have h2:(S.set n (alb ts ds dn' []))[n]?=some (alb ts ds dn' []):=zjC h;have e3:=zlQ (k:=k) (d:=d) h2 ho hl;have m:zaG "Album" "name_floor" (.ref n) (S.set n (alb ts ds dn' []))=true:=zaS h2 (by decide);simp [zbN,zau,zdH,e1,e2,e3,m]
noncomputable def zcQ(k:Str):Prop:=k = "a" \/ k = "b" \/ k = "c" \/ k = "sheet"
def zdy{k:Str}(h:zcQ k):zdj [.str k] S=.ok (.bl true) S:=by
 rcases h with rfl | rfl | rfl | rfl<;>kernel_rfl
def za0{k:Str}(h:zcQ k):zaP [.str k] S=.ok .non S:=by
 simp [zaP,zau,zbC,zdy h,zcG]
def zbe{k:Str}{d:D}(hk:zcQ k)(h:S[n]?=some (alb ts ds dn un))(ho:zaf ds=true)(hd:zad k ds=some d):zaq [.ref n,.str k] S=.ok d S:=by
 have e1:∀ρ:Env,ρ[0]?=some (some (false,.ref n))->ρ[1]?=some (some (false,.str k))->eQ (zeN "Album" "named" 0 (zbw 1)) ρ S=.ok (.bl false) S:=fun ρ h0 h1=>by rw [zrX h0 h ho h1,hd];rfl
 have e2:∀ρ:Env,ρ[0]?=some (some (false,.ref n))->ρ[1]?=some (some (false,.str k))->eQ (zoV "Album" "named" 0 (zbw 1)) ρ S=.ok d S:=fun ρ h0 h1=>zwY h0 h ho h1 hd
 simp [zaq,zau,zbc,zdy hk,zcG,e1,e2]
def zb7{k:Str}(hk:zcQ k)(h:S[n]?=some (alb ts ds dn un))(ho:zaf ds=true)(hd:zad k ds=none):zaq [.ref n,.str k] S=.exc "NoName" S:=by
 have e1:∀ρ:Env,ρ[0]?=some (some (false,.ref n))->ρ[1]?=some (some (false,.str k))->eQ (zeN "Album" "named" 0 (zbw 1)) ρ S=.ok (.bl true) S:=fun ρ h0 h1=>by rw [zrX h0 h ho h1,hd];rfl
 simp [zaq,zau,zbc,zdy hk,zcG,e1]
def zoO{k:Str}{d:D}(hk:zcQ k)(hn:zdC d=false)(h:S[n]?=some (alb ts ds dn un))(ho:zaf ds=true)(hl:ds.length<=100000)(hd:dn.length<=100000)(hf:zaR [ts,d] S=.ok (.bl true) S) :
  zaH [.ref n,.str k,d] S=.ok (.bl (zad k ds).isSome) (S.set n (alb ts (putS k d ds) (dn++[.tup [.str "put",.str k,(zad k ds).getD .non,d]]) [])):=by
 have e1:∀ρ:Env,ρ[0]?=some (some (false,.ref n))->ρ[1]?=some (some (false,.str k))->eQ (zl0 "Album" "named" 0 (zbw 1)) ρ S=.ok (.bl (zad k ds).isSome) S:=fun ρ h0 h1=>zw1 h0 h ho h1
 have e3:=zjU (w:="put") (k:=k) (d:=d) h ho hl hd
 have en:nmd k d ds=putS k d ds:=by
  unfold nmd
  cases d<;>first | rfl | cases hn
 rw [en] at e3;have m:zaG "Album" "do" (.ref n) S=true:=zaS h (by decide);simp [zaH,zau,zdc,za0 hk,zc1 h,hf,zcG,e1,e3,m]
def zlP{k:Str}{d:D}(hk:zcQ k)(h:S[n]?=some (alb ts ds dn un))(ho:zaf ds=true)(hl:ds.length<=100000)(hd:dn.length<=100000)(he:zad k ds=some d) :
  zax [.ref n,.str k] S=.ok d (S.set n (alb ts (dropS k ds) (dn++[.tup [.str "take",.str k,d,.non]]) [])):=by
 have e1:=zbe hk h ho he;have e3:=zjU (w:="take") (k:=k) (d:=.non) h ho hl hd;rw [he] at e3;have e4:nmd k .non ds=dropS k ds:=rfl;rw [e4] at e3;have m:zaG "Album" "do" (.ref n) S=true:=zaS h (by decide);have m2:zaG "Album" "floor_of" (.ref n) S=true:=zaS h (by decide);simp [zax,zau,zb4,e1,e3,m,m2]
def zg1{k:Str}(hk:zcQ k)(h:S[n]?=some (alb ts ds dn un))(ho:zaf ds=true)(he:zad k ds=none):zax [.ref n,.str k] S=.exc "NoName" S:=by
 have e1:=zb7 hk h ho he;have m2:zaG "Album" "floor_of" (.ref n) S=true:=zaS h (by decide);simp [zax,zau,zb4,e1,m2]
noncomputable def ziW(b:Bool)(x y:D)(S:Sto):Out D:=if b then zbH [x,y] S else zco [x,y] S
def zlR{k k1 k2:Str}{b:Bool}{x y z:D}(hk:zcQ k)(hk1:zcQ k1)(hk2:zcQ k2)(hn:zdC z=false)(h:S[n]?=some (alb ts ds dn un))(ho:zaf ds=true)(hl:ds.length<=100000)(hd:dn.length<=100000)
  (h1:zad k1 ds=some x) (h2:zad k2 ds=some y) (hj:ziW b x y S=.ok z S) (hf:zaR [ts,z] S=.ok (.bl true) S) :
  zah [.ref n,.str k,.str k1,.str k2,.bl b] S=.ok z (S.set n (alb ts (putS k z ds) (dn++[.tup [.str "join",.str k,(zad k ds).getD .non,z]]) [])):=by
 have e1:=zbe hk1 h ho h1;have e2:=zbe hk2 h ho h2;have e3:=zjU (w:="join") (k:=k) (d:=z) h ho hl hd
 have en:nmd k z ds=putS k z ds:=by
  unfold nmd
  cases z<;>first | rfl | cases hn
 rw [en] at e3;have m:zaG "Album" "do" (.ref n) S=true:=zaS h (by decide);have m2:zaG "Album" "floor_of" (.ref n) S=true:=zaS h (by decide)
 cases b with
 | true =>
  have hj':zbH [x,y] S=.ok z S:=hj;simp [zah,zau,zaB,za0 hk,e1,e2,hj',zc1 h,hf,zcG,e3,m,m2]
 | false =>
  have hj':zco [x,y] S=.ok z S:=hj;simp [zah,zau,zaB,za0 hk,e1,e2,hj',zc1 h,hf,zcG,e3,m,m2]
def zf7{k k1 k2:Str}{b:Bool}(hk:zcQ k)(hk1:zcQ k1)(h:S[n]?=some (alb ts ds dn un))(ho:zaf ds=true)(h1:zad k1 ds=none):zah [.ref n,.str k,.str k1,.str k2,.bl b] S=.exc "NoName" S:=by
 have e1:=zb7 hk1 h ho h1;have m2:zaG "Album" "floor_of" (.ref n) S=true:=zaS h (by decide);simp [zah,zau,zaB,za0 hk,e1,m2]
def zf6{k k1 k2:Str}{b:Bool}{x:D}(hk:zcQ k)(hk1:zcQ k1)(hk2:zcQ k2)(h:S[n]?=some (alb ts ds dn un))(ho:zaf ds=true)(h1:zad k1 ds=some x)(h2:zad k2 ds=none):zah [.ref n,.str k,.str k1,.str k2,.bl b] S=.exc "NoName" S:=by
 have e1:=zbe hk1 h ho h1;have e2:=zb7 hk2 h ho h2;have m2:zaG "Album" "floor_of" (.ref n) S=true:=zaS h (by decide);simp [zah,zau,zaB,za0 hk,e1,e2,m2]
def zcl{k k1 k2:Str}{b:Bool}{x y:D}(hk:zcQ k)(hk1:zcQ k1)(hk2:zcQ k2)(h:S[n]?=some (alb ts ds dn un))(ho:zaf ds=true)(h1:zad k1 ds=some x)(h2:zad k2 ds=some y)
  (hj:ziW b x y S=.exc "Unlike" S\/∃z,ziW b x y S=.ok z S/\zaR [ts,z] S=.ok (.bl false) S):zah [.ref n,.str k,.str k1,.str k2,.bl b] S=.exc "Unlike" S:=by
 have e1:=zbe hk1 h ho h1;have e2:=zbe hk2 h ho h2;have m2:zaG "Album" "floor_of" (.ref n) S=true:=zaS h (by decide)
 cases b with
 | true =>
  rcases hj with hj | ⟨z,hj,hf⟩
  ·have hj':zbH [x,y] S=.exc "Unlike" S:=hj;simp [zah,zau,zaB,za0 hk,e1,e2,hj',m2]
  ·have hj':zbH [x,y] S=.ok z S:=hj;simp [zah,zau,zaB,za0 hk,e1,e2,hj',zc1 h,hf,zcG,m2]
 | false =>
  rcases hj with hj | ⟨z,hj,hf⟩
  ·have hj':zco [x,y] S=.exc "Unlike" S:=hj;simp [zah,zau,zaB,za0 hk,e1,e2,hj',m2]
  ·have hj':zco [x,y] S=.ok z S:=hj;simp [zah,zau,zaB,za0 hk,e1,e2,hj',zc1 h,hf,zcG,m2]
end
noncomputable def FlD(rs:List (List D)):D:=.tup (rs.map D.tup)
noncomputable def zlv(n:Nat)(d:D):Prop:=d=.non\/∃x:Int,d=.int x/\0<=x/\x<n
structure FlOk(n c:Nat)(rs:List (List D)):Prop where
 ne:1<=rs.length
 c1:1<=c
 row:∀r∈rs,r.length=c/\∀d∈r,zlv n d
section
variable{S:Sto}{n c c':Nat}{rs rs':List (List D)}{tl:List D}
def zdh{x:Int}:zcc [.int x] S=.ok (.bl true) S:=by
 simp [zcc,zau,zdG,zdR,zcG]
def zbd{l:List D}{a b:Int}:zaE [.tup l,.int a,.int b] S=.ok (.bl (decide (a<=l.length/\(l.length:Int)<=b))) S:=by
 by_cases h:a<=(l.length:Int)
 ·simp [zaE,zau,zbL,zdR,h]
 ·simp [zaE,zau,zbL,zdR,h]
def ziK{d:D}(h:zlv tl.length d):zcb [.tup tl,d] S=.ok (.bl true) S:=by
 rcases h with rfl | ⟨x,rfl,h1,h2⟩
 ·have e:zly .non .non=some (.bl true):=rfl;simp [zcb,zau,zdp,e]
 ·have e:zly (.int x) .non=some (.bl false):=rfl;simp [zcb,zau,zdp,e,zcF,zcK,zdh,h1,h2]
theorem zgN{α:Type}(f:α->Bool):∀l:List α,zfM (l.map fun x=>.bl (f x))=some (l.map f)
 | []=>rfl
 | a::l=>by rw [yaw];unfold zfM;rw [zgN f l];rfl
theorem all_map{α:Type}{f:α->Bool}{l:List α}:zlz [.lst (l.map fun x=>.bl (f x))]=some (.bl (l.all f)):=by
 show (zfM _).map _=_;rw [zgN];show some (D.bl ((l.map f).all id))=_;rw [List.all_map];rfl
theorem zjS{row:List D}(h1:1<=row.length)(hz:row.length<=1000)(h:∀d∈row,zlv tl.length d):zcU [.tup tl,.tup row] S=.ok (.bl (decide (row.length<=6))) S:=by
 have ec:zbY (.one 0) zeI (eFn zcb [(zam 1),(zam 0)]) [none,some (false,.tup tl)] row S=.ok (row.map fun _=>.bl true) S:=by
  refine zbo fun d hd=>⟨_,rfl,?_⟩
  simp [ziK (h d hd)]
 have ea:=all_map (f:=fun _:D=>true) (l:=row)
 by_cases h6:row.length<=6
 ·have e6:((1:Int)<=row.length/\(row.length:Int)<=6):=⟨by omega,by omega⟩;simp [zcU,zau,zd2,zbd,e6,ec,ea,zfd,show row.length<=100000 by omega,h6]
 ·have e6:¬ ((1:Int)<=row.length/\(row.length:Int)<=6):=fun z=>h6 (by omega)
  simp [zcU,zau,zd2,zbd,e6,h6]
theorem zcm(h:FlOk tl.length c rs)(hr:rs.length<=1000)(hc:c<=1000):zaR [.tup tl,FlD rs] S=.ok (.bl (decide (rs.length<=6/\c<=6))) S:=by
 unfold FlD
 by_cases h6:rs.length<=6
 ·have e6:((1:Int)<=(rs.map D.tup).length/\((rs.map D.tup).length:Int)<=6):=by rw [yad];have:=h.ne;exact ⟨by omega,by omega⟩
  have ec:zbY (.one 0) zeI (eFn zcU [(zam 1),(zam 0)]) [none,some (false,.tup tl)] (rs.map D.tup) S=.ok ((rs.map D.tup).map fun _=>.bl (decide (c<=6))) S:=by
   refine zbo fun d hd=>?_
   obtain ⟨r,hr',rfl⟩:=yau.mp hd;obtain ⟨hl,hok⟩:=h.row r hr';refine ⟨_,rfl,?_⟩;have e:=zjS (S:=S) (tl:=tl) (row:=r) (by rw [hl];exact h.c1) (by rw [hl];exact hc) hok;rw [hl] at e;simp [e]
  have ea:=all_map (f:=fun _:D=>decide (c<=6)) (l:=rs.map D.tup)
  obtain ⟨r0,za7,hrs⟩:∃r0 za7,rs=r0::za7:=by
   cases hx:rs with
   | nil=>have:=h.ne;rw [hx] at this;cases this
   | cons a b=>exact ⟨a,b,rfl⟩
  have ef:((rs.map D.tup).all fun _=>decide (c<=6))=decide (c<=6):=by
   rw [hrs]
   by_cases hc6:c<=6
   ·simp [hc6]
   ·simp [hc6]
  rw [ef] at ea
  by_cases hc6:c<=6
  ·have ed:zbY (.one 0) zeI (zak eqD (zaz zcH [(zaj 0)]) (zaz zcH [(zak ixD (zaj 1) (zai (.int 0)))])) [none,some (false,.tup (rs.map D.tup))] (rs.map D.tup) S=.ok ((rs.map D.tup).map fun _=>.bl true) S:=by
    refine zbo fun d hd=>?_
    obtain ⟨r,hr',rfl⟩:=yau.mp hd;have l1:=(h.row r hr').1;have l2:=(h.row r0 (by rw [hrs];exact yar)).1;refine ⟨_,rfl,?_⟩
    have ea:atI (rs.map D.tup) 0=some (.tup r0):=by
     have:=zae (rs.map D.tup) 0;rw [hrs] at this ⊢;exact this
    simp [ea,l1,l2]
   have eb:=all_map (f:=fun _:D=>true) (l:=rs.map D.tup);rw [yaC hc6] at ec ea;generalize rs.map D.tup=R at *;simp [zaR,zau,zch,zbd,e6,ec,ea,ed,eb,zfd,zcG,h6,hc6,show R.length<=100000 by omega]
  ·rw [yaQ hc6] at ec ea;generalize rs.map D.tup=R at *;simp [zaR,zau,zch,zbd,e6,ec,ea,zfd,zcG,hc6,show R.length<=100000 by omega]
 ·have e6:¬ ((1:Int)<=(rs.map D.tup).length/\((rs.map D.tup).length:Int)<=6):=by rw [yad];intro z;omega
  generalize rs.map D.tup=R at *;simp [zaR,zau,zch,zbd,e6,zcG,h6]
end
section
variable{S:Sto}{n c c':Nat}{rs rs':List (List D)}{tl:List D}
theorem zir:∀l:List (List Int),l.reverse.Nodup->ST.ddN l.reverse=l.length
 | [],_=>rfl
 | a::l,h=>by
  rw [List.reverse_cons] at h ⊢;have h':=ybK.mp h;rw [ST.zk4,if_neg (fun z=>h'.2.2 a z a (yaN.mpr rfl) rfl),zir l h'.1];rfl
theorem ze1:∀t:List Int,zdP (t.map D.int)=some t
 | []=>rfl
 | a::t=>by rw [yaw];unfold zdP;rw [ze1 t];rfl
theorem zeY:∀ts:List (List Int),keysOf (ts.map zan)=some ts
 | []=>rfl
 | t::ts=>by rw [yaw];unfold keysOf;rw [show zpy (zan t)=some t from ze1 t,zeY ts];rfl
theorem ziL{t:List Int}(h4:t.length=4)(hc:∀c∈t,0<=c/\c<3):zcE [zan t] S=.ok (.bl true) S:=by
 have ec:zbY (.one 0) zeI (eFn zcn [(zam 0)]) [none] (t.map D.int) S=.ok ((t.map D.int).map fun _=>.bl true) S:=by
  refine zbo fun d hd=>?_
  obtain ⟨x,hx,rfl⟩:=yau.mp hd;refine ⟨_,rfl,?_⟩;have:=hc x hx;simp [zcn,zau,zda,zdh,show 0<=x by omega,show x<=8 by omega]
 have ea:=all_map (f:=fun _:D=>true) (l:=t.map D.int)
 have hl:(t.map D.int).length=4:=by rw [yad];exact h4
 unfold zan;generalize t.map D.int=T at *;have e4:((4:Int)<=T.length/\(T.length:Int)<=4):=⟨by omega,by omega⟩;simp [zcE,zau,zet,zbd,e4,ec,ea,show T.length<=100000 by omega]
theorem zjR{most:Int}{ts:Z2}(h:Tiles most ts)(hm:most<=16):zdi [.tup (ts.map zan)] S=.ok (.bl true) S:=by
 have ec:zbY (.one 0) zeI (eFn zcE [(zam 0)]) [none] (ts.map zan) S=.ok ((ts.map zan).map fun _=>.bl true) S:=by
  refine zbo fun d hd=>?_
  obtain ⟨x,hx,rfl⟩:=yau.mp hd;refine ⟨_,rfl,?_⟩;simp [ziL (h.four x hx) (h.col x hx)]
 have ea:=all_map (f:=fun _:D=>true) (l:=ts.map zan);have hl:(ts.map zan).length=ts.length:=yad _;have h1:=h.ne;have h2:=h.le
 have es:zc9 (.tup (ts.map zan))=some (.int ts.length):=by
  show (keysOf (ts.map zan)).bind _=_;rw [zeY];show (if decide (ts.length<=18) then some (D.int (ST.ddN ts)) else none)=_;rw [if_pos (yaC (by omega))];have:=zir ts.reverse (by rw [List.reverse_reverse];exact h.nd);rw [List.reverse_reverse,List.length_reverse] at this;rw [this]
 rw [ybs.mpr (fun _ _=>rfl)] at ea;generalize ts.map zan=T at *;have e16:((1:Int)<=T.length/\(T.length:Int)<=16):=⟨by omega,by omega⟩;simp [zdi,zau,zfE,zbd,ec,ea,es,zcG,hl,show ts.length<=100000 by omega,show (1:Int)<=ts.length by omega,show (ts.length:Int)<=16 by omega]
noncomputable def zbK(rs rs':List (List D)):List (List D):=(List.zip rs rs').map fun p=>p.1++p.2
def zcg:(zbK rs rs').length=min rs.length rs'.length:=by unfold zbK;rw [yad,List.length_zip]
def zpN(h:FlOk n c rs):∃r0 za7,rs=r0::za7/\r0.length=c:=by
 cases hx:rs with
 | nil=>have:=h.ne;rw [hx] at this;cases this
 | cons a b=>exact ⟨a,b,rfl,(h.row a (by rw [hx];exact yar)).1⟩
def at0(h:FlOk n c rs):∃r0,atI (rs.map D.tup) 0=some (.tup r0)/\r0.length=c:=by
 obtain ⟨r0,za7,rfl,hl⟩:=zpN h;exact ⟨r0,zae ((r0::za7).map D.tup) 0,hl⟩
theorem zdY(h:FlOk n c rs):zbQ [FlD rs] S=.ok (.tup [.int rs.length,.int c]) S:=by
 obtain ⟨r0,e0,hl⟩:=at0 h;have h1:=h.ne;have hm:(rs.map D.tup).length=rs.length:=yad _;unfold FlD;generalize rs.map D.tup=R at *
 have hg:decide (0<(R.length:Int))=true:=by rw [hm];simp;omega
 have hg':(0<R.length):=by omega
 simp [zbQ,zau,zes,e0,hl,hm,show 0<rs.length by omega]
theorem zhC:∀(rs rs':List (List D)),zfU (rs.map D.tup) (rs'.map D.tup)=(List.zip rs rs').map fun p=>.tup [.tup p.1,.tup p.2]
 | [],_=>rfl
 | _::_,[]=>rfl
 | a::rs,b::rs'=>by rw [yaw,yaw,List.zip_cons_cons,yaw,<-zhC rs rs'];rfl
theorem ziM(h:FlOk n c rs)(h':FlOk n c' rs')(hr:rs.length<=100)(hc:c<=100)(hc':c'<=100):zbH [FlD rs,FlD rs'] S=if rs.length=rs'.length then .ok (FlD (zbK rs rs')) S else .exc "Unlike" S:=by
 have s1:=zdY (S:=S) h;have s2:=zdY (S:=S) h'
 have ec:zbY (.tup [0,1]) zeI (zak zci (zaj 0) (zaj 1)) [none,none] (zfU (rs.map D.tup) (rs'.map D.tup)) S=.ok ((zbK rs rs').map D.tup) S:=by
  rw [zhC,zbo (g:=fun d=>match d with | .tup [.tup a,.tup b]=>.tup (a++b) | _=>.non) (fun d hd=>by
   obtain ⟨⟨a,b⟩,hp,rfl⟩:=yau.mp hd;refine ⟨_,rfl,?_⟩;have ha:=(h.row a (ya8 hp).1).1;have hb:=(h'.row b (ya8 hp).2).1
   have hs:a.length+b.length<=100000:=by omega
   simp [hs]),ybp]
  unfold zbK;rw [ybp];rfl
 have hz:((zbK rs rs').map D.tup).length<=100000:=by rw [yad,zcg];omega
 unfold FlD at *;generalize (zbK rs rs').map D.tup=Z at *;generalize rs.map D.tup=R at *;generalize rs'.map D.tup=R' at *
 by_cases he:rs.length=rs'.length
 ·simp [zbH,zau,zd3,s1,s2,ec,hz,he]
 ·have he':¬ ((rs.length:Int)=rs'.length):=by omega
  simp [zbH,zau,zd3,s1,s2,he,he']
theorem zjW(h:FlOk n c rs)(h':FlOk n c' rs')(hr:rs.length<=100)(hr':rs'.length<=100):zco [FlD rs,FlD rs'] S=if c=c' then .ok (FlD (rs++rs')) S else .exc "Unlike" S:=by
 have s1:=zdY (S:=S) h;have s2:=zdY (S:=S) h'
 have hz:(rs.map D.tup).length+(rs'.map D.tup).length<=100000:=by rw [yad,yad];omega
 unfold FlD at *;rw [ybG];generalize rs.map D.tup=R at *;generalize rs'.map D.tup=R' at *
 by_cases he:c=c'
 ·simp [zco,zau,zfF,s1,s2,hz,he]
 ·have he':¬ ((c:Int)=c'):=by omega
  simp [zco,zau,zfF,s1,s2,he,he']
theorem FlOk.beside(h:FlOk n c rs)(h':FlOk n c' rs')(he:rs.length=rs'.length):FlOk n (c+c') (zbK rs rs') where
 ne:=by rw [zcg,<-he,Nat.min_self];exact h.ne
 c1:=by have:=h.c1;omega
 row:=fun r hr=>by
  unfold zbK at hr;obtain ⟨⟨a,b⟩,hp,rfl⟩:=yau.mp hr;obtain ⟨a1,a2⟩:=h.row a (ya8 hp).1;obtain ⟨b1,b2⟩:=h'.row b (ya8 hp).2;refine ⟨by show (a++b).length=_;rw [yas,a1,b1],fun d hd=>?_⟩
  rcases ya3.mp hd with hd | hd
  ·exact a2 d hd
  ·exact b2 d hd
theorem FlOk.below(h:FlOk n c rs)(h':FlOk n c rs'):FlOk n c (rs++rs') where
 ne:=by rw [yas];have:=h.ne;omega
 c1:=h.c1
 row:=fun r hr=>by
  rcases ya3.mp hr with hr | hr
  ·exact h.row r hr
  ·exact h'.row r hr
end
noncomputable def zbg:List (D×D)->List (Str×D)
 | (.str x,d)::r=>(x,d)::zbg r
 | _=>[]
noncomputable def unS(ps:List (Str×D)):List (D×D):=ps.map fun p=>(.str p.1,p.2)
section
variable{ds es:List (D×D)}{k x:Str}{d:D}
def zaK(h:zaf ((.str x,d)::ds)=true):zad x ds=none/\zaf ds=true:=by
 unfold zaf at h;rw [yaa] at h;exact ⟨by simpa using h.1,h.2⟩
theorem zaL:∀{ds:List (D×D)},za9 ds=(zbg ds).map (·.1)
 | []=>rfl
 | (.str x,d)::r=>by show x::za9 r=x::(zbg r).map (·.1);rw [zaL]
 | (.non,_)::_=>rfl
 | (.bl _,_)::_=>rfl
 | (.int _,_)::_=>rfl
 | (.tup _,_)::_=>rfl
 | (.lst _,_)::_=>rfl
 | (.dic _,_)::_=>rfl
 | (.ref _,_)::_=>rfl
 | (.exc _,_)::_=>rfl
 | (.scr _,_)::_=>rfl
theorem zbA:∀{ds:List (D×D)},zaf ds=true->(zad k ds=none↔k ∉ za9 ds)
 | [],_=>⟨(fun _ z=>by cases z),fun _=>rfl⟩
 | (.str x,d)::r,h=>by
  have ih:=zbA (zaK h).2;unfold zad;show _↔k ∉ x::za9 r
  by_cases e:x=k
  ·rw [if_pos e];simp [e]
  ·rw [if_neg e,ih];simp [Ne.symm e]
theorem zcf:∀{ds:List (D×D)},zaf ds=true->(za9 ds).Nodup
 | [],_=>List.nodup_nil
 | (.str x,d)::r,h=>ya7.mpr ⟨(zbA (zaK h).2).mp (zaK h).1,zcf (zaK h).2⟩
theorem zcd:∀{ds:List (D×D)},zaf ds=true->∀p∈zbg ds,zad p.1 ds=some p.2
 | [],_,p,h=>by cases h
 | (.str x,d)::r,h,p,hp=>by
  cases hp with
  | head=>show (if x=x then some d else _)=_;rw [if_pos rfl]
  | tail _ hp =>
   have ih:=zcd (zaK h).2 p hp;unfold zad;rw [if_neg (fun e=>by subst e;rw [(zaK h).1] at ih;cases ih)];exact ih
theorem zgo:∀{ds:List (D×D)},zad k ds=some d->(k,d)∈zbg ds
 | (.str x,e)::r,h=>by
  unfold zad at h
  by_cases q:x=k
  ·rw [if_pos q] at h;cases h;rw [q];exact yar
  ·rw [if_neg q] at h;exact yak _ (zgo h)
theorem zj2:∀{ds:List (D×D)},zaf ds=true->zad k ds=none->putS k d ds=ds++[(.str k,d)]
 | [],_,_=>rfl
 | (.str x,e)::r,h,hn=>by
  unfold zad at hn
  by_cases q:x=k
  ·rw [if_pos q] at hn;cases hn
  ·rw [if_neg q] at hn;unfold putS;rw [if_neg q,zj2 (zaK h).2 hn];rfl
theorem zdV:∀{ps:List (Str×D)},(ps.map (·.1)).Nodup->zaf (unS ps)=true/\zbg (unS ps)=ps
 | [],_=>⟨rfl,rfl⟩
 | (x,e)::r,h=>by
  rw [yaw,ya7] at h;obtain ⟨h1,h2⟩:=zdV h.2;refine ⟨?_,by show (x,e)::zbg (unS r)=_;rw [h2]⟩;show ((zad x (unS r)).isNone&&zaf (unS r))=true;rw [h1,(zbA h1).mpr (by rw [zaL,h2];exact h.1)];rfl
theorem zeX:∀(ps qs:List (Str×D)),((qs++ps).map (·.1)).Nodup->ps.foldl (fun acc p=>putS p.1 p.2 acc) (unS qs)=unS (qs++ps)
 | [],qs,_=>by rw [yaY];rfl
 | p::ps,qs,h=>by
  have hq:(qs.map (·.1)).Nodup:=by rw [ybG] at h;exact (ybK.mp h).1
  obtain ⟨o,pe⟩:=zdV hq
  have hn:zad p.1 (unS qs)=none:=by
   rw [zbA o,zaL,pe];intro z;rw [ybG,ybK] at h;exact h.2.2 p.1 z p.1 (by simp) rfl
  rw [ybn,zj2 o hn];have:=zeX ps (qs++[p]) (by rw [ycc];exact h);rw [ycc] at this;refine Eq.trans ?_ this;unfold unS;rw [ybG];rfl
def zoX{ps:List (Str×D)}(h:(ps.map (·.1)).Nodup):zoY ps=unS ps:=zeX ps [] h
theorem zj6:∀(ps:List (Str×D)),zj7 (ps.map fun p=>.tup [.str p.1,p.2])=some ps
 | []=>rfl
 | p::ps=>by
  show (zj7 (ps.map fun p=>.tup [.str p.1,p.2])).map _=_;rw [zj6 ps];rfl
def ze7{ps:List (Str×D)}(h:(ps.map (·.1)).Nodup):zhq [.lst (ps.map fun p=>.tup [.str p.1,p.2])]=some (.dic (unS ps)):=by
 show (zj7 _).map _=_;rw [zj6];show some (D.dic (zoY ps))=_;rw [zoX h]
theorem zez:∀{ds:List (D×D)},zaf ds=true->unS ((zbg ds).filter fun p=>!decide (p.1=k))=dropS k ds
 | [],_=>rfl
 | (.str x,d)::r,h=>by
  have hh:=zaK h;have ih:=zez hh.2;show unS (((x,d)::zbg r).filter _)=_;unfold dropS
  by_cases e:x=k
  ·rw [if_pos e,List.filter_cons_of_neg (by simp [e]),ih];exact zey hh.2 (by rw [<-e];exact hh.1)
  ·rw [if_neg e,List.filter_cons_of_pos (by simp [e])];show (D.str x,d)::unS _=_;rw [ih]
theorem zce:∀{ds:List (D×D)},zaf ds=true->zad x (dropS k ds)=if k=x then none else zad x ds
 | [],_=>by show none=_;split<;>rfl
 | (.str y,e)::r,h=>by
  have hh:=zaK h;unfold dropS
  by_cases q:y=k
  ·rw [if_pos q]
   by_cases z:k=x
   ·rw [if_pos z,<-z,<-q];exact hh.1
   ·rw [if_neg z];show _=(if y=x then some e else zad x r);rw [if_neg (fun w=>z (q.symm.trans w))]
  ·rw [if_neg q];unfold zad
   by_cases w:y=x
   ·rw [if_pos w,if_neg (fun z=>q (w.trans z.symm)),if_pos w]
   ·rw [if_neg w,zce hh.2,if_neg w]
theorem zbz:∀{ds:List (D×D)},zaf ds=true->zaf (dropS k ds)=true
 | [],_=>rfl
 | (.str y,e)::r,h=>by
  have hh:=zaK h;unfold dropS
  by_cases q:y=k
  ·rw [if_pos q];exact hh.2
  ·rw [if_neg q];show ((zad y (dropS k r)).isNone&&zaf (dropS k r))=true;rw [zce hh.2,zbz hh.2,if_neg (fun z=>q z.symm),hh.1];rfl
structure Mp(ds es:List (D×D)):Prop where
 l:zaf ds=true
 r:zaf es=true
 eq:∀x,zad x ds=zad x es
def Mp.perm(m:Mp ds es):(za9 ds).Perm (za9 es):=by
 refine (List.perm_ext_iff_of_nodup (zcf m.l) (zcf m.r)).mpr fun x=>?_
 have h1:=zbA (k:=x) m.l;have h2:=zbA (k:=x) m.r;rw [m.eq] at h1;exact Decidable.not_iff_not.mp (h1.symm.trans h2)
theorem zdm:∀{ds:List (D×D)},zaf ds=true->(za9 ds).length=ds.length
 | [],_=>rfl
 | (.str x,d)::r,h=>by show _+1=_+1;rw [zdm (zaK h).2]
def Mp.len(m:Mp ds es):ds.length=es.length:=by rw [<-zdm m.l,<-zdm m.r];exact m.perm.length_eq
def zlJ{a b:List Str}(p:a.Perm b):zbP a=zbP b :=
 List.Perm.eq_of_pairwise (le:=leS) (fun x y _ _ h1 h2=>zhP (List.le_antisymm h1 h2)) (zdf a) (zdf b) ((zaJ a).trans (p.trans (zaJ b).symm))
noncomputable def PlV(ds:List (D×D)):Prop:=∀x d,zad x ds=some d->d.pl=true/\d.fit 8=true
theorem zhi:∀{ds:List (D×D)},zaf ds=true->PlV ds->zkU ds=true
 | [],_,_=>rfl
 | (.str x,d)::r,h,p=>by
  have hh:=zaK h;unfold zkU;rw [ya2,yaa];refine ⟨(p x d (by unfold zad;rw [if_pos rfl])).2,zhi hh.2 fun y e hy=>p y e ?_⟩;unfold zad;rw [if_neg (fun z=>by rw [<-z,hh.1] at hy;cases hy)];exact hy
theorem znR:∀{ds:List (D×D)},zaf ds=true->PlV ds->(∀x d,zad x ds=some d->zad x es=some d)->eqK es ds=true
 | [],_,_,_=>rfl
 | (.str x,d)::r,h,p,m=>by
  have hh:=zaK h
  have h0:zad x ((.str x,d)::r)=some d:=by unfold zad;rw [if_pos rfl]
  have up:∀y e,zad y r=some e->zad y ((.str x,d)::r)=some e:=fun y e hy=>by
   unfold zad;rw [if_neg (fun z=>by rw [<-z,hh.1] at hy;cases hy)];exact hy
  show ((match zad x es with | some e=>zdZ d e | none=>false)&&eqK es r)=true;rw [m x d h0,znR hh.2 (fun y e hy=>p y e (up y e hy)) fun y e hy=>m y e (up y e hy)];show (zdZ d d&&true)=true;rw [show zdZ d d=true from (ze5 d d (p x d h0).1 (p x d h0).1).mpr rfl];rfl
def zrZ(m:Mp ds es)(p:PlV ds):neD (.dic ds) (.dic es)=some (.bl false):=by
 have p':PlV es:=fun x d h=>p x d (by rw [m.eq];exact h)
 show (zk0 (.dic ds) (.dic es)).map _=_;show (if zaf ds&&zaf es&&zkU ds&&zkU es then some (ds.length == es.length&&eqK es ds) else none).map _=_;rw [m.l,m.r,zhi m.l p,zhi m.r p',m.len,znR m.l p fun x d h=>by rw [<-m.eq];exact h];simp
end
inductive DeedOk(n:Nat):D->Prop
 | put {k:Str} {rs:List (List D)} {c:Nat}:zcQ k->FlOk n c rs->rs.length<=6->c<=6->DeedOk n (.tup [.str "put",.str k,FlD rs])
 | take {k:Str}:zcQ k->DeedOk n (.tup [.str "take",.str k])
 | join {k k1 k2:Str} {b:Bool}:zcQ k->zcQ k1->zcQ k2->DeedOk n (.tup [.str "join",.str k,.str k1,.str k2,.bl b])
noncomputable def nmL:List D:=[.str "a",.str "b",.str "c",.str "sheet"]
theorem zpm{p:Int}(h0:0<=p)(h4:p<4):∃k,zcQ k/\atI nmL p=some (.str k):=by
 have:p=0\/p=1\/p=2\/p=3:=by omega
 rcases this with rfl | rfl | rfl | rfl
 ·exact ⟨"a",.inl rfl,zae nmL 0⟩
 ·exact ⟨"b",.inr (.inl rfl),zae nmL 1⟩
 ·exact ⟨"c",.inr (.inr (.inl rfl)),zae nmL 2⟩
 ·exact ⟨"sheet",.inr (.inr (.inr rfl)),zae nmL 3⟩
def zmF{r c:Nat}{g:Z1}:flr r c g=FlD ((List.range r).map fun i=>zjd c (g i)):=by
 unfold flr zmG FlD;rw [ybp];rfl
def zso{n r c:Nat}{g:Z1}(h1:1<=r)(h2:1<=c)(hg:∀i j x,g i j=some x->0<=x/\x<n):FlOk n c ((List.range r).map fun i=>zjd c (g i)) where
 ne:=by rw [yad,ycb];exact h1
 c1:=h2
 row:=fun row hr=>by
  obtain ⟨i,_,rfl⟩:=yau.mp hr;refine ⟨zlW,fun d hd=>?_⟩;unfold zjd at hd;obtain ⟨j,_,rfl⟩:=yau.mp hd
  cases hx:g i j with
  | none=>exact .inl rfl
  | some x=>exact .inr ⟨x,rfl,hg i j x hx⟩
theorem zlT{l:List Int}{at' most:Int}{ts:Z2}{S:Sto}(ha:0<=at')(ht:Tiles most ts)(hm:most<=16):∃d,DeedOk ts.length d/\zbu [.scr l,.int at',.tup (ts.map zan)] S=.ok d S:=by
 obtain ⟨p0,p4⟩:=zbm l at' (many:=4) (by decide);obtain ⟨w0,w6⟩:=zbm l (at'+1) (many:=6) (by decide);obtain ⟨k,hk,ek⟩:=zpm p0 p4;have e1:=za1 (l:=l) (k:=at') (many:=4) (S:=S) ha (by decide);have e2:=za1 (l:=l) (k:=at'+1) (many:=6) (S:=S) (by omega) (by decide);have hnl:nmL.length=4:=rfl
 by_cases hw:za2 l (at'+1) 6<3
 ·obtain ⟨r0,r3⟩:=zbm l (at'+2) (many:=3) (by decide);obtain ⟨c0,c3⟩:=zbm l (at'+3) (many:=3) (by decide);have e3:=za1 (l:=l) (k:=at'+2) (many:=3) (S:=S) (by omega) (by decide);have e4:=za1 (l:=l) (k:=at'+3) (many:=3) (S:=S) (by omega) (by decide);generalize za2 l (at'+2) 3=R at *;generalize za2 l (at'+3) 3=C at *;have hne:=ht.ne
  have hp:0<(((ts.map zan).length:Nat):Int)*2:=by rw [yad];omega
  have ef:=zjT (l:=l) (at':=at'+10) (m:=2) (ts:=ts.map zan) (r:=1+R) (c:=1+C) (S:=S) (by omega) hp (by decide) (by omega) (by omega) (by omega) (by omega);rw [zmF] at ef
  have hok:=zso (n:=ts.length) (r:=(1+R).toNat) (c:=(1+C).toNat) (g:=zkj l (at'+10) ((ts.map zan).length:Nat) 2) (by omega) (by omega) (fun i j x hx=>by
   have:=zrV hp x hx;rw [yad] at this
   exact this)
  refine ⟨_,.put hk hok (by rw [yad,ycb];omega) (by omega),?_⟩;generalize FlD _=F at *;generalize ts.map zan=T at *;generalize za2 l at' 4=P at *;generalize za2 l (at'+1) 6=W at *;have en:D.lst [.str "a",.str "b",.str "c",.str "sheet"]=.lst nmL:=rfl;simp [zbu,zau,zbW,en,e1,e2,e3,e4,ek,hw,ef]
 ·by_cases hw3:za2 l (at'+1) 6=3
  ·refine ⟨_,.take hk,?_⟩;generalize ts.map zan=T at *;generalize za2 l at' 4=P at *;generalize za2 l (at'+1) 6=W at *;have en:D.lst [.str "a",.str "b",.str "c",.str "sheet"]=.lst nmL:=rfl;simp [zbu,zau,zbW,en,e1,e2,ek,hw,hw3]
  ·obtain ⟨q0,q4⟩:=zbm l (at'+4) (many:=4) (by decide);obtain ⟨s0,s4⟩:=zbm l (at'+5) (many:=4) (by decide);obtain ⟨k1,hk1,ek1⟩:=zpm q0 q4;obtain ⟨k2,hk2,ek2⟩:=zpm s0 s4;have e3:=za1 (l:=l) (k:=at'+4) (many:=4) (S:=S) (by omega) (by decide);have e4:=za1 (l:=l) (k:=at'+5) (many:=4) (S:=S) (by omega) (by decide);have e5:=za1 (l:=l) (k:=at'+6) (many:=2) (S:=S) (by omega) (by decide);refine ⟨_,.join (b:=decide (za2 l (at'+6) 2=0)) hk hk1 hk2,?_⟩;generalize ts.map zan=T at *;generalize za2 l at' 4=P at *;generalize za2 l (at'+1) 6=W at *;generalize za2 l (at'+4) 4=Q at *;generalize za2 l (at'+5) 4=V at *;generalize za2 l (at'+6) 2=U at *;have en:D.lst [.str "a",.str "b",.str "c",.str "sheet"]=.lst nmL:=rfl;simp [zbu,zau,zbW,en,e1,e2,e3,e4,e5,ek,ek1,ek2,hw,hw3]
theorem zpl{k:Str}(h:zcQ k):PyData.strOk k=true:=by
 rcases h with rfl | rfl | rfl | rfl<;>decide +kernel
def zrY{x k:Str}(hx:PyData.strOk x=true)(hk:PyData.strOk k=true):neD (.str x) (.str k)=some (.bl (!decide (x=k))):=by
 unfold neD;rw [if_pos (by show (PyData.strOk x&&PyData.strOk k)=true;rw [hx,hk];rfl)]
 have e:zdZ (.str x) (.str k)=decide (x=k):=by
  have h:=ze5 (.str x) (.str k) rfl rfl
  by_cases q:x=k
  ·rw [yaC q];exact h.mpr (by rw [q])
  ·rw [yaQ q]
   cases hb:zdZ (.str x) (.str k) with
   | false=>rfl
   | true=>exact absurd (by cases h.mp hb;rfl) q
 rw [e]
def zsu:eqD (.str "put") (.str "put")=some (.bl true):=by kernel_rfl
def zpS:eqD (.str "take") (.str "put")=some (.bl false):=by kernel_rfl
def zst:eqD (.str "take") (.str "take")=some (.bl true):=by kernel_rfl
def zgD:eqD (.str "join") (.str "put")=some (.bl false):=by kernel_rfl
def zgC:eqD (.str "join") (.str "take")=some (.bl false):=by kernel_rfl
def zup:eqD (.str "join") (.str "join")=some (.bl true):=by kernel_rfl
def zuo:eqD (.str "put") (.str "join")=some (.bl false):=by kernel_rfl
def zun:eqD (.str "take") (.str "join")=some (.bl false):=by kernel_rfl
noncomputable def zfQ(es:List (D×D)):Prop:=∀x d,zad x es=some d->zcQ x
section
variable{S:Sto}{es:List (D×D)}{k k1 k2:Str}{F deed:D}
def zc0(ho:zaf es=true)(hk:zfQ es)(hn:zcQ k)(hd:ixD deed (.int 1)=some (.str k)) :
  zbY (.one 0) (zak neD (zaj 0) (zak ixD (zaj 1) (zai (.int 1)))) (zd4 [(zam 0),(zak ixD (zaj 2) (zaj 0))]) [none,some (false,deed),some (false,.dic es)] ((za9 es).map D.str) S=.ok (((zbg es).filter fun p=>!decide (p.1=k)).map fun p=>.tup [.str p.1,p.2]) S:=by
 rw [zeC (p:=fun d=>match d with | .str x=>!decide (x=k) | _=>false) (g:=fun d=>match d with | .str x=>.tup [.str x,(zad x es).getD .non] | _=>.non) (fun d hx0=>by
  obtain ⟨x,hx,rfl⟩:=yau.mp hx0;rw [zaL] at hx;obtain ⟨p,hp,rfl⟩:=yau.mp hx;have hl:=zcd ho p hp;have en:=zrY (zpl (hk _ _ hl)) (zpl hn)
  have ei:ixD (.dic es) (.str p.1)=some p.2:=by show (if zaf es then zad p.1 es else none)=_;rw [if_pos ho,hl]
  refine ⟨_,rfl,?_,fun _=>?_⟩
  ·simp [hd,en]
  ·simp [ei,hl]),zaL,ybp,List.filter_map,ybp]
 congr 1;have ef:((fun d=>match d with | D.str x=>!decide (x=k) | _=>false)∘D.str∘fun x:Str×D=>x.1)=fun p:Str×D=>!decide (p.1=k):=rfl
 rw [ef];apply List.map_congr_left;intro p hp;have hl:=zcd ho p (ycq.mp hp).1;show D.tup [.str p.1,(zad p.1 es).getD .non]=_;rw [hl];rfl
def zi1(ho:zaf es=true):((((zbg es).filter fun p=>!decide (p.1=k))).map (·.1)).Nodup:=by
 have h:=zcf ho;rw [zaL] at h;exact h.sublist ((List.filter_sublist).map _)
def zcZ(ho:zaf es=true):zhq [.lst (((zbg es).filter fun p=>!decide (p.1=k)).map fun p=>.tup [.str p.1,p.2])]=some (.dic (dropS k es)):=by
 rw [ze7 (zi1 ho),zez ho]
def zkH(ho:zaf es=true):inD (.str k) (.dic es)=some (.bl (zad k es).isSome):=by
 show (zqr (.str k) (.dic es)).map _=_;show (if zaf es then some (zad k es).isSome else none).map _=_;rw [if_pos ho];rfl
def zdB(ho:zaf es=true):zlx (.str k) (.dic es)=some (.bl (!(zad k es).isSome)):=by
 show (zqr (.str k) (.dic es)).map _=_;show (if zaf es then some (zad k es).isSome else none).map _=_;rw [if_pos ho];rfl
def zgs{d:D}(ho:zaf es=true)(h:zad k es=some d):ixD (.dic es) (.str k)=some d:=by
 show (if zaf es then zad k es else none)=_;rw [if_pos ho,h]
theorem zdr:∀{ds:List (D×D)},(dropS k ds).length<=ds.length
 | []=>yai _
 | (.str x,d)::r=>by
  unfold dropS;split
  ·exact ybg _
  ·exact ybS zdr
 | (.non,_)::_=>yaD _
 | (.bl _,_)::_=>yaD _
 | (.int _,_)::_=>yaD _
 | (.tup _,_)::_=>yaD _
 | (.lst _,_)::_=>yaD _
 | (.dic _,_)::_=>yaD _
 | (.ref _,_)::_=>yaD _
 | (.exc _,_)::_=>yaD _
 | (.scr _,_)::_=>yaD _
def zkf{l:List (Str×D)}(h:l.length<=100000):(l.map fun p=>D.tup [.str p.1,p.2]).length<=100000:=by rw [yad];exact h
theorem zcY(hl:es.length<=1000)(ho:zaf es=true):(((zbg es).filter fun p=>!decide (p.1=k)).map fun p=>D.tup [.str p.1,p.2]).length<=100000:=by
 refine zkf (yax (List.length_filter_le _ _) ?_);have:=zdm ho;rw [zaL,yad] at this;omega
def zp4(ho:zaf es=true)(hl:es.length<=1000)(hk:zfQ es)(hn:zcQ k):zab [.dic es,.tup [.str "put",.str k,F]] S=.ok (.tup [.dic (putS k F (dropS k es)),.bl (zad k es).isSome]) S:=by
 have d0:ixD (.tup [.str "put",.str k,F]) (.int 0)=some (.str "put"):=zae _ 0;have d1:ixD (.tup [.str "put",.str k,F]) (.int 1)=some (.str k):=zae _ 1;have d2:ixD (.tup [.str "put",.str k,F]) (.int 2)=some F:=zae _ 2;have ec:=zc0 (S:=S) ho hk hn d1;have er:=zcZ (k:=k) ho;have hz:=zcY (k:=k) hl ho;have ei:=zkH (k:=k) ho
 have hP:∀ρ:Env,ρ[2]?=some (some (true,.dic (dropS k es)))->ρ[1]?=some (some (false,.tup [.str "put",.str k,F]))->zeJ 2 (zak ixD (zaj 1) (zai (.int 1))) (zak ixD (zaj 1) (zai (.int 2))) ρ S=.nx (ρ.set 2 (some (true,.dic (putS k F (dropS k es))))) S :=
  fun ρ h2 h1=>zj3 h2 (zbz ho) (yax zdr (by omega)) (by rw [zhJ,zhI,h1,zmv,zie,zhH,zid,d2];rfl) (by rw [zhJ,zhI,h1,zmv,zie,zhH,zid,d1];rfl)
 generalize hdd:D.tup [.str "put",.str k,F]=deed at *;generalize (((zbg es).filter fun p=>!decide (p.1=k)).map fun p=>D.tup [.str p.1,p.2])=L at *;simp [zab,zau,zas,zfd,ho,ec,er,hz,d0,d1,zsu,hP,ei]
end
section
variable{S:Sto}{es:List (D×D)}{k k1 k2:Str}{F deed x y:D}{b:Bool}
def zm4(ho:zaf es=true)(hl:es.length<=1000)(hk:zfQ es)(hn:zcQ k)(h:zad k es=some F):zab [.dic es,.tup [.str "take",.str k]] S=.ok (.tup [.dic (dropS k es),F]) S:=by
 have d0:ixD (.tup [.str "take",.str k]) (.int 0)=some (.str "take"):=zae _ 0;have d1:ixD (.tup [.str "take",.str k]) (.int 1)=some (.str k):=zae _ 1;have ec:=zc0 (S:=S) ho hk hn d1;have er:=zcZ (k:=k) ho;have hz:=zcY (k:=k) hl ho;have ei:=zkH (k:=k) ho;rw [h] at ei;have ex:=zgs ho h;generalize hdd:D.tup [.str "take",.str k]=deed at *;generalize (((zbg es).filter fun p=>!decide (p.1=k)).map fun p=>D.tup [.str p.1,p.2])=L at *;simp [zab,zau,zas,zfd,ho,ec,er,hz,d0,d1,zpS,zst,ei,ex]
def zhx(ho:zaf es=true)(hl:es.length<=1000)(hk:zfQ es)(hn:zcQ k)(h:zad k es=none):zab [.dic es,.tup [.str "take",.str k]] S=.ok (.tup [.dic es,.str "no name"]) S:=by
 have d0:ixD (.tup [.str "take",.str k]) (.int 0)=some (.str "take"):=zae _ 0;have d1:ixD (.tup [.str "take",.str k]) (.int 1)=some (.str k):=zae _ 1;have ec:=zc0 (S:=S) ho hk hn d1;have er:=zcZ (k:=k) ho;have hz:=zcY (k:=k) hl ho;have ei:=zkH (k:=k) ho;rw [h] at ei;generalize hdd:D.tup [.str "take",.str k]=deed at *;generalize (((zbg es).filter fun p=>!decide (p.1=k)).map fun p=>D.tup [.str p.1,p.2])=L at *;simp [zab,zau,zas,zfd,ho,ec,er,hz,d0,d1,zpS,zst,ei]
def zeF(ho:zaf es=true)(hl:es.length<=1000)(hk:zfQ es)(hn:zcQ k)(h:zad k1 es=none\/zad k2 es=none):zab [.dic es,.tup [.str "join",.str k,.str k1,.str k2,.bl b]] S=.ok (.tup [.dic es,.str "no name"]) S:=by
 have d0:ixD (.tup [.str "join",.str k,.str k1,.str k2,.bl b]) (.int 0)=some (.str "join"):=zae _ 0;have d1:ixD (.tup [.str "join",.str k,.str k1,.str k2,.bl b]) (.int 1)=some (.str k):=zae _ 1;have d2:ixD (.tup [.str "join",.str k,.str k1,.str k2,.bl b]) (.int 2)=some (.str k1):=zae _ 2;have d3:ixD (.tup [.str "join",.str k,.str k1,.str k2,.bl b]) (.int 3)=some (.str k2):=zae _ 3;have ec:=zc0 (S:=S) ho hk hn d1;have er:=zcZ (k:=k) ho;have hz:=zcY (k:=k) hl ho;have n1:=zdB (k:=k1) ho;have n2:=zdB (k:=k2) ho;generalize hdd:D.tup [.str "join",.str k,.str k1,.str k2,.bl b]=deed at *;generalize (((zbg es).filter fun p=>!decide (p.1=k)).map fun p=>D.tup [.str p.1,p.2])=L at *
 cases h1:zad k1 es with
 | none =>
  rw [h1] at n1;simp [zab,zau,zas,zfd,ho,ec,er,hz,d0,d1,d2,d3,zgD,zgC,n1]
 | some x =>
  rw [h1] at n1 h
  rcases h with z | h
  ·cases z
  rw [h] at n2;simp [zab,zau,zas,zfd,ho,ec,er,hz,d0,d1,d2,d3,zgD,zgC,n1,n2]
variable{n c c':Nat}{rs rs':List (List D)}
theorem zfN(ho:zaf es=true)(hl:es.length<=1000)(hk:zfQ es)(hn:zcQ k)(h1:zad k1 es=some (FlD rs))(h2:zad k2 es=some (FlD rs'))(f1:FlOk n c rs)(f2:FlOk n c' rs')(r1:rs.length<=6)(r2:rs'.length<=6)(hc:c<=6)(hc':c'<=6) :
  zab [.dic es,.tup [.str "join",.str k,.str k1,.str k2,.bl true]] S=.ok (if rs.length=rs'.length/\c+c'<=6 then .tup [.dic (putS k (FlD (zbK rs rs')) (dropS k es)),FlD (zbK rs rs')] else .tup [.dic es,.str "unlike"]) S:=by
 have d0:ixD (.tup [.str "join",.str k,.str k1,.str k2,.bl true]) (.int 0)=some (.str "join"):=zae _ 0;have d1:ixD (.tup [.str "join",.str k,.str k1,.str k2,.bl true]) (.int 1)=some (.str k):=zae _ 1;have d2:ixD (.tup [.str "join",.str k,.str k1,.str k2,.bl true]) (.int 2)=some (.str k1):=zae _ 2;have d3:ixD (.tup [.str "join",.str k,.str k1,.str k2,.bl true]) (.int 3)=some (.str k2):=zae _ 3;have d4:ixD (.tup [.str "join",.str k,.str k1,.str k2,.bl true]) (.int 4)=some (.bl true):=zae _ 4;have ec:=zc0 (S:=S) ho hk hn d1;have er:=zcZ (k:=k) ho;have hz:=zcY (k:=k) hl ho;have n1:=zdB (k:=k1) ho;have n2:=zdB (k:=k2) ho;have x1:=zgs ho h1;have x2:=zgs ho h2;rw [h1] at n1;rw [h2] at n2;generalize hdd:D.tup [.str "join",.str k,.str k1,.str k2,.bl true]=deed at *;generalize (((zbg es).filter fun p=>!decide (p.1=k)).map fun p=>D.tup [.str p.1,p.2])=L at *
 have ha:zci (FlD rs) (FlD rs')=some (FlD (rs++rs')):=by
  unfold FlD;show (if small _ then some (D.tup (rs.map D.tup++rs'.map D.tup)) else none)=_;rw [if_pos (show small _=true from yaC (by rw [yad,yad];omega)),ybG]
 have e1:zcH [FlD rs]=some (.int rs.length):=by unfold FlD;rw [zdJ,yad]
 have e2:zcH [FlD rs']=some (.int rs'.length):=by unfold FlD;rw [zdJ,yad]
 by_cases he:rs.length=rs'.length
 ·have fj:=f1.beside f2 he;rw [<-he] at e2
  have ecj:zbY (.one 0) zeI (zak zci (zak ixD (zaj 1) (zaj 0)) (zak ixD (zaj 2) (zaj 0))) [none,some (false,FlD rs),some (false,FlD rs')] (za8 0 rs.length) S=.ok ((zbK rs rs').map D.tup) S:=by
   rw [zbo (g:=fun d=>match d with | .int i=>.tup ((rs.getD i.toNat [])++(rs'.getD i.toNat [])) | _=>.non) (fun d hd=>by
    obtain ⟨i,rfl,hi⟩:=zj0 hd
    have hi1:i<rs.length:=by omega
    have hi2:i<rs'.length:=by omega
    have g1:ixD (FlD rs) (.int i)=some (.tup rs[i]):=by unfold FlD;rw [zqv,zae,yao,yac hi1];rfl
    have g2:ixD (FlD rs') (.int i)=some (.tup rs'[i]):=by unfold FlD;rw [zqv,zae,yao,yac hi2];rfl
    have l1:=(f1.row _ (ycl hi1)).1;have l2:=(f2.row _ (ycl hi2)).1
    have hs:rs[i].length+rs'[i].length<=100000:=by omega
    refine ⟨_,rfl,?_⟩
    have q1:rs.getD i []=rs[i]:=by rw [yaM,yac hi1];rfl
    have q2:rs'.getD i []=rs'[i]:=by rw [yaM,yac hi2];rfl
    simp only [ycH,q1,q2];generalize rs[i]=u at *;generalize rs'[i]=v at *;generalize FlD rs=A at *;generalize FlD rs'=B at *
    simp [g1,g2,hs])]
   congr 1;apply ycI;intro i
   by_cases hi:i<rs.length
   ·have hi2:i<rs'.length:=by omega
    unfold zbK za8;rw [yao,yao,yao,yao,List.getElem?_range (by omega)];have hzp:(List.zip rs rs')[i]?=some (rs[i],rs'[i]):=List.getElem?_zip_eq_some.mpr ⟨yac hi,yac hi2⟩;rw [hzp];simp [hi,hi2]
   ·rw [List.getElem?_eq_none (by rw [yad,zgc];omega),List.getElem?_eq_none (by rw [yad,zcg];omega)]
  have hzj:((zbK rs rs').map D.tup).length<=100000:=by rw [yad,zcg];omega
  have et:zcB [.lst ((zbK rs rs').map D.tup)]=some (FlD (zbK rs rs')):=rfl
  have ej:zcH [FlD (zbK rs rs')]=some (.int rs.length):=by unfold FlD;rw [zdJ,yad,zcg,<-he,Nat.min_self]
  obtain ⟨j0,aj,lj⟩:=at0 fj;have aj':ixD (FlD (zbK rs rs')) (.int 0)=some (.tup j0):=aj
  have lj':zcH [.tup j0]=some (.int (c+c':Nat)):=by rw [zdJ,lj]
  have hr:decide ((6:Int)<rs.length)=false:=by simp;omega
  have hP:∀ρ:Env,ρ[2]?=some (some (true,.dic (dropS k es)))->ρ[1]?=some (some (false,deed))->ρ[6]?=some (some (false,FlD (zbK rs rs')))->zeJ 2 (zak ixD (zaj 1) (zai (.int 1))) (zam 6) ρ S=.nx (ρ.set 2 (some (true,.dic (putS k (FlD (zbK rs rs')) (dropS k es))))) S :=
   fun ρ h2 h1 h6=>zj3 h2 (zbz ho) (yax zdr (by omega)) (by rw [zm9,h6];rfl) (by rw [zhJ,zhI,h1,zmv,zie,zhH,zid,d1];rfl)
  have hrr:-1000000<=(rs.length:Int)/\(rs.length:Int)<=1000000:=by omega
  have hq:(6:Int)<(rs.length:Int)↔False:=⟨fun z=>by omega,False.elim⟩;generalize FlD (rs++rs')=AB at *;generalize FlD (zbK rs rs')=J at *;generalize (zbK rs rs').map D.tup=JL at *;generalize FlD rs=A at *;generalize FlD rs'=B at *
  by_cases h6:c+c'<=6
  ·have hc6:decide ((6:Int)<((c+c':Nat):Int))=false:=yaQ (by omega);rw [if_pos ⟨he,h6⟩];generalize ((c+c':Nat):Int)=Q at *;generalize ((rs.length:Nat):Int)=R at *;simp [zab,zau,zas,zfd,ho,ec,er,hz,d0,d1,d2,d3,d4,zgD,zgC,n1,n2,x1,x2,e1,e2,ha,ecj,hzj,et,ej,aj',lj',hP,hrr,hr,hc6]
  ·have hc6:decide ((6:Int)<((c+c':Nat):Int))=true:=yaC (by omega);rw [if_neg (fun z=>h6 z.2)];generalize ((c+c':Nat):Int)=Q at *;generalize ((rs.length:Nat):Int)=R at *;simp [zab,zau,zas,zfd,ho,ec,er,hz,d0,d1,d2,d3,d4,zgD,zgC,n1,n2,x1,x2,e1,e2,ha,ecj,hzj,et,ej,aj',lj',hrr,hr,hc6]
 ·have he':¬ ((rs.length:Int)=rs'.length):=by omega
  generalize FlD (rs++rs')=AB at *;generalize FlD (zbK rs rs')=J at *;generalize FlD rs=A at *;generalize FlD rs'=B at *;rw [if_neg (fun z=>he z.1)];simp [zab,zau,zas,zfd,ho,ec,er,hz,d0,d1,d2,d3,d4,zgD,zgC,n1,n2,x1,x2,e1,e2,he']
end
section
variable{S:Sto}{es:List (D×D)}{k k1 k2:Str}{n c c':Nat}{rs rs':List (List D)}
theorem zeT(ho:zaf es=true)(hl:es.length<=1000)(hk:zfQ es)(hn:zcQ k)(h1:zad k1 es=some (FlD rs))(h2:zad k2 es=some (FlD rs'))(f1:FlOk n c rs)(f2:FlOk n c' rs')(r1:rs.length<=6)(r2:rs'.length<=6)(hc:c<=6)(hc':c'<=6) :
  zab [.dic es,.tup [.str "join",.str k,.str k1,.str k2,.bl false]] S=.ok (if c=c'/\rs.length+rs'.length<=6 then .tup [.dic (putS k (FlD (rs++rs')) (dropS k es)),FlD (rs++rs')] else .tup [.dic es,.str "unlike"]) S:=by
 have d0:ixD (.tup [.str "join",.str k,.str k1,.str k2,.bl false]) (.int 0)=some (.str "join"):=zae _ 0;have d1:ixD (.tup [.str "join",.str k,.str k1,.str k2,.bl false]) (.int 1)=some (.str k):=zae _ 1;have d2:ixD (.tup [.str "join",.str k,.str k1,.str k2,.bl false]) (.int 2)=some (.str k1):=zae _ 2;have d3:ixD (.tup [.str "join",.str k,.str k1,.str k2,.bl false]) (.int 3)=some (.str k2):=zae _ 3;have d4:ixD (.tup [.str "join",.str k,.str k1,.str k2,.bl false]) (.int 4)=some (.bl false):=zae _ 4;have ec:=zc0 (S:=S) ho hk hn d1;have er:=zcZ (k:=k) ho;have hz:=zcY (k:=k) hl ho;have n1:=zdB (k:=k1) ho;have n2:=zdB (k:=k2) ho;have x1:=zgs ho h1;have x2:=zgs ho h2;rw [h1] at n1;rw [h2] at n2;generalize hdd:D.tup [.str "join",.str k,.str k1,.str k2,.bl false]=deed at *;generalize (((zbg es).filter fun p=>!decide (p.1=k)).map fun p=>D.tup [.str p.1,p.2])=L at *
 have ha:zci (FlD rs) (FlD rs')=some (FlD (rs++rs')):=by
  unfold FlD;show (if small _ then some (D.tup (rs.map D.tup++rs'.map D.tup)) else none)=_;rw [if_pos (show small _=true from yaC (by rw [yad,yad];omega)),ybG]
 obtain ⟨a0,aa,la⟩:=at0 f1;obtain ⟨b0,ab,lb⟩:=at0 f2;have aa':ixD (FlD rs) (.int 0)=some (.tup a0):=aa;have ab':ixD (FlD rs') (.int 0)=some (.tup b0):=ab
 have la':zcH [.tup a0]=some (.int c):=by rw [zdJ,la]
 have lb':zcH [.tup b0]=some (.int c'):=by rw [zdJ,lb]
 have nn:zcG (.bl false)=some (.bl true):=rfl
 by_cases he:c=c'
 ·subst he;have fj:=f1.below f2
  have ej:zcH [FlD (rs++rs')]=some (.int (rs.length+rs'.length:Nat)):=by unfold FlD;rw [zdJ,yad,yas]
  obtain ⟨j0,aj,lj⟩:=at0 fj;have aj':ixD (FlD (rs++rs')) (.int 0)=some (.tup j0):=aj
  have lj':zcH [.tup j0]=some (.int c):=by rw [zdJ,lj]
  have hr:decide ((6:Int)<c)=false:=yaQ (by omega)
  have hP:∀ρ:Env,ρ[2]?=some (some (true,.dic (dropS k es)))->ρ[1]?=some (some (false,deed))->ρ[6]?=some (some (false,FlD (rs++rs')))->zeJ 2 (zak ixD (zaj 1) (zai (.int 1))) (zam 6) ρ S=.nx (ρ.set 2 (some (true,.dic (putS k (FlD (rs++rs')) (dropS k es))))) S :=
   fun ρ h2 h1 h6=>zj3 h2 (zbz ho) (yax zdr (by omega)) (by rw [zm9,h6];rfl) (by rw [zhJ,zhI,h1,zmv,zie,zhH,zid,d1];rfl)
  generalize FlD (rs++rs')=J at *;generalize FlD rs=A at *;generalize FlD rs'=B at *
  by_cases h6:rs.length+rs'.length<=6
  ·have hc6:decide ((6:Int)<((rs.length+rs'.length:Nat):Int))=false:=yaQ (by omega);rw [if_pos ⟨rfl,h6⟩];generalize ((rs.length+rs'.length:Nat):Int)=Q at *;generalize ((c:Nat):Int)=R at *;simp [zab,zau,zas,zfd,ho,ec,er,hz,d0,d1,d2,d3,d4,zgD,zgC,n1,n2,x1,x2,aa',ab',la',lb',nn,ha,ej,aj',lj',hP,hr,hc6]
  ·have hc6:decide ((6:Int)<((rs.length+rs'.length:Nat):Int))=true:=yaC (by omega);rw [if_neg (fun z=>h6 z.2)];generalize ((rs.length+rs'.length:Nat):Int)=Q at *;generalize ((c:Nat):Int)=R at *;simp [zab,zau,zas,zfd,ho,ec,er,hz,d0,d1,d2,d3,d4,zgD,zgC,n1,n2,x1,x2,aa',ab',la',lb',nn,ha,ej,aj',lj',hr,hc6]
 ·have he':¬ ((c:Int)=c'):=by omega
  generalize FlD (rs++rs')=J at *;generalize FlD rs=A at *;generalize FlD rs'=B at *;rw [if_neg (fun z=>he z.1)];simp [zab,zau,zas,zfd,ho,ec,er,hz,d0,d1,d2,d3,d4,zgD,zgC,n1,n2,x1,x2,aa',ab',la',lb',nn,he']
variable{m:Nat}{ts:D}{ds:List (D×D)}{dn un:List D}
def zf5(h:S[m]?=some (alb ts ds dn un))(ho:zaf ds=true)(hl:ds.length<64):zbk [.ref m] S=.ok (.lst ((zbP (za9 ds)).map D.str)) S:=by
 have e1:∀ρ:Env,ρ[0]?=some (some (false,.ref m))->zi4 "Album" "named" 0 ρ S=.ok (.lst ((zbP (za9 ds)).map D.str)) S:=fun ρ h0=>by
  unfold zi4;rw [zcw h0 h ho];dsimp only;rw [if_pos hl]
 simp [zbk,zau,zct,e1]
def zhS(ds:List (D×D)):List (Str×D):=(zbP (za9 ds)).map fun x=>(x,(zad x ds).getD .non)
def zf3:(zhS ds).map (·.1)=zbP (za9 ds):=by
 unfold zhS;rw [ybp];exact List.map_id _
def zdw(ho:zaf ds=true):((zhS ds).map (·.1)).Nodup:=by
 rw [zf3];exact (zaJ _).nodup_iff.mpr (zcf ho)
def zkq(ho:zaf ds=true)(x:Str):zad x (unS (zhS ds))=zad x ds:=by
 obtain ⟨o,pe⟩:=zdV (zdw ho)
 cases hx:zad x ds with
 | none =>
  rw [zbA o,zaL,pe,zf3];intro z;exact (zbA ho).mp hx ((zaJ _).mem_iff.mp z)
 | some d =>
  have hm:x∈zbP (za9 ds):=(zaJ _).mem_iff.mpr (by
   rw [zaL]
   exact yau.mpr ⟨(x,d),zgo hx,rfl⟩)
  have:(x,d)∈zbg (unS (zhS ds)):=by
   rw [pe];exact yau.mpr ⟨x,hm,by rw [hx];rfl⟩
  exact zcd o _ this
def Mp.srt(ho:zaf ds=true):Mp (unS (zhS ds)) ds:=⟨(zdV (zdw ho)).1,ho,zkq ho⟩
theorem zoP(h:S[m]?=some (alb ts ds dn un))(ho:zaf ds=true)(hl:ds.length<64)(hk:zfQ ds):zbI [.ref m] S=.ok (.dic (unS (zhS ds))) S:=by
 have e1:=zf5 h ho hl;have m1:zaG "Album" "names" (.ref m) S=true:=zaS h (by decide);have m2:zaG "Album" "floor_of" (.ref m) S=true:=zaS h (by decide)
 have ec:zbY (.one 0) zeI (zd4 [(zam 0),(zbf "Album" "floor_of" zaq (zam 1) [(zam 0)])]) [none,some (false,.ref m)] ((zbP (za9 ds)).map D.str) S=.ok ((zhS ds).map fun p=>.tup [.str p.1,p.2]) S:=by
  rw [zbo (g:=fun d=>match d with | .str x=>.tup [.str x,(zad x ds).getD .non] | _=>.non) (fun d hd0=>by
   obtain ⟨x,hx,rfl⟩:=yau.mp hd0;have hx':=(zaJ _).mem_iff.mp hx;rw [zaL] at hx';obtain ⟨p,hp,rfl⟩:=yau.mp hx';have hl:=zcd ho p hp;have e2:=zbe (hk _ _ hl) h ho hl;refine ⟨_,rfl,?_⟩
   simp [m2,e2,hl]),ybp]
  unfold zhS;rw [ybp];rfl
 have hz:((zhS ds).map fun p=>D.tup [.str p.1,p.2]).length<=100000:=by
  rw [yad];unfold zhS;rw [yad,(zaJ _).length_eq,zdm ho];omega
 have ed:=ze7 (zdw ho);generalize ((zhS ds).map fun p=>D.tup [.str p.1,p.2])=L at *;simp [zbI,zau,zcr,zfd,m1,e1,ec,hz,ed]
end
def zkX(und:Str->Str->Bool)(isx:Str->Str->Option Bool):Fs :=
  (zar (sFz [] (sIf (zak eqD (zak ixD (zaj 1) (zai (.int 0))) (zai (.str "join"))) (zar (sFz [0,1] (zbt (zdT und isx [0,1] (zbf "Album" "join" zah (zam 0) [(zak ixD (zaj 1) (zai (.int 1))),(zak ixD (zaj 1) (zai (.int 2))),(zak ixD (zaj 1) (zai (.int 3))),(zak ixD (zaj 1) (zai (.int 4)))])))) sNx) sNx))
  (zar (sFz [0,1] (zbt (zdT und isx [0,1] (eIf (zak eqD (zak ixD (zaj 1) (zai (.int 0))) (zai (.str "put"))) (zbf "Album" "put" zaH (zam 0) [(zak ixD (zaj 1) (zai (.int 1))),(zak ixD (zaj 1) (zai (.int 2)))]) (zbf "Album" "take" zax (zam 0) [(zak ixD (zaj 1) (zai (.int 1)))])))))
  sNx))
structure ClsT(und:Str->Str->Bool)(isx:Str->Str->Option Bool):Prop where
 u1:und "NoName" "FloorError" = true
 u2:und "Unlike" "FloorError" = true
 c1:∀S,znW isx "NoName" S=.ok (.str "no name") S
 c2:∀S,znW isx "Unlike" S=.ok (.str "unlike") S
def zeO(und:Str->Str->Bool)(isx:Str->Str->Option Bool):Out D->Out D | .ok d S'=>.ok d S' | .exc c S'=>if und c "FloorError" then znW isx c S' else .bad | .bad=>.bad
section
variable{und:Str->Str->Bool}{isx:Str->Str->Option Bool}{S:Sto}{m:Nat}{deed:D}
def zjk{ρ:Env}{caps:List Nat}{fb:Fe}{ds:List D}(h:zhu ρ caps=some ds):zdT und isx caps fb ρ S=zeO und isx (fb (ds.map fun d=>some (false,d)) S):=by
 unfold zdT;rw [h];dsimp only
 cases fb (ds.map fun d=>some (false,d)) S<;>rfl
def zmO{k k1 k2:Str}{b:Bool}(hm:zaG "Album" "join" (.ref m) S=true):zby 2 false (zkX und isx) [.ref m,.tup [.str "join",.str k,.str k1,.str k2,.bl b]] S=zeO und isx (zah [.ref m,.str k,.str k1,.str k2,.bl b] S):=by
 have d0:ixD (.tup [.str "join",.str k,.str k1,.str k2,.bl b]) (.int 0)=some (.str "join"):=zae _ 0;have d1:ixD (.tup [.str "join",.str k,.str k1,.str k2,.bl b]) (.int 1)=some (.str k):=zae _ 1;have d2:ixD (.tup [.str "join",.str k,.str k1,.str k2,.bl b]) (.int 2)=some (.str k1):=zae _ 2;have d3:ixD (.tup [.str "join",.str k,.str k1,.str k2,.bl b]) (.int 3)=some (.str k2):=zae _ 3;have d4:ixD (.tup [.str "join",.str k,.str k1,.str k2,.bl b]) (.int 4)=some (.bl b):=zae _ 4;generalize D.tup [.str "join",.str k,.str k1,.str k2,.bl b]=deed at *
 have ht:zdT und isx [0,1] (zbf "Album" "join" zah (zam 0) [(zak ixD (zaj 1) (zai (.int 1))),(zak ixD (zaj 1) (zai (.int 2))),(zak ixD (zaj 1) (zai (.int 3))),(zak ixD (zaj 1) (zai (.int 4)))]) [some (false,.ref m),some (false,deed)] S=zeO und isx (zah [.ref m,.str k,.str k1,.str k2,.bl b] S):=by
  rw [zjk (ds:=[.ref m,deed]) rfl];simp [hm,d1,d2,d3,d4]
 cases hx:zeO und isx (zah [.ref m,.str k,.str k1,.str k2,.bl b] S)<;>rw [hx] at ht<;>simp [zau,zkX,d0,zup,ht]
 all_goals rfl
def zpW{k:Str}{F:D}(hm:zaG "Album" "put" (.ref m) S=true):zby 2 false (zkX und isx) [.ref m,.tup [.str "put",.str k,F]] S=zeO und isx (zaH [.ref m,.str k,F] S):=by
 have d0:ixD (.tup [.str "put",.str k,F]) (.int 0)=some (.str "put"):=zae _ 0;have d1:ixD (.tup [.str "put",.str k,F]) (.int 1)=some (.str k):=zae _ 1;have d2:ixD (.tup [.str "put",.str k,F]) (.int 2)=some F:=zae _ 2;generalize D.tup [.str "put",.str k,F]=deed at *
 have ht:zdT und isx [0,1] (eIf (zak eqD (zak ixD (zaj 1) (zai (.int 0))) (zai (.str "put"))) (zbf "Album" "put" zaH (zam 0) [(zak ixD (zaj 1) (zai (.int 1))),(zak ixD (zaj 1) (zai (.int 2)))]) (zbf "Album" "take" zax (zam 0) [(zak ixD (zaj 1) (zai (.int 1)))])) [some (false,.ref m),some (false,deed)] S=zeO und isx (zaH [.ref m,.str k,F] S):=by
  rw [zjk (ds:=[.ref m,deed]) rfl];simp [hm,d0,d1,d2,zsu]
 cases hx:zeO und isx (zaH [.ref m,.str k,F] S)<;>rw [hx] at ht<;>simp [zau,zkX,d0,zuo,ht]
 all_goals rfl
def zmN{k:Str}(hm:zaG "Album" "take" (.ref m) S=true):zby 2 false (zkX und isx) [.ref m,.tup [.str "take",.str k]] S=zeO und isx (zax [.ref m,.str k] S):=by
 have d0:ixD (.tup [.str "take",.str k]) (.int 0)=some (.str "take"):=zae _ 0;have d1:ixD (.tup [.str "take",.str k]) (.int 1)=some (.str k):=zae _ 1;generalize D.tup [.str "take",.str k]=deed at *
 have ht:zdT und isx [0,1] (eIf (zak eqD (zak ixD (zaj 1) (zai (.int 0))) (zai (.str "put"))) (zbf "Album" "put" zaH (zam 0) [(zak ixD (zaj 1) (zai (.int 1))),(zak ixD (zaj 1) (zai (.int 2)))]) (zbf "Album" "take" zax (zam 0) [(zak ixD (zaj 1) (zai (.int 1)))])) [some (false,.ref m),some (false,deed)] S=zeO und isx (zax [.ref m,.str k] S):=by
  rw [zjk (ds:=[.ref m,deed]) rfl];simp [hm,d0,d1,zpS]
 cases hx:zeO und isx (zax [.ref m,.str k] S)<;>rw [hx] at ht<;>simp [zau,zkX,d0,zun,ht]
 all_goals rfl
end
def zpM{n c:Nat}{rs:List (List D)}(h:FlOk n c rs):(FlD rs).pl=true/\∀j,D.fit (j+2) (FlD rs)=true:=by
 have hc:∀r∈rs,∀d∈r,d.pl=true/\∀j,D.fit j d=true:=fun r hr d hd=>by
  rcases (h.row r hr).2 d hd with rfl | ⟨x,rfl,_,_⟩
  ·exact ⟨rfl,fun j=>zpO⟩
  ·exact ⟨rfl,fun j=>zkT⟩
 refine ⟨?_,fun j=>?_⟩
 ·show D.pls (rs.map D.tup)=true;rw [D.pls_iff];intro d hd;obtain ⟨r,hr,rfl⟩:=yau.mp hd;show D.pls r=true;rw [D.pls_iff];exact fun d hd=>(hc r hr d hd).1
 ·show D.fits (j+1) (rs.map D.tup)=true;rw [D.fits_iff];intro d hd;obtain ⟨r,hr,rfl⟩:=yau.mp hd;show D.fits j r=true;rw [D.fits_iff];exact fun d hd=>(hc r hr d hd).2 j
noncomputable def zn3(n:Nat)(d:D):Prop:=∃rs c,d=FlD rs/\FlOk n c rs/\rs.length<=6/\c<=6
structure AV(n:Nat)(ds:List (D×D)):Prop where
 key:zfQ ds
 val:∀x d,zad x ds=some d->zn3 n d
section
variable{n:Nat}{ds es:List (D×D)}{k:Str}{d:D}
theorem zn3.pl(h:zn3 n d):d.pl=true/\d.fit 8=true/\d.fit 9=true/\zdC d=false:=by
 obtain ⟨rs,c,rfl,f,_,_⟩:=h;exact ⟨(zpM f).1,(zpM f).2 6,(zpM f).2 7,rfl⟩
def AV.plv(h:AV n ds):PlV ds:=fun x d hx=>⟨(h.val x d hx).pl.1,(h.val x d hx).pl.2.1⟩
def AV.of(h:AV n ds)(e:∀x,zad x ds=zad x es):AV n es:=⟨fun x d hx=>h.key x d (by rw [e];exact hx),fun x d hx=>h.val x d (by rw [e];exact hx)⟩
def AV.put(h:AV n ds)(ho:zaf ds=true)(hk:zcQ k)(hd:zn3 n d):AV n (putS k d ds):=by
 refine ⟨fun x e hx=>?_,fun x e hx=>?_⟩<;>rw [zdl ho] at hx<;>split at hx
 ·rename_i q;rw [<-q];exact hk
 ·exact h.key x e hx
 ·cases hx;exact hd
 ·exact h.val x e hx
def AV.drop(h:AV n ds)(ho:zaf ds=true):AV n (dropS k ds):=by
 refine ⟨fun x e hx=>?_,fun x e hx=>?_⟩<;>rw [zce ho] at hx<;>split at hx
 ·cases hx
 ·exact h.key x e hx
 ·cases hx
 ·exact h.val x e hx
theorem zg3:∀{ds:List (D×D)},(putS k d ds).length<=ds.length+1
 | []=>yai _
 | (.str x,e)::r=>by
  unfold putS;split
  ·exact ybg _
  ·exact ybS zg3
 | (.non,_)::_=>by show 1<=_;rw [yaf];omega
 | (.bl _,_)::_=>by show 1<=_;rw [yaf];omega
 | (.int _,_)::_=>by show 1<=_;rw [yaf];omega
 | (.tup _,_)::_=>by show 1<=_;rw [yaf];omega
 | (.lst _,_)::_=>by show 1<=_;rw [yaf];omega
 | (.dic _,_)::_=>by show 1<=_;rw [yaf];omega
 | (.ref _,_)::_=>by show 1<=_;rw [yaf];omega
 | (.exc _,_)::_=>by show 1<=_;rw [yaf];omega
 | (.scr _,_)::_=>by show 1<=_;rw [yaf];omega
def Mp.putd(M:Mp ds es):Mp (putS k d ds) (putS k d (dropS k es)) where
 l:=zd0 M.l
 r:=zd0 (zbz M.r)
 eq:=fun x=>by
  rw [zdl M.l,zdl (zbz M.r),zce M.r]
  by_cases q:k=x
  ·rw [if_pos q,if_pos q]
  ·rw [if_neg q,if_neg q,if_neg q];exact M.eq x
def Mp.dropd(M:Mp ds es):Mp (dropS k ds) (dropS k es):=⟨zbz M.l,zbz M.r,fun x=>by rw [zce M.l,zce M.r,M.eq]⟩
inductive DueOk(n:Nat):D->Prop
 | bl (b:Bool):DueOk n (.bl b)
 | fl {d:D}:zn3 n d->DueOk n d
def zsv{d:D}(h:DueOk n d):neD d d=some (.bl false):=by
 cases h with
 | bl b=>cases b<;>kernel_rfl
 | fl h=>exact zkl h.pl.1 h.pl.2.2.1
structure Done(S S':Sto)(m:Nat)(tl:List D)(n:Nat)(ds es es':List (D×D))(dn:List D)(deed due:D):Prop where
 ex:∃(w k:Str) (new:D),(∃b,deed=.tup (.str w::b))/\(w = "put" \/ w = "take" \/ w = "join")/\zcQ k/\(new=.non\/zn3 n new)/\DueOk n due/\Mp (nmd k new ds) es'/\AV n (nmd k new ds)/\(nmd k new ds).length<=ds.length+1 ∧
  S'=S.set m (alb (.tup tl) (nmd k new ds) (dn++[.tup [.str w,.str k,(zad k ds).getD .non,new]]) [])
def zkk(h:zdC d=false):nmd k d ds=putS k d ds:=by
 unfold nmd
 cases d<;>first | rfl | cases h
theorem zk3{und:Str->Str->Bool}{isx:Str->Str->Option Bool}(C:ClsT und isx){S:Sto}{m:Nat}{tl dn un:List D}{deed:D}(h:S[m]?=some (alb (.tup tl) ds dn un))(M:Mp ds es)(V:AV tl.length ds)(hl:ds.length<=60)(hd:dn.length<=1000)(Dd:DeedOk tl.length deed) :
  ∃es' due S',(∀S0,zab [.dic es,deed] S0=.ok (.tup [.dic es',due]) S0)/\zby 2 false (zkX und isx) [.ref m,deed] S=.ok due S' ∧
   ((es'=es/\S'=S/\(due=.str "no name" \/ due=.str "unlike"))\/Done S S' m tl tl.length ds es es' dn deed due):=by
 have Ve:=V.of M.eq
 have hle:es.length<=1000:=by rw [<-M.len];omega
 cases Dd with
 | put hk hf hr hc =>
  rename_i k rs c;have FV:zn3 tl.length (FlD rs):=⟨rs,c,rfl,hf,hr,hc⟩;have ef:=zcm (S:=S) hf (by omega) (by omega);rw [yaC ⟨hr,hc⟩] at ef;have ep:=zoO hk FV.pl.2.2.2 h M.l (by omega) (by omega) ef;have e2:=zpW (und:=und) (isx:=isx) (k:=k) (F:=FlD rs) (m:=m) (S:=S) (zaS h (by decide));rw [ep] at e2
  refine ⟨_,_,_,fun S0=>zp4 M.r hle Ve.key hk,by rw [e2,<-M.eq];rfl,.inr ⟨"put",k,FlD rs,⟨_,rfl⟩,.inl rfl,hk,.inr FV,.bl _,?_,?_,?_,?_⟩⟩<;>rw [zkk FV.pl.2.2.2]
  ·exact M.putd
  ·exact V.put M.l hk FV
  ·exact zg3
 | take hk =>
  rename_i k;have e2:=zmN (und:=und) (isx:=isx) (k:=k) (m:=m) (S:=S) (zaS h (by decide))
  cases hx:zad k ds with
  | none =>
   rw [zg1 hk h M.l hx] at e2;refine ⟨es,.str "no name",S,fun S0=>zhx M.r hle Ve.key hk (by rw [<-M.eq];exact hx),?_,.inl ⟨rfl,rfl,.inl rfl⟩⟩;rw [e2];show (if und "NoName" "FloorError" then _ else _)=_;rw [if_pos C.u1,C.c1]
  | some F =>
   rw [zlP hk h M.l (by omega) (by omega) hx] at e2;refine ⟨_,F,_,fun S0=>zm4 M.r hle Ve.key hk (by rw [<-M.eq];exact hx),e2,.inr ⟨"take",k,.non,⟨_,rfl⟩,.inr (.inl rfl),hk,.inl rfl,.fl (V.val k F hx),M.dropd,V.drop M.l,yax zdr (ybg _),by rw [hx];rfl⟩⟩
 | join hk hk1 hk2 =>
  rename_i k k1 k2 b;have e2:=zmO (und:=und) (isx:=isx) (k:=k) (k1:=k1) (k2:=k2) (b:=b) (m:=m) (S:=S) (zaS h (by decide))
  have no:(∀S0,zab [.dic es,.tup [.str "join",.str k,.str k1,.str k2,.bl b]] S0=.ok (.tup [.dic es,.str "no name"]) S0)->zah [.ref m,.str k,.str k1,.str k2,.bl b] S=.exc "NoName" S->∃es' due S',(∀S0,zab [.dic es,.tup [.str "join",.str k,.str k1,.str k2,.bl b]] S0=.ok (.tup [.dic es',due]) S0)/\zby 2 false (zkX und isx) [.ref m,.tup [.str "join",.str k,.str k1,.str k2,.bl b]] S=.ok due S' ∧
   ((es'=es/\S'=S/\(due=.str "no name" \/ due=.str "unlike"))\/Done S S' m tl tl.length ds es es' dn (.tup [.str "join",.str k,.str k1,.str k2,.bl b]) due):=fun hb hj=>by
   rw [hj] at e2;refine ⟨es,.str "no name",S,hb,?_,.inl ⟨rfl,rfl,.inl rfl⟩⟩;rw [e2];show (if und "NoName" "FloorError" then _ else _)=_;rw [if_pos C.u1,C.c1]
  have un:(∀S0,zab [.dic es,.tup [.str "join",.str k,.str k1,.str k2,.bl b]] S0=.ok (.tup [.dic es,.str "unlike"]) S0)->zah [.ref m,.str k,.str k1,.str k2,.bl b] S=.exc "Unlike" S->∃es' due S',(∀S0,zab [.dic es,.tup [.str "join",.str k,.str k1,.str k2,.bl b]] S0=.ok (.tup [.dic es',due]) S0)/\zby 2 false (zkX und isx) [.ref m,.tup [.str "join",.str k,.str k1,.str k2,.bl b]] S=.ok due S' ∧
   ((es'=es/\S'=S/\(due=.str "no name" \/ due=.str "unlike"))\/Done S S' m tl tl.length ds es es' dn (.tup [.str "join",.str k,.str k1,.str k2,.bl b]) due):=fun hb hj=>by
   rw [hj] at e2;refine ⟨es,.str "unlike",S,hb,?_,.inl ⟨rfl,rfl,.inr rfl⟩⟩;rw [e2];show (if und "Unlike" "FloorError" then _ else _)=_;rw [if_pos C.u2,C.c2]
  cases hx:zad k1 ds with
  | none=>exact no (fun S0=>zeF M.r hle Ve.key hk (.inl (by rw [<-M.eq];exact hx))) (zf7 hk hk1 h M.l hx)
  | some x =>
   cases hy:zad k2 ds with
   | none=>exact no (fun S0=>zeF M.r hle Ve.key hk (.inr (by rw [<-M.eq];exact hy))) (zf6 hk hk1 hk2 h M.l hx hy)
   | some y =>
    obtain ⟨rs,c,rfl,f1,r1,c1⟩:=V.val k1 x hx;obtain ⟨rs',c',rfl,f2,r2,c2⟩:=V.val k2 y hy
    have hx':zad k1 es=some (FlD rs):=by rw [<-M.eq];exact hx
    have hy':zad k2 es=some (FlD rs'):=by rw [<-M.eq];exact hy
    have yes:∀(z:List (List D)) (cz:Nat),FlOk tl.length cz z->z.length<=6->cz<=6->ziW b (FlD rs) (FlD rs') S=.ok (FlD z) S->(∀S0,zab [.dic es,.tup [.str "join",.str k,.str k1,.str k2,.bl b]] S0=.ok (.tup [.dic (putS k (FlD z) (dropS k es)),FlD z]) S0)->∃es' due S',(∀S0,zab [.dic es,.tup [.str "join",.str k,.str k1,.str k2,.bl b]] S0=.ok (.tup [.dic es',due]) S0)/\zby 2 false (zkX und isx) [.ref m,.tup [.str "join",.str k,.str k1,.str k2,.bl b]] S=.ok due S' ∧
     ((es'=es/\S'=S/\(due=.str "no name" \/ due=.str "unlike"))\/Done S S' m tl tl.length ds es es' dn (.tup [.str "join",.str k,.str k1,.str k2,.bl b]) due):=fun z cz fz hz hcz hj hb=>by
     have FV:zn3 tl.length (FlD z):=⟨z,cz,rfl,fz,hz,hcz⟩;have ef:=zcm (S:=S) fz (by omega) (by omega);rw [yaC ⟨hz,hcz⟩] at ef;rw [zlR hk hk1 hk2 FV.pl.2.2.2 h M.l (by omega) (by omega) hx hy hj ef] at e2
     refine ⟨_,_,_,hb,e2,.inr ⟨"join",k,FlD z,⟨_,rfl⟩,.inr (.inr rfl),hk,.inr FV,.fl FV,?_,?_,?_,?_⟩⟩<;>rw [zkk FV.pl.2.2.2]
     ·exact M.putd
     ·exact V.put M.l hk FV
     ·exact zg3
    cases b with
    | true =>
     have hb:∀S0,_:=fun S0=>zfN (S:=S0) M.r hle Ve.key hk hx' hy' f1 f2 r1 r2 c1 c2
     have hj:ziW true (FlD rs) (FlD rs') S=_:=ziM (S:=S) f1 f2 (by omega) (by omega) (by omega)
     by_cases he:rs.length=rs'.length
     ·rw [if_pos he] at hj;have fz:=f1.beside f2 he
      have zl:(zbK rs rs').length=rs.length:=by rw [zcg,<-he,Nat.min_self]
      by_cases h6:c+c'<=6
      ·simp only [if_pos (And.intro he h6)] at hb;exact yes _ _ fz (by omega) h6 hj hb
      ·simp only [if_neg (fun z:rs.length=rs'.length/\c+c'<=6=>h6 z.2)] at hb;have ef:=zcm (S:=S) fz (by omega) (by omega);rw [yaQ (fun z=>h6 z.2)] at ef;exact un hb (zcl hk hk1 hk2 h M.l hx hy (.inr ⟨_,hj,ef⟩))
     ·rw [if_neg he] at hj;simp only [if_neg (fun z:rs.length=rs'.length/\c+c'<=6=>he z.1)] at hb;exact un hb (zcl hk hk1 hk2 h M.l hx hy (.inl hj))
    | false =>
     have hb:∀S0,_:=fun S0=>zeT (S:=S0) M.r hle Ve.key hk hx' hy' f1 f2 r1 r2 c1 c2
     have hj:ziW false (FlD rs) (FlD rs') S=_:=zjW (S:=S) f1 f2 (by omega) (by omega)
     by_cases he:c=c'
     ·subst he;rw [if_pos rfl] at hj;have fz:=f1.below f2;have zl:(rs++rs').length=rs.length+rs'.length:=yas
      by_cases h6:rs.length+rs'.length<=6
      ·exact yes _ _ fz (by omega) c1 hj fun S0=>by rw [hb S0,if_pos ⟨rfl,h6⟩]
      ·have ef:=zcm (S:=S) fz (by omega) (by omega);rw [yaQ (fun z=>h6 (by omega))] at ef;exact un (fun S0=>by rw [hb S0,if_neg (fun z=>h6 z.2)]) (zcl hk hk1 hk2 h M.l hx hy (.inr ⟨_,hj,ef⟩))
     ·rw [if_neg he] at hj;simp only [if_neg (fun z:c=c'/\rs.length+rs'.length<=6=>he z.1)] at hb;exact un hb (zcl hk hk1 hk2 h M.l hx hy (.inl hj))
end
def zkQ(Iv:Nat->Env->Sto->Prop)(step:∀k d ρ S,ds[k]?=some d->Iv k ρ S->∃ρ1 ρ2 S2,tg.put ρ d=some ρ1/\body ρ1 S=.nx ρ2 S2/\Iv (k+1) ρ2 S2)(h0:Iv 0 ρ S):∃ρ' S',zhh tg body ds ρ S=.nx ρ' S'/\Iv ds.length ρ' S':=by
 have go:∀(n:Nat) (es:List D) (k:Nat) (ρ:Env) (S:Sto),es.length=n->ds.drop k=es->k+n=ds.length->Iv k ρ S->∃ρ' S',zhh tg body es ρ S=.nx ρ' S'/\Iv ds.length ρ' S':=by
  intro n
  induction n with
  | zero =>
   intro es k ρ S hl he hk hi;obtain rfl:es=[]:=ybt hl;exact ⟨ρ,S,rfl,by rw [show ds.length=k by omega];exact hi⟩
  | succ n ih =>
   intro es k ρ S hl he hk hi
   cases es with
   | nil=>cases hl
   | cons d es =>
    have hd:ds[k]?=some d:=by
     have:=congrArg (fun l=>l[0]?) he;rw [ybj] at this;simpa using this
    obtain ⟨ρ1,ρ2,S2,e1,e2,hi2⟩:=step k d ρ S hd hi;obtain ⟨ρ',S',e3,e4⟩:=ih es (k+1) ρ2 S2 (by simpa using hl) (by rw [<-List.drop_drop,he];rfl) (by omega) hi2;refine ⟨ρ',S',?_,e4⟩;unfold zhh;rw [e1];dsimp only;rw [e2];exact e3
 exact go ds.length ds 0 ρ S rfl (by simp) (by omega) h0
def zfk{S:Sto}{x:Ob}:(S++[x])[S.length]?=some x:=by simp
def zdX{S:Sto}{x y:Ob}:(S++[x]).set S.length y=S++[y]:=by simp
def zlS{S:Sto}{T:D}(hs:∀S,zdi [T] S=.ok (.bl true) S):zaQ [.ref S.length,T] (S++[⟨"Album",[]⟩])=.ok .non (S++[alb T [] [] []]):=by
 have e1:zjK "Album" "tiles" (zam 0) (zam 1) [some (false,.ref S.length),some (false,T)] (S++[⟨"Album",[]⟩])=.nx [some (false,.ref S.length),some (false,T)] (S++[⟨"Album",[("tiles",false,T)]⟩]):=by
  show (match (S++[(⟨"Album",[]⟩:Ob)])[S.length]? with | some ob=>_ | none=>_)=_;rw [zfk];show (if _ then Fo.nx _ ((S++[(⟨"Album",[]⟩:Ob)]).set S.length _) else _)=_;rw [if_pos (by rfl),zdX];rfl
 have e2:zjL "Album" "named" 0 [some (false,.ref S.length),some (false,T)] (S++[⟨"Album",[("tiles",false,T)]⟩])=.nx [some (false,.ref S.length),some (false,T)] (S++[⟨"Album",[("tiles",false,T),("named",true,.tup [.dic []])]⟩]):=by
  show (match (S++[(⟨"Album",[("tiles",false,T)]⟩:Ob)])[S.length]? with | some ob=>_ | none=>_)=_;rw [zfk];show (if _ then Fo.nx _ ((S++[_]).set S.length _) else _)=_;rw [if_pos (by rfl),zdX];rfl
 have e3:zeK "Album" "done" 0 [some (false,.ref S.length),some (false,T)] (S++[⟨"Album",[("tiles",false,T),("named",true,.tup [.dic []])]⟩])=.nx [some (false,.ref S.length),some (false,T)] (S++[⟨"Album",[("tiles",false,T),("named",true,.tup [.dic []]),("done",true,.tup [.lst []])]⟩]):=by
  show (match (S++[(⟨"Album",[("tiles",false,T),("named",true,.tup [.dic []])]⟩:Ob)])[S.length]? with | some ob=>_ | none=>_)=_;rw [zfk];show (if _ then Fo.nx _ ((S++[_]).set S.length _) else _)=_;rw [if_pos (by rfl),zdX];rfl
 have e4:zeK "Album" "undone" 0 [some (false,.ref S.length),some (false,T)] (S++[⟨"Album",[("tiles",false,T),("named",true,.tup [.dic []]),("done",true,.tup [.lst []])]⟩])=.nx [some (false,.ref S.length),some (false,T)] (S++[alb T [] [] []]):=by
  show (match (S++[(⟨"Album",[("tiles",false,T),("named",true,.tup [.dic []]),("done",true,.tup [.lst []])]⟩:Ob)])[S.length]? with | some ob=>_ | none=>_)=_;rw [zfk];show (if _ then Fo.nx _ ((S++[_]).set S.length _) else _)=_;rw [if_pos (by rfl),zdX];rfl
 simp [zaQ,zau,zbD,hs,zcG,e1,e2,e3,e4]
section
variable{S:Sto}{m:Nat}{T:D}{ds es:List (D×D)}{dn un:List D}{n:Nat}
def zjP(h:S[m]?=some (alb T ds dn un)):zbx [.ref m] S=.ok T S:=by
 simp [zbx,zau,zb9,zc1 h]
def zjO(h:S[m]?=some (alb T ds dn un)):zbJ [.ref m] S=.ok (.tup [.int dn.length,.int un.length]) S:=by
 have e1:∀ρ:Env,ρ[0]?=some (some (false,.ref m))->zfH "Album" "done" 0 ρ S=.ok (.int dn.length) S:=fun ρ h0=>by unfold zfH;rw [zlo h0 h]
 have e2:∀ρ:Env,ρ[0]?=some (some (false,.ref m))->zfH "Album" "undone" 0 ρ S=.ok (.int un.length) S:=fun ρ h0=>by unfold zfH;rw [zln h0 h]
 simp [zbJ,zau,zcs,e1,e2]
def zfY{ts:Z2}:(D.tup (ts.map zan)).pl=true/\(D.tup (ts.map zan)).fit 9=true:=by
 refine ⟨?_,?_⟩
 ·show D.pls (ts.map zan)=true;rw [D.pls_iff];intro d hd;obtain ⟨t,_,rfl⟩:=yau.mp hd;exact zg6
 ·show D.fits 8 (ts.map zan)=true;rw [D.fits_iff];intro d hd;obtain ⟨t,_,rfl⟩:=yau.mp hd;exact zfC
def zmm(M:Mp ds es)(V:AV n ds):neD (.lst ((zbP (za9 ds)).map D.str)) (.lst ((zbP (za9 es)).map D.str))=some (.bl false):=by
 rw [<-zlJ M.perm];refine zkl ?_ ?_
 ·show D.pls _=true;rw [D.pls_iff];intro d hd;obtain ⟨x,_,rfl⟩:=yau.mp hd;rfl
 ·show D.fits 8 _=true;rw [D.fits_iff];intro d hd;obtain ⟨x,hx,rfl⟩:=yau.mp hd;have hx':=(zaJ _).mem_iff.mp hx;rw [zaL] at hx';obtain ⟨p,hp,rfl⟩:=yau.mp hx';exact zpl (V.key _ _ (zcd M.l p hp))
def zsO(M:Mp ds es)(V:AV n ds):neD (.dic (unS (zhS ds))) (.dic es)=some (.bl false):=by
 have m1:=Mp.srt M.l;refine zrZ ⟨m1.l,M.r,fun x=>(m1.eq x).trans (M.eq x)⟩ fun x d hx=>V.plv x d (by rw [<-m1.eq];exact hx)
def ziE(M:Mp ds es)(hl:ds.length<64):zdx [.dic es]=some (.lst ((zbP (za9 es)).map D.str)):=by
 show (if zaf es&&decide (es.length<64) then _ else _)=_;rw [if_pos (by rw [M.r,<-M.len,yaC hl];rfl)]
end
end S2
namespace S2.L88
open PySem
open L2 hiding D
noncomputable def zsW:List (Str×Str):=[("Unlike","FloorError"),("NoName","FloorError")]
def isL:Str->Str->Option Bool:=zs2 ["Unlike","NoName"] ["FloorError","NoPlace","NoTile","NoFill","Unlike","Nothing","NoText","NoName"]
noncomputable def ze4:Fs :=
  (zar (sFz [] (sIf (zak eqD (zak ixD (zaj 1) (zai (.int 0))) (zai (.str "join"))) (zar (sFz [0,1] (zbt (zdT (zqk zsW) isL [0,1] (zbf "Album" "join" zah (zam 0) [(zak ixD (zaj 1) (zai (.int 1))),(zak ixD (zaj 1) (zai (.int 2))),(zak ixD (zaj 1) (zai (.int 3))),(zak ixD (zaj 1) (zai (.int 4)))])))) sNx) sNx))
  (zar (sFz [0,1] (zbt (zdT (zqk zsW) isL [0,1] (eIf (zak eqD (zak ixD (zaj 1) (zai (.int 0))) (zai (.str "put"))) (zbf "Album" "put" zaH (zam 0) [(zak ixD (zaj 1) (zai (.int 1))),(zak ixD (zaj 1) (zai (.int 2)))]) (zbf "Album" "take" zax (zam 0) [(zak ixD (zaj 1) (zai (.int 1)))])))))
  sNx))
noncomputable def zdz:List S2.D->Sto->Out S2.D:=zby 2 false ze4
noncomputable def zfO:Fs :=
  (zar (sFz [0,1] (zc3 5 false (eFn zbu [(zam 0),(zak zci (zai (.int 1000)) (zak ziQ (zai (.int 60)) (zaj 4))),(zam 1)]))) (zar (sFz [3,5] (zeL (.tup [3,6]) (eFn zab [(zam 3),(zam 5)]))) (zar (sFz [2,5,2] (sIf (eOr (zak neD (eFn zdz [(zam 2),(zam 5)]) (zaj 6)) (eOr (zak neD (eFn zbI [(zam 2)]) (zaj 3)) (zak neD (zbf "Album" "names" zbk (zam 2) []) (zaz zdx [(zaj 3)])))) (zar (sFz [] (zbt (zai (.bl false)))) sNx) sNx)) sNx)))
noncomputable def zjm:Fs:=zar (sFz [] (zbt (zfT (zak eqD (zbf "Album" "set_of" zbx (zam 2) []) (zaj 1)) (zak eqD (zak ixD (zbf "Album" "sizes" zbJ (zam 2) []) (zai (.int 1))) (zai (.int 0)))))) sNx
noncomputable def zjn:Fs:=zar (sFz [] (zlO (.one 4) (zex (zai (.int 16))) zfO)) zjm
noncomputable def zjo:Fs:=zar (sFz [1] (znk 2 3 false (eMk "Album" [] zaQ [(zam 1)]) true zmK)) zjn
noncomputable def zjp:Fs:=zar (sFz [0] (zc3 1 false (eFn zb0 [(zam 0),(zai (.int 200)),(zai (.int 5))]))) zjo
noncomputable def zpP:Fs :=
  zjp
noncomputable def zre:List S2.D->Sto->Out S2.D:=zby 7 false zpP
def cls:ClsT (zqk zsW) isL:=⟨by decide,by decide,fun S=>by kernel_rfl,fun S=>by kernel_rfl⟩
def zsx:zdz=zby 2 false (zkX (zqk zsW) isL):=rfl
noncomputable def Iv(l:List Int)(tl:List D)(k:Nat)(ρ:Env)(S:Sto):Prop :=
 ∃(ds es:List (D×D)) (dn:List D) (o:Bool) (x4 x5 x6:Option (Bool×D)),ρ=[some (false,.scr l),some (false,.tup tl),some (false,.ref 0),some (o,.dic es),x4,x5,x6]/\S=[alb (.tup tl) ds dn []]/\Mp ds es/\AV tl.length ds/\ds.length<=k/\dn.length<=k
theorem zn7{l:List Int}{ts:Z2}(ht:Tiles 5 ts){k:Nat}(hk:k<16){ρ:Env}{S:Sto}(h:Iv l (ts.map zan) k ρ S) :
  ∃ρ1 ρ2 S2,(Tg.one 4).put ρ (.int k)=some ρ1/\zfO ρ1 S=.nx ρ2 S2/\Iv l (ts.map zan) (k+1) ρ2 S2:=by
 obtain ⟨ds,es,dn,o,x4,x5,x6,rfl,rfl,M,V,h1,h2⟩:=h;have hS:([alb (.tup (ts.map zan)) ds dn []]:Sto)[0]?=some (alb (.tup (ts.map zan)) ds dn []):=rfl;have hln:(ts.map zan).length=ts.length:=yad _;obtain ⟨deed,Dd,ed⟩:=zlT (l:=l) (at':=1000+60*(k:Int)) (S:=[alb (.tup (ts.map zan)) ds dn []]) (by omega) ht (by decide);rw [<-hln] at Dd;obtain ⟨es',due,S',eb,ei,hd⟩:=zk3 cls hS M V (by omega) (by omega) Dd;have ebS:=eb [alb (.tup (ts.map zan)) ds dn []]
 have f60:zbV 60=true:=by decide
 have fin:∃ds' dn',S'=[alb (.tup (ts.map zan)) ds' dn' []]/\Mp ds' es'/\AV (ts.map zan).length ds'/\ds'.length<=k+1/\dn'.length<=k+1/\neD due due=some (.bl false):=by
  rcases hd with ⟨rfl,rfl,hdu⟩ | ⟨w,q,new,_,_,_,_,du,M',V',hl',rfl⟩
  ·refine ⟨ds,dn,rfl,M,V,by omega,by omega,?_⟩
   rcases hdu with rfl | rfl<;>kernel_rfl
  ·exact ⟨_,_,rfl,M',V',by omega,by rw [yas];show _+1<=_;omega,zsv du⟩
 obtain ⟨ds',dn',rfl,M',V',l1,l2,hne⟩:=fin;have hS':([alb (.tup (ts.map zan)) ds' dn' []]:Sto)[0]?=some (alb (.tup (ts.map zan)) ds' dn' []):=rfl;have ea:=zoP hS' M'.l (by omega) V'.key;have en:=zf5 hS' M'.l (by omega);have m1:zaG "Album" "names" (.ref 0) [alb (.tup (ts.map zan)) ds' dn' []]=true:=zaS hS' (by decide);have n1:=zsO M' V';have n2:=zmm M' V';have n3:=ziE M' (by omega);refine ⟨_,[some (false,.scr l),some (false,.tup (ts.map zan)),some (false,.ref 0),some (false,.dic es'),some (false,.int k),some (false,deed),some (false,due)],[alb (.tup (ts.map zan)) ds' dn' []],rfl,?_,ds',es',dn',false,_,_,_,rfl,rfl,M',V',l1,l2⟩;generalize ts.map zan=T at *;generalize ([alb (.tup T) ds dn []]:Sto)=S1 at *;generalize ([alb (.tup T) ds' dn' []]:Sto)=S2 at *;generalize D.lst ((zbP (za9 ds')).map D.str)=A1 at *;generalize D.lst ((zbP (za9 es')).map D.str)=A2 at *;generalize D.dic (unS (zhS ds'))=A3 at *;rw [<-zsx] at ei
 cases o<;>simp [zfO,f60,ed,ebS,ei,hne,ea,n1,m1,en,n3,n2]
theorem zmt(l:List Int)(hl:l.length<=63):∃S,zre [.scr l] []=.ok (.bl true) S:=by
 obtain ⟨ts,ht,et⟩:=zjN (l:=l) (at':=200) (most:=5) (S:=[]) (by decide) (by decide) (by decide);have ei:=zlS (S:=[]) (T:=.tup (ts.map zan)) fun S=>zjR ht (by decide)
 obtain ⟨ρ',S',e,ds,es,dn,o,x4,x5,x6,rfl,rfl,M,V,_,_⟩:=zkQ (tg:=.one 4) (body:=zfO) (ds:=za8 0 16) (Iv l (ts.map zan)) (by
  intro k d ρ S hd h;obtain ⟨rfl,hk⟩:=zcD hd
  exact zn7 ht (by omega) h) (ρ:=[some (false,.scr l),some (false,.tup (ts.map zan)),some (false,.ref 0),some (true,.dic []),none,none,none]) (S:=[alb (.tup (ts.map zan)) [] [] []])
  ⟨[],[],[],true,none,none,none,rfl,rfl,⟨rfl,rfl,fun _=>rfl⟩,⟨fun x d h=>(by cases h),fun x d h=>(by cases h)⟩,yai _,yai _⟩
 have hS:([alb (.tup (ts.map zan)) ds dn []]:Sto)[0]?=some (alb (.tup (ts.map zan)) ds dn []):=rfl;have e1:=zjP hS;have e2:=zjO hS;have m1:zaG "Album" "set_of" (.ref 0) [alb (.tup (ts.map zan)) ds dn []]=true:=zaS hS (by decide);have m2:zaG "Album" "sizes" (.ref 0) [alb (.tup (ts.map zan)) ds dn []]=true:=zaS hS (by decide);have eq:=zpT (zfY (ts:=ts)).1 zfY.2;refine ⟨[alb (.tup (ts.map zan)) ds dn []],?_⟩;have ei':zaQ [.ref 0,.tup (ts.map zan)] [⟨"Album",[]⟩]=.ok .non [alb (.tup (ts.map zan)) [] [] []]:=ei;generalize ts.map zan=T at *;generalize ([alb (.tup T) [] [] []]:Sto)=S0 at *;generalize ([alb (.tup T) ds dn []]:Sto)=S1 at *;simp [zre,zau,zpP,zjp,zjo,zjn,zjm,et,ei',e,e1,e2,m1,m2,eq]
end S2.L88
namespace L2
open PySem PySem.Spec PyProof.Rows
def zsm{CX:CXT}{P:Program}{w:World}{K:PySem.W.Frag}{mg:Z6}{base:Heap}{k:Nat}{f a:Addr}{name qual:Str}{params:Arguments}{body:List Stmt}{scope:Scope}{dV kV doc pm cdv ct oc:Value}{an od:Option Addr}
  {osl:Array (Option Value)} {N ps:List Str} {A:Around} {outer:List Env} {s:Shared} {H:Hp} {args:Args} {us:List Value} {vs:List V} {Q:VK} {E:XK} {t:TS} (lk:K.lookup f=some ⟨oc,od,.func (PySem.W.fnOf name qual params body scope dV kV doc pm an cdv ct),osl⟩) (hcd:PySem.W.codeIn K cdv qual=true) (S:FnScope N ps scope)
  (hr:Room (k+1) A) (e0:Env0 P w K mg base A outer s H) (hb:BindsTo s (PySem.W.fnOf name qual params body scope dV kV doc pm an cdv ct) args (ps.zip us)) (r:Vals vs us) (hl:vs.length=ps.length)
  (ht:PSs ((zgI CX P w K mg base N qual scope f cdv A outer s H E).inH a) body t) (hq:t { nx:=fun _ H'=>Q .non H',rt:=Q } (zcy N vs) H) :
  codeAny (model P w) (A.mark (some (.ref a))) (.call (.ref f) args) (fun r s'=>∃u,r=.ok (.ret u)/\CE outer P w H s Q u s') s:=by
 have KX:K.In s.heap:=e0.mod.kin.keeps fun b o e=>(e0.bs b o e).1
 have lim:s.heap.NoLimit:=e0.mod.nolimit.keeps fun b o e=>(e0.bs b o e).1
 have hkind:∀y∈ps.zip us,scope.names.lookup y.1=some .local\/(scope.names.lookup y.1=some .cell/\((cellsFrom (s.heap.objs.size+1) scope.names []).lookup y.1).isSome=true):=fun ⟨n,v⟩ hy=>by
  rcases S.par n (ya8 hy).1 with q | q
  ·exact .inl q
  ·exact .inr ⟨q,ybv _ _ _ (.inl q)⟩
 refine ycd (A:=A.mark (some (.ref a))) hr.depth (KX _ _ lk) rfl S.co S.gen rfl (ycy KX hcd) (hb _ _ _ _ ?_);refine ybL S.kind hkind fun env he s1 x=>?_
 subst he;refine ⟨lim.keeps x.toInCall.keep,codeAny_func ?_⟩;have I:Inv (zgI CX P w K mg base N qual scope f cdv A outer s H E) [] (zcy N vs) H s1:=zem S hr.hd e0 hl r x;refine yaW (ht [] s1 (zcy N vs) H _ (I.inH a) hq) (fun fl s' hs=>?_) fun e s' hs=>hs.elim
 have fin:∀{σ':St} {H':Hp} {v:V} {u:Value},Inv ((zgI CX P w K mg base N qual scope f cdv A outer s H E).inH a) [] σ' H' s'->zaW v u->Q v H'->CE outer P w H s Q u s' :=
  fun {σ' H' v u} J rv q=>⟨v,H',J.os,J.bare,J.base,J.hok,rv,q⟩
 cases fl with
 | ret u =>
  obtain ⟨v,σ',H',J,rv,q⟩:=hs;exact ⟨u,rfl,fin J rv q⟩
 | next =>
  obtain ⟨σ',H',J,q⟩:=hs;exact ⟨.none,rfl,fin (v:=V.non) (u:=Value.none) J rfl q⟩
 | brk =>
  obtain ⟨_,_,_,q⟩:=hs;exact False.elim q
 | cont =>
  obtain ⟨_,_,_,q⟩:=hs;exact False.elim q
end L2
namespace S2
open PySem PySem.Spec PyProof.Rows L2
noncomputable def zdd:List Str:=["NoFill","NoName","NoPlace","NoText","NoTile","Nothing","Unlike"]
section
variable{Y:Cx}{cl:Cf}{G:Genv}{k:Nat}{E:St->XK}
noncomputable def zjf(C:Str)(p q r t:Pos):Expr:=.Call (.Name "isinstance" p) [.Name "_law_kept" q,.Name C r] [] t
structure ClsCx(cl:Cf)(G:Genv)(k:Nat)(Y:Cx):Prop where
 gok:GOk cl G Y.prog Y.w Y.K Y.mg Y.base k
 kk:Y.K=cl.K
 un:Y.A.units+64<cLine
 nn:Y.N=(["_law_kept","_law_kinds"]:List Str)
 l0:Y.env.scope.names.lookup ("_law_kept":Str)=some .local
 l1:Y.env.scope.names.lookup ("_law_kinds":Str)=some .local
 gl:∀x∈(("isinstance":Str)::("ValueError":Str)::zdd),Gl Y x
 b1:G.blt "isinstance" = true
 b2:G.blt "ValueError" = true
 ex:∀x∈zdd,G.exc x=true
def ClsCx.bor0(c:ClsCx cl G k Y){p:Pos}:PE Y (.Name "_law_kept" p) (tH cl E (zaj 0)):=zjH (by rw [c.nn];rfl) (.inl c.l0) (by decide) (by decide)
def ClsCx.bor1(c:ClsCx cl G k Y){p:Pos}:PE Y (.Name "_law_kinds" p) (tH cl E (zaj 1)):=zjH (by rw [c.nn];rfl) (.inl c.l1) (by decide) (by decide)
def ClsCx.cls(c:ClsCx cl G k Y){C:Str}(h:C∈zdd){p q r t:Pos}:PE Y (zjf C p q r t) (tE cl E (eUn (ziY G.isx C) (zaj 0))):=by
 have hv:C ≠ "ValueError":=by rintro rfl;revert h;decide
 have hd:(C == ("__debug__":Str))=false:=by
  cases e:(C == ("__debug__":Str)) with
  | false=>rfl
  | true=>rw [eq_of_beq e] at h;revert h;decide
 exact zhX (vC:=.ref (cl C)) (c.gl _ (.head _)) (c.gok.blt _ c.b1) (zg7 (c.gl _ (.tail _ (.tail _ h))) (c.gok.exc C (c.ex C h)).1 rfl hd) (fun u r=>by rw [show u=Value.ref (cl C) from r];unfold clsV;rw [if_neg hv]) (fun d b hc=>c.gok.isx d _ b hc) rfl c.bor0
def ClsCx.clsV(c:ClsCx cl G k Y){p q r t:Pos}:PE Y (zjf "ValueError" p q r t) (tE cl E (eUn (ziY G.isx "ValueError") (zaj 0))) :=
 zhX (vC:=.ty "ValueError") (c.gl _ (.head _)) (c.gok.blt _ c.b1) (zg9 (c.gl _ (.tail _ (.head _))) (c.gok.blt _ c.b2) zfe rfl (by decide) (by decide)) (fun u r=>by rw [show u=Value.type "ValueError" from r];rfl) (fun d b hc=>c.gok.isx d _ b hc) rfl c.bor0
def ClsCx.cnt(c:ClsCx cl G k Y){p ap cp q:Pos}{kk:Nat}(hl:(ap.endLine == cp.line)=true):PE Y (.Call (.Attribute (.Name "_law_kinds" p) "count" ap) [.Constant (.bool true) kk q] [] cp) (tE cl E (eMt ze8 1 (zai (.bl true)))) :=
 zq2 PySem.F.slot_list_count PySem.F.type_list_count (zmq c.kk c.un) zk7 (by rw [c.nn];rfl) (.inl c.l1) (by decide) (by decide) (zck (zfl zpd fun _=>.bl _)) rfl hl
def ClsCx.idx(c:ClsCx cl G k Y){p ap cp q:Pos}{kk:Nat}(hl:(ap.endLine == cp.line)=true):PE Y (.Call (.Attribute (.Name "_law_kinds" p) "index" ap) [.Constant (.bool true) kk q] [] cp) (tE cl E (eMt ze2 1 (zai (.bl true)))) :=
 zq2 PySem.F.slot_list_index PySem.F.type_list_index (zmp c.kk c.un) zkG (by rw [c.nn];rfl) (.inl c.l1) (by decide) (by decide) (zck (zfl zpd fun _=>.bl _)) rfl hl
def ClsCx.nd(c:ClsCx cl G k Y):Y.N.Nodup:=by rw [c.nn];decide
def zdL{x:Str}{kk:Nat}{p:Pos}:PE Y (.Constant (.str x) kk p) (tE cl E (zai (.str x))):=zfl zkb fun _=>.str _
def ClsCx.ok(c:ClsCx cl G k Y){a1 a2 a3 b1 b2 b3 b4 b5 c1 c2 c3 c4 c5 c6 c7 c8 d1 d2 d3 e1 e2 e3 e4 e5 e6 e7 f1 f2 f3 f4 f5 f6 f7 g1 g2 g3 g4 h1 h2 h3 h4 i1 i2 i3 i4 j1 j2 j3 j4 k1 k2 k3 k4 l1 l2 l3 l4 m1 m2 m3 m4 n1 n2 n3 n4:Pos}{x1 x2 x3 x4 y1 y2 y3 y4 y5 y6 y7:Nat}
  (hl1:(c2.endLine == c4.line)=true) (hl2:(f3.endLine == f5.line)=true) :
  PSs Y [.Assign [.Name "_law_kinds" a1] (.List [zjf "NoFill" g1 g2 g3 g4,zjf "NoName" h1 h2 h3 h4,zjf "NoPlace" i1 i2 i3 i4,zjf "NoText" j1 j2 j3 j4] a2) a3,
   .Assign [.Name "_law_kinds" b1] (.BinOp (.Name "_law_kinds" b2) .Add (.List [zjf "NoTile" k1 k2 k3 k4,zjf "Nothing" l1 l2 l3 l4,zjf "Unlike" m1 m2 m3 m4] b3) b4) b5,
   .If (.BoolOp .Or [.Compare (.Call (.Attribute (.Name "_law_kinds" c1) "count" c2) [.Constant (.bool true) x1 c3] [] c4) [.NotEq] [.Constant (.int 1) x2 c5] c6,.UnaryOp .Not (zjf "ValueError" n1 n2 n3 n4) c7] c8) [.Return (some (.Constant (.str "wrong") x3 d1)) d2] [] d3,
   .Return (some (.Subscript (.List [.Constant (.str "no fill") y1 e1,.Constant (.str "no name") y2 e2,.Constant (.str "no place") y3 e3,.Constant (.str "no text") y4 e4,.Constant (.str "no tile") y5 e5,.Constant (.str "nothing") y6 e6,.Constant (.str "unlike") y7 e7] f1) (.Call (.Attribute (.Name "_law_kinds" f2) "index" f3) [.Constant (.bool true) x4 f4] [] f5) f6)) f7]
   (tS cl E false (zeu G.isx)):=by
 have cs:∀{C:Str} {p q r t:Pos} {es:List Expr},starEach (zjf C p q r t::es) Y.env=(false,eval (zjf C p q r t) Y.env)::starEach es Y.env:=fun {C p q r t es}=>rfl
 have ks:∀{x:Str} {n:Nat} {p:Pos} {es:List Expr},starEach (.Constant (.str x) n p::es) Y.env=(false,eval (.Constant (.str x) n p) Y.env)::starEach es Y.env:=fun {x n p es}=>rfl
 refine zdv (zgZ c.nd (by rw [c.nn];rfl) (.inl c.l1) (zhW (zaN (c.cls (by decide)) (zaN (c.cls (by decide)) (zaN (c.cls (by decide)) (zaN (c.cls (by decide)) zea cs) cs) cs) cs)) (zde rfl) (.inr c.l1)) ?_;refine zdv (zng c.nd (by rw [c.nn];rfl) (.inl c.l1) (zjI znE c.bor1 (zck (zbZ (zhW (zaN (c.cls (by decide)) (zaN (c.cls (by decide)) (zaN (c.cls (by decide)) zea cs) cs) cs))))) (zde rfl) (.inr c.l1)) ?_;refine zdv (zqO ?_ (zdv (zjv zdL) zhR) zhR) ?_
 ·exact PW.pt (zqJ (zne (zrP c.kk c.un) (zck (c.cnt hl1)) (zck (zfl znA fun _=>.int _)) rfl) (znt (znd (zbp c.clsV (fun _=>rfl)))))
 ·exact zdv (zjv (zq3 (zsi c.kk c.un) (zck (zbZ (zhW (zaN zdL (zaN zdL (zaN zdL (zaN zdL (zaN zdL (zaN zdL (zaN zdL zea ks) ks) ks) ks) ks) ks) ks)))) (zck (c.idx hl2)) (fun _ _=>rfl))) zhR
theorem zlj{fs:Fs}{own:Bool}{n:Nat}{N:List Str}{vs:List V}{H:Hp}{Q:VK}{X:XK}(hsp:zfS cl n own (zby N.length own fs) vs H Q X):tS cl (fun _=>X) own fs { nx:=fun _ H'=>Q .non H',rt:=Q } (L2.zcy N vs) H:=by
 obtain ⟨hl,B,w,ds,S0,rfl,W,sh,q⟩:=hsp;have hdl:ds.length=vs.length:=sh.length.symm;refine ⟨B,w,ds.map (fun d=>some (false,d))++List.replicate (N.length-ds.length) none,S0,rfl,⟨W,?_,fun i o d hi=>?_⟩,?_⟩
 ·unfold L2.zcy;rw [yas,yas,yad,yad,yaH,yaH,hdl]
 ·by_cases hlt:i<ds.length
  ·rw [yaE (by rw [yad];exact hlt),yao] at hi
   cases hdi:ds[i]? with
   | none=>rw [hdi] at hi;cases hi
   | some d' =>
    rw [hdi] at hi;cases hi;obtain ⟨v,e1,e2⟩:=sh.at hdi;refine ⟨v,?_,e2⟩;unfold L2.zcy;rw [yaE (by rw [yad];omega),yao,e1];rfl
  ·rw [yaK (by rw [yad];omega),ybc] at hi
   split at hi<;>cases hi
 ·unfold zby at q
  cases hf:fs (ds.map (fun d=>some (false,d))++List.replicate (N.length-ds.length) none) S0 with
  | bad=>rwa [hf] at q
  | bk _ _=>rw [hf] at q;exact q.elim
  | ct _ _=>rw [hf] at q;exact q.elim
  | rt d S'=>rwa [hf] at q
  | ex c ρ' S'=>rw [hf] at q;exact fun σ' w' R' F'=>q w' R'.wd F'
  | nx ρ' S' =>
   rw [hf] at q;dsimp only at q
   cases own with
   | true=>exact q.elim
   | false=>exact fun σ' w' R' F'=>q .non w' R'.wd F' .non
end
structure ClsFn(cl:Cf)(G:Genv)(K:PySem.W.Frag)(st:Stmt)(f:Addr)(fd:FuncData):Prop where
 fn:Fun K "_law_class" "_law_class" st f fd
 sc:FnScope ["_law_kept","_law_kinds"] ["_law_kept"] (zag st)
 l0:(zag st).names.lookup ("_law_kept":Str)=some .local
 l1:(zag st).names.lookup ("_law_kinds":Str)=some .local
 gl:∀x∈(("isinstance":Str)::("ValueError":Str)::zdd),(zag st).names.lookup x=some .globalImplicit
 b1:G.blt "isinstance" = true
 b2:G.blt "ValueError" = true
 ex:∀x∈zdd,G.exc x=true
 ok:∀(k:Nat) (Y:Cx) (E:St->XK),ClsCx cl G k Y->PSs Y (zaM st) (tS cl E false (zeu G.isx))
 bind:∀us:List Value,us.length=1->bindArgs fd ⟨us,[]⟩=pure ([("_law_kept":Str)].zip us)
def znp(G:Genv):List D->Sto->Out D:=zby 2 false (zeu G.isx)
noncomputable def zol(cl:Cf)(G:Genv)(i:Nat):TE:=fun σ H Q=>∃v,σ[i]?=some (some v)/\zfS cl 1 false (znp G) [v] H Q fun _ _ _=>False
theorem zjG{X:Cx}{cl:Cf}{G:Genv}{k i:Nat}{n:Str}{a f:Addr}{fd:FuncData}{st:Stmt}{p q pos:Pos}(hr:Room (k+1) X.A)(gok:GOk cl G X.prog X.w X.K X.mg X.base k)(C:ClsFn cl G X.K st f fd)(hkk:X.K=cl.K)(hm:X.mg "_law_class" = some (.ref f))(hk:PySem.W.keepIn X.K (.ref f)=true)(hg:Gl X "_law_class")
  (hN:X.N[i]?=some n) (hv:Vis X.env.scope n) (hd:(n == ("__debug__":Str))=false) (hcd:(n == ("__classdict__":Str))=false):PE (X.inH a) (.Call (.Name "_law_class" p) [.Name n q] [] pos) (zol cl G i):=by
 intro pins s σ H Q I h;obtain ⟨v,h1,h2⟩:=h;have ha:PA (X.inH a) [.Name n q] _:=zaX (zaU (X:=X.inH a) (pos:=q) hN hv hd hcd) zbS rfl;refine ya4 (zcI I hg hm ?_ (by decide));refine yby (h₀:=X.base) I.ok.mod.kin hk (thn (ha pos pins s σ H (fun vs H1=>vs=[v]/\H1=H) I ⟨v,h1,rfl,rfl⟩) fun us s1 ⟨vs,H1,I1,r,e1,e2⟩=>⟨I1.kIn,?_⟩) rfl rfl;subst e1 e2;have okX:X.Ok:=⟨I1.ok.mod,I1.ok.kind,I1.ok.glob,I1.ok.blt,I1.ok.above,I1.ok.inj,I1.ok.has,I1.ok.cab,fun _=>hr.hd,I1.ok.frames,I1.ok.stk,I1.ok.exf,I1.ok.bs,I1.ok.bsz,I1.ok.noex,I1.ok.exfs,I1.ok.funs,I1.ok.frf⟩;have J:=I1.outH okX;obtain ⟨oc,od,kV,doc,pm,an,cdv,ct,osl,rfl,lk,hc⟩:=C.fn.ex;have hl:us.length=1:=r.length.symm
 have cx:ClsCx cl G k ((zgI (CXE X.prog X.w) X.prog X.w X.K X.mg X.base ["_law_kept","_law_kinds"] "_law_class" (zag st) f cdv X.A X.stack s1 H1 (fun _ _ _=>False)).inH a) :=
  ⟨gok,hkk,(by have:=hr.un;show X.A.units+3+64<cLine;omega),rfl,C.l0,C.l1,fun x hx=>C.gl x hx,C.b1,C.b2,C.ex⟩
 refine ycG (ybo (zsm (CX:=CXE X.prog X.w) (E:=fun _ _ _=>False) (a:=a) lk hc C.sc hr J.env0 (.of_eq (C.bind us hl)) r rfl (C.ok k _ (fun _ _ _ _=>False) cx) (zlj (N:=["_law_kept","_law_kinds"]) h2)) fun r s' hq=>?_);obtain ⟨u,rfl,ce⟩:=hq;obtain ⟨w,H',J',rw',q'⟩:=J.after ce;exact ⟨w,H',J'.inH a,rw',q'⟩
end S2
namespace L2
open PySem PySem.Spec PyProof.Rows
def zul{CX:CXT}{P:Program}{w:World}{K:PySem.W.Frag}{mg:Z6}{base:Heap}{k:Nat}{f:Addr}{name qual:Str}{params:Arguments}{body:List Stmt}{scope:Scope}{dV kV doc pm cdv ct oc:Value}{an od:Option Addr}
  {osl:Array (Option Value)} {N ps:List Str} {A:Around} {outer:List Env} {s:Shared} {H:Hp} {args:Args} {us:List Value} {vs:List V} {Q:VK} {E:XK} {t:TS} (lk:K.lookup f=some ⟨oc,od,.func (PySem.W.fnOf name qual params body scope dV kV doc pm an cdv ct),osl⟩) (hcd:PySem.W.codeIn K cdv qual=true) (S:FnScope N ps scope)
  (hr:Room (k+1) A) (e0:Env0 P w K mg base A outer s H) (hb:BindsTo s (PySem.W.fnOf name qual params body scope dV kV doc pm an cdv ct) args (ps.zip us)) (r:Vals vs us) (hl:vs.length=ps.length)
  (ht:PSs (zgI CX P w K mg base N qual scope f cdv A outer s H E) body t) (hq:t { nx:=fun _ H'=>Q .non H',rt:=Q } (zcy N vs) H) :
  codeAny (model P w) A (.call (.ref f) args) (CR CX outer P w H s Q E) s:=by
 have KX:K.In s.heap:=e0.mod.kin.keeps fun b o e=>(e0.bs b o e).1
 have lim:s.heap.NoLimit:=e0.mod.nolimit.keeps fun b o e=>(e0.bs b o e).1
 have hkind:∀y∈ps.zip us,scope.names.lookup y.1=some .local\/(scope.names.lookup y.1=some .cell/\((cellsFrom (s.heap.objs.size+1) scope.names []).lookup y.1).isSome=true):=fun ⟨n,v⟩ hy=>by
  rcases S.par n (ya8 hy).1 with q | q
  ·exact .inl q
  ·exact .inr ⟨q,ybv _ _ _ (.inl q)⟩
 refine ycd hr.depth (KX _ _ lk) rfl S.co S.gen rfl (ycy KX hcd) (hb _ _ _ _ ?_);refine ybL S.kind hkind fun env he s1 x=>?_
 subst he;refine ⟨lim.keeps x.toInCall.keep,codeAny_func ?_⟩;have I:Inv (zgI CX P w K mg base N qual scope f cdv A outer s H E) [] (zcy N vs) H s1:=zem S hr.hd e0 hl r x;refine yaW (ht [] s1 (zcy N vs) H _ I hq) (fun fl s' hs=>?_) fun e s' hs=>hs
 cases fl with
 | ret u =>
  obtain ⟨v,σ',H',J,rv,q⟩:=hs;exact ⟨v,H',J.os,J.bare,J.base,J.hok,rv,q⟩
 | next =>
  obtain ⟨σ',H',J,q⟩:=hs;exact ⟨.non,H',J.os,J.bare,J.base,J.hok,rfl,q⟩
 | brk =>
  obtain ⟨_,_,_,q⟩:=hs;exact False.elim q
 | cont =>
  obtain ⟨_,_,_,q⟩:=hs;exact False.elim q
section
variable{X:Cx}{CX:CXT}{k:Nat}{N:List Str}{qual x:Str}{params:Arguments}{body:Expr}{sc:Scope}{f c:Addr}{clos:List (Str×Addr)}{E:St->XK}{vs:List V}{pm ctv:Value}{of oc:Obj}{uf uc:HO}{te:St->TE}{p pos:Pos}{i:Nat}
noncomputable def zjr(i:Nat)(f:Addr)(vs:List V)(te:St->TE):TE:=fun σ H Q=>σ[i]?=some (some (.ref f))/\te σ (vs.map some) H Q
def zmc(S:LamSc N sc)(hr:Room (k+1) X.A)(hN:X.N[i]?=some x)(hv:Vis X.env.scope x)(L:LamAt X.s₀.heap X.H₀ f params qual body sc N vs clos c pm ctv)(hf:X.H₀ f=some (.frz of uf))(hc:X.H₀ c=some (.frz oc uc))(h0:HOk X.prog X.w X.H₀ X.s₀.heap)
  (hx:∀x a,clos.lookup x=some a->a ∉ X.fs/\a ∉ X.ex) (hb:bindArgs (PySem.W.kla_fn "<lambda>" qual params body sc clos pm (.ref c) ctv) ⟨[],[]⟩=pure [])
  (hp:∀(pins:Z3) (σ:St) (H:Hp) (s:Shared) (e:Value) (s':Shared),Inv X pins σ H s->CX X.stack H s (E σ) e s'->X.xe e s')
  (he:∀σ s H,Room k (X.A.deeper (PySem.W.envX qual sc s.heap.objs.size f (.ref c) clos))->PE (zgJ CX X.prog X.w X.K X.mg X.base N qual sc f (.ref c) clos X.A X.stack s H (E σ)) body (te σ))
  (hd:(x == ("__debug__":Str))=false) (hcd:(x == ("__classdict__":Str))=false):PE X (.Call (.Name x p) [] [] pos) (zjr i f vs te):=by
 intro pins s σ H Q I h;obtain ⟨h1,h2⟩:=h;refine ya4 (thn (zaU (pos:=p) hN hv hd hcd pins s σ H (fun v H'=>v=.ref f/\H'=H) I ⟨_,h1,rfl,rfl⟩) fun u s1 ⟨v,H1,I1,r,e1,e2⟩=>?_);subst e1 e2;cases r;have L1:=I1.lamAt L hf hc h0 hx;refine PySem.W.callWith_F0 ⟨_,_,_,_,L1.fn⟩ ?_;refine ycG (ybo (zpr (CX:=CX) (E:=E σ) S hr I1.env0 L1 hb (he σ s1 H1) h2) fun r s' hq=>?_)
 cases r with
 | error e=>exact hp pins σ H1 s1 e s' I1 hq
 | ok fl =>
  cases fl with
  | ret u=>exact I1.after hq
  | next=>exact False.elim hq
  | brk=>exact False.elim hq
  | cont=>exact False.elim hq
end
def ztP{P:Program}{w:World}{K:PySem.W.Frag}{mg:Z6}{base:Heap}{N:List Str}{qual:Str}{scope:Scope}{f:Addr}{cd:Value}{clos:List (Str×Addr)}{A:Around}{outer:List Env}{s:Shared}{H:Hp}{E:XK} :
  zn2 (CXE P w) (zgJ (CXE P w) P w K mg base N qual scope f cd clos A outer s H E) E:=fun pins σ H1 s1 e s' I q =>
 zib (X:=zgJ (CXE P w) P w K mg base N qual scope f cd clos A outer s H E) I rfl rfl rfl q
def zht{scope:Scope}{env:Env}{cl:List (Str×Addr)}(h:∀y∈scope.names,y.2=.free->∃c,env.cells.lookup y.1=some c)(hc:closureFor scope env=pure cl):∀y c,cl.lookup y=some c->(y,NameKind.free)∈scope.names:=by
 have key:∀(l:List (Str×NameKind)) (cs:List (Str×Addr)),(∀y∈l,y.2=.free->∃c,env.cells.lookup y.1=some c) →
   ∃cl,(forIn l cs fun (x:Str×NameKind) (r:List (Str×Addr))=>(if (x.2 == NameKind.free)=true then (do let c ← cellOf env x.1;pure (ForInStep.yield ((x.1,c)::r))) else pure (ForInStep.yield r):Sem (ForInStep (List (Str×Addr)))))=pure cl ∧
    ∀y c,cl.lookup y=some c->(y,NameKind.free)∈l\/∃c',cs.lookup y=some c':=by
  intro l
  induction l with
  | nil=>intro cs _;exact ⟨cs,rfl,fun y c e=>.inr ⟨c,e⟩⟩
  | cons p l ih =>
   intro cs hl;obtain ⟨n,k⟩:=p
   by_cases hk:(k == NameKind.free)=true
   ·have ek:k=.free:=eq_of_beq hk;obtain ⟨c,ec⟩:=hl (n,k) yar ek;obtain ⟨cl,e1,e2⟩:=ih ((n,c)::cs) (fun y hy=>hl y (yak _ hy));refine ⟨cl,?_,fun y c' e=>?_⟩
    ·rw [ybC];show ((if (k == NameKind.free)=true then _ else _) >>= _)=_;rw [if_pos hk]
     have ecell:cellOf env n=pure c:=by unfold cellOf;rw [ec]
     show (cellOf env n >>= _) >>= _=_;rw [ecell];simpa using e1
    ·rcases e2 y c' e with z | ⟨c2,z⟩
     ·exact .inl (yak _ z)
     ·rw [yaz] at z
      cases hq:y == n with
      | true=>rw [eq_of_beq hq,<-ek];exact .inl yar
      | false=>rw [hq] at z;exact .inr ⟨c2,z⟩
   ·obtain ⟨cl,e1,e2⟩:=ih cs (fun y hy=>hl y (yak _ hy));refine ⟨cl,?_,fun y c' e=>(e2 y c' e).elim (fun z=>.inl (yak _ z)) .inr⟩;rw [ybC];show ((if (k == NameKind.free)=true then _ else _) >>= _)=_;rw [if_neg hk];simpa using e1
 obtain ⟨cl',e1,e2⟩:=key scope.names [] h
 have e3:closureFor scope env=pure cl':=by
  unfold closureFor;show ((forIn scope.names [] _:Sem (List (Str×Addr))) >>= _)=_;simpa using e1
 have e4:cl=cl':=by
  have:=hc.symm.trans e3;injection this
 subst e4
 exact fun y c e=>(e2 y c e).elim (fun z=>z) fun ⟨_,z⟩=>by cases z
end L2
namespace S2
open PySem PySem.Spec PyProof.Rows L2
structure ToldFn(K:PySem.W.Frag)(st:Stmt)(f:Addr)(fd:FuncData):Prop where
 fn:Fun K "_law_told" "_law_told" st f fd
 sc:FnScope ["_law_deed_here","e"] ["_law_deed_here"] (zag st)
 l0:(zag st).names.lookup ("_law_deed_here":Str)=some .local
 l1:(zag st).names.lookup ("e":Str)=some .local
 g1:(zag st).names.lookup ("FloorError":Str)=some .globalImplicit
 g2:(zag st).names.lookup ("_law_class":Str)=some .globalImplicit
 body:∃p1 p2 p3 p4 p5 p6 p7 p8 p9 p10:Pos,zaM st=[.Try [.Return (some (.Call (.Name "_law_deed_here" p1) [] [] p2)) p3] [.ExceptHandler (some (.Name "FloorError" p4)) (some "e") [.Return (some (.Call (.Name "_law_class" p5) [.Name "e" p6] [] p7)) p8] p9] [] [] p10]
 bind:∀us:List Value,us.length=1->bindArgs fd ⟨us,[]⟩=pure ([("_law_deed_here":Str)].zip us)
def zjV{G:Genv}{c:Str}{S S':Sto}{d:D}(h:znW G.isx c S=.ok d S'):znp G [.exc c] S=.ok d S':=by
 unfold znW at h;show zby 2 false (zeu G.isx) [.exc c] S=_;unfold zby;show (match zeu G.isx [some (false,.exc c),none] S with | .rt d S'=>Out.ok d S' | .nx _ S'=>_ | .ex c _ S'=>_ | _=>_)=_
 revert h
 cases zeu G.isx [some (false,.exc c),none] S with
 | rt d0 S0=>exact fun h=>h
 | _=>intro h;cases h
def zhK{H:Hp}{a b:Addr}{x y:HO}(n:a≠b):upd (upd H a x) b y=upd (upd H b y) a x:=by
 funext c
 by_cases h1:c=a
 ·subst h1;rw [zac n,zap,zap]
 ·by_cases h2:c=b
  ·subst h2;rw [zap,zac h1,zap]
  ·rw [zac h2,zac h1,zac h1,zac h2]
def zjb{pos pos':Pos}{c v:Value}(l:List Value)(h:TriplesOk l)(hn:codeAmong pos' (l++[rawInt pos.line,rawInt pos.col,c])=some v):codeAmong pos' l=some v\/v=c:=by
 fun_induction TriplesOk l with
 | case1 =>
  simp only [List.nil_append,codeAmong,rawInt] at hn;split at hn
  ·exact .inr (Option.some.inj hn).symm
  ·cases hn
 | case2 a t b u x za7 ih =>
  simp only [List.cons_append,codeAmong] at hn ⊢;split at hn
  ·rename_i hc;rw [if_pos hc];exact .inl hn
  ·rename_i hc;rw [if_neg hc];exact ih h hn
 | case3 l h1 h2=>exact h.elim
section
variable{P:Program}{wo:PySem.World}{K:PySem.W.Frag}{mg:Z6}{base:Heap}{cl:Cf}{G:Genv}{j:Nat}
def zqy{st st2:Stmt}{ft fc cd Pt:Addr}{fd fd2:FuncData}{q:Str}{params:Arguments}{body:Expr}{sc:Scope}{lp:Pos}{N:List Str}{fb:Fe}
  (T:ToldFn K st ft fd) (C:ClsFn cl G K st2 fc fd2) (gok:GOk cl G P wo K mg base j) (hkk:K=cl.K)
  (m1:mg "_law_told" = some (.ref ft)) (k1:PySem.W.keepIn K (.ref ft)=true) (m2:mg "_law_class" = some (.ref fc)) (k2:PySem.W.keepIn K (.ref fc)=true) (hfe:G.exc "FloorError" = true)
  (hB:zm8 mg base) (hC:PySem.W.CodeHd base cd Pt) (htb:cl.tabs Pt=some (q ++ "<lambda>")) (LS:LamSc N sc) (nd:N.Nodup) (hfr:∀y∈sc.names,y.2=.free->y.1∈N) (hdf:∀env,defaultsOf params env=([],[])) (hbn:∀clos pm c ctv,bindArgs (PySem.W.kla_fn "<lambda>" (q ++ "<lambda>") params body sc clos pm (.ref c) ctv) ⟨[],[]⟩=pure [])
  (hE:∀(f c:Addr) (clos:List (Str×Addr)) (A:Around) (outer:List PySem.Env) (s:Shared) (H:Hp) (E':XK),Room j (A.deeper (PySem.W.envX (q ++ "<lambda>") sc s.heap.objs.size f (.ref c) clos))->PE (zgJ (CXE P wo) P wo K mg base N (q ++ "<lambda>") sc f (.ref c) clos A outer s H E') body (tE cl (fun _=>E') fb)) :
  zsQ cl G.und G.isx P wo K mg base (j+2) (some (cd,q)) (.Lambda params body sc lp) N fb:=by
 intro X E caps p pos eP eW eK eM eB hr hcalm hg hcod hcaps;subst eP eW eK eM eB;obtain ⟨hcd,hq⟩:=hcod _ rfl;dsimp only at hcd hq;intro pins s σ H Q I h;obtain ⟨B,w,ρ,S,rfl,R,h⟩:=h;unfold zdT at h
 cases hds:zhu ρ caps with
 | none=>rw [hds] at h;exact h.elim
 | some ds =>
 rw [hds] at h;dsimp only at h;obtain ⟨vs,hvl,hvs,sh⟩:=ziu R hds
 obtain ⟨clos,hclos,hcl1,hcl2⟩:=zfb (scope:=sc) (env:=X.env) fun y hy hf=>by
  obtain ⟨i,hi⟩:=ycj.mp (hfr y hy hf)
  have hlt:i<caps.length:=by rw [hcaps.len];exact (yag.mp hi).1
  exact I.ok.has y.1 (.inl (hcaps.at' i y.1 _ hi (yac hlt)).2.1)
 have hlam:=zry (X:=X) (params:=params) (body:=body) (sc:=sc) (pos:=lp) hcd hC hB hclos (hdf _);rw [hq] at hlam;have ha:PA X [.Lambda params body sc lp] _:=zaX hlam zbS rfl;refine ya4 (zcI I hg m1 ?_ (by decide))
 refine yby (h₀:=X.base) I.ok.mod.kin k1 (thn (ha pos pins s σ w.H (fun xs H1=>∃f c oc ctv w1,xs=[.ref f]/\w1.H=H1/\Rel cl B σ w1 ρ S/\Fut w w1 ∧
   w1.H f=some (.frz (PySem.W.kla_obj "<lambda>" (q ++ "<lambda>") params body sc clos ((X.mg "__name__").getD .none) c ctv) (.own f))/\w1.H c=some (.frz oc (.own c))/\ziA (q ++ "<lambda>") oc) I ?rd) fun us s1 ⟨xs,H1,I1,r1,q1⟩=>⟨I1.kIn,?go⟩) rfl rfl
 case rd =>
  obtain ⟨ps,t1,t2,t3⟩:=R.wd.tab Pt _ htb;refine ⟨ps,t1,t3.1,fun hca f c oc ctv hf hc hfc hco=>?_,fun cv hca=>?_⟩
  ·have g1:=zaD (w:=w) hc (.frz oc (.own c))
   have hf':(w.add c (.frz oc (.own c))).H f=none:=by show upd w.H c _ f=none;rw [zac hfc];exact hf
   have g2:=zaD (w:=w.add c (.frz oc (.own c))) hf' (.frz (PySem.W.kla_obj "<lambda>" (q ++ "<lambda>") params body sc clos ((X.mg "__name__").getD .none) c ctv) (.own f));have R2:=(R.grow g1).grow g2
   have pc:c≠Pt:=fun z=>by rw [z,t1] at hc;cases hc
   have pf:f≠Pt:=fun z=>by rw [z,t1] at hf;cases hf
   have a1:=g1.keep Pt _ t1;have a2:=g2.keep Pt _ a1.1;have c1:(w.add c (.frz oc (.own c))).H c=some (.frz oc (.own c)):=zjc;have c2:=g2.keep c _ c1
   obtain ⟨R3,F3⟩:=R2.tabUp (ps':=ps++#[rawInt lp.line,rawInt lp.col,.ref c]) a2.1 (a2.2.trans (a1.2.trans t2)) fun q' hq'=>by
    have eq':q'=q ++ "<lambda>":=by rw [htb] at hq';exact (Option.some.inj hq').symm
    subst eq';have t4:=(t3.up g1.fut).up g2.fut;refine ⟨by rw [Array.toList_append];exact TriplesOk_snoc _ _ _ _ t3.1,fun pos' cv e=>?_⟩;rw [Array.toList_append] at e
    rcases zjb _ t3.1 e with z | z
    ·exact t4.2 pos' cv z
    ·exact ⟨c,oc,z,⟨c2.1,c2.2.trans zgT⟩,hco⟩
   refine ⟨f,c,oc,ctv,_,rfl,?_,R3,g1.fut.trans (g2.fut.trans F3),?_,?_,hco⟩
   ·show upd (upd (upd w.H c _) f _) Pt _=_;rw [zhK pf,zhK pc]
   ·show upd (upd (upd w.H c _) f _) Pt _ f=_;rw [zac pf,zap]
   ·show upd (upd (upd w.H c _) f _) Pt _ c=_;rw [zac pc,zac (fun z=>hfc z.symm),zap]
  ·obtain ⟨c,oc,rfl,hcw,hco⟩:=t3.2 lp cv hca;refine ⟨c,oc,rfl,hcw.1,hco,fun f ctv hf=>?_⟩;have g1:=zaD (w:=w) hf (.frz (PySem.W.kla_obj "<lambda>" (q ++ "<lambda>") params body sc clos ((X.mg "__name__").getD .none) c ctv) (.own f));exact ⟨f,c,oc,ctv,w.add f _,rfl,rfl,R.grow g1,g1.fut,zjc,(g1.keep c _ hcw.1).1,hco⟩
 case go =>
  obtain ⟨f,c,oc,ctv,w1,rfl,rfl,R1,F1,hf1,hc1,⟨us1,tt,hd1,hv1⟩⟩:=q1
  have hmem:=zht (scope:=sc) (env:=X.env) (cl:=clos) (fun y hy hf=>by
   obtain ⟨i,hi⟩:=ycj.mp (hfr y hy hf)
   have hlt:i<caps.length:=by rw [hcaps.len];exact (yag.mp hi).1
   exact I.ok.has y.1 (.inl (hcaps.at' i y.1 _ hi (yac hlt)).2.1)) hclos
  have L:LamAt s1.heap w1.H f params (q ++ "<lambda>") body sc N vs clos c ((X.mg "__name__").getD .none) ctv:={
   fn:=(I1.hok f _ hf1).1
   code:=⟨c,oc,us1,tt,rfl,(I1.hok c _ hc1).1,hd1,hv1⟩
   inj:=fun x y a h1 h2=>I1.ok.inj x y a (hcl1 x a h1) (hcl1 y a h2)
   has:=fun x hx=>hcl2 x (yay hx)
   cell:=fun x a e=>⟨I1.freeC x a (hcl1 x a e),I1.cell x a (hcl1 x a e)⟩
   val:=fun i x v h1 h2=>by
    have hlt:i<caps.length:=by rw [hcaps.len];exact (yag.mp h1).1
    obtain ⟨b1,b2,_⟩:=hcaps.at' i x _ h1 (yac hlt);obtain ⟨m,hn,hl⟩:=I1.loc;obtain ⟨u,rv,lk⟩:=hl _ x v b1 (hvs i _ v (yac hlt) h2) (.inr (.inl b2));obtain ⟨a,ea⟩:=hcl2 x (yay (LS.free x (ya5 h1)))
    rcases lk with ⟨kl,_⟩ | ⟨_,a',ec,ic⟩
    ·have kl':X.env.scope.names.lookup x=some .local:=kl;rw [b2] at kl';cases kl'
    ·have:=(hcl1 x a ea).symm.trans ec;cases this;exact ⟨u,a,rv,ea,ic⟩
   len:=hvl.trans hcaps.len }
  have hx:∀x a,clos.lookup x=some a->a ∉ frs X.stack/\a ∉ ([]:List Addr):=fun x a e=>⟨fun hb=>by
   rcases yat.mp (I1.stkSub a hb) with z | z
   ·exact I1.cne x a (hcl1 x a e) z
   ·obtain ⟨i,hi⟩:=ycj.mp (hfr (x,.free) (hmem x a e) rfl)
    have hlt:i<caps.length:=by rw [hcaps.len];exact (yag.mp hi).1
    have hge:=I1.ok.cab x a (hcaps.at' i x _ hi (yac hlt)).2.2 (hcl1 x a e);obtain ⟨_,o,ho,_⟩:=I1.ok.funs.mem z
    exact absurd (yah (yaj ho) hge) (yaP _),by simp⟩
  obtain ⟨oc',od,kV,doc,pm',an,cdv,ct,osl,rfl,lk,hc'⟩:=T.fn.ex;obtain ⟨p1,p2,p3,p4,p5,p6,p7,p8,p9,p10,hbody⟩:=T.body
  cases r1 with
  | cons r1 r2 =>
  cases r2;cases r1;have hr1:Room (j+1) (X.A.deeper (envOfC "_law_told" (zag st) s1.heap.objs.size ft cdv)):=hr.deeper _;refine ycG (ybo (zul (CX:=CXE X.prog X.w) (E:=fun _ _ _=>False) (k:=j+1) (Q:=Q) (vs:=[.ref f]) (t:=fun De σ H=>zqA (zjr 0 f vs fun σ'=>tE cl (fun _=>ztl X.K (cl "FloorError") 1 (zqA (zol cl G 1)) De σ') fb) De σ H) lk hc' T.sc hr I1.env0 (.of_eq (T.bind _ rfl)) (.cons rfl .nil) rfl ?bd ?rd2) fun r s' hq=>?_)
  case bd =>
   rw [hbody];refine zg4 (zo1 (tb:=fun E'=>zqA (zjr 0 f vs fun σ'=>tE cl (fun _=>E' σ') fb)) (th:=zqA (zol cl G 1)) rfl rfl T.sc.nd rfl T.l1 T.g1 (gok.exc _ hfe).1 (gok.exc _ hfe).2 (by decide) (fun pins' E'=>?_) (fun a=>?_) (by decide))
   ·exact zg4 (zge (zmc (CX:=CXE X.prog X.w) (E:=E') (k:=j) (te:=fun σ'=>tE cl (fun _=>E' σ') fb) LS hr1 rfl (.inl T.l0) L hf1 hc1 I1.hok hx (hbn _ _ _ _) (fun pins'' σ' H' s'' e s3 J qq=>⟨σ',H',s'',zcJ J,qq⟩) (fun σ' s'' H' hr'=>hE f c clos _ _ s'' H' (E' σ') hr') (by decide) (by decide)))
   ·exact zg4 (zge (zjG (k:=j) hr1 gok C hkk m2 k2 T.g2 rfl (.inl T.l1) (by decide) (by decide)))
  case rd2 =>
   refine ⟨rfl,w1.base,w1.inn,ds.map (fun d=>some (false,d)),S,rfl,⟨R1.wd.enter,?_,fun i o d hi=>?_⟩,?_⟩
   ·rw [yad,yad];exact sh.length
   ·rw [yao] at hi
    cases hdi:ds[i]? with
    | none=>rw [hdi] at hi;cases hi
    | some d' =>
     rw [hdi] at hi;cases hi;obtain ⟨v,e1,e2⟩:=((sh.up F1).up (zbB w1)).at hdi;exact ⟨v,by rw [yao,e1];rfl,e2⟩
   ·cases hfb:fb (ds.map fun d=>some (false,d)) S with
    | bad=>rw [hfb] at h;exact h.elim
    | ok d S' =>
     rw [hfb] at h;intro v w' R' F' s';obtain ⟨Rb,Fb⟩:=R1.leave R'.wd F';exact h v (w1.back w') Rb (F1.trans Fb) (s'.up (zb3 R'.wd))
    | exc c0 S' =>
     rw [hfb] at h;dsimp only at h
     cases hu:G.und c0 "FloorError" with
     | false=>rw [hu] at h;exact h.elim
     | true =>
      rw [hu,if_pos rfl] at h;intro w' R' F';refine ⟨cl c0,rfl,gok.und _ _ hu,fun a ob ha hob=>?_⟩;have g:=zaD (w:=w') ha (.frz ob (.own a));refine ⟨.ref a,rfl,rfl,w1.base,w'.add a (.frz ob (.own a)),[.exc c0],S',rfl,R'.wd.grow g,.cons (.exc zjc zgT hob) .nil,?_⟩
      cases hcr:znW G.isx c0 S' with
      | bad=>rw [hcr] at h;exact h.elim
      | exc c2 S2 =>
       unfold znW at hcr
       split at hcr<;>cases hcr
      | ok d S2 =>
       rw [hcr] at h;rw [zjV hcr];intro v w'' W'' F'' rv;obtain ⟨Rb,Fb⟩:=R1.leave W'' ((F'.trans g.fut).trans F'');exact h v (w1.back w'') Rb (F1.trans Fb) (Shd.up (zb3 W'') rv)
  ·cases r with
   | error e=>obtain ⟨_,_,_,_,_,_,_,_,_,_,_,_,_,_,z⟩:=hq;exact z.elim
   | ok fl =>
    cases fl with
    | ret u=>exact I1.after hq
    | next=>exact False.elim hq
    | brk=>exact False.elim hq
    | cont=>exact False.elim hq
end
def zgz(sc:Scope):List Str:=(sc.names.filter fun y=>y.2 == .free).map (·.1)
noncomputable def zrW:Arguments:={ posonlyargs:=[],args:=[],vararg:=none,kwonlyargs:=[],kw_defaults:=[],kwarg:=none,defaults:=[] }
noncomputable def zpG(p:Arguments):Bool:=match p with | ⟨[],[],none,[],[],none,[]⟩=>true | _=>false
def zmz{p:Arguments}(h:zpG p=true):p=zrW:=by
 unfold zpG at h;split at h
 ·rfl
 ·cases h
def zr5(sc:Scope):Bool:=decide (sc.kind=.function)&&!sc.isCoroutine&&!sc.isGenerator&&sc.names.all (fun y=>!(y.2 == .cell))&&(zgz sc).all (fun x=>decide (sc.names.lookup x=some .free))&&decide (zgz sc).Nodup
def zps(G:Genv):Expr->Option (List Str×Fe)
 | .Lambda params body sc _=>if zpG params&&zr5 sc then (zs5 G 40 sc.names (zgz sc) body).map fun p=>(zgz sc,p.2) else none
 | _=>none
noncomputable def Genv.withLam(G:Genv)(cd:Addr)(q:Str):Genv:={ G with lam:=zps G,cod:=some (cd,q) }
theorem GOk.lamUp{P:Program}{wo:PySem.World}{K:PySem.W.Frag}{mg:Z6}{base:Heap}{cl:Cf}{G:Genv}{j:Nat}{st st2:Stmt}{ft fc cd Pt:Addr}{fd fd2:FuncData}{q:Str}
  (gok:GOk cl G P wo K mg base j) (hc0:G.cod=none) (T:ToldFn K st ft fd) (C:ClsFn cl G K st2 fc fd2) (hkk:K=cl.K) (hP:P=cl.P) (hW:wo=cl.wo)
  (m1:mg "_law_told" = some (.ref ft)) (k1:PySem.W.keepIn K (.ref ft)=true) (m2:mg "_law_class" = some (.ref fc)) (k2:PySem.W.keepIn K (.ref fc)=true) (hfe:G.exc "FloorError" = true)
  (hB:zm8 mg base) (hC:PySem.W.CodeHd base cd Pt) (htb:cl.tabs Pt=some (q ++ "<lambda>")):GOk cl (G.withLam cd q) P wo K mg base (j+2) where
 con:=gok.con
 fn:=fun y fj h=>by
  obtain ⟨f',fd',ps',h1,h2,h3,h4⟩:=gok.fn y fj h;exact ⟨f',fd',ps',h1,h2,h3,h4.mono (by omega)⟩
 blt:=gok.blt
 exc:=gok.exc
 und:=gok.und
 isx:=gok.isx
 fk:=gok.fk
 mt:=fun m c fi h=>by
  obtain ⟨f',fd',ps',h1,h2,h3,h4⟩:=gok.mt m c fi h;exact ⟨f',fd',ps',h1,h2,h3,h4.mono (by omega)⟩
 mks:=fun c dds fi h=>by
  obtain ⟨f',fd',ps',dvs,ds,i,hi,z⟩:=gok.mks c dds fi h;exact ⟨f',fd',ps',dvs,ds,i,by omega,z⟩
 tl:=fun e N fb h=>by
  have h':zps G e=some (N,fb):=h;unfold zps at h';split at h'
  ·rename_i params body sc lp;split at h'
   ·rename_i hok;rw [yaa] at hok;obtain ⟨⟨o,f⟩,h1,h2⟩:=yan.mp h';cases h2;have ep:=zmz hok.1;subst ep;have hs:=hok.2;unfold zr5 at hs;simp only [yaa,yaV,ybe,ybs] at hs;obtain ⟨⟨⟨⟨⟨s1,s2⟩,s3⟩,s4⟩,s5⟩,s6⟩:=hs
    have nc:∀y∈sc.names,y.2≠.cell:=fun y hy z=>by have:=s4 y hy;rw [z] at this;cases this
    have LS:LamSc (zgz sc) sc:=⟨s1,s2,s3,nc,s5⟩;refine zqy (G:=G) T C gok hkk m1 k1 m2 k2 hfe hB hC htb LS s6 (fun y hy hf=>?_) (fun _=>rfl) (fun _ _ _ _=>rfl) (fun f' c' clos A outer s H E' hr=>?_)
    ·unfold zgz;exact yau.mpr ⟨y,ycq.mpr ⟨hy,by rw [hf];rfl⟩,rfl⟩
    ·have g:Gx cl G j (zgJ (CXE P wo) P wo K mg base (zgz sc) (q ++ "<lambda>") sc f' (.ref c') clos A outer s H E') sc.names (zgz sc) (fun _=>E') :=
      ⟨gok,hr,rfl,fun pins σ H1 s1 e s' I qq=>ztP pins σ H1 s1 e s' I qq,rfl,hkk,hP,hW,s6,fun x kd h=>⟨kd,h,.inl rfl⟩,fun x h=>h,(fun c h=>by rw [hc0] at h;cases h),fun x h=>absurd rfl (nc _ (yay h))⟩
     exact (zk2 40 _ _ _ _ g body o f h1).2.1
   ·cases h'
  ·cases h'
def zsk{P:Program}{wo:PySem.World}{K:PySem.W.Frag}{mg:Z6}{base:Heap}{cl:Cf}{G:Genv}{k:Nat}{x qual:Str}{st:Stmt}{f cd:Addr}{N ps:List Str}{own:Bool}{fs:Fs}{oc kV doc pm ct:Value}{od an:Option Addr}{osl:Array (Option Value)}
  (lk:K.lookup f=some ⟨oc,od,.func (PySem.W.fnOf x qual (zaY st) (zaM st) (zag st) .none kV doc pm an (.ref cd) ct),osl⟩) (hcd:PySem.W.codeIn K (.ref cd) qual=true) (S:FnScope N ps (zag st)) (hG:GOk cl (G.withLam cd (qual ++ ".<locals>.")) P wo K mg base k)
  (hk:K=cl.K) (hP:P=cl.P) (hW:wo=cl.wo) (hd:zgF (G.withLam cd (qual ++ ".<locals>.")) own N st=some fs):FnOk P wo K mg base (CXE P wo) (k+1) f (PySem.W.fnOf x qual (zaY st) (zaM st) (zag st) .none kV doc pm an (.ref cd) ct) ps (zfS cl ps.length own (zby N.length own fs)):=by
 refine zsl lk hcd S (fun vs H Q E h=>h.1) fun A outer s H vs Q E hr hsp=>?_
 refine ⟨tS cl (fun _=>E) own fs,?_,zlj hsp⟩
 have g:Gd cl (G.withLam cd (qual ++ ".<locals>.")) k (zgI (CXE P wo) P wo K mg base N qual (zag st) f (.ref cd) A outer s H E) (zag st).names N (fun _=>E) true :=
  ⟨⟨hG,hr,rfl,fun pins σ H1 s1 e s' I q=>zrB pins σ H1 s1 e s' I q,rfl,hk,hP,hW,S.nd,fun x kd h=>⟨kd,h,.inl rfl⟩,(fun x h=>h),(fun c h=>by cases h;exact ⟨rfl,rfl⟩),(fun x h=>rfl)⟩,fun _=>rfl,S.kind,rfl,fun _=>PassesOwn.leaving,fun _ C pins σ H1 s1 e h' vs I mk q=>zj1 C pins σ H1 s1 e h' vs I mk q,rfl,rfl⟩
 exact ziw (fun st f hst=>zfJ 40 true _ _ g st f hst) hd
structure XA(K:PySem.W.Frag)(x:Str)(e:Addr):Prop where
 n:PySem.W.nsIn K mainGlobals x=some (some (.ref e))
 x:PySem.W.excIn K e bmV "ValueError.__new__" = true
def scB(n:Nat)(N:List Str)(sc:Scope):Bool:=(match sc.kind with | .function=>true | _=>false)&&!sc.isCoroutine&&!sc.isGenerator&&decide N.Nodup&&decide ((N.take n).length=n)&&decide (∀x∈N.take n,sc.names.lookup x=some .local\/sc.names.lookup x=some .cell)&&decide (∀y∈sc.names,y.2≠.free)
def zd9{n:Nat}{N:List Str}{sc:Scope}(h:scB n N sc=true):FnScope N (N.take n) sc/\(N.take n).length=n:=by
 unfold scB at h;simp only [yaa,yaV,ybe] at h;obtain ⟨⟨⟨⟨⟨⟨h1,h2⟩,h3⟩,h4⟩,h5⟩,h6⟩,h7⟩:=h;exact ⟨⟨by split at h1;(· assumption);(· cases h1),h2,h3,h4,by rw [h5],h6,h7⟩,h5⟩
section
variable{cl:Cf}{T:Tab}{mg:Z6}{base h:Heap}{k:Nat}{F:Fn3}{f:Fs}{x:Str}{st:Stmt}
def ag(g:GOk cl (Gn T F) cl.P cl.wo cl.K mg base k)(X:cl.K.In h)(G:h.Ns mainGlobals mg)(p:GFn cl.K x st)(n:Nat)(N:List Str)(own:Bool)(r:Rn)(f:Fs)(b:BB x x st (N.take n))(s:scB n N (zag st)=true)(e:r=zby N.length own f)(d:zgF (Gn T F) own N st=some f):GOk cl (Gn T (F.fn x ⟨n,own,r⟩)) cl.P cl.wo cl.K mg base (k+1):=by
 obtain ⟨S,l⟩:=zd9 s;obtain ⟨f',a,p⟩:=p.ex;obtain ⟨fd,U,B,kp,_⟩:=p.un b;have z:=zmE U S g rfl rfl rfl d;rw [l,<-e] at z;exact GOk.add g (yaO X G a) kp B z
def am{c q:Str}(g:GOk cl (Gn T F) cl.P cl.wo cl.K mg base k)(cc:Cls cl.K (cl c))(p:MFn cl.K (cl c) x q st)(n:Nat)(N:List Str)(own:Bool)(r:Rn)(f:Fs)(b:BB x q st (N.take n))(s:scB n N (zag st)=true)(e:r=zby N.length own f)(d:zgF (Gn T (F.at c)) own N st=some f):GOk cl (Gn T (F.mt x c ⟨n,own,r⟩)) cl.P cl.wo cl.K mg base (k+1):=by
 obtain ⟨S,l⟩:=zd9 s;obtain ⟨f',a,p⟩:=p.ex;obtain ⟨fd,U,B,kp,i⟩:=p.un b;have z:=zmE U S (g.at c) rfl rfl rfl d;rw [l,<-e] at z;exact GOk.addM (g.up (ybg _)) cc ⟨a,i,kp⟩ B z
def ak{c q:Str}(g:GOk cl (Gn T F) cl.P cl.wo cl.K mg base k)(X:cl.K.In h)(G:h.Ns mainGlobals mg)(ny:PySem.W.nsIn cl.K mainGlobals c=some (some (.ref (cl c))))(mk:PySem.W.makesIn cl.K (cl c)=true)(kpc:PySem.W.keepIn cl.K (.ref (cl c))=true)(p:MFn cl.K (cl c) "__init__" q st)(n:Nat)(N:List Str)(r:Rn)(f:Fs)(b:BB "__init__" q st (N.take n))(s:scB n N (zag st)=true)(e:r=zby N.length false f)(d:zgF (Gn T (F.at c)) false N st=some f):GOk cl (Gn T (F.cls c [] ⟨n,false,r⟩)) cl.P cl.wo cl.K mg base (k+2):=by
 obtain ⟨S,l⟩:=zd9 s;obtain ⟨f',a,p⟩:=p.ex;obtain ⟨fd,U,B,kp,i⟩:=p.un b;have z:=zmE U S (g.at c) rfl rfl rfl d;rw [l,<-e] at z;exact GOk.addK (k':=k+1) (dvs:=[]) (g.up (Nat.le_add_right k 2)) (yai _) (yaO X G ny) ⟨mk,a,i,kpc⟩ B B .nil (fun _=>.nil) z
end
end S2
namespace M88
open PySem L2 S2 S2.L88
noncomputable def top(i:Nat):Stmt:=PySem.Challenge.pw_floorfits_k88_whole_albums.main.body.getD i (.Pass ⟨0,0,0,0⟩)
noncomputable def T:Tab:=⟨[("MOST_COLOUR",.int 8),("MOST_TILES",.int 16),("MOST_SIDE",.int 6),("MOST_LETTERS",.int 6)],["isinstance","int","bool","tuple","str","len","range","all","zip","sorted","set","dict","ValueError"],["FloorError","NoPlace","NoTile","NoFill","Unlike","Nothing","NoText","NoName"],[("Unlike","FloorError"),("NoName","FloorError")],["Unlike","NoName"],[("Album","tiles"),("Album","named"),("Album","done"),("Album","undone")],["named"],[]⟩
noncomputable def F0:Fn3:=⟨"",[],[],[]⟩
theorem sT:FnScope ["_law_deed_here","e"] ["_law_deed_here"] (zag (top 38)):=(zd9 (n:=1) (by kernel_rfl)).1
theorem sC:FnScope ["_law_kept","_law_kinds"] ["_law_kept"] (zag (top 37)):=(zd9 (n:=1) (by kernel_rfl)).1
theorem gC:∀x∈((("isinstance":Str)::("ValueError":Str)::zdd)),(zag (top 37)).names.lookup x=some .globalImplicit:=by decide +kernel
theorem xC:∀x∈zdd,(Gn T F0).exc x=true:=by decide +kernel
def tF{K:PySem.W.Frag}{f:Addr}{oc kV dc pm cd ct:Value}{od an:Option Addr}{sl:Array (Option Value)}(l:K.lookup f=some ⟨oc,od,.func (PySem.W.fnOf "_law_told" "_law_told" (zaY (top 38)) (zaM (top 38)) (zag (top 38)) .none kV dc pm an cd ct),sl⟩)(c:PySem.W.codeIn K cd "_law_told" = true)(k:PySem.W.keepIn K (.ref f)=true):ToldFn K (top 38) f (PySem.W.fnOf "_law_told" "_law_told" (zaY (top 38)) (zaM (top 38)) (zag (top 38)) .none kV dc pm an cd ct) :=
 ⟨zgw (st:=top 38) l c k,sT,by rfl,by rfl,by rfl,by rfl,⟨_,_,_,_,_,_,_,_,_,_,rfl⟩,fun us hl=>match us,hl with | [_],_=>rfl⟩
def cF{F:Fn3}{cl:Cf}{K:PySem.W.Frag}{f:Addr}{oc kV dc pm cd ct:Value}{od an:Option Addr}{sl:Array (Option Value)}(l:K.lookup f=some ⟨oc,od,.func (PySem.W.fnOf "_law_class" "_law_class" (zaY (top 37)) (zaM (top 37)) (zag (top 37)) .none kV dc pm an cd ct),sl⟩)(c:PySem.W.codeIn K cd "_law_class" = true)(k:PySem.W.keepIn K (.ref f)=true):ClsFn cl (Gn T F) K (top 37) f (PySem.W.fnOf "_law_class" "_law_class" (zaY (top 37)) (zaM (top 37)) (zag (top 37)) .none kV dc pm an cd ct) :=
 ⟨zgw (st:=top 37) l c k,sC,by rfl,by rfl,gC,by rfl,by rfl,xC,fun k Y E c=>c.ok (by rfl) (by rfl),fun us hl=>match us,hl with | [_],_=>rfl⟩
def zn1{L M:List (Str×Addr)}:∀{C:Str},C∈L.map (·.1)->(L++M).lookup C=L.lookup C:=by
 induction L with
 | nil=>intro C h;simp at h
 | cons p L ih =>
  intro C h;rw [List.cons_append,yaz,yaz]
  cases e:C == p.1 with
  | true=>rfl
  | false =>
   have:C∈L.map (·.1):=by
    rw [yaw,yat] at h
    rcases h with h | h
    ·rw [h] at e;simp at e
    ·exact h
   exact ih this
def zqe{L M:List (Str×Addr)}(nd:(L.map (·.2)).Nodup){C c:Str}(hC:C∈L.map (·.1))(hc:c∈L.map (·.1)):((L++M).lookup C).getD 0=((L++M).lookup c).getD 0↔C=c:=by
 rw [zn1 hC,zn1 hc];exact zsP nd hC hc
def gm{K:PySem.W.Frag}{x:Str}{st:Stmt}{f:Addr}{oc kV dc pm cd ct:Value}{od an:Option Addr}{sl:Array (Option Value)}(a:PySem.W.nsIn K mainGlobals x=some (some (.ref f)))(l:K.lookup f=some ⟨oc,od,.func (PySem.W.fnOf x x (zaY st) (zaM st) (zag st) .none kV dc pm an cd ct),sl⟩)(c:PySem.W.codeIn K cd x=true)(k:PySem.W.keepIn K (.ref f)=true)(i:PySem.W.isFn K (.ref f)=true):GFn K x st:=⟨f,a,oc,od,kV,dc,pm,an,cd,ct,sl,l,c,k,i⟩
def mm{K:PySem.W.Frag}{x q:Str}{st:Stmt}{f:Addr}{oc kV dc pm cd ct:Value}{od an:Option Addr}{sl:Array (Option Value)}{C:Addr}(a:PySem.W.findIn K (.ref C) x=some (some (.ref f)))(l:K.lookup f=some ⟨oc,od,.func (PySem.W.fnOf x q (zaY st) (zaM st) (zag st) .none kV dc pm an cd ct),sl⟩)(c:PySem.W.codeIn K cd q=true)(k:PySem.W.keepIn K (.ref f)=true)(i:PySem.W.isFn K (.ref f)=true):MFn K C x q st:=⟨f,a,oc,od,kV,dc,pm,an,cd,ct,sl,l,c,k,i⟩
def all_mk{l:PySem.W.OpenLaw}{w:PySem.World}{K:PySem.W.Frag}{h:Heap}{mg:Z6}{fa f31 f33 cdA0 Pt0:Addr}(X:K.In h)(G:h.Ns mainGlobals mg)(hfa:mg "law" = some (.ref fa))
  {od31 an31:Option Addr} {sl31:Array (Option Value)} {oc31 kV31 dc31 pm31 ct31:Value}
  {od33 an33:Option Addr} {sl33:Array (Option Value)} {oc33 kV33 dc33 pm33 cd33 ct33:Value}
  {yAlbum:Addr}
  (nyAlbum:PySem.W.nsIn K mainGlobals "Album" = some (some (.ref yAlbum))) (pgAlbum:PySem.W.plainGet K yAlbum Str.empty=true) (hdAlbum:PySem.W.hasDictIn K yAlbum=true) (poAlbum:PySem.W.plainOver K yAlbum=true) (saAlbum:PySem.W.findIn K (.ref yAlbum) "__setattr__" = some (some (.builtin "object.__setattr__"))) (mkAlbum:PySem.W.makesIn K yAlbum=true) (kpAlbum:PySem.W.keepIn K (.ref yAlbum)=true)
  (naAlbumtiles:PySem.W.findIn K (.ref yAlbum) "tiles" = some none)
  (naAlbumnamed:PySem.W.findIn K (.ref yAlbum) "named" = some none)
  (naAlbumdone:PySem.W.findIn K (.ref yAlbum) "done" = some none)
  (naAlbumundone:PySem.W.findIn K (.ref yAlbum) "undone" = some none)
  (a31:PySem.W.nsIn K mainGlobals "_law_did" = some (some (.ref f31)))
  (l31:K.lookup f31=some ⟨oc31,od31,.func (PySem.W.fnOf "_law_did" "_law_did" (zaY (top 41)) (zaM (top 41)) (zag (top 41)) .none kV31 dc31 pm31 an31 (.ref cdA0) ct31),sl31⟩) (c31:PySem.W.codeIn K (.ref cdA0) "_law_did" = true) (k31:PySem.W.keepIn K (.ref f31)=true)
  (a33:PySem.W.nsIn K mainGlobals "law" = some (some (.ref f33)))
  (l33:K.lookup f33=some ⟨oc33,od33,.func (PySem.W.fnOf "law" "law" (zaY (top 43)) (zaM (top 43)) (zag (top 43)) .none kV33 dc33 pm33 an33 cd33 ct33),sl33⟩) (c33:PySem.W.codeIn K cd33 "law" = true) (k33:PySem.W.keepIn K (.ref f33)=true)
  (zz:∀x∈T.blt,PySem.W.nsIn K mainGlobals x=some none)
  {gt1:Tok} (gl1:PySem.W.nsIn K mainGlobals "MOST_COLOUR" = some (some (.int 8 gt1)))
  {gt2:Tok} (gl2:PySem.W.nsIn K mainGlobals "MOST_TILES" = some (some (.int 16 gt2)))
  {gt3:Tok} (gl3:PySem.W.nsIn K mainGlobals "MOST_SIDE" = some (some (.int 6 gt3)))
  {gt4:Tok} (gl4:PySem.W.nsIn K mainGlobals "MOST_LETTERS" = some (some (.int 6 gt4)))
  {e0 e1 e2 e3 e4 e5 e6 e7:Addr}
  (n0:XA K "FloorError" e0)
  (n1:XA K "NoPlace" e1)
  (n2:XA K "NoTile" e2)
  (n3:XA K "NoFill" e3)
  (n4:XA K "Unlike" e4)
  (n5:XA K "Nothing" e5)
  (n6:XA K "NoText" e6)
  (n7:XA K "NoName" e7)
  {el4:Value} {ed4:Option Addr} {ec4:ClassData} {es4:Array (Option Value)} (lk4:K.lookup e4=some ⟨el4,ed4,.cls ec4,es4⟩) (mr4:ec4.mro=.ref e4::.ref e0::bmV)
  (ga4:PySem.W.findIn K (.ref e4) "__getattribute__" = some (some (.builtin "BaseException.__getattribute__"))) (gt4:PySem.W.findIn K (.ref e4) "__getattr__" = some none) (cc4:PySem.W.findIn K (.ref e4) "__class__" = some (some (.builtin "object.__class__")))
  {el7:Value} {ed7:Option Addr} {ec7:ClassData} {es7:Array (Option Value)} (lk7:K.lookup e7=some ⟨el7,ed7,.cls ec7,es7⟩) (mr7:ec7.mro=.ref e7::.ref e0::bmV)
  (ga7:PySem.W.findIn K (.ref e7) "__getattribute__" = some (some (.builtin "BaseException.__getattribute__"))) (gt7:PySem.W.findIn K (.ref e7) "__getattr__" = some none) (cc7:PySem.W.findIn K (.ref e7) "__class__" = some (some (.builtin "object.__class__")))
  (nd:[e0,e1,e2,e3,e4,e5,e6,e7].Nodup)
  (p1:GFn K "is_whole" (top 14)) (p2:GFn K "is_tuple_of" (top 15)) (p3:GFn K "is_colour" (top 16)) (p4:GFn K "is_tile" (top 17)) (p5:GFn K "is_set" (top 18)) (p6:GFn K "has_number" (top 19)) (p7:GFn K "may_lie" (top 20)) (p8:GFn K "is_row" (top 21)) (p9:GFn K "is_floor" (top 22)) (p10:GFn K "size_of" (top 23)) (p11:GFn K "beside" (top 25)) (p12:GFn K "below" (top 26)) (p13:GFn K "is_name" (top 29)) (p14:GFn K "refuse_no_name" (top 30)) (p15:MFn K yAlbum "__init__" "Album.__init__" (inC 0 (top 31))) (p16:MFn K yAlbum "name_floor" "Album.name_floor" (inC 1 (top 31))) (p17:MFn K yAlbum "do" "Album.do" (inC 2 (top 31))) (p18:MFn K yAlbum "put" "Album.put" (inC 3 (top 31))) (p19:MFn K yAlbum "floor_of" "Album.floor_of" (inC 4 (top 31))) (p20:MFn K yAlbum "take" "Album.take" (inC 5 (top 31))) (p21:MFn K yAlbum "join" "Album.join" (inC 6 (top 31))) (p22:MFn K yAlbum "names" "Album.names" (inC 7 (top 31))) (p23:MFn K yAlbum "set_of" "Album.set_of" (inC 8 (top 31))) (p24:MFn K yAlbum "sizes" "Album.sizes" (inC 11 (top 31))) (p25:GFn K "_law_cell" (top 33)) (p26:GFn K "_law_pick" (top 34)) (p27:GFn K "_law_tiles" (top 35)) (p28:GFn K "_law_floor" (top 36)) (p29:GFn K "_law_deed" (top 39)) (p30:GFn K "_law_behind" (top 40)) (p32:GFn K "_law_all_of" (top 42)) (pT:GFn K "_law_told" (top 38)) (pC:GFn K "_law_class" (top 37))
  : ∃fd:FuncData,(∀(s:Shared) (v:Value),BindsTo s fd ⟨[v],[]⟩ [("_law_script",v)])/\∀base:Heap,K.In base->base.Ns mainGlobals mg->zm8 mg base->(∀q∈[(cdA0,Pt0)],PySem.W.CodeHd base q.1 q.2)->FnOk l.prog w K mg base (CXE l.prog w) 36 fa fd ["_law_script"] (S2.zhT K [(cdA0,Pt0)]):=by
 have e:=hfa.symm.trans (yaO X G a33);cases e;have CLAlbum:Cls K yAlbum:=⟨pgAlbum,hdAlbum,poAlbum,saAlbum⟩;refine ⟨PySem.W.fnOf "law" "law" (zaY (top 43)) (zaM (top 43)) (zag (top 43)) .none kV33 dc33 pm33 an33 cd33 ct33,fun s v=>.of_eq rfl,fun base _ _ hB hCd=>?_⟩
 let cl:Cf:=⟨fun x=>(([("FloorError",e0),("NoPlace",e1),("NoTile",e2),("NoFill",e3),("Unlike",e4),("Nothing",e5),("NoText",e6),("NoName",e7),("Album",yAlbum)]:List (Str×Addr)).lookup x).getD 0,K,l.prog,w,fun a=>if a=Pt0 then some ((("_law_did":Str) ++ ".<locals>.") ++ "<lambda>") else none⟩
 obtain ⟨fT,aT,_,_,_,_,_,_,_,_,_,lT,cT,kT,_⟩:=pT;obtain ⟨fC,aC,_,_,_,_,_,_,_,_,_,lC,cC,kC,_⟩:=pC;have HX:∀c∈T.exc,PySem.W.excIn K (cl c) bmV "ValueError.__new__" = true:=(zav n0.x (zav n1.x (zav n2.x (zav n3.x (zav n4.x (zav n5.x (zav n6.x (zav n7.x zer))))))));have AI:∀C∈T.exc,∀c∈T.exc,(cl C=cl c↔C=c):=fun C hC c hc=>zqe (L:=[("FloorError",e0),("NoPlace",e1),("NoTile",e2),("NoFill",e3),("Unlike",e4),("Nothing",e5),("NoText",e6),("NoName",e7)]) (M:=[("Album",yAlbum)]) nd hC hc
 have g0:GOk cl (Gn T F0) cl.P cl.wo cl.K mg base 0:=zw5 (cl:=cl) (zav ⟨.int 8,_,yaO X G gl1,⟨_,rfl⟩,fun _=>.int _⟩ (zav ⟨.int 16,_,yaO X G gl2,⟨_,rfl⟩,fun _=>.int _⟩ (zav ⟨.int 6,_,yaO X G gl3,⟨_,rfl⟩,fun _=>.int _⟩ (zav ⟨.int 6,_,yaO X G gl4,⟨_,rfl⟩,fun _=>.int _⟩ zer)))) (fun x h=>PySem.W.mg_none_of X G (zz x h)) (zav ⟨yaO X G n0.n,n0.x⟩ (zav ⟨yaO X G n1.n,n1.x⟩ (zav ⟨yaO X G n2.n,n2.x⟩ (zav ⟨yaO X G n3.n,n3.x⟩ (zav ⟨yaO X G n4.n,n4.x⟩ (zav ⟨yaO X G n5.n,n5.x⟩ (zav ⟨yaO X G n6.n,n6.x⟩ (zav ⟨yaO X G n7.n,n7.x⟩ zer)))))))) (zav ⟨⟨_,_,n4.x⟩,_,_,_,_,lk4,zkm mr4⟩ (zav ⟨⟨_,_,n7.x⟩,_,_,_,_,lk7,zkm mr7⟩ zer)) (zav (znM (K:=K) (c:="Unlike") (cl:=cl) lk4 mr4 rfl ga4 gt4 cc4 HX (fun C hC=>⟨AI C hC "Unlike" (by decide),AI C hC "FloorError" (by decide)⟩)) (zav (znM (K:=K) (c:="NoName") (cl:=cl) lk7 mr7 rfl ga7 gt7 cc7 HX (fun C hC=>⟨AI C hC "NoName" (by decide),AI C hC "FloorError" (by decide)⟩)) zer)) (zav ⟨CLAlbum,naAlbumtiles⟩ (zav ⟨CLAlbum,naAlbumnamed⟩ (zav ⟨CLAlbum,naAlbumdone⟩ (zav ⟨CLAlbum,naAlbumundone⟩ zer))));have g1:=ag g0 X G p1 1 ["thing"] false zcc zdG (fun _ _ _ _ _ _=>bb1 fun _=>rfl) (by kernel_rfl) rfl (by rfl);have g2:=ag g1 X G p2 3 ["thing","least","most"] false zaE zbL (fun _ _ _ _ _ _=>bb3 fun _ _ _=>rfl) (by kernel_rfl) rfl (by rfl);have g3:=ag g2 X G p3 1 ["thing"] false zcn zda (fun _ _ _ _ _ _=>bb1 fun _=>rfl) (by kernel_rfl) rfl (by rfl);have g4:=ag g3 X G p4 1 ["thing"] false zcE zet (fun _ _ _ _ _ _=>bb1 fun _=>rfl) (by kernel_rfl) rfl (by rfl);have g5:=ag g4 X G p5 1 ["thing"] false zdi zfE (fun _ _ _ _ _ _=>bb1 fun _=>rfl) (by kernel_rfl) rfl (by rfl);have g6:=ag g5 X G p6 2 ["tiles","thing"] false zcF zcK (fun _ _ _ _ _ _=>bb2 fun _ _=>rfl) (by kernel_rfl) rfl (by rfl);have g7:=ag g6 X G p7 2 ["tiles","thing"] false zcb zdp (fun _ _ _ _ _ _=>bb2 fun _ _=>rfl) (by kernel_rfl) rfl (by rfl);have g8:=ag g7 X G p8 2 ["tiles","thing"] false zcU zd2 (fun _ _ _ _ _ _=>bb2 fun _ _=>rfl) (by kernel_rfl) rfl (by rfl);have g9:=ag g8 X G p9 2 ["tiles","thing"] false zaR zch (fun _ _ _ _ _ _=>bb2 fun _ _=>rfl) (by kernel_rfl) rfl (by rfl);have g10:=ag g9 X G p10 1 ["floor","columns"] false zbQ zes (fun _ _ _ _ _ _=>bb1 fun _=>rfl) (by kernel_rfl) rfl (by rfl);have g11:=ag g10 X G p11 2 ["one","other"] false zbH zd3 (fun _ _ _ _ _ _=>bb2 fun _ _=>rfl) (by kernel_rfl) rfl (by rfl);have g12:=ag g11 X G p12 2 ["one","other"] false zco zfF (fun _ _ _ _ _ _=>bb2 fun _ _=>rfl) (by kernel_rfl) rfl (by rfl);have g13:=ag g12 X G p13 1 ["thing"] false zdj zgA (fun _ _ _ _ _ _=>bb1 fun _=>rfl) (by kernel_rfl) rfl (by rfl);have g14:=ag g13 X G p14 1 ["thing"] false zaP zbC (fun _ _ _ _ _ _=>bb1 fun _=>rfl) (by kernel_rfl) rfl (by rfl);have g15:=ak (c:="Album") g14 X G nyAlbum mkAlbum kpAlbum p15 2 ["self","tiles"] zaQ zbD (fun _ _ _ _ _ _=>bb2 fun _ _=>rfl) (by kernel_rfl) rfl (by rfl);have g16:=am (c:="Album") g15 CLAlbum p16 3 ["self","name","floor"] false zaF zaV (fun _ _ _ _ _ _=>bb3 fun _ _ _=>rfl) (by kernel_rfl) rfl (by rfl);have g17:=am (c:="Album") g16 CLAlbum p17 4 ["self","word","name","floor"] false zbN zdH (fun _ _ _ _ _ _=>bb4 fun _ _ _ _=>rfl) (by kernel_rfl) rfl (by rfl);have g18:=am (c:="Album") g17 CLAlbum p18 3 ["self","name","floor","had"] false zaH zdc (fun _ _ _ _ _ _=>bb3 fun _ _ _=>rfl) (by kernel_rfl) rfl (by rfl);have g19:=am (c:="Album") g18 CLAlbum p19 2 ["self","name"] false zaq zbc (fun _ _ _ _ _ _=>bb2 fun _ _=>rfl) (by kernel_rfl) rfl (by rfl);have g20:=am (c:="Album") g19 CLAlbum p20 2 ["self","name","floor"] false zax zb4 (fun _ _ _ _ _ _=>bb2 fun _ _=>rfl) (by kernel_rfl) rfl (by rfl);have g21:=am (c:="Album") g20 CLAlbum p21 5 ["self","name","one","other","is_east","first","second","whole"] false zah zaB (fun _ _ _ _ _ _=>bb5 fun _ _ _ _ _=>rfl) (by kernel_rfl) rfl (by rfl);have g22:=am (c:="Album") g21 CLAlbum p22 1 ["self"] true zbk zct (fun _ _ _ _ _ _=>bb1 fun _=>rfl) (by kernel_rfl) rfl (by rfl);have g23:=am (c:="Album") g22 CLAlbum p23 1 ["self"] false zbx zb9 (fun _ _ _ _ _ _=>bb1 fun _=>rfl) (by kernel_rfl) rfl (by rfl);have g24:=am (c:="Album") g23 CLAlbum p24 1 ["self"] false zbJ zcs (fun _ _ _ _ _ _=>bb1 fun _=>rfl) (by kernel_rfl) rfl (by rfl);have g25:=ag g24 X G p25 2 ["_law_script","_law_k"] false zbv zbX (fun _ _ _ _ _ _=>bb2 fun _ _=>rfl) (by kernel_rfl) rfl (by rfl);have g26:=ag g25 X G p26 3 ["_law_script","_law_k","_law_many","_law_drawn"] false zat zdb (fun _ _ _ _ _ _=>bb3 fun _ _ _=>rfl) (by kernel_rfl) rfl (by rfl);have g27:=ag g26 X G p27 3 ["_law_script","_law_at","_law_most","_law_colours","_law_made","_law_k","_law_tile"] false zb0 zcL (fun _ _ _ _ _ _=>bb3 fun _ _ _=>rfl) (by kernel_rfl) rfl (by rfl);have g28:=ag g27 X G p28 6 ["_law_script","_law_at","_law_tiles_here","_law_rows","_law_columns","_law_many","_law_made","_law_row","_law_line","_law_column","_law_here"] false zb1 zcM (fun _ _ _ _ _ _=>bb6 fun _ _ _ _ _ _=>rfl) (by kernel_rfl) rfl (by rfl);have g29:=ag g28 X G p29 3 ["_law_script","_law_at","_law_tiles_here","_law_names","_law_name","_law_way","_law_rows","_law_columns","_law_one","_law_other"] false zbu zbW (fun _ _ _ _ _ _=>bb3 fun _ _ _=>rfl) (by kernel_rfl) rfl (by rfl);have g30:=ag g29 X G p30 2 ["_law_known","_law_deed_here","_law_rest","_law_one","_law_other","_law_is_east","_law_made"] false zab zas (fun _ _ _ _ _ _=>bb2 fun _ _=>rfl) (by kernel_rfl) rfl (by rfl);have gL31:=g30.lamUp (cd:=cdA0) (Pt:=Pt0) (q:=(("_law_did":Str) ++ ".<locals>.")) rfl (tF lT cT kT) (cF (cl:=cl) lC cC kC) rfl rfl rfl (yaO X G aT) kT (yaO X G aC) kC rfl hB (hCd (cdA0,Pt0) (.head _)) (if_pos rfl);have G31:=zsk (cl:=cl) (wo:=w) (P:=l.prog) (N:=["_law_album","_law_deed_here"]) (own:=false) (fs:=ze4) l31 c31 (zd9 (n:=2) (by kernel_rfl)).1 gL31 rfl rfl rfl (by rfl);have g31:=GOk.add (fi:=⟨2,false,zdz⟩) (g30.up (k':=33) (by decide)) (yaO X G a31) k31 ((zgw (st:=(top 41)) l31 c31 k31).binds (ps:=["_law_album","_law_deed_here"]) (fun _ _ _ _ _ _=>bb2 fun _ _=>rfl)) G31;have g32:=ag g31 X G p32 1 ["_law_album"] true zbI zcr (fun _ _ _ _ _ _=>bb1 fun _=>rfl) (by kernel_rfl) rfl (by rfl);have G33:=zmE (cl:=cl) (wo:=w) (P:=l.prog) (N:=["_law_script","_law_tiles_here","_law_album","_law_known","_law_k","_law_deed_here","_law_due"]) (own:=false) (fs:=zpP) (zgw (st:=(top 43)) l33 c33 k33) (zd9 (n:=1) (by kernel_rfl)).1 g32 rfl rfl rfl (by rfl);exact G33.imp (zpq (cl:=cl) (tabs:=[(cdA0,Pt0)]) (fun P q h=>by have hh:(if P=Pt0 then some ((("_law_did":Str) ++ ".<locals>.") ++ "<lambda>") else none)=some q:=h;split at hh;(· rename_i e;rw [e];exact .head _);(· cases hh)) zmt)
def walk{l:PySem.W.OpenLaw}{q:Program}{loose:List Str}{XP:(Str->Option Value)->Heap->Prop}{YP:PySem.World->Heap->Prop}{d:DefRec}{K:Params->PySem.W.Frag}{cdA0 Pt0:Addr}(hn:l.most=some 63)(hdf:d.params.defaults=[])
  (hY:∀(w:PySem.World) (h:Heap),YP w h->(K w.params).In h) (hnt:∀w:PySem.World,PySem.W.noTabs (K w.params)=true)
  (hT:∀(w:PySem.World) (mg mb:Z6) (mean:ExcName->Option Value) (h:Heap),(K w.params).In h->PyProof.Rows.Top q (PySem.W.looseW q loose) mean mg mb h->PySem.W.TabsAt [(cdA0,Pt0)] h)
  (F:∀(w:PySem.World) (mg:Z6) (fa:Addr) (h:Heap),(K w.params).In h->h.Ns mainGlobals mg->mg d.name=some (.ref fa) →
   ∃fd:FuncData,(∀(s:Shared) (u:Value),BindsTo s fd ⟨[u],[]⟩ [("_law_script",u)])/\∀base:Heap,(K w.params).In base->base.Ns mainGlobals mg->zm8 mg base->(∀q∈[(cdA0,Pt0)],PySem.W.CodeHd base q.1 q.2)->FnOk l.prog w (K w.params) mg base (CXE l.prog w) 36 fa fd ["_law_script"] (S2.zhT (K w.params) [(cdA0,Pt0)])) :
  PySem.W.WalkO q loose XP YP l.row.toRowW d [] (fun f vs=>PySem.call f vs) :=
 L2.zlA (n:=63) (k:=36) (x:="_law_script") (tabs:=[(cdA0,Pt0)]) (CX:=fun w=>CXE l.prog w) (sp:=fun w=>S2.zhT (K w.params) [(cdA0,Pt0)]) hn (by decide) hdf ⟨rfl,by decide,by decide⟩ hY hnt hT F (fun _ _ a ns hl hO hTb hne hS=>⟨a,ns,rfl,hl,hO,hTb,hne,hS,fun _=>rfl⟩) (by rintro _ _ _ _ _ ⟨_,_,_,_,_,_,_,_,_,_,_,_,_,_,z⟩;exact z)
end M88
namespace PySem.W.Fast
noncomputable def tw8833654418377739735:=0
noncomputable def tw11356046066391135562:=0
noncomputable def tw16170052758847410692:=0
noncomputable def tw16577824077770690191:=0
noncomputable def tw12629819933312923825:=0
noncomputable def tw18224568125301360369:=0
noncomputable def tw3288889473966442613:=0
noncomputable def tw18092025367215932096:=0
noncomputable def tw14581443849292384897:=0
noncomputable def tw16645023114054726853:=0
noncomputable def tw1031725418768409720:=0
noncomputable def tw4429026379581302403:=0
noncomputable def tw12926937619912376870:=0
noncomputable def tw15392485382357804575:=0
noncomputable def tw5428458424420066982:=0
noncomputable def tw2379311914168608986:=0
noncomputable def tw2688371198867078315:=0
noncomputable def tw2975970453699525292:=0
noncomputable def tw16736725434119093936:=0
noncomputable def tw11492208960119584340:=0
noncomputable def tw104853210523663615:=0
noncomputable def tw17025264355065842263:=0
noncomputable def tw12495121286892740587:=0
noncomputable def tw8268271488228747919:=0
noncomputable def tw1618048906722272746:=0
noncomputable def tw15580623680246576091:=0
noncomputable def tw14458085318211498916:=0
noncomputable def tw10467864227110501482:=0
noncomputable def tw16464464391523822712:=0
noncomputable def tw9818967237163373777:=0
noncomputable def tw12640303656744333663:=0
noncomputable def tw10594978533769648912:=0
noncomputable def tw7385826241742998022:=0
noncomputable def tw2152279306533434527:=0
noncomputable def tw16771717456190908702:=0
noncomputable def tw2487543831782571696:=0
noncomputable def tw7098493584052449784:=0
noncomputable def tw1126354323263743478:=0
noncomputable def tw7254919769469290350:=0
noncomputable def tw13130449654908200574:=0
noncomputable def tw12417298551832250746:=0
noncomputable def tw6835615342037574288:=0
noncomputable def tw10346780925257128915:=0
noncomputable def tw5272563648505359219:=0
noncomputable def tw194865920179683212:=0
noncomputable def tw76981517723127917:=0
noncomputable def tw3367148609061788025:=0
noncomputable def tw11066565942877023058:=0
noncomputable def tw13903317492877588700:=0
noncomputable def tw2982983172215930208:=0
noncomputable def tw16148846304234342999:=0
noncomputable def tw6138915185020918512:=0
noncomputable def tw8709687334339893245:=0
noncomputable def tw8452372946053377806:=0
noncomputable def tw11723626550439407174:=0
noncomputable def tw14113317510662296402:=0
noncomputable def tw8340832462710311250:=0
noncomputable def tw16840190408397017181:=0
noncomputable def tw7522543786591636677:=0
noncomputable def tw3514932651758996173:=0
noncomputable def tw3086840210654906859:=0
noncomputable def tw17971863040306057817:=0
noncomputable def tw2272524466131899859:=0
noncomputable def tw17873541743155827804:=0
noncomputable def tw16624354805876154624:=0
noncomputable def tw4213091194745212665:=0
noncomputable def tw15209224417863957391:=0
noncomputable def tw10241929914678598750:=0
noncomputable def tw2094815330465543454:=0
noncomputable def tw36251300300987871:=0
noncomputable def tw6679856111432641423:=0
noncomputable def tw13979734077497533985:=0
noncomputable def tw9322807636590569791:=0
noncomputable def tw14099751510883220402:=0
noncomputable def tw5437964732009539190:=0
noncomputable def tw11624844865292267368:=0
noncomputable def tw1297195660404338903:=0
noncomputable def tw10581973547869854062:=0
noncomputable def tw4110020728407912566:=0
noncomputable def tw1245040425393455337:=0
noncomputable def tw465236427265648018:=0
noncomputable def tw13929945393848667904:=0
noncomputable def tw9524246547441602397:=0
noncomputable def tw14540520744788449979:=0
noncomputable def tw543747861727238644:=0
noncomputable def tw3926271932262584196:=0
noncomputable def tw18261721152130072574:=0
noncomputable def tw6177014026511610769:=0
noncomputable def tw7470371009126533122:=0
noncomputable def tw4897279088966312831:=0
noncomputable def tw15591211818228328114:=0
noncomputable def tw10833243095402959760:=0
noncomputable def tw4995072790642632563:=0
noncomputable def tw5869112011200322073:=0
noncomputable def tw5574986120713941294:=0
noncomputable def tw3847668831875925927:=0
noncomputable def tw12859248847666576024:=0
noncomputable def tw2254427612338100033:=0
noncomputable def tw14594242331593904106:=0
noncomputable def tw5832866820581394815:=0
noncomputable def tw5318468518463466328:=0
noncomputable def tw1646547873759288463:=0
noncomputable def tw4144402375285887529:=0
noncomputable def tw12953420043560244592:=0
noncomputable def tw15857825129734961152:=0
noncomputable def tw3862835398699349353:=0
noncomputable def tw14022558349193842261:=0
noncomputable def tw5987848615016523943:=0
noncomputable def tw2069634736507692733:=0
noncomputable def tw8066557647340265309:=0
noncomputable def tw12412926626710734392:=0
noncomputable def tw15543566453358537592:=0
noncomputable def tw2264361374909521416:=0
noncomputable def tw16034299508320288823:=0
noncomputable def tw7951800567359450243:=0
noncomputable def tw9780669537293248959:=0
noncomputable def tw11390908013893173162:=0
noncomputable def tw9689847473885140461:=0
noncomputable def tw3198071450144741581:=0
noncomputable def tw10349662272687922280:=0
noncomputable def tw18069600131610970030:=0
noncomputable def tw10689364060195194227:=0
noncomputable def tw10697895837432000190:=0
noncomputable def tw7047528160698133555:=0
noncomputable def tw9319713301668882479:=0
noncomputable def tw3515969450212966473:=0
noncomputable def tw166816254434098815:=0
noncomputable def tw6648449754382290379:=0
noncomputable def tw9893639556387481742:=0
noncomputable def tw6527116679933306227:=0
noncomputable def tw4713984652913395725:=0
noncomputable def tw13516852182912102888:=0
noncomputable def tw11009886586903521935:=0
noncomputable def tw16312964070507747203:=0
noncomputable def tw202192334745953511:=0
noncomputable def tw12398619684591521802:=0
noncomputable def tw8596218601156252934:=0
noncomputable def tw3022675323818858047:=0
noncomputable def tw18246173446554313498:=0
noncomputable def tw14988955451939231823:=0
noncomputable def tw4776096860743017495:=0
noncomputable def tw3647227788631541703:=0
noncomputable def tw16456846164515960433:=0
noncomputable def tw1101764993023481586:=0
noncomputable def tw10661320663021456489:=0
noncomputable def tw5724741696683742427:=0
noncomputable def tw11700397273820896284:=0
noncomputable def tw2974673204145289604:=0
noncomputable def tw18130901611179297686:=0
noncomputable def tw6064032930751829532:=0
noncomputable def tw14619309703505628210:=0
noncomputable def tw10024693643511001601:=0
noncomputable def tw8889301205348780319:=0
noncomputable def tw6271117122591003941:=0
noncomputable def tw3780122699560980196:=0
noncomputable def tw3703411522057584720:=0
noncomputable def tw3366640798067885299:=0
noncomputable def tw5336381070486472456:=0
noncomputable def tw148016992023981124:=0
noncomputable def tw1446234788867893054:=0
noncomputable def tw10224610242588639336:=0
noncomputable def tw7558818669424279966:=0
noncomputable def tw17663362142149727233:=0
noncomputable def tw6504094037653594115:=0
noncomputable def tw4060071612976873150:=0
noncomputable def tw17699255024631555854:=0
noncomputable def tw17263615357885616431:=0
noncomputable def tw3235621723244735678:=0
noncomputable def tw15304420524680612959:=0
noncomputable def tw16126676318910068631:=0
noncomputable def tw17061430521767940386:=0
noncomputable def tw13207713462192510969:=0
noncomputable def tw15023441568588405876:=0
noncomputable def tw14879815035348811131:=0
noncomputable def tw473759360319214693:=0
noncomputable def tw16549478853613084866:=0
noncomputable def tw17780821148897265901:=0
noncomputable def tw15158377433584010388:=0
noncomputable def tw5332080924992870882:=0
noncomputable def tw13473422460771731797:=0
noncomputable def tw573359701540494983:=0
noncomputable def tw16730014798964736632:=0
noncomputable def tw11412567217272242952:=0
noncomputable def tw4778356252069095564:=0
noncomputable def tw2766493055321696126:=0
noncomputable def tw9662675981163403302:=0
noncomputable def tw460143713465300289:=0
noncomputable def tw18321903873061699457:=0
noncomputable def tw7343852680455108598:=0
noncomputable def tw13673177547150673646:=0
noncomputable def tw12766770955297447297:=0
noncomputable def tw12189602144645226203:=0
noncomputable def tw8402390441347552410:=0
noncomputable def tw3487470619242155593:=0
noncomputable def tw13732372500128006606:=0
noncomputable def tw1385327428108001804:=0
noncomputable def tw14398843873856574121:=0
noncomputable def tw510040520986956095:=0
noncomputable def tw2338355871463315972:=0
noncomputable def tw17418904726788308316:=0
noncomputable def tw14079103868863815775:=0
noncomputable def tw8140620410462043046:=0
noncomputable def tw15892438041929642725:=0
noncomputable def tw11537559559025096154:=0
noncomputable def tw5766857343846339854:=0
noncomputable def tw18267899146032522108:=0
noncomputable def tw4195540158963626263:=0
noncomputable def tw13602727566138828618:=0
noncomputable def tw5727302200322191052:=0
noncomputable def tw14965104321013101368:=0
noncomputable def tw14565109466903168532:=0
noncomputable def tw18008060260916151522:=0
noncomputable def tw14245151720178706256:=0
noncomputable def tw8318815198635187059:=0
noncomputable def tw12383269843000800831:=0
noncomputable def tw7776499938143123303:=0
noncomputable def tw9209593841914861789:=0
noncomputable def tw6002123429079650387:=0
noncomputable def tw14884598812788257812:=0
noncomputable def tw15258022633734370445:=0
noncomputable def tw16814359770752876169:=0
noncomputable def tw16377589707150903658:=0
noncomputable def tw12038197417423615219:=0
noncomputable def tw9191194739155173288:=0
noncomputable def tw8803662808631786770:=0
noncomputable def tw11315361758612415969:=0
noncomputable def tw17569165707300958349:=0
noncomputable def tw14192826377376072752:=0
noncomputable def tw619094770462089576:=0
noncomputable def tw7451208931875294472:=0
noncomputable def tw7613262475093705369:=0
noncomputable def tw7916479300605380615:=0
noncomputable def tw7820467033625347543:=0
noncomputable def tw1006478171538225837:=0
noncomputable def tw13394922811564770605:=0
noncomputable def tw2433548943392758989:=0
noncomputable def tw10048275962181877802:=0
noncomputable def tw6940182116724700681:=0
noncomputable def tw7790498570682014258:=0
noncomputable def tw16382899404331204854:=0
noncomputable def tw9755984194027447519:=0
noncomputable def tw17088226954766800031:=0
noncomputable def tw14981636106693653769:=0
noncomputable def tw12432091837369266419:=0
noncomputable def tw11607552060476526490:=0
noncomputable def tw11649508487411132034:=0
noncomputable def tw2225560813191222390:=0
noncomputable def tw12389855924079192875:=0
noncomputable def tw5037559929762950641:=0
noncomputable def tw11140451052192417929:=0
noncomputable def tw16971280667578636385:=0
noncomputable def tw14285493862562631694:=0
noncomputable def tw10107828056911829255:=0
noncomputable def tw6195105178583472439:=0
noncomputable def tw5455357042391670582:=0
noncomputable def tw8101801854529234671:=0
noncomputable def tw4043761555628109039:=0
noncomputable def tw9932271239456946000:=0
noncomputable def tw7187910788428841509:=0
noncomputable def tw1358544455693641164:=0
noncomputable def tw11850687714093050464:=0
noncomputable def tw3881176121304893098:=0
noncomputable def tw18048086023314790223:=0
noncomputable def tw5039160214246284152:=0
noncomputable def tw4516458928253839641:=0
noncomputable def tw3374249506439108614:=0
noncomputable def tw2566341704236245236:=0
noncomputable def tw17970337203150626774:=0
noncomputable def tw16174461544738851106:=0
noncomputable def tw11350161811414164903:=0
noncomputable def tw10495517659028618073:=0
noncomputable def tw9306943742675859100:=0
noncomputable def tw11388558305135371156:=0
noncomputable def tw15775946740419528863:=0
noncomputable def tw10477496966722734707:=0
noncomputable def tw9310858072914914549:=0
noncomputable def tw6678370703328758310:=0
noncomputable def tw472763149130795064:=0
noncomputable def tw7301318814408276810:=0
noncomputable def tw15735781754278161984:=0
noncomputable def tw8083758741051221480:=0
noncomputable def tw15961088835077890273:=0
noncomputable def tw12933590072167643444:=0
noncomputable def tw9255884063407544202:=0
noncomputable def tw5452976327987643251:=0
noncomputable def tw5355120571117099180:=0
noncomputable def tw3653914800000581708:=0
noncomputable def tw3611075187388435161:=0
noncomputable def tw2804961550385285116:=0
noncomputable def tw1897797735726370762:=0
noncomputable def tw13638885822416489832:=0
noncomputable def tw12228394498086866563:=0
noncomputable def tw11347739117293280582:=0
noncomputable def tw18028512266875941406:=0
noncomputable def tw902406661383559036:=0
noncomputable def tw9866630776346788941:=0
noncomputable def tw9353020029911506815:=0
noncomputable def tw8999807324447979335:=0
noncomputable def tw6344540168450684678:=0
noncomputable def tw5680152313459466137:=0
noncomputable def tw3503346678619732934:=0
noncomputable def tw3001674512341451225:=0
noncomputable def tw15492791256152364794:=0
noncomputable def tw14196625836865347280:=0
noncomputable def tw10172680720547775783:=0
noncomputable def tw8552475026535253370:=0
noncomputable def tw5804325545161032835:=0
noncomputable def tw1752451074677280889:=0
noncomputable def tw14560701106915275474:=0
noncomputable def tw13970796180727281018:=0
noncomputable def tw12848798820827063039:=0
noncomputable def tw12396361947548200673:=0
noncomputable def tw11288644945388847638:=0
noncomputable def tw10306258209223673427:=0
noncomputable def tw5090150793749215690:=0
noncomputable def tw8768561446535000731:=0
noncomputable def tw16656859730088183001:=0
noncomputable def tw16030649415993147367:=0
noncomputable def tw15129776988286652674:=0
noncomputable def tw14963216259424337528:=0
noncomputable def tw12385919884882574343:=0
noncomputable def tw10046304382287964791:=0
noncomputable def tw6656456279749070770:=0
noncomputable def tw5563505002275103404:=0
noncomputable def tw3489712347486072311:=0
noncomputable def tw15043050717338396237:=0
noncomputable def tw13500724205296870391:=0
noncomputable def tw13481568282771413070:=0
noncomputable def tw12523336433282136884:=0
noncomputable def tw124456996458427450:=0
noncomputable def tw11219594937320171205:=0
noncomputable def tw9806474950313608314:=0
noncomputable def tw943855251442875719:=0
noncomputable def tw9386629254958369282:=0
noncomputable def tw9128817236258812395:=0
noncomputable def tw9109830882196213084:=0
noncomputable def tw9042214762859451871:=0
noncomputable def tw8814866651070738915:=0
noncomputable def tw8697347816667138165:=0
noncomputable def tw8509002685427098673:=0
noncomputable def tw8508332513837474697:=0
noncomputable def tw8449208839309483778:=0
noncomputable def tw8427091692906259949:=0
noncomputable def tw832475736312829676:=0
noncomputable def tw8185171972797366165:=0
noncomputable def tw8049277976301060809:=0
noncomputable def tw7455583493091738628:=0
noncomputable def tw7210044843259995991:=0
noncomputable def tw6517466187135116692:=0
noncomputable def tw6490048926222527828:=0
noncomputable def tw6398651435381063370:=0
noncomputable def tw620155290989503323:=0
noncomputable def tw6165206377179135493:=0
noncomputable def tw5647863653704959220:=0
noncomputable def tw5611414286537029742:=0
noncomputable def tw5563245730159905549:=0
noncomputable def tw550954950452283760:=0
noncomputable def tw5383009143197711831:=0
noncomputable def tw531881365358216302:=0
noncomputable def tw5145511883391261849:=0
noncomputable def tw4957782848731290340:=0
noncomputable def tw4838652350709141825:=0
noncomputable def tw4827130834695709240:=0
noncomputable def tw4811600561683537351:=0
noncomputable def tw4586107701338709498:=0
noncomputable def tw4268663692782840810:=0
noncomputable def tw4266524019482030053:=0
noncomputable def tw4041965707515879619:=0
noncomputable def tw3741137013895569294:=0
noncomputable def tw3108632103481795635:=0
noncomputable def tw3108597803804107389:=0
noncomputable def tw2914744472599836411:=0
noncomputable def tw2852257880548452336:=0
noncomputable def tw2678308563199589203:=0
noncomputable def tw2674244757779440612:=0
noncomputable def tw2641214769043666835:=0
noncomputable def tw2414677687626563417:=0
noncomputable def tw2241200105162266744:=0
noncomputable def tw2199083567007482353:=0
noncomputable def tw2141910430116505194:=0
noncomputable def tw2108704850942200483:=0
noncomputable def tw2052412120478336137:=0
noncomputable def tw18437800842162169780:=0
noncomputable def tw18430652388739517378:=0
noncomputable def tw18370783615134450822:=0
noncomputable def tw18353162890176415094:=0
noncomputable def tw1833549669527500054:=0
noncomputable def tw18103479651287773273:=0
noncomputable def tw17557339986496257802:=0
noncomputable def tw170718950002665328:=0
noncomputable def tw16950462091370335045:=0
noncomputable def tw16475099236309206827:=0
noncomputable def tw16182953316415211923:=0
noncomputable def tw16011810173203027364:=0
noncomputable def tw15954332933309928218:=0
noncomputable def tw15947461177356962301:=0
noncomputable def tw15867847306114877126:=0
noncomputable def tw15853613570366334315:=0
noncomputable def tw15809592353225669044:=0
noncomputable def tw15776274725365326839:=0
noncomputable def tw15488524453572470380:=0
noncomputable def tw15262286603393554015:=0
noncomputable def tw14823811136957036078:=0
noncomputable def tw14724332071278236630:=0
noncomputable def tw14623974752905685853:=0
noncomputable def tw14549269794173200017:=0
noncomputable def tw14424655754238903686:=0
noncomputable def tw14330564940938892997:=0
noncomputable def tw14296949379087438489:=0
noncomputable def tw1416305857628953771:=0
noncomputable def tw14147543548145563889:=0
noncomputable def tw1409542094705734652:=0
noncomputable def tw13386203070230229925:=0
noncomputable def tw13309255960226108836:=0
noncomputable def tw13112726128391861725:=0
noncomputable def tw13022217736122857560:=0
noncomputable def tw12947172311997045303:=0
noncomputable def tw12845099758142957906:=0
noncomputable def tw12643991107406986128:=0
noncomputable def tw12486706567392904117:=0
noncomputable def tw12241135018437851764:=0
noncomputable def tw12222862385868128970:=0
noncomputable def tw11877954905337852006:=0
noncomputable def tw11792021932085951188:=0
noncomputable def tw11727952177675865236:=0
noncomputable def tw11592683537139658670:=0
noncomputable def tw11565034022804971457:=0
noncomputable def tw11454108950563043199:=0
noncomputable def tw11446815883702105839:=0
noncomputable def tw11426630253660425710:=0
noncomputable def tw11317715309377648082:=0
noncomputable def tw11304143412705779318:=0
noncomputable def tw1120507452077807082:=0
noncomputable def tw11158923019189489761:=0
noncomputable def tw1102147438373166340:=0
noncomputable def tw10981981889997391702:=0
noncomputable def tw10776123999506527370:=0
noncomputable def tw10628631105799981024:=0
noncomputable def tw10550389316014018329:=0
noncomputable def tw10431065137436855323:=0
noncomputable def tw10197819816063165152:=0
noncomputable def tw10154093274843135990:=0
end PySem.W.Fast
open PySem PySem.W PyProof.Rows
set_option maxRecDepth 100000 in
set_option maxHeartbeats 0 in
theorem PySem.Challenge.cw_floorfits_k88_whole_albums_holds : PySem.Challenge.rw_floorfits_k88_whole_albums.Holds := by
 w_on;o_law;k_head;(case hw=>w_witness2)
 k_fill
 refine M88.walk (l:=PySem.Challenge.rw_floorfits_k88_whole_albums) (cdA0:=367) (Pt0:=363) rfl rfl (fun w h Y=>PySem.W.km_in_of Y) (fun w=>by kernel_rfl) (fun w mg mb mean h X T=>List.forall_mem_cons.mpr ⟨PySem.W.tab_of (x:=PySem.Str.ofString "_law_did") (c:=367) (P:=363) T X rfl (by kernel_rfl),fun _ h=>nomatch h⟩) ?F
 case F =>
  intro w mg fa h KX G hmg;refine' M88.all_mk KX G hmg ?nyAlbum ?pgAlbum ?hdAlbum ?poAlbum ?saAlbum ?mkAlbum ?kpAlbum ?naAlbumtiles ?naAlbumnamed ?naAlbumdone ?naAlbumundone ?a31 ?l31 ?c31 ?k31 ?a33 ?l33 ?c33 ?k33 ?zz ?gl1 ?gl2 ?gl3 ?gl4 ?n0 ?n1 ?n2 ?n3 ?n4 ?n5 ?n6 ?n7 ?lk4 ?mr4 ?ga4 ?gt4 ?cc4 ?lk7 ?mr7 ?ga7 ?gt7 ?cc7 ?nd ?_ ?_ ?_ ?_ ?_ ?_ ?_ ?_ ?_ ?_ ?_ ?_ ?_ ?_ ?_ ?_ ?_ ?_ ?_ ?_ ?_ ?_ ?_ ?_ ?_ ?_ ?_ ?_ ?_ ?_ ?_ ?_ ?_
  case nyAlbum | pgAlbum | hdAlbum | poAlbum | saAlbum | mkAlbum | kpAlbum | naAlbumtiles | naAlbumnamed | naAlbumdone | naAlbumundone | a31 | l31 | c31 | k31 | a33 | l33 | c33 | k33 =>
   k_is
  case zz =>
   repeat refine S2.zav (by k_is) ?_
   exact S2.zer
  case gl1 | gl2 | gl3 | gl4 =>
   k_is
  case n0 | n1 | n2 | n3 | n4 | n5 | n6 | n7 =>
   constructor;(k_is);(k_exc)
  case lk4 =>
   k_is
  case mr4 =>
   with_unfolding_all rfl
  case ga4 | gt4 | cc4 | lk7 =>
   k_is
  case mr7 =>
   with_unfolding_all rfl
  case ga7 | gt7 | cc7 =>
   k_is
  case nd =>
   decide
  all_goals ((first | refine' M88.gm ?a ?l ?c ?k ?i | refine' M88.mm ?a ?l ?c ?k ?i);(case a=>k_is);(case l=>k_is);(case c=>k_is);(case k=>k_is);(case i=>k_is))
#print axioms PySem.Challenge.cw_floorfits_k88_whole_albums_holds
end
