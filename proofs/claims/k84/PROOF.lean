import PyProof.Rows.All
import Wide.All
import OpenK.AllK
import Wide.FinOn
import Lean
import PyProof.EqAt
import PyProof.EqKinds
import PyProof.TupleCall
import PySem.SetTable
import PyProof.TupleKey
import Wide.Seal
import PyProof.DictRoadsH
import PyProof.Rows.TupTab
import PyProof.Draws
import PyProof.EnumMake
import OpenK.KRaise
import OpenK.KOwn
import PyProof.Rows.TopTwo
import PyProof.RulesAs
import PyProof.RulesDel
import PyProof.ExcArgsOwn
import PyProof.ExcAttrAll.ValueError
import PyProof.Rows.CountFlat
import PyProof.SumWalk
import PyProof.Rows.SeqCalls
import PyProof.ZipIter
import KE.KRevIter
import PyProof.CollectIter
import PyProof.TupleOfGen
import PyProof.ListRange
import PyProof.WalkInts
import PyProof.AttrMissHeap
import KE.KDictOf
import PyProof.Rows.TupDisplay
import KE.KSortTup
import PySem.Challenge.RW_floorfits_k84_whole_exchanged
set_option Elab.async false
set_option linter.all false
set_option maxRecDepth 100000
set_option maxHeartbeats 4000000
abbrev Z1:=Nat->Nat->Option Int
abbrev Z2:=List (List Int)
abbrev Z3:=List (PySem.Addr×PySem.Obj)
abbrev Z4:=List (Option Int)
abbrev Z5:=PySem.Value->PySem.Shared->Prop
abbrev Z6:=PySem.Str->Option PySem.Value
def yaa:=@PySem.wpAny_bind
def yab:=@Bool.and_eq_true
def yac:=@PySem.wpAny_pure
def yad:=@List.getElem?_eq_getElem
def yae:=@PySem.Heap.get?_push_of_some
def yaf:=@Nat.le_refl
def yag:=@List.length_cons
def yah:=@Nat.lt_of_lt_of_le
def yai:=@List.size_toArray
def yaj:=@PySem.Heap.lt_size
def yak:=@List.length_map
def yal:=@Nat.le_trans
def yam:=@List.mem_cons
def yan:=@Nat.ne_of_lt
def yao:=@PySem.Heap.get?_push_size
def yap:=@of_decide_eq_true
def yaq:=@List.getElem?_eq_some_iff
def yar:=@List.length_append
def yas:=@List.mem_cons_of_mem
def yat:=@List.getElem?_append_right
def yau:=@List.lookup_cons
def yav:=@Array.length_toList
def yaw:=@List.getD_eq_getElem?_getD
def yax:=@List.getElem?_map
def yay:=@List.map_cons
def yaz:=@List.getElem?_set_self
def yaA:=@List.mem_cons_self
def yaB:=@List.length_set
def yaC:=@PySem.mem_of_lookup
def yaD:=@List.mem_append_right
def yaE:=@List.mem_map
def yaF:=@Bool.false_eq_true
def yaG:=@List.length_take
def yaH:=@List.getElem?_append_left
def yaI:=@Option.some_ne_none
def yaJ:=@List.getElem?_set_ne
def yaK:=@List.length_replicate
def yaL:=@List.mem_singleton
def yaM:=@decide_eq_false
def yaN:=@List.append_nil
def yaO:=@PyProof.Rows.slot_tuple_getitem
def yaP:=@beq_eq_false_iff_ne
def yaQ:=@Nat.lt_irrefl
def yaR:=@Nat.zero_le
def yaS:=@decide_eq_true
def yaT:=@PySem.wpAny_holding
def yaU:=@PySem.wpAny_newObj_type
def yaV:=@decide_eq_true_eq
def yaW:=@Bool.false_ne_true
def yaX:=@PySem.W.mg_none_of
def yaY:=@PySem.W.kia_one
def yaZ:=@PySem.wpAny_call_entry
def ya0:=@List.not_mem_nil
def ya1:=@PySem.wpAny_truthy_bool
def ya2:=@Int.toNat_natCast
def ya3:=@List.getElem?_eq_none
def ya4:=@List.mem_of_getElem?
def ya5:=@List.replicate_succ
def ya6:=@Nat.lt_succ_of_lt
def ya7:=@Array.getElem?_eq_getElem
def ya8:=@List.mem_append
def ya9:=@Array.getElem?_toList
def yba:=@List.getElem?_drop
def ybb:=@List.all_cons
def ybc:=@Nat.ne_of_gt
def ybd:=@PyProof.Rows.F.plain_set_update_loop
def ybe:=@PySem.wpAny_mono
def ybf:=@List.filterMap_cons
def ybg:=@Nat.le_succ
def ybh:=@List.getElem_mem
def ybi:=@beq_self_eq_true
def ybj:=@List.length_filter_le
def ybk:=@PySem.Obj.data_mapFields
def ybl:=@Nat.mul_le_mul
def ybm:=@if_false
def ybn:=@PySem.Around.under_plainId
def ybo:=@List.flatten_cons
def ybp:=@List.find?_cons
def ybq:=@List.ext_getElem?
def ybr:=@Bool.not_eq_true'
def ybs:=@List.getElem?_replicate
def ybt:=@PySem.wpAny_callSpecial?_slot
def ybu:=@decide_eq_false_iff_not
def ybv:=@List.filter_cons
def ybw:=@List.eq_nil_of_length_eq_zero
def ybx:=@List.isEmpty_iff
def yby:=@PySem.Heap.size_push
def ybz:=@Array.getElem?_eq_none
def ybA:=@List.mem_filterMap
def ybB:=@PySem.Calls.spliced_cons
def ybC:=@PySem.wpAny_Call_Name_kw
def ybD:=@PyProof.Rows.callWith_type1
def ybE:=@List.nodup_cons
def ybF:=@PySem.F.slot_int_rmul
def ybG:=@PySem.F.slot_dict_get
def ybH:=@Nat.min_eq_left
def ybI:=@PySem.codeAny_builtin
def ybJ:=@List.range_succ
def ybK:=@PySem.F.called_set
def ybL:=@PySem.F.excBase_ValueError
def ybM:=@if_true
def ybN:=@PySem.Calls.evalArgs_plain
def ybO:=@List.mem_range
def ybP:=@PySem.wpAny_binaryOp_repeat_ref
def ybQ:=@PyProof.Rows.F.entry_set_update_loop
def ybR:=@List.length_drop
def ybS:=@List.all_eq_true
def ybT:=@PySem.sizeLine_eq
def ybU:=@Option.isSome_iff_exists
def ybV:=@PySem.F.args_tuple_add_2
def ybW:=@PySem.wpAny_typeOf
def ybX:=@PySem.F.slot_list_getattribute
def ybY:=@PySem.wpAny_passesOwn
def ybZ:=@PySem.F.entry_tuple_add
def yb0:=@List.pairwise_cons
def yb1:=@PySem.wpAny_ite_split
def yb2:=@Bool.or_eq_true
def yb3:=@Int.eq_ofNat_of_zero_le
def yb4:=@PySem.F.slot_tuple_add
def yb5:=@PyProof.Rows.subscriptTail_builtinR
def yb6:=@PySem.Calls.callWith_builtin
def yb7:=@List.take_of_length_le
def yb8:=@PySem.wpAny_pyIter_list
def yb9:=@beq_iff_eq
def yca:=@PySem.call_meets
def ycb:=@List.pairwise_map
def ycc:=@PySem.codeAny_mono
def ycd:=@PySem.Heap.get?_update_self
def yce:=@PySem.builtinLookup_eq_fast
def ycf:=@Nat.lt_succ_self
def ycg:=@PySem.F.slot_tuple_mul
def ych:=@PySem.wpAny_isInstance
def yci:=@List.mem_iff_getElem
def ycj:=@Bool.not_true
def yck:=@or_false
def ycl:=@PySem.typeIs_int
def ycm:=@List.mem_filter
def ycn:=@PySem.W.plainGet_of
def yco:=@List.foldl_cons
def ycp:=@Bool.eq_iff_iff
def ycq:=@Option.map_some
def ycr:=@List.map_append
def ycs:=@PySem.wpAny_of_eq
def yct:=@PyProof.Rows.assignInOrder_cons
def ycu:=@List.getElem?_take
def ycv:=@PySem.wpAny_tupleItemsOf
def ycw:=@Array.forIn_toList
def ycx:=@Nat.lt_trans
def ycy:=@PySem.W.callWith_K
def ycz:=@Nat.sub_self
def ycA:=@Int.emod_lt_of_pos
def ycB:=@PySem.Value.isInt_shape
def ycC:=@PySem.wpAny_rule
def ycD:=@PySem.Calls.spliced_nil
def ycE:=@List.append_assoc
def ycF:=@PySem.F.args_int_rmul_2
def ycG:=@Nat.le_of_succ_le
def ycH:=@List.filter_congr
def ycI:=@PySem.wpAny_standAt
def ycJ:=@List.any_cons
def ycK:=@PySem.plainId_quiet
def ycL:=@PySem.W.mg_of
def S2.bdI{c k:Nat}(h:c<=k)(hk:k<=1000000):-1000000<=(c:Int)/\(c:Int)<=1000000:=⟨Int.le_trans (by decide) (Int.natCast_nonneg c),Int.ofNat_le.mpr (yal h hk)⟩
def S2.bdN{c k:Nat}(h:c<=k)(hk:k<=1000000):0<=(c:Int)/\(c:Int)<=1000000:=⟨Int.natCast_nonneg c,Int.ofNat_le.mpr (yal h hk)⟩
local macro_rules | `(tactic| omega) => `(tactic| first | assumption | exact yal (by assumption) (by decide) | exact yah (by assumption) (by assumption) | exact yah (by assumption) (by decide) | exact Nat.le_of_lt (by assumption) | exact S2.bdI (by assumption) (by decide) | exact yal (by assumption) (by assumption) | omega +splitDisjunctions)
namespace L2
open PySem PySem.Spec PyProof.Rows
noncomputable abbrev Key:=Sum Int Str
noncomputable def zgU:Key->Value->Bool
 | .inl k,v=>Value.isInt k v
 | .inr x,v=>Value.isStrOf x v
noncomputable def zvl(w:World):Key->Int
 | .inl k=>hashInt k
 | .inr x=>hashStr w x
theorem zau:∀{k:Key} {v:Value},zgU k v=true->(∃i t,k=Sum.inl i/\v=Value.int i t)\/(∃x t,k=Sum.inr x/\v=Value.str x t)
 | .inl i,v,h=>by
  obtain ⟨t,e⟩:=ycB (k:=i) (v:=v) h;exact .inl ⟨i,t,rfl,e⟩
 | .inr x,v,h=>by
  obtain ⟨t,e⟩:=Value.isStrOf_shape (x:=x) (v:=v) h;exact .inr ⟨x,t,rfl,e⟩
def zit(i:Int)(t:Tok):zgU (.inl i) (.int i t)=true:=by simp [zgU,Value.isInt]
def zis(x:Str)(t:Tok):zgU (.inr x) (.str x t)=true:=by simp [zgU,Value.isStrOf]
def zpw(a b:Int):decide ((Sum.inl a:Key)=Sum.inl b)=(a == b):=by
 by_cases e:a=b
 ·subst e;simp
 ·have h:¬ (Sum.inl a:Key)=Sum.inl b:=fun q=>e (Sum.inl.inj q)
  rw [yaM h];exact (yaP.mpr e).symm
def zpt(a b:Str):decide ((Sum.inr a:Key)=Sum.inr b)=decide (a=b):=by
 by_cases e:a=b
 ·subst e;simp
 ·have h:¬ (Sum.inr a:Key)=Sum.inr b:=fun q=>e (Sum.inr.inj q)
  rw [yaM h,yaM e]
def zpv(a:Int)(b:Str):decide ((Sum.inl a:Key)=Sum.inr b)=false:=yaM (fun q=>nomatch q)
def zpu(a:Str)(b:Int):decide ((Sum.inr a:Key)=Sum.inl b)=false:=yaM (fun q=>nomatch q)
noncomputable def zaX(prog:Program)(w:World):PySem.KeyKind prog w Key where
 is:=zgU
 hash:=zvl w
 inj:=fun v a b ha hb=>by
  rcases zau ha with ⟨i,t,rfl,rfl⟩ | ⟨x,t,rfl,rfl⟩
  ·rcases zau hb with ⟨j,u,rfl,e⟩ | ⟨y,u,rfl,e⟩
   ·injection e with e1 _;rw [e1]
   ·exact nomatch e
  ·rcases zau hb with ⟨j,u,rfl,e⟩ | ⟨y,u,rfl,e⟩
   ·exact nomatch e
   ·injection e with e1 _;rw [e1]
 byValue:=fun k v h=>by
  rcases zau h with ⟨i,t,rfl,rfl⟩ | ⟨x,t,rfl,rfl⟩<;>rfl
 pyHash:=fun hv h=>by
  rcases zau hv with ⟨i,t,rfl,rfl⟩ | ⟨x,t,rfl,rfl⟩
  ·exact wpAny_pyHash_int h
  ·exact wpAny_pyHash_str h
 eqBool:=fun hu hv h=>by
  rcases zau hu with ⟨i,t,rfl,rfl⟩ | ⟨x,t,rfl,rfl⟩
  ·rcases zau hv with ⟨j,u,rfl,rfl⟩ | ⟨y,u,rfl,rfl⟩
   ·rw [zpw] at h;exact wpAny_eqBool_int h
   ·rw [zpv] at h;exact SeqAt.EqAt.int_str i t y u _ _ _ _ h
  ·rcases zau hv with ⟨j,u,rfl,rfl⟩ | ⟨y,u,rfl,rfl⟩
   ·rw [zpu] at h;exact SeqAt.EqAt.str_int x t j u _ _ _ _ h
   ·rw [zpt] at h;exact wpAny_eqBool_str h
 «strs»:=fun k x t v h=>by
  rcases zau h with ⟨i,u,rfl,e⟩ | ⟨y,u,rfl,e⟩
  ·exact nomatch e
  ·injection e with e1 _
   subst e1
   cases v<;>rfl
def zfK(prog:Program)(w:World)(i:Int)(t:Tok):(zaX prog w).is (.inl i) (.int i t)=true:=zit i t
def zfJ(prog:Program)(w:World)(x:Str)(t:Tok):(zaX prog w).is (.inr x) (.str x t)=true:=zis x t
end L2
namespace L2
open PySem PySem.Spec PyProof.Rows
inductive V where
 | non | bl (b:Bool) | int (i:Int) | str (x:Str) | byt (b:Array UInt8) | flt (b:UInt64) | ref (a:Addr) | ty (n:String)
 deriving DecidableEq
noncomputable def zav:V->Value->Prop
 | .non,u=>u=Value.none
 | .bl b,u=>u=Value.bool b
 | .int i,u=>∃t,u=Value.int i t
 | .str x,u=>∃t,u=Value.str x t
 | .byt b,u=>∃t,u=Value.bytes b t
 | .flt b,u=>∃t,u=Value.float b t
 | .ref a,u=>u=Value.ref a
 | .ty n,u=>u=Value.type n
noncomputable abbrev Vals:List V->List Value->Prop:=Paired zav
theorem Vals.length{xs:List V}{us:List Value}(r:Vals xs us):xs.length=us.length:=Paired.length r
theorem Vals.get:∀{xs:List V} {us:List Value} {i:Nat} {x:V},Vals xs us->xs[i]?=some x->∃u,us[i]?=some u/\zav x u
 | _,_,_,_,.nil,e=>by simp at e
 | _,_,0,_,.cons r _,e=>by simp at e;subst e;exact ⟨_,rfl,r⟩
 | _,_,i+1,x,.cons _ t,e=>by
  obtain ⟨u,h1,h2⟩:=Vals.get (i:=i) (x:=x) t (by simpa using e);exact ⟨u,by simpa using h1,h2⟩
theorem Vals.append:∀{xs ys:List V} {us ws:List Value},Vals xs us->Vals ys ws->Vals (xs++ys) (us++ws)
 | _,_,_,_,.nil,s=>s
 | _,_,_,_,.cons r t,s=>.cons r (Vals.append t s)
theorem Vals.take:∀{xs:List V} {us:List Value} (n:Nat),Vals xs us->Vals (xs.take n) (us.take n)
 | _,_,0,_=>.nil
 | _,_,_+1,.nil=>.nil
 | _,_,n+1,.cons r t=>.cons r (Vals.take n t)
theorem Vals.drop:∀{xs:List V} {us:List Value} (n:Nat),Vals xs us->Vals (xs.drop n) (us.drop n)
 | _,_,0,r=>r
 | _,_,_+1,.nil=>.nil
 | _,_,n+1,.cons _ t=>Vals.drop n t
noncomputable def zfw:Option V->Option Value->Prop
 | some v,some u=>zav v u
 | none,none=>True
 | _,_=>False
noncomputable def KV{κ:Type}:List (κ×V)->List (κ×Value)->Prop:=Paired fun (p:κ×V) (q:κ×Value)=>p.1=q.1/\zav p.2 q.2
noncomputable def kV:Key->V
 | .inl i=>.int i
 | .inr x=>.str x
inductive HO where
 | lst (xs:List V)
 | tup (xs:List V)
 | dK (kvs:List (Key×V)) | dT (kvs:List (List Key×V))
 | set (S:Int->Bool) (n:Nat)
 | ins (C dx:Addr) (fs:List (Str×V))
 | own (x:Addr)
 | xd (fs:List (Str×V))
 | met (f x:Addr)
 | rng (lo hi:Int)
 | frz (o:Obj) (u:HO)
 | tbl (ps:Array Value)
 | ext (φ:Heap->Prop)
noncomputable abbrev Hp:=Addr->Option HO
noncomputable def upd(H:Hp)(a:Addr)(o:HO):Hp:=fun b=>if b=a then some o else H b
def zak{H:Hp}{a:Addr}{o:HO}:upd H a o a=some o:=by unfold upd;rw [if_pos rfl]
def zaf{H:Hp}{a b:Addr}{o:HO}(h:b≠a):upd H a o b=H b:=by unfold upd;rw [if_neg h]
def zpl{H:Hp}{a b:Addr}{o u:HO}(h:H a=some o)(h':H b=some u)(d:o≠u):a≠b:=by
 intro e;subst e;rw [h] at h';exact d (Option.some.inj h')
def zag{H:Hp}{a b:Addr}{o:HO}(h:H a=some o)(h':H b=none):a≠b:=by
 intro e;subst e;rw [h] at h';cases h'
section
variable(P:Program)(w:World)
noncomputable def zaQ(H:Hp)(h:Heap)(a:Addr):HO->Prop
 | .lst xs=>xs.length<=sizeLine/\∃(its:List Value) (n:Nat),Vals xs its/\h.get? a=some { cls:=.type "list",data:=.seq its.toArray n }
 | .tup xs=>xs.length<=sizeLine/\∃its:List Value,Vals xs its/\IsTup h a its.toArray
 | .dK kvs=>kvs.length<=sizeLine/\(a == sysModules)=false/\∃vs,KV kvs vs/\h.DictOf (zaX P w) a vs
 | .dT kvs=>kvs.length<=sizeLine/\(a == sysModules)=false/\∃xs:List (List Key×Addr×Value),
   Paired (fun (p:List Key×V) (q:List Key×Addr×Value)=>p.1=q.1/\H q.2.1=some (.tup (p.1.map kV))/\zav p.2 q.2.2) kvs xs ∧
   ∃o es ep,h.get? a=some o/\o.ExactDict/\o.data=.dict es ep/\es.toList=xs.map (entryOfKey (tupleKind (zaX P w)))/\(xs.map (·.1)).Nodup
 | .set S n=>h.SetOf (intKind P w) a S n
 | .ins C dx fs=>H dx=some (.own a)/\fs.length<=1000/\dx≠a/\h.get? a=some (PySem.W.instObj C dx) ∧
   ∃mA,h.Ns1 dx mA/\(∀f,zfw (fs.lookup f) (mA f))/\PySem.Within mA (fs.map (·.1))
 | .own _=>∃o,h.get? a=some o
 | .xd fs=>∃mA,h.Ns1 a mA/\∀f,zfw (fs.lookup f) (mA f)
 | .rng lo hi=>∃t u v,h.get? a=some { cls:=.type "range",data:=.fields #[.int lo t,.int hi u,.int 1 v] }
 | .frz o u=>h.get? a=some o/\zaQ H h a u
 | .tbl ps=>h.get? a=some { cls:=.none,data:=.fields ps }
 | .met f x=>h.get? a=some (PySem.W.methodObj (.ref f) (.ref x))
 | .ext φ=>φ h/\(∃o,h.get? a=some o)/\∀h1 h2:Heap,φ h1->(∀o,h1.get? a=some o->h2.get? a=some o)->φ h2
noncomputable def HOk(H:Hp)(h:Heap):Prop:=∀a o,H a=some o->zaQ P w H h a o
end
section
variable{P:Program}{w:World}{H H':Hp}{h h':Heap}{a:Addr}{o:HO}
theorem zaQ.lt(x:zaQ P w H h a o):a<h.objs.size:=by
 cases o with
 | lst xs=>obtain ⟨_,_,_,_,e⟩:=x;exact yaj e
 | tup xs=>obtain ⟨_,_,_,p⟩:=x;exact p.lt
 | dK kvs=>obtain ⟨_,_,_,_,o,_,_,e,_⟩:=x;exact yaj e
 | dT kvs=>obtain ⟨_,_,_,_,o,_,_,e,_⟩:=x;exact yaj e
 | set S n=>obtain ⟨o,_,_,_,e,_⟩:=x;exact yaj e
 | ins C dx fs=>obtain ⟨_,_,_,e,_⟩:=x;exact yaj e
 | own y=>obtain ⟨_,e⟩:=x;exact yaj e
 | xd fs=>obtain ⟨_,⟨_,_,_,e,_⟩,_⟩:=x;exact yaj e
 | rng lo hi=>obtain ⟨_,_,_,e⟩:=x;exact yaj e
 | frz ob u=>obtain ⟨e,_⟩:=x;exact yaj e
 | tbl ps=>exact yaj (show h.get? a=some _ from x)
 | met f y=>exact yaj (show h.get? a=some _ from x)
 | ext φ=>obtain ⟨_,⟨_,e⟩,_⟩:=x;exact yaj e
theorem Paired.mapP{α β:Type}{F G:α->β->Prop}:∀{l₁:List α} {l₂:List β},Paired F l₁ l₂->(∀a b,F a b->G a b)->Paired G l₁ l₂
 | _,_,.nil,_=>.nil
 | _,_,.cons r t,f=>.cons (f _ _ r) (Paired.mapP t f)
def zaQ.stay(x:zaQ P w H h a o)(k:∀b u,(b=a\/H b=some (.own a))->h.get? b=some u->h'.get? b=some u)
  (ho:∀b,H b=some (.own a)->H' b=some (.own a)) (ht:∀b xs,H b=some (.tup xs)->H' b=some (.tup xs)):zaQ P w H' h' a o:=by
 induction o with
 | lst xs=>obtain ⟨z,its,n,r,e⟩:=x;exact ⟨z,its,n,r,k _ _ (.inl rfl) e⟩
 | tup xs=>obtain ⟨z,its,r,ob,e,c⟩:=x;exact ⟨z,its,r,ob,k _ _ (.inl rfl) e,c⟩
 | dK kvs=>obtain ⟨z,y,vs,r,ob,es,ep,e,c⟩:=x;exact ⟨z,y,vs,r,ob,es,ep,k _ _ (.inl rfl) e,c⟩
 | dT kvs =>
  obtain ⟨z,y,xs,r,ob,es,ep,e,c⟩:=x;exact ⟨z,y,xs,Paired.mapP r fun p q z=>⟨z.1,ht _ _ z.2.1,z.2.2⟩,ob,es,ep,k _ _ (.inl rfl) e,c⟩
 | set S n=>obtain ⟨ob,es,ep,t,e,c⟩:=x;exact ⟨ob,es,ep,t,k _ _ (.inl rfl) e,c⟩
 | ins C dx fs =>
  obtain ⟨d,z,ne,e,mA,⟨od,es,ep,e2,c⟩,r⟩:=x;exact ⟨ho _ d,z,ne,k _ _ (.inl rfl) e,mA,⟨od,es,ep,k _ _ (.inr d) e2,c⟩,r⟩
 | own y=>obtain ⟨ob,e⟩:=x;exact ⟨ob,k _ _ (.inl rfl) e⟩
 | xd fs=>obtain ⟨mA,⟨od,es,ep,e,c⟩,r⟩:=x;exact ⟨mA,⟨od,es,ep,k _ _ (.inl rfl) e,c⟩,r⟩
 | rng lo hi=>obtain ⟨t,u,v,e⟩:=x;exact ⟨t,u,v,k _ _ (.inl rfl) e⟩
 | frz ob u ih=>obtain ⟨e,q⟩:=x;exact ⟨k _ _ (.inl rfl) e,ih q⟩
 | tbl ps =>
  have e:h.get? a=some { cls:=.none,data:=.fields ps }:=x;show h'.get? a=some { cls:=.none,data:=.fields ps };exact k a _ (.inl rfl) e
 | met f y =>
  have e:h.get? a=some (PySem.W.methodObj (.ref f) (.ref y)):=x;show h'.get? a=some (PySem.W.methodObj (.ref f) (.ref y));exact k a _ (.inl rfl) e
 | ext φ=>obtain ⟨p,⟨o,e⟩,st⟩:=x;exact ⟨st _ _ p fun o q=>k _ _ (.inl rfl) q,⟨o,k _ _ (.inl rfl) e⟩,st⟩
theorem HOk.lt(x:HOk P w H h)(e:H a=some o):a<h.objs.size:=(x a o e).lt
def HOk.fresh(x:HOk P w H h)(e:h.objs.size<=a):H a=none:=by
 cases q:H a with
 | none=>rfl
 | some u=>exact absurd (yah (x.lt q) e) (yaQ _)
def HOk.kept(x:HOk P w H h)(k:∀b u,h.get? b=some u->h'.get? b=some u):HOk P w H h':=fun a o e =>
 (x a o e).stay (fun b u _ q=>k b u q) (fun _ q=>q) fun _ _ q=>q
def HOk.laid(x:HOk P w H h)(k:∀b u,h.get? b=some u->h'.get? b=some u)(hp:h.objs.size<=a)(new:zaQ P w (upd H a o) h' a o):HOk P w (upd H a o) h':=fun b u e=>by
 have hn:=x.fresh hp
 by_cases hb:b=a
 ·subst hb;rw [zak] at e;cases e;exact new
 ·rw [zaf hb] at e
  exact (x b u e).stay (fun c v _ q=>k c v q) (fun c q=>by rw [zaf (zag q hn)];exact q) fun c xs q=>by rw [zaf (zag q hn)];exact q
end
noncomputable def Rd(H:Hp)(a:Addr)(u:HO):Prop:=H a=some u\/∃o,H a=some (.frz o u)
def Rd.ok{P:Program}{w:World}{H:Hp}{h:Heap}{a:Addr}{u:HO}(r:Rd H a u)(x:HOk P w H h):zaQ P w H h a u:=by
 rcases r with r | ⟨o,r⟩
 ·exact x a u r
 ·obtain ⟨_,q⟩:=x a _ r;exact q
noncomputable def Mut:Option HO->Prop
 | some (.lst _)=>True
 | some (.dK _)=>True
 | some (.dT _)=>True
 | some (.set _ _)=>True
 | some (.ins _ _ _)=>True
 | some (.ext _)=>True
 | _=>False
section
variable{P:Program}{w:World}{H:Hp}{h h':Heap}{x e:Addr}{o':HO}
def HOk.write(ok:HOk P w H h)(mu:Mut (H x))(he:e=x\/H e=some (.own x))(k:∀b u,b≠e->h.get? b=some u->h'.get? b=some u)(heo:∃u,h'.get? e=some u)
  (new:zaQ P w (upd H x o') h' x o'):HOk P w (upd H x o') h':=fun b u q=>by
 have nown:∀c y,H c=some (.own y)->c≠x:=fun c y r z=>by subst z;rwa [r] at mu
 have ntup:∀c xs,H c=some (.tup xs)->c≠x:=fun c xs r z=>by subst z;rwa [r] at mu
 by_cases hb:b=x
 ·subst hb;rw [zak] at q;cases q;exact new
 ·rw [zaf hb] at q
  by_cases hbe:b=e
  ·have q':H b=some (.own x):=by
    rcases he with z | z
    ·exact absurd (hbe.trans z) hb
    ·rw [hbe];exact z
   rw [q] at q';cases q';obtain ⟨v,hv⟩:=heo;exact ⟨v,by rw [hbe];exact hv⟩
  ·refine (ok b u q).stay (fun c v hc r=>k c v ?_ r) (fun c r=>by rw [zaf (nown c b r)];exact r) fun c xs r=>by rw [zaf (ntup c xs r)];exact r
   rcases hc with rfl | hc
   ·exact hbe
   ·rintro rfl
    rcases he with z | z
    ·exact nown c b hc z
    ·rw [hc] at z;cases z;exact hb rfl
end
structure Un(fs ex:List Addr)(H H':Hp)(h h':Heap):Prop where
 keep:∀b o,h.get? b=some o->H b=none->b ∉ fs->b ∉ ex->h'.get? b=some o
 slot:∀b o,h.get? b=some o->H b=none->b∈fs->b ∉ ex->∃sl,h'.get? b=some { o with slots:=sl }
 free:∀b o,h.get? b=some o->H b=none->b ∉ ex->H' b=none
 there:∀b o,h.get? b=some o->b ∉ ex->∃o',h'.get? b=some o'
 tups:∀b xs,H b=some (.tup xs)->H' b=some (.tup xs)
 frzs:∀b o u,H b=some (.frz o u)->H' b=some (.frz o u)
 tbls:∀b ps,H b=some (.tbl ps)->∃more,H' b=some (.tbl (ps++more))
section
variable{fs fs' ex ex':List Addr}{H H1 H2:Hp}{h h1 h2 h':Heap}{a x e:Addr}{o:HO}
def Un.any(u:Un fs ex H H1 h h1){b:Addr}{ob:Obj}(q:h.get? b=some ob)(n:H b=none)(hx:b ∉ ex):∃sl,h1.get? b=some { ob with slots:=sl }:=by
 by_cases hb:b∈fs
 ·exact u.slot b ob q n hb hx
 ·exact ⟨ob.slots,u.keep b ob q n hb hx⟩
def Un.kept(k:∀b u,h.get? b=some u->h'.get? b=some u):Un fs ex H H h h' :=
 ⟨fun b ob q _ _ _=>k b ob q,fun b ob q _ _ _=>⟨ob.slots,k b ob q⟩,fun _ _ _ n _=>n,fun b ob q _=>⟨ob,k b ob q⟩,fun _ _ q=>q,fun _ _ _ q=>q,fun _ ps q=>⟨#[],by rw [q];simp⟩⟩
def Un.refl:Un fs ex H H h h:=Un.kept fun _ _ q=>q
def Un.laid(k:∀b u,h.get? b=some u->h'.get? b=some u)(hp:h.objs.size<=a)(hn:H a=none):Un fs ex H (upd H a o) h h' where
 keep:=fun b u q _ _ _=>k b u q
 slot:=fun b u q _ _ _=>⟨u.slots,k b u q⟩
 free:=fun b u q n _=>by rw [zaf (yan (yah (yaj q) hp))];exact n
 there:=fun b u q _=>⟨u,k b u q⟩
 tups:=fun b xs q=>by rw [zaf (zag q hn)];exact q
 frzs:=fun b u xs q=>by rw [zaf (zag q hn)];exact q
 tbls:=fun b ps q=>⟨#[],by rw [zaf (zag q hn),q];simp⟩
def Un.write(mu:Mut (H x))(he:e=x\/H e=some (.own x))(k:∀b u,b≠e->h.get? b=some u->h'.get? b=some u)(heo:∃u,h'.get? e=some u):Un fs ex H (upd H x o) h h':=by
 have hx:∀b,H b=none->b≠x:=fun b n z=>by subst z;rwa [n] at mu
 have hb:∀b,H b=none->b≠e:=fun b n z=>by
  subst z
  rcases he with r | r
  ·exact hx b n r
  ·rw [n] at r;cases r
 have hm:∀b u,H b=some u->¬ Mut (some u)->b≠x:=fun b u q nm z=>by subst z;rw [q] at mu;exact nm mu
 refine ⟨fun b u q n _ _=>k b u (hb b n) q,fun b u q n _ _=>⟨u.slots,k b u (hb b n) q⟩,fun b u q n _=>by rw [zaf (hx b n)];exact n,fun b u q _=>?_,
  fun b xs q=>by rw [zaf (hm b _ q fun z=>z)];exact q,fun b u xs q=>by rw [zaf (hm b _ q fun z=>z)];exact q,fun b ps q=>⟨#[],by rw [zaf (hm b _ q fun z=>z),q];simp⟩⟩
 by_cases hbe:b=e
 ·subst hbe;exact heo
 ·exact ⟨u,k b u hbe q⟩
end
noncomputable def trk(h:Heap)(H:Hp):List Addr:=(List.range h.objs.size).filter fun a=>(H a).isSome
noncomputable def zkt(h:Heap)(H:Hp):Heap:=PySem.W.hideAll h (trk h H)
def ziL(h:Heap)(H:Hp):(zkt h H).objs.size=h.objs.size:=PySem.W.hideAll_size _ _
def zks{h:Heap}{H:Hp}{b:Addr}{o:Obj}(e:h.get? b=some o)(n:H b=none):(zkt h H).get? b=some o :=
 PySem.W.hideAll_get _ e fun hm=>by
  have q:(H b).isSome=true:=(ycm.mp hm).2;rw [n] at q;simp at q
def zmv{h:Heap}{H:Hp}{b:Addr}{o:Obj}(e:(zkt h H).get? b=some o):h.get? b=some o/\H b=none:=by
 have e':h.get? b=some o:=PySem.W.of_hideAll (trk h H) e;refine ⟨e',?_⟩
 cases q:H b with
 | none=>rfl
 | some x =>
  have hm:b∈trk h H:=ycm.mpr ⟨ybO.mpr (yaj e'),by simp [q]⟩;have z:(zkt h H).get? b=none:=PySem.W.hideAll_none (trk h H) hm;rw [z] at e;cases e
noncomputable def znr(g h:Heap)(L:Addr):List (Addr×Obj):=(List.range h.objs.size).filterMap fun a=>if a=L\/(g.get? a).isSome=true then none else (h.get? a).map fun o=>(a,o)
noncomputable def zbu(g h:Heap)(L d:Addr):List (Addr×Obj):=(znr g h L).filter fun p=>decide (p.1≠d)
end L2
namespace L2
open PySem PySem.Spec PyProof.Rows
structure Mod(K:PySem.W.Frag)(mg:Z6)(base:Heap):Prop where
 kin:K.In base
 glob:base.Ns mainGlobals mg
 blt:∃mb,base.Ns builtinsNs mb/\∀x:Str,x ≠ "__name__" -> mb x=bootBuiltins x
 nolimit:base.NoLimit
structure Cx where
 prog:Program
 w:World
 K:PySem.W.Frag
 mg:Str->Option Value
 base:Heap
 A:Around
 N:List Str
 s₀:Shared
 H₀:Hp
 env:Env
 outer:List Env
 stack:List Env
 ex:List Addr
 fn:Str->Bool
 calm:Bool
 pn:List (Addr×Obj)
 xe:Value->Shared->Prop
noncomputable def frs(l:List Env):List Addr:=l.filterMap (·.frame)
noncomputable abbrev Cx.fs(X:Cx):List Addr:=frs X.outer
noncomputable def Vis(sc:Scope)(x:Str):Prop:=sc.names.lookup x=some .local\/sc.names.lookup x=some .cell\/sc.names.lookup x=some .free
noncomputable def Loc(sc:Scope)(x:Str):Prop:=sc.names.lookup x=some .local\/sc.names.lookup x=some .cell
noncomputable def zv7(env:Env)(h:Heap)(m:Z6)(x:Str)(u:Value):Prop :=
 (env.kindOf x=some .local/\m x=some u)\/((env.kindOf x=some .cell\/env.kindOf x=some .free)/\∃c,env.cells.lookup x=some c/\h.IsCell c (some u))
structure Cx.Ok(X:Cx):Prop where
 mod:Mod X.K X.mg X.base
 kind:X.env.scope.kind=.function
 glob:X.env.globals=mainGlobals
 blt:X.env.builtins=builtinsNs
 above:X.s₀.heap.objs.size<=X.env.locals
 inj:∀x y c,X.env.cells.lookup x=some c->X.env.cells.lookup y=some c->x=y
 has:∀x,(X.env.kindOf x=some .cell\/X.env.kindOf x=some .free)->∃c,X.env.cells.lookup x=some c
 cab:∀x c,X.fn x=true->X.env.cells.lookup x=some c->X.s₀.heap.objs.size<=c
 hd:X.calm=true->X.A.handled=none
 frames:X.A.frames=some X.stack
 stk:X.stack=X.outer\/(X.stack=X.env::X.outer/\X.env.frame=some X.env.locals)
 exf:∀b∈X.ex,b≠X.env.locals/\∀x c,X.env.cells.lookup x=some c->c≠b
 bs:∀b o,X.base.get? b=some o->X.s₀.heap.get? b=some o/\X.H₀ b=none
 bsz:X.base.objs.size<=X.s₀.heap.objs.size
 noex:∀b o,X.base.get? b=some o->b ∉ X.ex
 exfs:∀b∈X.ex,b ∉ X.fs
 funs:X.s₀.heap.FunFrames X.base X.outer
 frf:∀b∈X.fs,X.H₀ b=none
structure Inv(X:Cx)(pins:Z3)(σ:List (Option V))(H:Hp)(s:Shared):Prop where
 ok:X.Ok
 os:s.os=X.s₀.os
 bare:AllBare s.gens
 base:Un X.fs X.ex X.H₀ H X.s₀.heap s.heap
 loc:∃m,s.heap.Ns X.env.locals m/\∀(i:Nat) (x:Str) (v:V),X.N[i]?=some x->σ[i]?=some (some v)->Vis X.env.scope x->∃u,zav v u/\zv7 X.env s.heap m x u
 cell:∀x c,X.env.cells.lookup x=some c->∃v,s.heap.IsCell c v
 free:H X.env.locals=none
 freeC:∀x c,X.env.cells.lookup x=some c->H c=none
 pin:∀p∈X.pn++pins,s.heap.get? p.1=some p.2/\H p.1=none/\p.1≠X.env.locals/\p.1 ∉ X.fs/\∀v,p.2.data≠.cell v
 hok:HOk X.prog X.w H s.heap
 len:σ.length=X.N.length
section
variable{X:Cx}{pins:Z3}{σ:List (Option V)}{H H':Hp}{s:Shared}{h':Heap}
def Cx.Ok.nofr(ok:X.Ok){b:Addr}{o:Obj}(e:X.base.get? b=some o):b ∉ X.fs:=fun hb=>by
 have:=(ok.funs.mem hb).1;rw [e] at this;cases this
theorem Inv.bs(I:Inv X pins σ H s):∀b o,X.base.get? b=some o->s.heap.get? b=some o/\H b=none:=fun b o e =>
 ⟨I.base.keep b o (I.ok.bs b o e).1 (I.ok.bs b o e).2 (I.ok.nofr e) (I.ok.noex b o e),I.base.free b o (I.ok.bs b o e).1 (I.ok.bs b o e).2 (I.ok.noex b o e)⟩
def Inv.bk(I:Inv X pins σ H s):∀b o,X.base.get? b=some o->s.heap.get? b=some o:=fun b o e=>(I.bs b o e).1
theorem Inv.mod(I:Inv X pins σ H s):Mod X.K X.mg X.base:=I.ok.mod
def Inv.kIn(I:Inv X pins σ H s):X.K.In s.heap:=I.ok.mod.kin.keeps I.bk
theorem Inv.lt(I:Inv X pins σ H s):X.env.locals<s.heap.objs.size:=let ⟨_,hn,_⟩:=I.loc;hn.lt
def Inv.sz(I:Inv X pins σ H s):X.s₀.heap.objs.size<=s.heap.objs.size:=yal I.ok.above (Nat.le_of_lt I.lt)
def Inv.nofs(I:Inv X pins σ H s){a:Addr}(h:s.heap.objs.size<=a):a ∉ X.fs:=fun hb=>by
 obtain ⟨_,o,ho,_⟩:=I.ok.funs.mem hb;exact absurd (yah (yaj ho) (yal I.sz h)) (yaQ _)
def Inv.cne(I:Inv X pins σ H s):∀x c,X.env.cells.lookup x=some c->c≠X.env.locals:=fun x c e z=>by
 obtain ⟨v,o,ho,hd⟩:=I.cell x c e;obtain ⟨m,⟨o',es,ep,ho',hd',_⟩,_⟩:=I.loc;rw [z,ho'] at ho;cases ho;rw [hd'] at hd;cases hd
theorem Inv.funs(I:Inv X pins σ H s):s.heap.FunFrames X.base X.outer:=by
 have all:∀(l:List Env),(∀b∈frs l,b∈X.fs)->X.s₀.heap.FunFrames X.base l->s.heap.FunFrames X.base l:=by
  intro l
  induction l with
  | nil=>intro _ _;trivial
  | cons env r ih =>
   intro hs hl;obtain ⟨hk,⟨L,o,hf,hn,ho,hd⟩,hr⟩:=hl;have hL:L∈X.fs:=hs L (by unfold frs;rw [ybf,hf];exact yaA);obtain ⟨sl,e⟩:=I.base.slot L o ho (I.ok.frf L hL) hL fun z=>I.ok.exfs L z hL
   exact ⟨hk,⟨L,_,hf,hn,e,hd⟩,ih (fun b hb=>hs b (by unfold frs;rw [ybf,hf];exact yas _ hb)) hr⟩
 exact all X.outer (fun _ hb=>hb) I.ok.funs
theorem Inv.stack(I:Inv X pins σ H s):s.heap.FunFrames X.base X.stack:=by
 rcases I.ok.stk with e | ⟨e,hf⟩
 ·rw [e];exact I.funs
 ·rw [e];obtain ⟨m,hn,_⟩:=I.loc;refine .cons (by rw [I.ok.kind];decide) hf hn ?_ I.funs;exact Heap.get?_none_of_le (yal I.ok.bsz I.ok.above)
def Inv.stkSub(I:Inv X pins σ H s):∀b∈frs X.stack,b∈X.env.locals::X.fs:=fun b hb=>by
 rcases I.ok.stk with e | ⟨e,hf⟩
 ·rw [e] at hb;exact yas _ hb
 ·rw [e] at hb;unfold frs at hb;rwa [ybf,hf] at hb
def Inv.stkFree(I:Inv X pins σ H s):∀b∈frs X.stack,H b=none:=fun b hb=>by
 rcases yam.mp (I.stkSub b hb) with e | hb
 ·rw [e];exact I.free
 ·obtain ⟨_,o,ho,_⟩:=I.ok.funs.mem hb;exact I.base.free b o ho (I.ok.frf b hb) fun z=>I.ok.exfs b z hb
def Inv.step{g':Array GenState}{t':Nat}{d':Drawn}{ch:List Addr}(I:Inv X pins σ H s)
  (hch:∀b∈ch,(b∈X.ex\/X.s₀.heap.objs.size<=b)/\b≠X.env.locals/\(∀x c,X.env.cells.lookup x=some c->c≠b)/\∀p∈X.pn++pins,p.1≠b)
  (keep:∀b o,b≠X.env.locals->b ∉ X.fs->b ∉ ch->s.heap.get? b=some o->H b=none->h'.get? b=some o)
  (slot:∀b o,b≠X.env.locals->b∈X.fs->b ∉ ch->s.heap.get? b=some o->H b=none->∃sl,h'.get? b=some { o with slots:=sl }) (free:∀b o,b ∉ ch->s.heap.get? b=some o->H b=none->H' b=none)
  (there:∀b o,b ∉ ch->s.heap.get? b=some o->∃o',h'.get? b=some o')
  (tups:∀b xs,H b=some (.tup xs)->H' b=some (.tup xs)) (frzs:∀b o u,H b=some (.frz o u)->H' b=some (.frz o u)) (tbls:∀b ps,H b=some (.tbl ps)->∃more,H' b=some (.tbl (ps++more)))
  (ns:∀m,s.heap.Ns X.env.locals m->h'.Ns X.env.locals m) (hok:HOk X.prog X.w H' h') (hg:AllBare g') :
  Inv X pins σ H' { s with heap:=h',gens:=g',drawn:=d',toks:=t' }:=by
 have neL:∀b o,X.s₀.heap.get? b=some o->b≠X.env.locals:=fun b o e=>yan (yah (yaj e) I.ok.above)
 have neC:∀b o,X.s₀.heap.get? b=some o->b ∉ X.ex->b ∉ ch:=fun b o e hx hb=>by
  rcases (hch b hb).1 with z | z
  ·exact hx z
  ·exact absurd (yah (yaj e) z) (yaQ _)
 have cellK:∀x c,X.env.cells.lookup x=some c->∀v,s.heap.IsCell c v->h'.IsCell c v:=fun x c e v ⟨o,ho,hd⟩=>by
  have nch:c ∉ ch:=fun z=>(hch c z).2.2.1 x c e rfl
  by_cases hc:c∈X.fs
  ·obtain ⟨sl,q⟩:=slot c o (I.cne x c e) hc nch ho (I.freeC x c e);exact ⟨_,q,hd⟩
  ·exact ⟨o,keep c o (I.cne x c e) hc nch ho (I.freeC x c e),hd⟩
 refine ⟨I.ok,I.os,hg,⟨fun b o e n hb hx=>?_,fun b o e n hb hx=>?_,fun b o e n hx=>?_,fun b o e hx=>?_,fun b xs e=>tups b xs (I.base.tups b xs e),fun b o xs e=>frzs b o xs (I.base.frzs b o xs e),fun b ps e=>?_⟩,?_,fun x c e=>?_,?_,fun x c e=>?_,fun p hp=>?_,hok,I.len⟩
 ·exact keep b o (neL b o e) hb (neC b o e hx) (I.base.keep b o e n hb hx) (I.base.free b o e n hx)
 ·obtain ⟨sl,e1⟩:=I.base.slot b o e n hb hx;obtain ⟨sl',e2⟩:=slot b _ (neL b o e) hb (neC b o e hx) e1 (I.base.free b o e n hx);exact ⟨sl',e2⟩
 ·obtain ⟨o',e1⟩:=I.base.there b o e hx;exact free b o' (neC b o e hx) e1 (I.base.free b o e n hx)
 ·obtain ⟨o',e1⟩:=I.base.there b o e hx;exact there b o' (neC b o e hx) e1
 ·obtain ⟨m1,e1⟩:=I.base.tbls b ps e;obtain ⟨m2,e2⟩:=tbls b _ e1;exact ⟨m1++m2,by rw [e2,Array.append_assoc]⟩
 ·obtain ⟨m,hn,hl⟩:=I.loc;refine ⟨m,ns m hn,fun i x v e1 e2 e3=>?_⟩;obtain ⟨u,r,l⟩:=hl i x v e1 e2 e3;refine ⟨u,r,?_⟩
  rcases l with l | ⟨k,c,e,z⟩
  ·exact .inl l
  ·exact .inr ⟨k,c,e,cellK x c e _ z⟩
 ·obtain ⟨v,z⟩:=I.cell x c e;exact ⟨v,cellK x c e v z⟩
 ·obtain ⟨m,⟨o,_,_,ho,_⟩,_⟩:=I.loc;exact free _ o (fun z=>(hch _ z).2.1 rfl) ho I.free
 ·obtain ⟨v,o,ho,hd⟩:=I.cell x c e;exact free c o (fun z=>(hch c z).2.2.1 x c e rfl) ho (I.freeC x c e)
 ·obtain ⟨e,n,ne,nf,d⟩:=I.pin p hp;have nch:p.1 ∉ ch:=fun z=>(hch p.1 z).2.2.2 p hp rfl
  exact ⟨keep p.1 p.2 ne nf nch e n,free p.1 p.2 nch e n,ne,nf,d⟩
def Inv.un{t':Nat}(I:Inv X pins σ H s)(u:Un X.fs [] H H' s.heap h')(hok:HOk X.prog X.w H' h'):Inv X pins σ H' { s with heap:=h',toks:=t' }:=by
 obtain ⟨m,⟨o,es,ep,ho,r⟩,_⟩:=id I.loc;obtain ⟨sl,hL⟩:=u.any ho I.free (by simp)
 exact I.step (g':=s.gens) (d':=s.drawn) (ch:=[]) (fun _ z=>nomatch z) (fun b o _ hb _ e n=>u.keep b o e n hb (by simp)) (fun b o _ hb _ e n=>u.slot b o e n hb (by simp)) (fun b o _ e n=>u.free b o e n (by simp)) (fun b o _ e=>u.there b o e (by simp)) u.tups u.frzs u.tbls (fun m' hm=>by
  obtain ⟨o',es',ep',ho',r'⟩:=hm;rw [ho] at ho';cases ho'
  exact ⟨_,es',ep',hL,r'⟩) hok I.bare
def Inv.call{g':Array GenState}{t':Nat}{d':Drawn}{ch:List Addr}(I:Inv X pins σ H s)(u:Un (frs X.stack) ch H H' s.heap h')(hok:HOk X.prog X.w H' h')(hg:AllBare g')
  (hch:∀b∈ch,(b∈X.ex\/X.s₀.heap.objs.size<=b)/\b≠X.env.locals/\(∀x c,X.env.cells.lookup x=some c->c≠b)/\∀p∈X.pn++pins,p.1≠b) :
  Inv X pins σ H' { s with heap:=h',gens:=g',drawn:=d',toks:=t' }:=by
 obtain ⟨m,⟨o,es,ep,ho,r⟩,_⟩:=id I.loc;obtain ⟨sl,hL⟩:=u.any ho I.free fun z=>(hch _ z).2.1 rfl
 exact I.step (ch:=ch) hch (fun b o hL hb hc e n=>u.keep b o e n (fun z=>(yam.mp (I.stkSub b z)).elim hL hb) hc) (fun b o _ _ hc e n=>u.any e n hc) (fun b o hc e n=>u.free b o e n hc) (fun b o hc e=>u.there b o e hc) u.tups u.frzs u.tbls (fun m' hm=>by
  obtain ⟨o',es',ep',ho',r'⟩:=hm;rw [ho] at ho';cases ho'
  exact ⟨_,es',ep',hL,r'⟩) hok hg
def Inv.turned{t':Nat}{it:Addr}(I:Inv X pins σ H s)(k:∀b o,b≠it->s.heap.get? b=some o->h'.get? b=some o)(hn:H it=none)(hL:it≠X.env.locals)
  (h1:it∈X.ex\/X.s₀.heap.objs.size<=it) (h2:∀x c,X.env.cells.lookup x=some c->c≠it) (h3:∀p∈X.pn++pins,p.1≠it):Inv X pins σ H { s with heap:=h',toks:=t' }:=by
 have nit:∀b u,H b=some u->b≠it:=fun b u e z=>by rw [z,hn] at e;cases e
 refine I.step (g':=s.gens) (d':=s.drawn) (ch:=[it]) (fun b hb=>?_) (fun b o _ _ hc e _=>k b o (fun z=>hc (by simp [z])) e) (fun b o _ _ hc e _=>⟨o.slots,k b o (fun z=>hc (by simp [z])) e⟩) (fun _ _ _ _ n=>n)
  (fun b o hc e=>⟨o,k b o (fun z=>hc (by simp [z])) e⟩) (fun _ _ e=>e) (fun _ _ _ e=>e) (fun b ps e=>⟨#[],by rw [e];simp⟩) (fun m hm=>?_) (fun b u e=>?_) I.bare
 ·have e:b=it:=by simpa using hb
  subst e;exact ⟨h1,hL,h2,h3⟩
 ·obtain ⟨o,es,ep,ho,r⟩:=hm;exact ⟨o,es,ep,k _ o (Ne.symm hL) ho,r⟩
 ·refine (I.hok b u e).stay (fun c v hc q=>k c v ?_ q) (fun _ q=>q) fun _ _ q=>q
  rcases hc with z | z
  ·rw [z];exact nit b u e
  ·exact nit c _ z
def Inv.tok(I:Inv X pins σ H s)(t:Nat):Inv X pins σ H { s with toks:=t }:=I.un (h':=s.heap) (t':=t) Un.refl I.hok
theorem Inv.kept{t':Nat}(I:Inv X pins σ H s)(k:∀b u,s.heap.get? b=some u->h'.get? b=some u):Inv X pins σ H { s with heap:=h',toks:=t' }:=I.un (Un.kept k) (I.hok.kept k)
theorem Inv.laid{a:Addr}{o:HO}{t':Nat}(I:Inv X pins σ H s)(k:∀b u,s.heap.get? b=some u->h'.get? b=some u)(hp:s.heap.objs.size<=a)(new:zaQ X.prog X.w (upd H a o) h' a o) :
  Inv X pins σ (upd H a o) { s with heap:=h',toks:=t' }:=I.un (Un.laid k hp (I.hok.fresh hp)) (I.hok.laid k hp new)
theorem Inv.write{x e:Addr}{o:HO}{t':Nat}(I:Inv X pins σ H s)(mu:Mut (H x))(he:e=x\/H e=some (.own x))(k:∀b u,b≠e->s.heap.get? b=some u->h'.get? b=some u)(heo:∃u,h'.get? e=some u)
  (new:zaQ X.prog X.w (upd H x o) h' x o):Inv X pins σ (upd H x o) { s with heap:=h',toks:=t' }:=I.un (Un.write mu he k heo) (I.hok.write mu he k heo new)
def Inv.pins_of{pins':Z3}(I:Inv X pins σ H s)(h:∀p∈pins',s.heap.get? p.1=some p.2/\H p.1=none/\p.1≠X.env.locals/\p.1 ∉ X.fs/\∀v,p.2.data≠.cell v):Inv X pins' σ H s :=
 ⟨I.ok,I.os,I.bare,I.base,I.loc,I.cell,I.free,I.freeC,fun p hp=>(ya8.mp hp).elim (fun z=>I.pin p (List.mem_append_left _ z)) (h p),I.hok,I.len⟩
def zgg{N:List Str}(hN:N.Nodup){i j:Nat}{x:Str}(a:N[i]?=some x)(b:N[j]?=some x):i=j:=by
 obtain ⟨h1,e1⟩:=yaq.mp a;obtain ⟨h2,e2⟩:=yaq.mp b;exact (List.getElem_inj hN).mp (e1.trans e2.symm)
def zeM{M:Model}{A:Around}{E:Z5}{i:Nat}{x:Str}{v:V}{u:Value}{Q:Unit->Shared->Prop}(I:Inv X pins σ H s)(hN:X.N.Nodup)(hi:X.N[i]?=some x)(hx:Loc X.env.scope x)(r:zav v u)
  (h:∀s',Inv X pins (σ.set i (some v)) H s'->(∃a,Heap.SameBut a s.heap s'.heap/\(a=X.env.locals\/X.env.cells.lookup x=some a))->Q () s') (hf:X.fn x=true\/X.env.scope.names.lookup x=some .local:=by first | exact .inl rfl | exact .inr rfl | assumption):wpAny M A (storeName X.env x u) Q E s:=by
 obtain ⟨m,hn,hl⟩:=id I.loc
 have hcls:(X.env.scope.kind == .class||(X.env.scope.kind == .module&&X.env.locals != X.env.globals))=false:=by rw [I.ok.kind];rfl
 have hiσ:i<σ.length:=by rw [I.len];exact (yaq.mp hi).1
 have cne:=I.cne
 have tracked:∀{a:Addr} {h':Heap},(∃o,s.heap.get? a=some o/\H a=none)->Heap.SameBut a s.heap h'->HOk X.prog X.w H h':=fun {a h'} ha hs b ob e=>by
  obtain ⟨_,_,hfree⟩:=ha;refine (I.hok b ob e).stay (fun c w' hc q=>(hs.2 c ?_).trans q) (fun _ q=>q) fun _ _ q=>q
  rintro rfl
  rcases hc with rfl | hc
  ·rw [hfree] at e;cases e
  ·rw [hfree] at hc;cases hc
 rcases hx with hk | hk
 ·refine wpAny_storeName_local hk hn (fun h' hn' hs=>?_) hcls;obtain ⟨oL,_,_,hoL,_⟩:=id hn;refine h _ ⟨I.ok,I.os,I.bare,⟨fun b o e n hb hx=>?_,fun b o e n hb hx=>?_,I.base.free,fun b o e hx=>?_,I.base.tups,I.base.frzs,I.base.tbls⟩,⟨_,hn',fun j y v' e1 e2 e3=>?_⟩,fun y c e=>?_,I.free,I.freeC,fun p hp=>?_,tracked ⟨oL,hoL,I.free⟩ hs,by simpa using I.len⟩ ⟨_,hs,.inl rfl⟩
  ·exact (hs.2 b (yan (yah (yaj e) I.ok.above))).trans (I.base.keep b o e n hb hx)
  ·obtain ⟨sl,e1⟩:=I.base.slot b o e n hb hx;exact ⟨sl,(hs.2 b (yan (yah (yaj e) I.ok.above))).trans e1⟩
  ·obtain ⟨o',e1⟩:=I.base.there b o e hx;exact ⟨o',(hs.2 b (yan (yah (yaj e) I.ok.above))).trans e1⟩
  ·by_cases hj:j=i
   ·subst hj;rw [hi] at e1;cases e1;rw [yaz hiσ] at e2;cases e2;exact ⟨u,r,.inl ⟨hk,by simp⟩⟩
   ·rw [yaJ (Ne.symm hj)] at e2;obtain ⟨u',r',q⟩:=hl j y v' e1 e2 e3;refine ⟨u',r',?_⟩
    rcases q with ⟨k,e⟩ | ⟨k,c,e,z⟩
    ·refine .inl ⟨k,?_⟩;have:y≠x:=fun e=>hj (zgg hN e1 (e ▸ hi))
     simp [this,e]
    ·exact .inr ⟨k,c,e,z.sameBut hs (cne y c e)⟩
  ·obtain ⟨w',z⟩:=I.cell y c e;exact ⟨w',z.sameBut hs (cne y c e)⟩
  ·obtain ⟨e,n,ne,nf,d⟩:=I.pin p hp;exact ⟨(hs.2 p.1 ne).trans e,n,ne,nf,d⟩
 ·have hfn:X.fn x=true:=by
   rcases hf with z | z
   ·exact z
   ·rw [z] at hk;cases hk
  obtain ⟨c,hc⟩:=I.ok.has x (.inl hk);obtain ⟨w',z⟩:=I.cell x c hc;refine wpAny_storeName_cell I.ok.kind hk hc z (fun h' hc' hs=>?_);obtain ⟨oc,hoc,hocd⟩:=id z;refine h { s with heap:=h' } ⟨I.ok,I.os,I.bare,⟨fun b o e n hb hx=>?_,fun b o e n hb hx=>?_,I.base.free,fun b o e hx=>?_,I.base.tups,I.base.frzs,I.base.tbls⟩,⟨m,hn.sameBut hs (Ne.symm (cne x c hc)),fun j y v' e1 e2 e3=>?_⟩,fun y c' e=>?_,I.free,I.freeC,fun p hp=>?_,tracked ⟨oc,hoc,I.freeC x c hc⟩ hs,by simpa using I.len⟩ ⟨c,hs,.inr hc⟩
  ·exact (hs.2 b (yan (yah (yaj e) (I.ok.cab x c hfn hc)))).trans (I.base.keep b o e n hb hx)
  ·obtain ⟨sl,e1⟩:=I.base.slot b o e n hb hx;exact ⟨sl,(hs.2 b (yan (yah (yaj e) (I.ok.cab x c hfn hc)))).trans e1⟩
  ·obtain ⟨o',e1⟩:=I.base.there b o e hx;exact ⟨o',(hs.2 b (yan (yah (yaj e) (I.ok.cab x c hfn hc)))).trans e1⟩
  ·by_cases hj:j=i
   ·subst hj;rw [hi] at e1;cases e1;rw [yaz hiσ] at e2;cases e2;exact ⟨u,r,.inr ⟨.inl hk,c,hc,hc'⟩⟩
   ·rw [yaJ (Ne.symm hj)] at e2;obtain ⟨u',r',q⟩:=hl j y v' e1 e2 e3;refine ⟨u',r',?_⟩
    rcases q with q | ⟨k,c',e,z'⟩
    ·exact .inl q
    ·refine .inr ⟨k,c',e,z'.sameBut hs ?_⟩;rintro rfl;exact hj (zgg hN e1 (I.ok.inj _ _ _ e hc ▸ hi))
  ·by_cases hcc:c'=c
   ·subst hcc;exact ⟨_,hc'⟩
   ·obtain ⟨w2,z2⟩:=I.cell y c' e;exact ⟨w2,z2.sameBut hs hcc⟩
  ·obtain ⟨e,n,ne,nf,d⟩:=I.pin p hp;refine ⟨(hs.2 p.1 ?_).trans e,n,ne,nf,d⟩;intro q;rw [q,hoc] at e;have q':oc=p.2:=Option.some.inj e;exact d w' (by rw [<-q'];exact hocd)
def zcG{M:Model}{A:Around}{E:Z5}{i:Nat}{x:Str}{v:V}{u:Value}{Q:Unit->Shared->Prop}(I:Inv X pins σ H s)(hN:X.N.Nodup)(hi:X.N[i]?=some x)(hx:Loc X.env.scope x)(r:zav v u)
  (h:∀s',Inv X pins (σ.set i (some v)) H s'->Q () s') (hf:X.fn x=true\/X.env.scope.names.lookup x=some .local:=by first | exact .inl rfl | exact .inr rfl | assumption):wpAny M A (storeName X.env x u) Q E s :=
 zeM I hN hi hx r (fun s' I' _=>h s' I') hf
def Inv.call'{s':Shared}{ch:List Addr}(I:Inv X pins σ H s)(ho:s'.os=s.os)(u:Un (frs X.stack) ch H H' s.heap s'.heap)(hok:HOk X.prog X.w H' s'.heap)(hg:AllBare s'.gens)
  (hch:∀b∈ch,(b∈X.ex\/X.s₀.heap.objs.size<=b)/\b≠X.env.locals/\(∀x c,X.env.cells.lookup x=some c->c≠b)/\∀p∈X.pn++pins,p.1≠b):Inv X pins σ H' s':=by
 obtain ⟨h',g',d',t',o'⟩:=s';have e:o'=s.os:=ho;subst e;exact I.call (g':=g') (t':=t') (d':=d') u hok hg hch
end
noncomputable abbrev XK:=Value->Option Addr->Hp->Prop
noncomputable abbrev St:=List (Option V)
noncomputable abbrev VK:=V->Hp->Prop
noncomputable abbrev TE:=St->Hp->VK->Prop
noncomputable abbrev TT:=St->Hp->(Bool->Hp->Prop)->Prop
noncomputable abbrev TA:=St->Hp->(List V->Hp->Prop)->Prop
structure Ends where
 nx:St->Hp->Prop
 rt:VK
 bk:St->Hp->Prop:=fun _ _=>False
 ct:St->Hp->Prop:=fun _ _=>False
noncomputable abbrev TS:=Ends->St->Hp->Prop
noncomputable def EP(X:Cx)(pins:Z3)(σ:St)(Q:VK)(u:Value)(s':Shared):Prop:=∃v H',Inv X pins σ H' s'/\zav v u/\Q v H'
noncomputable def TP(X:Cx)(pins:Z3)(σ:St)(Q:Bool->Hp->Prop)(b:Bool)(s':Shared):Prop:=∃H',Inv X pins σ H' s'/\Q b H'
noncomputable def AP(X:Cx)(pins:Z3)(σ:St)(Q:List V->Hp->Prop)(us:List Value)(s':Shared):Prop:=∃vs H',Inv X pins σ H' s'/\Vals vs us/\Q vs H'
noncomputable def SP(X:Cx)(pins:Z3)(D:Ends)(f:Flow)(s':Shared):Prop :=
 match f with
 | .next=>∃σ' H',Inv X pins σ' H' s'/\D.nx σ' H'
 | .brk=>∃σ' H',Inv X pins σ' H' s'/\D.bk σ' H'
 | .cont=>∃σ' H',Inv X pins σ' H' s'/\D.ct σ' H'
 | .ret u=>∃v σ' H',Inv X pins σ' H' s'/\zav v u/\D.rt v H'
noncomputable def PE(X:Cx)(e:Expr)(t:TE):Prop :=
 ∀(pins:Z3) (s:Shared) (σ:St) (H:Hp) (Q:VK),Inv X pins σ H s->t σ H Q->wpAny (model X.prog X.w) X.A (eval e X.env) (EP X pins σ Q) X.xe s
noncomputable def PT(X:Cx)(e:Expr)(t:TT):Prop :=
 ∀(pins:Z3) (s:Shared) (σ:St) (H:Hp) (Q:Bool->Hp->Prop),Inv X pins σ H s->t σ H Q->wpAny (model X.prog X.w) X.A (isTrue e X.env (eval e X.env)) (TP X pins σ Q) X.xe s
noncomputable def PW(X:Cx)(e:Expr)(t:TT):Prop :=
 ∀(whole:Sem Value) (pins:Z3) (s:Shared) (σ:St) (H:Hp) (Q:Bool->Hp->Prop),Inv X pins σ H s->t σ H Q->wpAny (model X.prog X.w) X.A (isTrue e X.env whole) (TP X pins σ Q) X.xe s
def PW.pt{X:Cx}{e:Expr}{t:TT}(h:PW X e t):PT X e t:=h _
noncomputable def PA(X:Cx)(es:List Expr)(t:TA):Prop :=
 ∀(pos:Pos) (pins:Z3) (s:Shared) (σ:St) (H:Hp) (Q:List V->Hp->Prop),Inv X pins σ H s->t σ H Q->wpAny (model X.prog X.w) X.A (spliced (backTo pos (starEach es X.env))) (AP X pins σ Q) X.xe s
noncomputable def PS(X:Cx)(st:Stmt)(t:TS):Prop :=
 ∀(pins:Z3) (s:Shared) (σ:St) (H:Hp) (D:Ends),Inv X pins σ H s->t D σ H->wpAny (model X.prog X.w) X.A (exec st X.env) (SP X pins D) X.xe s
noncomputable def PSs(X:Cx)(st:List Stmt)(t:TS):Prop :=
 ∀(pins:Z3) (s:Shared) (σ:St) (H:Hp) (D:Ends),Inv X pins σ H s->t D σ H->wpAny (model X.prog X.w) X.A (execs st X.env) (SP X pins D) X.xe s
def thn{α:Type}{t:Sem α}{Q Q':α->Shared->Prop}{M:Model}{A:Around}{E:Z5}{s:Shared}(h:wpAny M A t Q E s)(hQ:∀a s,Q a s->Q' a s):wpAny M A t Q' E s:=ybe h hQ fun _ _ x=>x
end L2
namespace L2
open PySem PySem.Spec PyProof.Rows
section
variable{X:Cx}
noncomputable def znv(i:Nat):TE:=fun σ H Q=>∃v,σ[i]?=some (some v)/\Q v H
noncomputable def tC(v:V):TE:=fun _ H Q=>Q v H
def zcK{i:Nat}{x:Str}{pos:Pos}(hN:X.N[i]?=some x)(hv:Vis X.env.scope x)(hd:(x == ("__debug__":Str))=false:=by decide)(hcd:(x == ("__classdict__":Str))=false:=by decide):PE X (.Name x pos) (znv i):=by
 intro pins s σ H Q I h;obtain ⟨v,e,h⟩:=h;obtain ⟨m,hn,hl⟩:=I.loc;obtain ⟨u,r,l⟩:=hl i x v hN e hv;have fin:EP X pins σ Q u s:=⟨v,H,I,r,h⟩
 rcases l with ⟨hk,hm⟩ | ⟨hk,c,hc,hcell⟩
 ·exact wpAny_Name (wpAny_loadName_local I.ok.kind hk hn hm fin) hd
 ·rcases hk with hk | hk
  ·exact wpAny_Name (wpAny_loadName_cell I.ok.kind hk hc hcell fin) hd
  ·exact wpAny_Name (wpAny_loadName_free I.ok.kind hk hc hcell fin hcd) hd
def zoW{i j pos}:PE X (.Constant (.int i) j pos) (tC (.int i)):=fun _ _ _ H _ I h=>wpAny_Constant_int ⟨.int i,H,I.tok _,⟨_,rfl⟩,h⟩
def zrs{b j pos}:PE X (.Constant (.bool b) j pos) (tC (.bl b)):=fun _ _ _ H _ I h=>Constant_bool ⟨.bl b,H,I,rfl,h⟩
def zoU{j pos}:PE X (.Constant .none j pos) (tC .non):=fun _ _ _ H _ I h=>Constant_none ⟨.non,H,I,rfl,h⟩
def zoQ{x j pos}:PE X (.Constant (.str x) j pos) (tC (.str x)):=fun _ _ _ H _ I h=>Calls.Constant_str ⟨.str x,H,I.tok _,⟨_,rfl⟩,h⟩
noncomputable def Gl(X:Cx)(x:Str):Prop:=X.env.kindOf x=some .globalImplicit
def zdA{E:Z5}{pins:Z3}{s:Shared}{σ:St}{H:Hp}{x:Str}{u:Value}{pos:Pos}{Q:Z5}(I:Inv X pins σ H s)(hg:Gl X x)(hm:X.mg x=some u)(h:Q u s)
  (hd:(x == ("__debug__":Str))=false:=by decide):wpAny (model X.prog X.w) X.A (eval (.Name x pos) X.env) Q E s :=
 Calls.Name_function_global I.ok.kind hg (Calls.loadGlobal_global (by rw [I.ok.glob];exact I.mod.glob.keeps I.bk) hm h) hd
def ze8{E:Z5}{pins:Z3}{s:Shared}{σ:St}{H:Hp}{x:Str}{u:Value}{pos:Pos}{Q:Z5}(I:Inv X pins σ H s)(hg:Gl X x)(hm:X.mg x=none)(hv:bootBuiltins x=some u)(h:Q u s)
  (hn:x ≠ "__name__":=by decide) (hd:(x == ("__debug__":Str))=false:=by decide):wpAny (model X.prog X.w) X.A (eval (.Name x pos) X.env) Q E s:=by
 obtain ⟨mb,h1,h2⟩:=I.mod.blt;exact Calls.Name_function_global I.ok.kind hg (Calls.loadGlobal_builtin (by rw [I.ok.glob];exact I.mod.glob.keeps I.bk) hm (by rw [I.ok.blt];exact h1.keeps I.bk) ((h2 x hn).trans hv) h) hd
def zmn{x:Str}{v:V}{u:Value}{pos:Pos}(hg:Gl X x)(hm:X.mg x=some u)(r:zav v u)(hd:(x == ("__debug__":Str))=false:=by decide):PE X (.Name x pos) (tC v) :=
 fun _ _ _ H _ I h=>zdA I hg hm ⟨v,H,I,r,h⟩ hd
def zmp{x:Str}{v:V}{u:Value}{pos:Pos}(hg:Gl X x)(hm:X.mg x=none)(hv:bootBuiltins x=some u)(r:zav v u)(hn:x ≠ "__name__":=by decide)(hd:(x == ("__debug__":Str))=false:=by decide):PE X (.Name x pos) (tC v) :=
 fun _ _ _ H _ I h=>ze8 I hg hm hv ⟨v,H,I,r,h⟩ hn hd
variable{a b:Expr}{ta tb:TE}{pos:Pos}
noncomputable def tB(t:TE):TT:=fun σ H Q=>t σ H fun x H1=>∃c,x=.bl c/\Q c H1
def zoH{e:Expr}{t:TE}(h:PE X e t)(he:∀whole,isTrue e X.env whole=(do let v ← whole;standAt e.pos;holding [v] (truthy v)):=by intro _;rfl):PT X e (tB t):=by
 intro pins s σ H Q I hw;refine isTrue_plain (thn (h pins s σ H _ I hw) fun v s1 ⟨x,H1,I1,r1,q1⟩=>?_) (he _);obtain ⟨d,rfl,q⟩:=q1;cases r1;exact ya1 ⟨H1,I1,q⟩
variable{tA tB':TT}{zbu:List Expr}
noncomputable def zti(t u:TT):TT:=fun σ H Q=>t σ H fun c H1=>if c=true then u σ H1 Q else Q false H1
noncomputable def tOr(t u:TT):TT:=fun σ H Q=>t σ H fun c H1=>if c=true then Q true H1 else u σ H1 Q
noncomputable def ztg(t:TT):TT:=fun σ H Q=>t σ H fun c H1=>Q (!c) H1
def zma(ha:PT X a tA):PW X (.BoolOp .And [a] pos) tA:=by
 intro wh pins s σ H Q I h;refine isTrue_and (thn (ha pins s σ H Q I h) fun c s1 e=>?_)
 cases c with
 | true=>exact isTrue_and_nil e
 | false=>exact e
def zoE(ha:PT X a tA):PW X (.BoolOp .Or [a] pos) tA:=by
 intro wh pins s σ H Q I h;refine isTrue_or (thn (ha pins s σ H Q I h) fun c s1 e=>?_)
 cases c with
 | false=>exact isTrue_or_nil e
 | true=>exact e
def zoF(ha:PT X a tA)(hb:PW X (.BoolOp .And (b::zbu) pos) tB'):PW X (.BoolOp .And (a::b::zbu) pos) (zti tA tB'):=by
 intro wh pins s σ H Q I h;refine isTrue_and (thn (ha pins s σ H _ I h) fun c s1 ⟨H1,I1,q1⟩=>?_)
 cases c with
 | true=>exact hb wh pins s1 σ H1 Q I1 q1
 | false=>exact ⟨H1,I1,q1⟩
def zrn(ha:PT X a tA)(hb:PW X (.BoolOp .Or (b::zbu) pos) tB'):PW X (.BoolOp .Or (a::b::zbu) pos) (tOr tA tB'):=by
 intro wh pins s σ H Q I h;refine isTrue_or (thn (ha pins s σ H _ I h) fun c s1 ⟨H1,I1,q1⟩=>?_)
 cases c with
 | true=>exact ⟨H1,I1,q1⟩
 | false=>exact hb wh pins s1 σ H1 Q I1 q1
def zoI(ha:PT X a tA):PT X (.UnaryOp .Not a pos) (ztg tA):=by
 intro pins s σ H Q I h;exact isTrue_not (ha pins s σ H (fun c H1=>Q (!c) H1) I h)
noncomputable def zq5(ta tb:TE):TE:=fun σ H Q=>ta σ H fun x H1=>∃c,x=.bl c/\if c=true then tb σ H1 Q else Q (.bl false) H1
noncomputable def zu6(ta tb:TE):TE:=fun σ H Q=>ta σ H fun x H1=>∃c,x=.bl c/\if c=true then Q (.bl true) H1 else tb σ H1 Q
noncomputable def zqY(ta:TE):TE:=fun σ H Q=>ta σ H fun x H1=>∃c,x=.bl c/\Q (.bl (!c)) H1
def zoS{op}{t:TE}(h:PE X a t):PE X (.BoolOp op [a] pos) t:=fun pins s σ H Q I hw=>BoolOp_one (h pins s σ H Q I hw)
def zoY(ha:PE X a ta)(hb:PE X (.BoolOp .And (b::zbu) pos) tb):PE X (.BoolOp .And (a::b::zbu) pos) (zq5 ta tb):=by
 intro pins s σ H Q I h;refine BoolOp_and (thn (ha pins s σ H _ I h) fun v s1 ⟨x,H1,I1,r1,q1⟩=>?_);obtain ⟨c,rfl,q1⟩:=q1;cases r1;refine ya1 ?_
 cases c with
 | true=>exact hb pins s1 σ H1 Q I1 q1
 | false=>exact ⟨.bl false,H1,I1,rfl,q1⟩
def zrr(ha:PE X a ta)(hb:PE X (.BoolOp .Or (b::zbu) pos) tb):PE X (.BoolOp .Or (a::b::zbu) pos) (zu6 ta tb):=by
 intro pins s σ H Q I h;refine BoolOp_or (thn (ha pins s σ H _ I h) fun v s1 ⟨x,H1,I1,r1,q1⟩=>?_);obtain ⟨c,rfl,q1⟩:=q1;cases r1;refine ya1 ?_
 cases c with
 | false=>exact hb pins s1 σ H1 Q I1 q1
 | true=>exact ⟨.bl true,H1,I1,rfl,q1⟩
def zoT(ha:PE X a ta):PE X (.UnaryOp .Not a pos) (zqY ta):=by
 intro pins s σ H Q I h;refine UnaryOp_ (thn (ha pins s σ H _ I h) fun v s1 ⟨x,H1,I1,r1,q1⟩=>?_);obtain ⟨c,rfl,q1⟩:=q1;cases r1;exact not_of (ya1 ⟨.bl (!c),H1,I1,rfl,q1⟩)
noncomputable def tIf(t:TT)(ta tb:TE):TE:=fun σ H Q=>t σ H fun c H1=>if c=true then ta σ H1 Q else tb σ H1 Q
def zjQ{c:Expr}(hc:PT X c tA)(ha:PE X a ta)(hb:PE X b tb):PE X (.IfExp c a b pos) (tIf tA ta tb):=by
 intro pins s σ H Q I h;refine wpAny_IfExp (thn (hc pins s σ H _ I h) fun d s1 ⟨H1,I1,q1⟩=>?_)
 cases d with
 | true=>exact ha pins s1 σ H1 Q I1 q1
 | false=>exact hb pins s1 σ H1 Q I1 q1
end
end L2
namespace L2
open PySem PySem.Spec PyProof.Rows
noncomputable def SqL(K:PySem.W.Frag)(H:Hp)(a:Addr)(xs:List V):Prop :=
 Rd H a (.lst xs) ∨
  ∃(o:Obj) (its:Array Value) (n:Nat),K.lookup a=some o/\o.cls=.type "list" /\ o.dict=none/\o.data=.seq its n/\its.size<=sizeLine/\Vals xs its.toList
noncomputable def SqT(K:PySem.W.Frag)(H:Hp)(a:Addr)(xs:List V):Prop :=
 Rd H a (.tup xs) ∨
  ∃(o:Obj) (its:Array Value) (n:Nat),K.lookup a=some o/\o.cls=.type "tuple" /\ o.data=.seq its n/\its.size<=sizeLine/\Vals xs its.toList
noncomputable def zv6:Value->Option V
 | .none=>some .non
 | .bool b=>some (.bl b)
 | .int i _=>some (.int i)
 | .str x _=>some (.str x)
 | .bytes b _=>some (.byt b)
 | .float b _=>some (.flt b)
 | .ref a=>some (.ref a)
 | .type n=>some (.ty n)
 | _=>none
def zav.abs{x:V}{u:Value}(r:zav x u):zv6 u=some x:=by
 cases x with
 | non=>cases r;rfl
 | bl _=>cases r;rfl
 | int _=>obtain ⟨t,rfl⟩:=r;rfl
 | str _=>obtain ⟨t,rfl⟩:=r;rfl
 | byt _=>obtain ⟨t,rfl⟩:=r;rfl
 | flt _=>obtain ⟨t,rfl⟩:=r;rfl
 | ref _=>cases r;rfl
 | ty _=>cases r;rfl
theorem zav.inj{x y:V}{u:Value}(r:zav x u)(q:zav y u):x=y:=Option.some.inj (r.abs.symm.trans q.abs)
theorem Vals.inj:∀{xs ys:List V} {us:List Value},Vals xs us->Vals ys us->xs=ys
 | _,_,_,.nil,.nil=>rfl
 | _,_,_,.cons r t,.cons r' t'=>by rw [r.inj r',Vals.inj t t']
section
variable{X:Cx}{pins:Z3}{σ:St}{H:Hp}{s:Shared}{a:Addr}{xs ys:List V}
def SqL.of{K:PySem.W.Frag}(h:H a=some (.lst xs)):SqL K H a xs:=.inl (.inl h)
def SqT.of{K:PySem.W.Frag}(h:H a=some (.tup xs)):SqT K H a xs:=.inl (.inl h)
def Inv.list(I:Inv X pins σ H s)(h:SqL X.K H a xs):∃its:List Value,Vals xs its/\PlainL s.heap a its.toArray/\xs.length<=sizeLine:=by
 rcases h with h | ⟨o,its,n,hk,hc,hd,hs,hz,r⟩
 ·obtain ⟨z,its,n,r,e⟩:=h.ok I.hok;exact ⟨its,r,⟨_,n,e,rfl,rfl,rfl⟩,z⟩
 ·refine ⟨its.toList,r,⟨o,n,I.kIn a o hk,hc,hd,by simpa using hs⟩,?_⟩;have e:=r.length;simp only [yav] at e;omega
def Inv.tuple(I:Inv X pins σ H s)(h:SqT X.K H a xs):∃its:List Value,Vals xs its/\IsTup s.heap a its.toArray/\xs.length<=sizeLine:=by
 rcases h with h | ⟨o,its,n,hk,hc,hs,hz,r⟩
 ·obtain ⟨z,its,r,p⟩:=h.ok I.hok;exact ⟨its,r,p,z⟩
 ·refine ⟨its.toList,r,⟨o,I.kIn a o hk,hc,n,by simpa using hs⟩,?_⟩;have e:=r.length;simp only [yav] at e;omega
def Inv.list_inj(I:Inv X pins σ H s)(h:SqL X.K H a xs)(h':SqL X.K H a ys):xs=ys:=by
 obtain ⟨its,r,⟨o,n,e,_,_,d⟩,_⟩:=I.list h;obtain ⟨its',r',⟨o',n',e',_,_,d'⟩,_⟩:=I.list h';rw [e] at e';cases e';rw [d] at d'
 injection d' with d1 _
 have:its=its':=by simpa using congrArg Array.toList d1
 subst this;exact r.inj r'
def Inv.tuple_inj(I:Inv X pins σ H s)(h:SqT X.K H a xs)(h':SqT X.K H a ys):xs=ys:=by
 obtain ⟨its,r,⟨o,e,_,n,d⟩,_⟩:=I.tuple h;obtain ⟨its',r',⟨o',e',_,n',d'⟩,_⟩:=I.tuple h';rw [e] at e';cases e';rw [d] at d'
 injection d' with d1 _
 have:its=its':=by simpa using congrArg Array.toList d1
 subst this;exact r.inj r'
end
section
variable{X:Cx}{pins:Z3}{σ:St}{H:Hp}{s:Shared}{E:Z5}
end
section
variable{X:Cx}{st:Stmt}{zbu:List Stmt}{t u:TS}{e:Expr}{te:TE}{pos:Pos}
noncomputable def znP:TS:=fun D σ H=>D.nx σ H
noncomputable def zu4(t u:TS):TS:=fun D σ H=>t { D with nx:=u D } σ H
def zmb:PSs X [] znP:=fun _ _ σ H _ I h=>wpAny_execs_nil ⟨σ,H,I,h⟩
def zjI(h1:PS X st t)(h2:PSs X zbu u):PSs X (st::zbu) (zu4 t u):=by
 intro pins s σ H D I h;refine wpAny_execs_cons (thn (h1 pins s σ H { D with nx:=u D } I h) fun f s1 q=>?_)
 cases f with
 | next =>
  obtain ⟨σ',H',I',q⟩:=q;exact h2 pins s1 σ' H' D I' q
 | ret v=>exact q
 | brk=>exact q
 | cont=>exact q
def zro(h1:PS X st t):PSs X [st] t:=by
 intro pins s σ H D I h;refine wpAny_execs_cons (thn (h1 pins s σ H D I h) fun f s1 q=>?_)
 cases f with
 | next=>exact wpAny_execs_nil q
 | ret v=>exact q
 | brk=>exact q
 | cont=>exact q
noncomputable def znV:TS:=fun D σ H=>D.bk σ H
def zmd:PS X (.Pass pos) znP:=fun _ _ σ H _ I h=>wpAny_Pass ⟨σ,H,I,h⟩
def zjK:PS X (.Break pos) znV:=fun _ _ σ H _ I h=>wpAny_Break ⟨σ,H,I,h⟩
def Inv.quiet{pins:Z3}{σ:St}{H:Hp}{s:Shared}(I:Inv X pins σ H s):interactive X.env=false:=by simp [interactive,I.ok.kind]
noncomputable def zq2(te:TE):TS:=fun D σ H=>te σ H fun _ H1=>D.nx σ H1
def zhY(he:PE X e te)(hs:swapsWith e none pos.line X.env=pure false:=by rfl):PS X (.Expr e pos) (zq2 te):=by
 intro pins s σ H D I h;exact wpAny_Expr_any (thn (he pins s σ H _ I h) fun v s1 ⟨x,H1,I1,r1,q1⟩=>⟨σ,H1,I1,q1⟩) I.quiet hs
noncomputable def zu5(te:TE):TS:=fun D σ H=>te σ H D.rt
def zhW(he:PE X e te):PS X (.Return (some e) pos) (zu5 te):=by
 intro pins s σ H D I h;exact wpAny_Return_some (thn (he pins s σ H _ I h) fun v s1 ⟨x,H1,I1,r1,q1⟩=>⟨x,σ,H1,I1,r1,q1⟩)
noncomputable def zqX:TS:=fun D _ H=>D.rt .non H
def zmc:PS X (.Return none pos) zqX:=fun _ _ σ H _ I h=>wpAny_Return_none ⟨.non,σ,H,I,rfl,h⟩
noncomputable def zu8(c:TT)(t u:TS):TS:=fun D σ H=>c σ H fun b H1=>if b=true then t D σ H1 else u D σ H1
def zrp{c:Expr}{a b:List Stmt}{tc:TT}(hc:PT X c tc)(ha:PSs X a t)(hb:PSs X b u):PS X (.If c a b pos) (zu8 tc t u):=by
 intro pins s σ H D I h;refine wpAny_If (thn (hc pins s σ H _ I h) fun d s1 ⟨H1,I1,q1⟩=>?_)
 cases d with
 | true=>exact ha pins s1 σ H1 D I1 q1
 | false=>exact hb pins s1 σ H1 D I1 q1
end
noncomputable abbrev TG:=V->St->Hp->(St->Hp->Prop)->Prop
noncomputable abbrev TGs:=List V->St->Hp->(St->Hp->Prop)->Prop
noncomputable def PG(X:Cx)(target:Expr)(t:TG):Prop :=
 ∀(pins:Z3) (s:Shared) (σ:St) (H:Hp) (v:V) (u:Value) (Q:St->Hp->Prop),Inv X pins σ H s->zav v u->t v σ H Q →
  wpAny (model X.prog X.w) X.A (assign target X.env u) (fun _ s'=>∃σ' H',Inv X pins σ' H' s'/\Q σ' H') X.xe s
noncomputable def PGs(X:Cx)(ts:List Expr)(t:TGs):Prop :=
 ∀(pins:Z3) (s:Shared) (σ:St) (H:Hp) (vs:List V) (us:List Value) (Q:St->Hp->Prop),Inv X pins σ H s->Vals vs us->t vs σ H Q →
  wpAny (model X.prog X.w) X.A (assignInOrder ((assignEach ts X.env).map (·.2)) us) (fun _ s'=>∃σ' H',Inv X pins σ' H' s'/\Q σ' H') X.xe s
noncomputable abbrev TSet:=V->V->V->Hp->(Hp->Prop)->Prop
noncomputable def zuu(X:Cx)(t:TSet):Prop :=
 ∀(pins:Z3) (s:Shared) (σ:St) (H:Hp) (o i v:V) (ov iv u:Value) (Q:Hp->Prop),Inv X pins σ H s->zav o ov->zav i iv->zav v u->t o i v H Q →
  wpAny (model X.prog X.w) X.A (setItem ov iv u) (fun _ s'=>∃H',Inv X pins σ H' s'/\Q H') X.xe s
noncomputable abbrev TIp:=V->V->Hp->VK->Prop
noncomputable def PIp(X:Cx)(op:Operator)(t:TIp):Prop :=
 ∀(pins:Z3) (s:Shared) (σ:St) (H:Hp) (x y:V) (v u:Value) (Q:VK),Inv X pins σ H s->zav x v->zav y u->t x y H Q →
  wpAny (model X.prog X.w) X.A (inplaceOp op v u) (EP X pins σ Q) X.xe s
section
variable{X:Cx}{pos:Pos}
noncomputable def ziP(i:Nat):TG:=fun v σ H Q=>Q (σ.set i (some v)) H
def zh6{i:Nat}{x:Str}(hN:X.N.Nodup)(hi:X.N[i]?=some x)(hx:Loc X.env.scope x)(hf:X.fn x=true\/X.env.scope.names.lookup x=some .local:=by first | exact .inl rfl | exact .inr rfl | assumption):PG X (.Name x pos) (ziP i):=by
 intro pins s σ H v u Q I r h;exact wpAny_assign_Name (zcG I hN hi hx r (fun s' I'=>⟨_,H,I',h⟩) hf)
noncomputable def zvZ:TGs:=fun vs σ H Q=>vs=[]/\Q σ H
noncomputable def zr1(t:TG)(u:TGs):TGs:=fun vs σ H Q=>∃v r,vs=v::r/\t v σ H fun σ' H'=>u r σ' H' Q
def zmm:PGs X [] zvZ:=by
 intro pins s σ H vs us Q I r h;obtain ⟨e,h⟩:=h;subst e;cases r;exact assignInOrder_nil ⟨σ,H,I,h⟩
def zjN{e:Expr}{es:List Expr}{t:TG}{u:TGs}(h1:PG X e t)(h2:PGs X es u)
  (hs:(assignEach (e::es) X.env).map (·.2)=assign e X.env::(assignEach es X.env).map (·.2):=by rfl):PGs X (e::es) (zr1 t u):=by
 intro pins s σ H vs us Q I r h;obtain ⟨v,vr,e1,h⟩:=h;subst e1
 cases r with
 | cons r rr =>
  rw [hs];refine yct (thn (h1 pins s σ H _ _ _ I r h) fun _ s1 ⟨σ1,H1,I1,q1⟩=>?_);exact h2 pins s1 σ1 H1 _ _ Q I1 rr q1
noncomputable def zvX(K:PySem.W.Frag)(n:Nat)(t:TGs):TG:=fun v σ H Q=>∃a xs,v=.ref a/\SqT K H a xs/\xs.length=n/\t xs σ H Q
def zoN{es:List Expr}{k:Nat}{t:TGs}{n:Nat}(hc:X.calm=true)(h:PGs X es t)
  (hn:(assignEach es X.env).length=n:=by rfl) (hst:(assignEach es X.env).findIdx? (·.1)=none:=by rfl):PG X (.Tuple es k pos) (zvX X.K n t):=by
 intro pins s σ H v u Q I r hw;obtain ⟨a,xs,e1,hq,hl,hw⟩:=hw;subst e1;cases r;obtain ⟨its,rv,ht,hz⟩:=I.tuple hq;refine assign_Tuple_tuple (I.ok.hd hc) ht (by simp [hn,<-hl,rv.length]) hst fun h' hx=>?_
 have I1:Inv X pins σ H { s with heap:=h' }:=I.kept (t':=s.toks) fun b o e=>hx b o (yan (yaj e)) e
 exact h pins _ σ H xs _ Q I1 (by simpa using rv) hw
noncomputable def zvY(to ti:TE)(t:TSet):TG:=fun v σ H Q=>to σ H fun o H1=>ti σ H1 fun i H2=>t o i v H2 fun H3=>Q σ H3
def zoO{o i:Expr}{to ti:TE}{t:TSet}(ho:PE X o to)(hi:PE X i ti)(hs:zuu X t)
  (ha:∀v,assign (.Subscript o i pos) X.env v=(do
   let ov ← holding [v] (eval o X.env)
   let iv ← holding [v,ov] (eval i X.env)
   standAt pos
   holding [v,ov,iv] (setItem ov iv v)
   release [v,ov,iv] []):=by intro _;rfl):PG X (.Subscript o i pos) (zvY to ti t):=by
 intro pins s σ H v u Q I r h;rw [ha];refine yaa (yaT (thn (ho pins s σ H _ I h) fun ov s1 ⟨x,H1,I1,r1,q1⟩=>?_));refine yaa (yaT (thn (hi pins s1 σ H1 _ I1 q1) fun iv s2 ⟨y,H2,I2,r2,q2⟩=>?_));refine yaa (ycI (yaa (yaT (thn (hs pins s2 σ H2 x y v ov iv u _ I2 r1 r2 r q2) fun _ s3 ⟨H3,I3,q3⟩=>?_))));exact wpAny_release ⟨σ,H3,I3,q3⟩
noncomputable def znw(te:TE)(g:TG):TS:=fun D σ H=>te σ H fun x H1=>g x σ H1 D.nx
def zk3{tg e:Expr}{te:TE}{g:TG}(he:PE X e te)(hg:PG X tg g)(hs:swapsWithSole [tg] e pos.line X.env=pure false:=by rfl)(hw:swappedStores [tg] e X.env=pure none:=by rfl)
  (h1:(assignEach [tg] X.env).map (·.2)=[assign tg X.env]:=by rfl):PS X (.Assign [tg] e pos) (znw te g):=by
 intro pins s σ H D I h;refine wpAny_Assign_stores (thn (he pins s σ H _ I h) fun v s1 ⟨x,H1,I1,r1,q1⟩=>?_) hs hw;rw [h1];exact thn (hg pins s1 σ H1 x v _ I1 r1 q1) fun _ s2 q=>q
def zk1{i:Nat}{x:Str}{e:Expr}{te:TE}{pos':Pos}(hN:X.N.Nodup)(hi:X.N[i]?=some x)(hx:Loc X.env.scope x)(he:PE X e te)(hs:swapsWith e (some (.Name x pos')) pos.line X.env=pure false:=by rfl)(hf:X.fn x=true\/X.env.scope.names.lookup x=some .local:=by first | exact .inl rfl | exact .inr rfl | assumption) :
  PS X (.Assign [.Name x pos'] e pos) (znw te (ziP i)):=by
 intro pins s σ H D I h;refine wpAny_Assign_Name (thn (he pins s σ H _ I h) fun v s1 ⟨y,H1,I1,r1,q1⟩=>?_) hs;exact zcG I1 hN hi hx r1 (fun s2 I2=>⟨_,H1,I2,q1⟩) hf
noncomputable def ztf(i j:Nat)(ta:TA):TS:=fun D σ H=>ta σ H fun vs H1=>∃v w,vs=[v,w]/\D.nx ((σ.set i (some v)).set j (some w)) H1
def zoJ{i j:Nat}{x y:Str}{a b:Expr}{ta:TA}{px py pt:Pos}{kt k2 pt2}(hc:X.calm=true)(hN:X.N.Nodup)(hi:X.N[i]?=some x)(hj:X.N[j]?=some y)(hij:i≠j)
  (hx:X.env.scope.names.lookup x=some .local) (hy:X.env.scope.names.lookup y=some .local) (ha:PA X [a,b] ta)
  (hw:swappedStores [.Tuple [.Name x px,.Name y py] kt pt] (.Tuple [a,b] k2 pt2) X.env=pure (some [x,y]))
  (hs:swapsWithSole [.Tuple [.Name x px,.Name y py] kt pt] (.Tuple [a,b] k2 pt2) pos.line X.env=pure false:=by rfl) :
  PS X (.Assign [.Tuple [.Name x px,.Name y py] kt pt] (.Tuple [a,b] k2 pt2) pos) (ztf i j ta):=by
 intro pins s σ H D I h;rw [exec_Assign_arm];refine yaa (ycI ?_);rw [hs];refine yaa (yac ?_);rw [if_neg (by decide)];refine yaa (Tuple_ (thn (ha _ pins s σ H _ I h) fun us s1 ⟨vs,H1,I1,r1,q1⟩=>?_));obtain ⟨v,w,e1,q1⟩:=q1;subst e1
 obtain ⟨u1,u2,rfl,rv,rw'⟩:∃u1 u2,us=[u1,u2]/\zav v u1/\zav w u2:=by
  cases r1 with
  | cons p q =>
   cases q with
   | cons p' q' =>
    cases q';exact ⟨_,_,rfl,p,p'⟩
 refine yaU ?_ (by show 2<=sizeLine;decide);have I2:Inv X pins σ H1 { s1 with heap:=s1.heap.push { cls:=.type "tuple",data:=.seq [u1,u2].toArray } }:=I1.kept (t':=s1.toks) fun b o e=>yae _ e
 rw [hw];refine yaa (yac ?_);show wpAny (model X.prog X.w) X.A (do rule "assign.swapped-stores";let items ← unpackItems (.ref s1.heap.objs.size) 2 none;assignInOrder [fun v=>bindName X.env y v,fun v=>bindName X.env x v] items.reverse;pure Flow.next) _ _ _;refine yaa (ycC (yaa (unpackItems_tuple (items:=#[u1,u2]) (I.ok.hd hc) (IsTup.new s1.heap _) fun h' hx'=>?_)));have I3:=I2.kept (h':=h') (t':=s1.toks) fun b o e=>hx' b o (yan (yaj e)) e
 show wpAny _ _ (assignInOrder [fun v=>bindName X.env y v,fun v=>bindName X.env x v] [u2,u1] >>= fun _=>pure Flow.next) _ _ _;refine yaa (yct (wpAny_bindName (zcG I3 hN hj (.inl hy) rw' (fun s2 I4=>?_) (.inr hy))));refine yct (wpAny_bindName (zcG I4 hN hi (.inl hx) rv (fun s3 I5=>assignInOrder_nil (yac ?_)) (.inr hx)));rw [List.set_comm _ _ (Ne.symm hij)] at I5;exact ⟨_,H1,I5,q1⟩
noncomputable def zva(i:Nat)(te:TE)(ti:TIp):TS:=fun D σ H=>∃x,σ[i]?=some (some x)/\te σ H fun y H1=>ti x y H1 fun z H2=>D.nx (σ.set i (some z)) H2
def zoL{i:Nat}{x:Str}{e:Expr}{te:TE}{op:Operator}{ti:TIp}{pos':Pos}(hN:X.N.Nodup)(hi:X.N[i]?=some x)(hx:Loc X.env.scope x)(he:PE X e te)(ho:PIp X op ti)(hf:X.fn x=true\/X.env.scope.names.lookup x=some .local:=by first | exact .inl rfl | exact .inr rfl | assumption) :
  PS X (.AugAssign (.Name x pos') op e pos) (zva i te ti):=by
 intro pins s σ H D I h;obtain ⟨v,e1,h⟩:=h;obtain ⟨m,hn,hl⟩:=I.loc
 have vis:Vis X.env.scope x:=by rcases hx with k | k;exact .inl k;exact .inr (.inl k)
 obtain ⟨u,r,l⟩:=hl i x v hi e1 vis;refine wpAny_AugAssign_Name ?_
 have go:wpAny (model X.prog X.w) X.A (eval e X.env) (fun w s₂=>wpAny (model X.prog X.w) X.A (inplaceOp op u w) (fun r s₃=>wpAny (model X.prog X.w) X.A (storeName X.env x r) (fun _=>SP X pins D .next) X.xe s₃) X.xe s₂) X.xe s:=by
  refine thn (he pins s σ H _ I h) fun w s1 ⟨y,H1,I1,r1,q1⟩=>?_
  refine thn (ho pins s1 σ H1 v y u w _ I1 r r1 q1) fun z s2 ⟨zv,H2,I2,r2,q2⟩=>?_
  exact zcG I2 hN hi hx r2 (fun s3 I3=>⟨_,H2,I3,q2⟩) hf
 rcases l with ⟨hk,hm⟩ | ⟨hk,c,hc,hcell⟩
 ·exact wpAny_loadName_local I.ok.kind hk hn hm go
 ·rcases hk with hk | hk
  ·exact wpAny_loadName_cell I.ok.kind hk hc hcell go
  ·rcases hx with k | k
   ·have:X.env.scope.names.lookup x=some .free:=hk;rw [k] at this;cases this
   ·have:X.env.scope.names.lookup x=some .free:=hk;rw [k] at this;cases this
end
section
variable{X:Cx}{pos:Pos}
end
structure It where
 go:Nat->Hp->Prop
 yld:Nat->Hp->V->Hp->Prop
 stop:Nat->Hp->Prop
noncomputable def zlx(X:Cx)(pins:Z3)(H:Hp)(b:Addr):Prop :=
 H b=none/\b≠X.env.locals/\b ∉ X.fs/\(b∈X.ex\/X.s₀.heap.objs.size<=b)/\(∀x c,X.env.cells.lookup x=some c->c≠b)/\∀p∈X.pn++pins,p.1≠b
def Inv.fpOk{X:Cx}{pins:Z3}{σ:St}{H H':Hp}{s:Shared}{b:Addr}(I:Inv X pins σ H s)(hb:s.heap.objs.size<=b)(hn:H' b=none):zlx X pins H' b:=by
 refine ⟨hn,ybc (yah I.lt hb),I.nofs hb,.inr (yal I.sz hb),fun x c e z=>?_,fun p hp z=>?_⟩
 ·obtain ⟨v,q⟩:=I.cell x c e;exact absurd (yah q.lt (by rw [z];exact hb)) (yaQ _)
 ·exact absurd (yah (yaj (I.pin p hp).1) (by rw [z];exact hb)) (yaQ _)
structure Turn(P:Program)(w:World)(K:PySem.W.Frag)(tg:Expr)(J:It)(fp:List Addr)(it:Addr)(tn:Nat->Heap->Prop):Prop where
 mem:it∈fp
 obj:∀i h,tn i h->∀b∈fp,∃o,h.get? b=some o/\∀v,o.data≠.cell v
 keep:∀i h h',tn i h->(∀b∈fp,∀o,h.get? b=some o->h'.get? b=some o)->tn i h'
 item:∀(X:Cx),X.prog=P->X.w=w->X.K=K->X.calm=true->∀(i:Nat) (pins:Z3) (s:Shared) (σ:St) (H:Hp) (E:Z5),Inv X pins σ H s->(∀b∈fp,zlx X pins H b)->tn i s.heap->J.go i H →
  wpAny (model P w) X.A (pyNext (.ref it)) (fun r s1=>∃u,r=some u ∧
   wpAny (model P w) X.A (letOwnedTupleGo tg (.ref it) u) (fun _ s2=>∃x H',Inv X pins σ H' s2/\zav x u/\J.yld i H x H'/\tn (i+1) s2.heap/\∀b∈fp,H' b=none) E s1) E s
 done:∀(X:Cx),X.prog=P->X.w=w->X.K=K->X.calm=true->∀(i:Nat) (pins:Z3) (s:Shared) (σ:St) (H:Hp) (E:Z5),Inv X pins σ H s->(∀b∈fp,zlx X pins H b)->tn i s.heap->J.stop i H →
  wpAny (model P w) X.A (pyNext (.ref it)) (fun r s1=>r=none/\Inv X pins σ H s1) E s
 self:∀(A:Around) (i:Nat) (s:Shared) (Q:Z5) (E:Z5),tn i s.heap->Q (.ref it) s->wpAny (model P w) A (pyIter (.ref it)) Q E s
noncomputable abbrev TI:=St->Hp->(It->Hp->Prop)->Prop
noncomputable def PIE(X:Cx)(pins:Z3)(σ:St)(tg:Expr)(R:It->Hp->Prop)(itv:Value)(s2:Shared):Prop :=
 ∃(it:Addr) (fp:List Addr) (tn:Nat->Heap->Prop) (J:It) (H':Hp),itv=.ref it/\Inv X pins σ H' s2/\Turn X.prog X.w X.K tg J fp it tn/\tn 0 s2.heap/\(∀b∈fp,zlx X pins H' b)/\R J H'
noncomputable def PI(X:Cx)(tg iter:Expr)(wi:TI):Prop :=
 ∀(pins:Z3) (s:Shared) (σ:St) (H:Hp) (R:It->Hp->Prop),Inv X pins σ H s->wi σ H R →
  wpAny (model X.prog X.w) X.A (eval iter X.env) (fun v s1=>wpAny (model X.prog X.w) X.A (pyIter v) (PIE X pins σ tg R) X.xe s1) X.xe s
def zmW {M : Model} {A : Around} {E : Z5} {s : Shared} {tg : Expr} {it : Addr} {u : Value} {o : Obj} {n : String} {vs : Array Value} {Q : Unit -> Shared -> Prop} (ho : s.heap.get? it = some o) (hc : o.cls = .type n) (hd : o.data = .fields vs)
    (hn : ["enumerate", "zip", "dict_itemiterator", "dict_reverseitemiterator", "odict_iterator", "itertools.zip_longest", "itertools.pairwise"].contains n = false) (hQ : Q () s) : wpAny M A (letOwnedTupleGo tg (.ref it) u) Q E s := by
  unfold letOwnedTupleGo
  cases tg <;> first
    | exact yac hQ
    | (cases u <;> first
        | exact yac hQ
        | (refine yaa (wpAny_load ho ?_)
           rw [hc, hd];show wpAny M A (if (["enumerate", "zip", "dict_itemiterator", "dict_reverseitemiterator", "odict_iterator", "itertools.zip_longest", "itertools.pairwise"].contains n && vs[0]? == some (rawInt _)) = true then _ else _) Q E s;rw [if_neg (by intro h; rw [hn, Bool.false_and] at h; cases h)]
           exact yac hQ))
noncomputable def Itl(K:PySem.W.Frag)(a:Addr):It :=
 ⟨fun i H=>∃xs x,SqL K H a xs/\xs[i]?=some x,fun i H x H'=>H'=H/\∀xs,SqL K H a xs->xs[i]?=some x,fun i H=>∃xs,SqL K H a xs/\xs.length<=i⟩
noncomputable def Itt(K:PySem.W.Frag)(a:Addr):It :=
 ⟨fun i H=>∃xs x,SqT K H a xs/\xs[i]?=some x,fun i H x H'=>H'=H/\∀xs,SqT K H a xs->xs[i]?=some x,fun i H=>∃xs,SqT K H a xs/\xs.length<=i⟩
noncomputable def Itr(lo:Int)(n:Nat):It:=⟨fun i _=>i<n,fun i H x H'=>H'=H/\x=.int (lo+i),fun i _=>n<=i⟩
def zhj{P:Program}{w:World}{K:PySem.W.Frag}{tg:Expr}(a it:Addr):Turn P w K tg (Itl K a) [it] it (fun i h=>h.IsListIter it a i) where
 mem:=by simp
 obj:=fun i h st b hb=>by
  have e:b=it:=by simpa using hb
  subst e;obtain ⟨o,e,c,d⟩:=st;exact ⟨o,e,fun v z=>by rw [d] at z;cases z⟩
 keep:=fun i h h' st k=>st.at fun o e=>k it (by simp) o e
 item:=by
  intro X hP hw hK hc i pins s σ H E I hf st hg;subst hP hw hK;obtain ⟨xs,x,hq,hx⟩:=hg;obtain ⟨its,rv,p,hz⟩:=I.list hq;obtain ⟨u,hu,ru⟩:=rv.get hx;obtain ⟨f0,f1,f2,f3,f4,f5⟩:=hf it (by simp);refine wpAny_pyNext_list_item st p.isList (x:=u) (by simpa using hu) fun h' st' sb=>?_
  have I1:Inv X pins σ H { s with heap:=h' }:=I.turned (t':=s.toks) (fun b o hb e=>(sb.2 b hb).trans e) f0 f1 f3 f4 f5;obtain ⟨o,e,c,d⟩:=id st';exact ⟨u,rfl,zmW (s:={ s with heap:=h' }) e c d (by decide) ⟨x,H,I1,ru,⟨rfl,fun ys hy=>by rw [I.list_inj hy hq];exact hx⟩,st',fun b hb=>(hf b hb).1⟩⟩
 done:=by
  intro X hP hw hK hc i pins s σ H E I hf st hg;subst hP hw hK;obtain ⟨xs,hq,hx⟩:=hg;obtain ⟨its,rv,p,hz⟩:=I.list hq;obtain ⟨f0,f1,f2,f3,f4,f5⟩:=hf it (by simp);have hl:=rv.length;exact wpAny_pyNext_list_end (I.ok.hd hc) st p.isList (by simp;omega) fun h' eb=>⟨rfl,I.turned (t':=s.toks) (fun b o hb e=>eb b o hb e) f0 f1 f3 f4 f5⟩
 self:=fun _ _ _ _ _ st h=>wpAny_pyIter_listiter st h
def zgD{P:Program}{w:World}{K:PySem.W.Frag}{tg:Expr}(a it:Addr):Turn P w K tg (Itt K a) [it] it (fun i h=>h.IsTupleIter it a i) where
 mem:=by simp
 obj:=fun i h st b hb=>by
  have e:b=it:=by simpa using hb
  subst e;obtain ⟨o,e,c,d⟩:=st;exact ⟨o,e,fun v z=>by rw [d] at z;cases z⟩
 keep:=fun i h h' st k=>st.at fun o e=>k it (by simp) o e
 item:=by
  intro X hP hw hK hc i pins s σ H E I hf st hg;subst hP hw hK;obtain ⟨xs,x,hq,hx⟩:=hg;obtain ⟨its,rv,p,hz⟩:=I.tuple hq;obtain ⟨u,hu,ru⟩:=rv.get hx;obtain ⟨f0,f1,f2,f3,f4,f5⟩:=hf it (by simp);refine wpAny_pyNext_tuple_item st (show s.heap.IsTuple a its.toArray from p) (x:=u) (by simpa using hu) fun h' st' sb=>?_
  have I1:Inv X pins σ H { s with heap:=h' }:=I.turned (t':=s.toks) (fun b o hb e=>(sb.2 b hb).trans e) f0 f1 f3 f4 f5;obtain ⟨o,e,c,d⟩:=id st';exact ⟨u,rfl,zmW (s:={ s with heap:=h' }) e c d (by decide) ⟨x,H,I1,ru,⟨rfl,fun ys hy=>by rw [I.tuple_inj hy hq];exact hx⟩,st',fun b hb=>(hf b hb).1⟩⟩
 done:=by
  intro X hP hw hK hc i pins s σ H E I hf st hg;subst hP hw hK;obtain ⟨xs,hq,hx⟩:=hg;obtain ⟨its,rv,p,hz⟩:=I.tuple hq;obtain ⟨f0,f1,f2,f3,f4,f5⟩:=hf it (by simp);have hl:=rv.length;exact wpAny_pyNext_tuple_end (I.ok.hd hc) st (show s.heap.IsTuple a its.toArray from p) (by simp;omega) fun h' eb=>⟨rfl,I.turned (t':=s.toks) (fun b o hb e=>eb b o hb e) f0 f1 f3 f4 f5⟩
 self:=fun _ _ _ _ _ st h=>wpAny_pyIter_tupleiter st h
def zgE{P:Program}{w:World}{K:PySem.W.Frag}{tg:Expr}(it:Addr)(lo:Int)(n:Nat):Turn P w K tg (Itr lo n) [it] it (fun i h=>IsRangeIter h it (lo+(i:Nat)*1) ((n:Int)-(i:Nat)) 1) where
 mem:=by simp
 obj:=fun i h st b hb=>by
  have e:b=it:=by simpa using hb
  subst e
  exact ⟨_,st,fun v z=>by
   have z':Data.fields _=Data.cell v:=z
   cases z'⟩
 keep:=fun i h h' st k=>k it (by simp) _ st
 item:=by
  intro X hP hw hK hc i pins s σ H E I hf st hg;subst hP hw hK;obtain ⟨f0,f1,f2,f3,f4,f5⟩:=hf it (by simp);have W:=Walks.range (prog:=X.prog) (w:=X.w) (I.ok.hd hc) it lo 1 n;refine W.item i s _ _ hg st fun v h' tk hv st' kk=>?_
  obtain ⟨t,rfl⟩:=hv;have I1:Inv X pins σ H { s with heap:=h',toks:=tk }:=I.turned (fun b o hb e=>kk b o (by simpa using hb) e) f0 f1 f3 f4 f5;refine ⟨_,rfl,zmW (s:={ s with heap:=h',toks:=tk }) (n:="range_iterator") st' rfl rfl (by decide) ⟨.int (lo+i),H,I1,⟨t,?_⟩,⟨rfl,rfl⟩,st',fun b hb=>(hf b hb).1⟩⟩;rw [Int.mul_one]
 done:=by
  intro X hP hw hK hc i pins s σ H E I hf st hg;subst hP hw hK;obtain ⟨f0,f1,f2,f3,f4,f5⟩:=hf it (by simp);exact wpAny_pyNext_range_end (I.ok.hd hc) st (by have:n<=i:=hg;omega) fun h' eb=>⟨rfl,I.turned (t':=s.toks) (fun b o hb e=>eb b o hb e) f0 f1 f3 f4 f5⟩
 self:=fun _ _ _ _ _ st h=>wpAny_pyIter_rangeiter st h
end L2
namespace L2
open PySem PySem.Spec PyProof.Rows
section
variable{X:Cx}{tg:Expr}
noncomputable def zrZ(K:PySem.W.Frag)(tl:TE):TI:=fun σ H R=>tl σ H fun x H1=>∃a,x=.ref a/\(∃xs,SqL K H1 a xs)/\R (Itl K a) H1
noncomputable def zvV(K:PySem.W.Frag)(tl:TE):TI:=fun σ H R=>tl σ H fun x H1=>∃a,x=.ref a/\(∃xs,SqT K H1 a xs)/\R (Itt K a) H1
def zml{l:Expr}{tl:TE}(hl:PE X l tl):PI X tg l (zrZ X.K tl):=by
 intro pins s σ H R I h;refine thn (hl pins s σ H _ I h) fun v s1 ⟨x,H1,I1,r1,q1⟩=>?_
 obtain ⟨a,e,⟨xs,hq⟩,q⟩:=q1;subst e;cases r1;obtain ⟨its,rv,p,hz⟩:=I1.list hq;refine yb8 p.isList ?_;refine ⟨s1.heap.objs.size,[s1.heap.objs.size],_,_,H1,rfl,I1.kept (t':=s1.toks) fun b o e=>yae _ e,zhj a _,⟨_,yao _ rfl,rfl,rfl⟩,fun b hb=>?_,q⟩
 have e:b=s1.heap.objs.size:=by simpa using hb
 subst e;exact I1.fpOk (yaf _) (I1.hok.fresh (yaf _))
def zoM{l:Expr}{tl:TE}(hl:PE X l tl):PI X tg l (zvV X.K tl):=by
 intro pins s σ H R I h;refine thn (hl pins s σ H _ I h) fun v s1 ⟨x,H1,I1,r1,q1⟩=>?_
 obtain ⟨a,e,⟨xs,hq⟩,q⟩:=q1;subst e;cases r1;obtain ⟨its,rv,p,hz⟩:=I1.tuple hq;refine wpAny_pyIter_tuple (show s1.heap.IsTuple a its.toArray from p) ?_;refine ⟨s1.heap.objs.size,[s1.heap.objs.size],_,_,H1,rfl,I1.kept (t':=s1.toks) fun b o e=>yae _ e,zgD a _,⟨_,yao _ rfl,rfl,rfl⟩,fun b hb=>?_,q⟩
 have e:b=s1.heap.objs.size:=by simpa using hb
 subst e;exact I1.fpOk (yaf _) (I1.hok.fresh (yaf _))
def zf7{pins:Z3}{σ:St}{H:Hp}{s:Shared}{R:It->Hp->Prop}{E:Z5}{lo hi:Int}{t u v:Tok}{tk:Nat}(I:Inv X pins σ H s)(h1:-(2 ^ 62)<=lo)(h2:lo<2 ^ 62)(h3:-(2 ^ 62)<=hi)(h4:hi<2 ^ 62)
  (q:R (Itr lo (hi-lo).toNat) H):wpAny (model X.prog X.w) X.A (pyIter (.ref s.heap.objs.size)) (PIE X pins σ tg R) E { s with heap:=s.heap.push { cls:=.type "range",data:=.fields #[.int lo t,.int hi u,.int 1 v] },toks:=tk }:=by
 refine wpAny_pyIter_range (IsRange.new ..) (small_one h1 h2 h3 h4) ?_;have I1:Inv X pins σ H { s with heap:=s.heap.push { cls:=.type "range",data:=.fields #[.int lo t,.int hi u,.int 1 v] },toks:=tk }:=I.kept fun b o e=>yae _ e
 refine ⟨(s.heap.push { cls:=.type "range",data:=.fields #[.int lo t,.int hi u,.int 1 v] }).objs.size,[(s.heap.push { cls:=.type "range",data:=.fields #[.int lo t,.int hi u,.int 1 v] }).objs.size],_,_,H,rfl,
  I1.kept (t':=tk) fun b o e=>yae _ e,zgE _ lo (hi-lo).toNat,?_,fun b hb=>?_,q⟩
 ·have e1:lo+((0:Nat):Int)*1=lo:=by simp
  have e2:(((hi-lo).toNat:Nat):Int)-((0:Nat):Int)=Builtin.Range.rangeSize lo hi 1:=by rw [rangeSize_one];split<;>omega
  show IsRangeIter _ _ (lo+((0:Nat):Int)*1) ((((hi-lo).toNat:Nat):Int)-((0:Nat):Int)) 1;rw [e1,e2];exact yao _ rfl
 ·have e:b=(s.heap.push { cls:=.type "range",data:=.fields #[.int lo t,.int hi u,.int 1 v] }).objs.size:=by simpa using hb
  subst e;exact I1.fpOk (yaf _) (I1.hok.fresh (yaf _))
noncomputable def zrY(ta:TA):TI:=fun σ H R=>ta σ H fun vs H1=>∃j:Int,vs=[.int j]/\-(2 ^ 62)<=j/\j<2 ^ 62/\R (Itr 0 j.toNat) H1
noncomputable def zrX(ta:TA):TI:=fun σ H R=>ta σ H fun vs H1=>∃i j:Int,vs=[.int i,.int j]/\(-(2 ^ 62)<=i/\i<2 ^ 62/\-(2 ^ 62)<=j/\j<2 ^ 62)/\R (Itr i (j-i).toNat) H1
def zh5{a:Expr}{ta:TA}{p pos:Pos}(hg:Gl X "range")(hm:X.mg "range" = none)(ha:PA X [a] ta)(hs:starEach [a] X.env=[(false,eval a X.env)]:=by rfl):PI X tg (.Call (.Name "range" p) [a] [] pos) (zrY ta):=by
 intro pins s σ H R I h;refine Call_ (ze8 I hg hm boot_range (ybD (thn (ha pos pins s σ H _ I h) fun us s1 ⟨vs,H1,I1,r1,q1⟩=>?_) hs rfl));obtain ⟨j,e,q1,q2,q⟩:=q1;subst e
 cases r1 with
 | cons r rr =>
  cases rr;obtain ⟨t,rfl⟩:=r;exact call_range_1 (zf7 I1 (by omega) (by omega) q1 q2 (by simpa using q))
def zh4{a b:Expr}{ta:TA}{p pos:Pos}(hg:Gl X "range")(hm:X.mg "range" = none)(ha:PA X [a,b] ta)(hs:starEach [a,b] X.env=[(false,eval a X.env),(false,eval b X.env)]:=by rfl)(hs2:starEach [b] X.env=[(false,eval b X.env)]:=by rfl) :
  PI X tg (.Call (.Name "range" p) [a,b] [] pos) (zrX ta):=by
 intro pins s σ H R I h;refine Call_ (ze8 I hg hm boot_range (ybD (thn (ha pos pins s σ H _ I h) fun us s1 ⟨vs,H1,I1,r1,q1⟩=>?_) (by rw [hs,hs2]) (by rw [hs2];rfl)));obtain ⟨i,j,e,⟨q1,q2,q3,q4⟩,q⟩:=q1;subst e
 cases r1 with
 | cons r rr =>
  cases rr with
  | cons r' rr =>
   cases rr;obtain ⟨t,rfl⟩:=r;obtain ⟨t',rfl⟩:=r';exact call_range_2 (zf7 I1 q1 q2 q3 q4 q)
noncomputable def zu9(wi:TI)(g:TG)(tb:TS):TS:=fun D σ H=>wi σ H fun J H1=>∃W:Nat->Nat->St->Hp->Prop,(∃m,W 0 m σ H1)/\∀i m σ H,W i m σ H →
 (J.stop i H/\D.nx σ H)\/(J.go i H/\∃N:St->Hp->Prop,(∀σ' H',N σ' H'->∃m',m'<m/\W (i+1) m' σ' H')/\∀x H',J.yld i H x H'->g x σ H' fun σ2 H2=>tb { D with nx:=N,ct:=N,bk:=D.nx } σ2 H2)
noncomputable def zeY(fp:List Addr)(h:Heap):List (Addr×Obj):=fp.filterMap fun b=>(h.get? b).map fun o=>(b,o)
def zcb{fp:List Addr}{h:Heap}{b:Addr}{o:Obj}(hb:b∈fp)(e:h.get? b=some o):(b,o)∈zeY fp h:=ybA.mpr ⟨b,hb,by rw [e];rfl⟩
def zif{fp:List Addr}{h:Heap}{p:Addr×Obj}(hp:p∈zeY fp h):p.1∈fp/\h.get? p.1=some p.2:=by
 obtain ⟨b,hb,e⟩:=ybA.mp hp
 cases q:h.get? b with
 | none=>rw [q] at e;cases e
 | some o =>
  rw [q] at e;have e':(b,o)=p:=Option.some.inj e;subst e';exact ⟨hb,q⟩
def Inv.pinned{pins:Z3}{σ:St}{H:Hp}{s:Shared}{fp:List Addr}(I:Inv X pins σ H s)(hf:∀b∈fp,zlx X pins H b)(ho:∀b∈fp,∃o,s.heap.get? b=some o/\∀v,o.data≠.cell v):Inv X (pins++zeY fp s.heap) σ H s :=
 I.pins_of fun p hp=>(ya8.mp hp).elim (fun z=>I.pin p (yaD _ z)) fun z=>by
  obtain ⟨hb,e⟩:=zif z;obtain ⟨f0,f1,f2,_⟩:=hf p.1 hb;obtain ⟨o,e',d⟩:=ho p.1 hb;rw [e] at e';cases e';exact ⟨e,f0,f1,f2,d⟩
def Inv.unpinned{pins pl:Z3}{σ:St}{H:Hp}{s:Shared}(I:Inv X (pins++pl) σ H s):Inv X pins σ H s:=I.pins_of fun p hp=>I.pin p (yaD _ (List.mem_append_left _ hp))
def zoK{iter:Expr}{body:List Stmt}{wi:TI}{g:TG}{tb:TS}{pos:Pos}(hp:PassesOwn (model X.prog X.w) X.A X.env X.xe)(hc:X.calm=true)(hi:PI X tg iter wi)(hg:PG X tg g)(hb:PSs X body tb)
  (hs:∀x,foldedSetIterable iter X.env x=pure x:=by intro _;rfl):PS X (.For tg iter body [] pos) (zu9 wi g tb):=by
 intro pins s σ H D I h;refine wpAny_For (thn (hi pins s σ H _ I h) fun v s1 h1=>thn h1 fun itv s2 h2=>?_) hs;obtain ⟨it,fp,tn,J,H2,e,I2,T,st2,f2,W,⟨m0,w0⟩,turn⟩:=h2;subst e;have stat:∀{H':Hp},(∀b∈fp,H' b=none)->∀b∈fp,zlx X pins H' b:=fun hn b hb=>⟨hn b hb,(f2 b hb).2⟩
 refine codeAny_forLoop_any (fun n s'=>∃i σ' H',Inv X pins σ' H' s'/\tn i s'.heap/\(∀b∈fp,H' b=none)/\W i n σ' H') ?_ m0 ⟨0,σ,H2,I2,st2,fun b hb=>(f2 b hb).1,w0⟩;rintro n s3 ⟨i,σ3,H3,I3,st3,fr3,w3⟩
 rcases turn i n σ3 H3 w3 with ⟨stop,qn⟩ | ⟨go,N,hN,step⟩
 ·refine ybY hp (thn (T.done X rfl rfl rfl hc i pins s3 σ3 H3 X.xe I3 (stat fr3) st3 stop) fun r s4 ⟨hr,I4⟩=>?_);subst hr;exact wpAny_execs_nil ⟨σ3,H3,I4,qn⟩
 ·refine ybY hp (thn (T.item X rfl rfl rfl hc i pins s3 σ3 H3 X.xe I3 (stat fr3) st3 go) fun r s4 ⟨u,hr,h4⟩=>?_);subst hr;refine ybY hp (thn h4 fun _ s5 ⟨x,H5,I5,r5,y5,st5,fr5⟩=>?_);have I5':=I5.pinned (stat fr5) (T.obj _ _ st5);refine ybY hp (thn (hg _ s5 σ3 H5 x u _ I5' r5 (step x H5 y5)) fun _ s6 ⟨σ6,H6,I6,q6⟩=>?_);refine ybY hp (thn (hb _ s6 σ6 H6 _ I6 q6) fun f s7 q7=>?_)
  have again:∀{σ7:St} {H7:Hp},Inv X (pins++zeY fp s5.heap) σ7 H7 s7->N σ7 H7->∃m,m<n/\∃i σ' H',Inv X pins σ' H' s7/\tn i s7.heap/\(∀b∈fp,H' b=none)/\W i m σ' H':=fun {σ7 H7} I7 n7=>by
   obtain ⟨m',hm,w7⟩:=hN σ7 H7 n7;refine ⟨m',hm,i+1,σ7,H7,I7.unpinned,T.keep _ _ _ st5 fun b hb o e=>(I7.pin (b,o) (yaD _ (yaD _ (zcb hb e)))).1,fun b hb=>?_,w7⟩;obtain ⟨o,e,d⟩:=T.obj _ _ st5 b hb;exact (I7.pin (b,o) (yaD _ (yaD _ (zcb hb e)))).2.1
  cases f with
  | next=>obtain ⟨σ7,H7,I7,n7⟩:=q7;exact again I7 n7
  | cont=>obtain ⟨σ7,H7,I7,n7⟩:=q7;exact again I7 n7
  | brk=>obtain ⟨σ7,H7,I7,q7⟩:=q7;exact ⟨σ7,H7,I7.unpinned,q7⟩
  | ret v=>obtain ⟨x7,σ7,H7,I7,r7,q7⟩:=q7;exact ⟨x7,σ7,H7,I7.unpinned,r7,q7⟩
end
end L2
namespace L2
open PySem PySem.Spec PyProof.Rows
noncomputable abbrev R2:=V->V->Hp->VK->Prop
noncomputable def OpR(X:Cx)(f:Value->Value->Sem Value)(r:R2):Prop :=
 ∀(pins:Z3) (s:Shared) (σ:St) (H:Hp) (x y:V) (v u:Value) (Q:VK),Inv X pins σ H s->zav x v->zav y u->r x y H Q →
  wpAny (model X.prog X.w) X.A (f v u) (EP X pins σ Q) X.xe s
noncomputable def UnR(X:Cx)(f:Value->Sem Value)(r:V->Hp->VK->Prop):Prop :=
 ∀(pins:Z3) (s:Shared) (σ:St) (H:Hp) (x:V) (v:Value) (Q:VK),Inv X pins σ H s->zav x v->r x H Q →
  wpAny (model X.prog X.w) X.A (f v) (EP X pins σ Q) X.xe s
noncomputable def zc9(X:Cx)(f:Value)(r:List V->Hp->VK->Prop):Prop :=
 ∀(pins:Z3) (s:Shared) (σ:St) (H:Hp) (xs:List V) (us:List Value) (Q:VK),Inv X pins σ H s->Vals xs us->r xs H Q →
  wpAny (model X.prog X.w) X.A (call f us) (EP X pins σ Q) X.xe s
noncomputable def tOp(r:R2)(ta tb:TE):TE:=fun σ H Q=>ta σ H fun x H1=>tb σ H1 fun y H2=>r x y H2 Q
noncomputable def tUn(r:V->Hp->VK->Prop)(ta:TE):TE:=fun σ H Q=>ta σ H fun x H1=>r x H1 Q
noncomputable def rI(C:Int->Int->Prop)(g:Int->Int->V):R2:=fun x y H Q=>∃i j,x=.int i/\y=.int j/\C i j/\Q (g i j) H
noncomputable def rI0(g:Int->Int->V):R2:=fun x y H Q=>∃i j,x=.int i/\y=.int j/\Q (g i j) H
noncomputable def rU(g:Int->V):V->Hp->VK->Prop:=fun x H Q=>∃i,x=.int i/\Q (g i) H
section
variable{X:Cx}{a b c:Expr}{ta tb tc:TE}{pos:Pos}
def zsf(ha:PE X a ta)(hb:PE X b tb){pins:Z3}{s:Shared}{σ:St}{H:Hp}{R:V->V->Hp->Prop}(I:Inv X pins σ H s)
  (h:ta σ H fun x H1=>tb σ H1 fun y H2=>R x y H2) {Q:Z5} {f:Value->Value->Sem Value}
  (hf:∀v u s2 x y H2,Inv X pins σ H2 s2->zav x v->zav y u->R x y H2->wpAny (model X.prog X.w) X.A (f v u) Q X.xe s2) :
  wpAny (model X.prog X.w) X.A (eval a X.env) (fun v s₁=>wpAny (model X.prog X.w) X.A (eval b X.env) (fun u s₂=>wpAny (model X.prog X.w) X.A (f v u) Q X.xe s₂) X.xe s₁) X.xe s:=by
 refine thn (ha pins s σ H _ I h) fun v s1 ⟨x,H1,I1,r1,q1⟩=>?_
 refine thn (hb pins s1 σ H1 _ I1 q1) fun u s2 ⟨y,H2,I2,r2,q2⟩=>?_
 exact hf v u s2 x y H2 I2 r1 r2 q2
def zoR{op:Operator}{r:R2}(ho:OpR X (binaryOp op) r)(ha:PE X a ta)(hb:PE X b tb):PE X (.BinOp a op b pos) (tOp r ta tb):=by
 intro pins s σ H Q I h;exact wpAny_BinOp (zsf ha hb I h fun v u s2 x y H2 I2 rx ry q=>ho pins s2 σ H2 x y v u Q I2 rx ry q)
def zrq{op:UnaryOp}{r:V->Hp->VK->Prop}(ho:UnR X (unaryOp op) r)(ha:PE X a ta):PE X (.UnaryOp op a pos) (tUn r ta):=by
 intro pins s σ H Q I h;exact UnaryOp_ (thn (ha pins s σ H _ I h) fun v s1 ⟨x,H1,I1,r1,q1⟩=>ho pins s1 σ H1 x v Q I1 r1 q1)
def opI{f:Value->Value->Sem Value}{C:Int->Int->Prop}{g:Int->Int->Int}
  (rule:∀(i j:Int) (t u:Tok) (s:Shared) (Q:Z5) (E:Z5),C i j->Q (.int (g i j) s.toks) { s with toks:=s.toks+1 }->wpAny (model X.prog X.w) X.A (f (.int i t) (.int j u)) Q E s) :
  OpR X f (rI C fun i j=>.int (g i j)):=by
 intro pins s σ H x y v u Q I rx ry h;obtain ⟨i,j,rfl,rfl,hc,q⟩:=h;obtain ⟨t,rfl⟩:=rx;obtain ⟨t',rfl⟩:=ry;exact rule i j t t' s _ _ hc ⟨.int (g i j),H,I.tok _,⟨_,rfl⟩,q⟩
def ztp{f:Value->Value->Sem Value}{g:Int->Int->Int}
  (rule:∀(i j:Int) (t u:Tok) (s:Shared) (Q:Z5) (E:Z5),Q (.int (g i j) s.toks) { s with toks:=s.toks+1 }->wpAny (model X.prog X.w) X.A (f (.int i t) (.int j u)) Q E s) :
  OpR X f (rI0 fun i j=>.int (g i j)):=by
 intro pins s σ H x y v u Q I rx ry h;obtain ⟨i,j,rfl,rfl,q⟩:=h;obtain ⟨t,rfl⟩:=rx;obtain ⟨t',rfl⟩:=ry;exact rule i j t t' s _ _ ⟨.int (g i j),H,I.tok _,⟨_,rfl⟩,q⟩
def zqn{f:Value->Value->Sem Value}{g:Int->Int->Bool}
  (rule:∀(i j:Int) (t u:Tok) (s:Shared) (Q:Z5) (E:Z5),Q (.bool (g i j)) s->wpAny (model X.prog X.w) X.A (f (.int i t) (.int j u)) Q E s) :
  OpR X f (rI0 fun i j=>.bl (g i j)):=by
 intro pins s σ H x y v u Q I rx ry h;obtain ⟨i,j,rfl,rfl,q⟩:=h;obtain ⟨t,rfl⟩:=rx;obtain ⟨t',rfl⟩:=ry;exact rule i j t t' s _ _ ⟨.bl (g i j),H,I,rfl,q⟩
noncomputable def zv9(i j:Int):Prop:=0<j/\j<1073741824
noncomputable def zsv(i j:Int):Prop:=(-(2 ^ 64)<i/\i<2 ^ 64)\/(-(2 ^ 64)<j/\j<2 ^ 64)
def zsv.ok{i j:Int}(h:zsv i j):IntMulOk i j:=by
 rcases h with ⟨h1,h2⟩ | ⟨h1,h2⟩
 ·exact .of_left (intBits_le_64 h1 h2)
 ·exact .of_right (intBits_le_64 h1 h2)
def zo5:OpR X (binaryOp .Add) (rI0 fun i j=>.int (i+j)):=ztp fun _ _ _ _ _ _ _ q=>add_int q
def zo0:OpR X (binaryOp .Sub) (rI0 fun i j=>.int (i-j)):=ztp fun _ _ _ _ _ _ _ q=>sub_int q
def zo1:OpR X (binaryOp .Mult) (rI zsv fun i j=>.int (i*j)):=opI fun _ _ _ _ _ _ _ hc q=>mul_int q hc.ok
def zms:OpR X (binaryOp .FloorDiv) (rI zv9 fun i j=>.int (i / j)):=opI fun i j _ _ _ _ _ hc q=>by
 have h1:(0:Int)<j:=hc.1;have h2:j<1073741824:=hc.2;exact floordiv_int (by omega) (by rw [Int.fdiv_eq_ediv_of_nonneg i (by omega)];exact q) (.inl (PyProof.noPylong_small (by omega)))
def zo2:OpR X (binaryOp .Mod) (rI (fun _ j=>0<j) fun i j=>.int (i % j)):=opI fun i j _ _ _ _ _ hc q=>by
 have h1:(0:Int)<j:=hc;exact mod_int' (by omega) (by rw [Int.fmod_eq_emod_of_nonneg i (by omega)];exact q)
def unI{f:Value->Sem Value}{g:Int->Int}
  (rule:∀(i:Int) (t:Tok) (s:Shared) (Q:Z5) (E:Z5),Q (.int (g i) s.toks) { s with toks:=s.toks+1 }->wpAny (model X.prog X.w) X.A (f (.int i t)) Q E s) :
  UnR X f (rU fun i=>.int (g i)):=by
 intro pins s σ H x v Q I rx h;obtain ⟨i,rfl,q⟩:=h;obtain ⟨t,rfl⟩:=rx;exact rule i t s _ _ ⟨.int (g i),H,I.tok _,⟨_,rfl⟩,q⟩
def znH:UnR X (unaryOp .USub) (rU fun i=>.int (-i)):=unI fun _ _ _ _ _ q=>neg_int q
end
section
variable{X:Cx}{a b c:Expr}{ta tb tc:TE}{pos:Pos}
def zlm{pins:Z3}{σ:St}{H:Hp}{s:Shared}{Q:VK}{k k':Bool}(I:Inv X pins σ H s)(q:Q (.bl k) H)(e:k=k'):EP X pins σ Q (.bool k') s:=by
 subst e;exact ⟨.bl k,H,I,rfl,q⟩
def zru:OpR X (compareOp .Lt) (rI0 fun i j=>.bl (decide (i<j))):=zqn fun _ _ _ _ _ _ _ q=>lt_int q
def zrv:OpR X (compareOp .LtE) (rI0 fun i j=>.bl (decide (i<=j))):=zqn fun _ _ _ _ _ _ _ q=>le_int q
def zrw:OpR X (compareOp .Gt) (rI0 fun i j=>.bl (decide (j<i))):=zqn fun _ _ _ _ _ _ _ q=>gt_int q
def zrx:OpR X (compareOp .GtE) (rI0 fun i j=>.bl (decide (j<=i))):=zqn fun _ _ _ _ _ _ _ q=>ge_int q
def zo3:OpR X (compareOp .Is) (fun x y H Q=>y=.non/\Q (.bl (decide (x=.non))) H):=by
 intro pins s σ H x y v u Q I rx ry h;obtain ⟨rfl,q⟩:=h;cases ry;refine is_none_gen (zlm I q ?_)
 cases x<;>first
  | (cases rx;rfl)
  | (obtain ⟨t,rfl⟩:=rx;rfl)
def zmr:OpR X (compareOp .IsNot) (fun x y H Q=>y=.non/\Q (.bl (!decide (x=.non))) H):=by
 intro pins s σ H x y v u Q I rx ry h;obtain ⟨rfl,q⟩:=h;cases ry;refine isnot_none_gen (zlm I q ?_)
 cases x<;>first
  | (cases rx;rfl)
  | (obtain ⟨t,rfl⟩:=rx;rfl)
def zh8{op:CmpOp}{r:R2}(ho:OpR X (compareOp op) r)(ha:PE X a ta)(hb:PE X b tb)(hm:behindInMarks op b=false):PE X (.Compare a [op] [b] pos) (tOp r ta tb):=by
 intro pins s σ H Q I h;exact wpAny_Compare1 (zsf ha hb I h fun v u s2 x y H2 I2 rx ry q=>ho pins s2 σ H2 x y v u Q I2 rx ry q) hm
noncomputable def zlF(t:TE):TT:=fun σ H Q=>t σ H fun x H'=>∃k,x=.bl k/\Q k H'
def zhV{op:CmpOp}{r:R2}(ho:OpR X (compareOp op) r)(ha:PE X a ta)(hb:PE X b tb)(hm:behindInMarks op b=false):PT X (.Compare a [op] [b] pos) (zlF (tOp r ta tb)):=by
 intro pins s σ H Q I h
 refine wpAny_isTrue_Compare1 (thn (ha pins s σ H _ I h) fun v s1 ⟨x,H1,I1,r1,q1⟩=>thn (hb pins s1 σ H1 _ I1 q1) fun u s2 ⟨y,H2,I2,r2,q2⟩ =>
  thn (ho pins s2 σ H2 x y v u _ I2 r1 r2 q2) fun c s3 ⟨z,H3,I3,r3,k,e,q3⟩=>?_) hm
 subst e;cases r3;exact ya1 ⟨H3,I3,q3⟩
noncomputable def zhw(r r':R2)(ta tb tc:TE):TE:=fun σ H Q=>ta σ H fun x H1=>tb σ H1 fun y H2=>r x y H2 fun z H3=>∃k,z=.bl k ∧
 (if k=true then tc σ H3 fun w' H4=>r' y w' H4 Q else Q (.bl false) H3)
def zjW{op op':CmpOp}{r r':R2}(ho:OpR X (compareOp op) r)(ho':OpR X (compareOp op') r')(ha:PE X a ta)(hb:PE X b tb)(hc:PE X c tc)
  (hm:lastMarks [op,op'] [b,c]=false:=by with_unfolding_all rfl):PE X (.Compare a [op,op'] [b,c] pos) (zhw r r' ta tb tc):=by
 intro pins s σ H Q I h
 refine Compare_chain (thn (ha pins s σ H _ I h) fun v s1 ⟨x,H1,I1,r1,q1⟩=>chain_link (thn (hb pins s1 σ H1 _ I1 q1) fun u s2 ⟨y,H2,I2,r2,q2⟩ =>
  thn (ho pins s2 σ H2 x y v u _ I2 r1 r2 q2) fun d s3 ⟨z,H3,I3,r3,k,e,q3⟩=>?_)) hm
 subst e;cases r3;refine ya1 ?_
 cases k with
 | false=>exact ite_ff ⟨.bl false,H3,I3,rfl,q3⟩
 | true=>exact ite_tt (chain_last (thn (hc pins s3 σ H3 _ I3 q3) fun w' s4 ⟨z',H4,I4,r4,q4⟩=>ho' pins s4 σ H4 y z' u w' Q I4 r2 r4 q4))
def zjH{op op':CmpOp}{r r':R2}(ho:OpR X (compareOp op) r)(ho':OpR X (compareOp op') r')(ha:PE X a ta)(hb:PE X b tb)(hc:PE X c tc)
  (hm:lastMarks [op,op'] [b,c]=false:=by with_unfolding_all rfl):PT X (.Compare a [op,op'] [b,c] pos) (zlF (zhw r r' ta tb tc)):=by
 intro pins s σ H Q I h
 refine isTrue_chain (thn (ha pins s σ H _ I h) fun v s1 ⟨x,H1,I1,r1,q1⟩=>test_link (thn (hb pins s1 σ H1 _ I1 q1) fun u s2 ⟨y,H2,I2,r2,q2⟩ =>
  thn (ho pins s2 σ H2 x y v u _ I2 r1 r2 q2) fun d s3 ⟨z,H3,I3,r3,k,e,q3⟩=>?_)) hm
 subst e;cases r3;refine ya1 ?_
 cases k with
 | false =>
  obtain ⟨k',e',q'⟩:=q3;cases e';exact ite_ff ⟨H3,I3,q'⟩
 | true =>
  refine ite_tt (test_last (thn (hc pins s3 σ H3 _ I3 q3) fun w' s4 ⟨z',H4,I4,r4,q4⟩=>thn (ho' pins s4 σ H4 y z' u w' _ I4 r2 r4 q4) fun d' s5 ⟨z2,H5,I5,r5,k2,e2,q5⟩=>?_));subst e2;cases r5;exact ya1 ⟨H5,I5,q5⟩
def zgj:(sizeLine:Nat)<2 ^ 63:=by rw [ybT];decide
def zgO:OpR X (binaryOp .Add) (fun x y H Q=>∃i j,x=.str i/\y=.str j/\i.length+j.length<=sizeLine/\Q (.str (i++j)) H):=by
 intro pins s σ H x y v u Q I rx ry h;obtain ⟨i,j,rfl,rfl,hz,q⟩:=h;obtain ⟨t,rfl⟩:=rx;obtain ⟨t',rfl⟩:=ry;exact add_str (fun t' tk=>⟨.str (i++j),H,I.tok _,⟨_,rfl⟩,q⟩) hz
def zeG{x:V}{us:List Value}(r:Vals [x] us):∃u,us=[u]/\zav x u:=by
 cases r with
 | cons r1 r2=>cases r2;exact ⟨_,rfl,r1⟩
end
end L2
namespace L2
open PySem PySem.Spec PyProof.Rows
structure ObjM(h:Heap)(x dx C:Addr)(mA:Z6):Prop where
 obj:h.get? x=some (PySem.W.instObj C dx)
 ns:h.Ns1 dx mA
 ne:dx≠x
def zin{h:Heap}{dx:Addr}{mA:Z6}(n:h.Ns1 dx mA):∃od,h.get? dx=some od/\∀name,PySem.W.lookIn name od=some (mA name):=by
 obtain ⟨o,es,ep,ho,hd,hk,_,hm⟩:=n;refine ⟨o,ho,fun name=>?_⟩;have e:=hm name;unfold nsFind findBy at e;rw [<-Array.find?_toList] at e;unfold PySem.W.lookIn;rw [hd];dsimp only;split
 ·rename_i y q;rw [q] at e;exact congrArg some e
 ·rename_i q;rw [q] at e
  have a:es.toList.any (·.refKey)=false:=by
   rw [List.any_eq_false];intro y hy;obtain ⟨z,t,hkey⟩:=hk y (Array.mem_toList_iff.mp hy);simp [DictEntry.refKey,hkey]
  have a':¬ es.toList.any (·.refKey)=true:=by rw [a];exact yaW
  rw [if_neg a'];exact congrArg some e
def ObjM.look{h:Heap}{x dx C:Addr}{mA:Z6}(I:ObjM h x dx C mA):∃od,PySem.W.InstAt h x (PySem.W.instObj C dx) C (some od)/\∀name,PySem.W.lookIn name od=some (mA name) :=
 let ⟨od,ho,hl⟩:=zin I.ns
 ⟨od,⟨I.obj,rfl,rfl,ho⟩,hl⟩
section
variable{prog:Program}{w:World}{A:Around}{E:Z5}{s:Shared}{K:PySem.W.Frag}{x dx C f:Addr}{mA:Z6}{name:Str}{v:Value}
def zmX{expr:Bool}{Q:Z5}(X:K.In s.heap)(I:ObjM s.heap x dx C mA)(hg:PySem.W.plainGet K C name=true)(hh:PySem.W.hasDictIn K C=true)
  (ha:PySem.W.findIn K (.ref C) name=some none) (hv:mA name=some v) (hv':PySem.W.handedIn v=true) (h:Q v { s with toks:=s.toks+1 }) :
  wpAny (model prog w) A (getAttr (.ref x) name expr) Q E s:=by
 obtain ⟨od,J,hl⟩:=I.look;exact PySem.W.get_value X J (ycn hg).1 (PySem.W.findObj_own hh ha rfl (by rw [hl,hv])) hv' h
def zku{pl:Sem Bool}{Q:Value×List Value->Shared->Prop}(X:K.In s.heap)(I:ObjM s.heap x dx C mA)(hg:PySem.W.plainGet K C name=true)
  (hf:PySem.W.findIn K (.ref C) name=some (some (.ref f))) (ht:PySem.W.isFn K (.ref f)=true) (hv:mA name=none) (h:Q (.ref f,[.ref x]) s) :
  wpAny (model prog w) A (getMethod (.ref x) name pl) Q E s:=by
 obtain ⟨od,J,hl⟩:=I.look;exact PySem.W.method_fn X J (ycn hg).1 (ycn hg).2 hf (yb9.mp ht) (by show (PySem.W.lookIn name od).map (·.isSome)=some false;rw [hl,hv];rfl) h
def zlZ{ns:List Str}{Q:Unit->Shared->Prop}(X:K.In s.heap)(I:ObjM s.heap x dx C mA)
  (hs:PySem.W.findIn K (.ref C) "__setattr__" = some (some (.builtin "object.__setattr__"))) (hp:PySem.W.plainOver K C=true) (ht:PySem.W.takerIn K C name=some none) (hh:PySem.W.hasDictIn K C=true)
  (hw:PySem.Within mA ns) (hsz:ns.length<=sizeLine)
  (h:∀h',ObjM h' x dx C (fun y=>if y=name then some v else mA y)->Heap.SameBut dx s.heap h'->Q () { s with heap:=h',toks:=s.toks+2 }) :
  wpAny (model prog w) A (setAttr (.ref x) name v) Q E s:=by
 obtain ⟨od,J,hl⟩:=I.look;refine PySem.W.set_plain X J hs (PySem.W.osa_open (s:={ s with toks:=s.toks+1 }) (r:=none) X J hp ht fun b=>?_);obtain ⟨cd,hc,hd'⟩:=PySem.W.any_some hh;have hx:s.heap.get? x=some ⟨.ref C,some dx,.plain,#[]⟩:=I.obj;refine yaa (yac (yaa (yaa (wpAny_loadPart hx (yaa (PySem.W.Looks.here (s:={ s with toks:=s.toks+1 }) (PySem.W.looks_clsIn X hc) ?_))))));rw [hd'];refine yac (a:=some dx) (yaa (yac (yaa ?_)));refine wpAny_nsSet1 (s:={ s with toks:=s.toks+1 }) I.ns fun h' hn2 hs2=>?_
 obtain ⟨oD,esD,epD,hoD,hdD,hcD⟩:=hn2.count (PySem.Within.cons name v hw);refine yaa (wpAny_lookBehind hoD (by rw [hdD];exact pastItsLine_dict (yal hcD (by rw [yag];omega))) ?_);exact yac (h _ ⟨(hs2.2 _ (Ne.symm I.ne)).trans I.obj,hn2,I.ne⟩ hs2)
def zkg{R:Result->Shared->Prop}{vs:List Value}{kw:List (Str×Value)}(X:K.In s.heap)(hm:PySem.W.makesIn K C=true)
  (hi:PySem.W.findIn K (.ref C) "__init__" = some (some (.ref f))) (hf:PySem.W.typeIn K (.ref f)=some (.type "function"))
  (h:codeAny (model prog w) (A.under (.builtin "type.__call__" ⟨.ref C::vs,kw⟩)) (.call (.ref f) ⟨.ref (s.heap.objs.size+1)::vs,kw⟩) (PySem.W.InitBack (s.heap.objs.size+1) R)
   { s with heap:=(s.heap.push PySem.W.emptyDict).push (PySem.W.instObj C s.heap.objs.size) }) :
  codeAny (model prog w) A (.call (.ref C) ⟨vs,kw⟩) R s:=by
 obtain ⟨hh,g,d,t,os⟩:=s;exact PySem.W.make_core (PySem.W.makes_of X hm) (PySem.W.looks_findIn X hi) (fun self=>PySem.W.bind_fn X self hf) (.inl rfl) h
end
noncomputable def zcs(f:Str)(v:V):List (Str×V)->List (Str×V)
 | []=>[(f,v)]
 | (g,x)::r=>if g=f then (g,v)::r else (g,x)::zcs f v r
theorem zdy(f g:Str)(v:V):∀fs:List (Str×V),(zcs f v fs).lookup g=if g=f then some v else fs.lookup g
 | []=>by
  show List.lookup g [(f,v)]=_
  by_cases h:g=f
  ·have hb:(g == f)=true:=yb9.mpr h;simp only [List.lookup,hb,if_pos h]
  ·have hb:(g == f)=false:=yaP.mpr h;simp only [List.lookup,hb,if_neg h]
 | (k,x)::r=>by
  have ih:=zdy f g v r;rw [show zcs f v ((k,x)::r)=(if k=f then (k,v)::r else (k,x)::zcs f v r) from rfl]
  by_cases hk:k=f
  ·rw [if_pos hk]
   by_cases h:g=k
   ·have hb:(g == k)=true:=yb9.mpr h;simp only [List.lookup,hb,if_pos (h.trans hk)]
   ·have hb:(g == k)=false:=yaP.mpr h;simp only [List.lookup,hb,if_neg (fun e:g=f=>h (e.trans hk.symm))]
  ·rw [if_neg hk]
   by_cases h:g=k
   ·have hb:(g == k)=true:=yb9.mpr h;simp only [List.lookup,hb,if_neg (fun e:g=f=>hk (h.symm.trans e))]
   ·have hb:(g == k)=false:=yaP.mpr h;simp only [List.lookup,hb];exact ih
theorem zdB(f:Str)(v:V):∀fs:List (Str×V),f∈(zcs f v fs).map (·.1)/\∀g,g∈fs.map (·.1)->g∈(zcs f v fs).map (·.1)
 | []=>⟨by simp [zcs],fun g h=>by simp at h⟩
 | (k,x)::r=>by
  obtain ⟨i1,i2⟩:=zdB f v r;rw [show zcs f v ((k,x)::r)=(if k=f then (k,v)::r else (k,x)::zcs f v r) from rfl]
  by_cases hk:k=f
  ·rw [if_pos hk];subst hk;exact ⟨by simp,fun g h=>by simpa using h⟩
  ·rw [if_neg hk];refine ⟨?_,fun g h=>?_⟩
   ·rw [yay];exact yas _ i1
   ·rw [yay] at h ⊢
    rcases yam.mp h with e | e
    ·exact yam.mpr (.inl e)
    ·exact yas _ (i2 g e)
theorem zdz(f:Str)(v:V):∀fs:List (Str×V),(zcs f v fs).length<=fs.length+1
 | []=>by simp [zcs]
 | (k,x)::r=>by
  have ih:=zdz f v r;rw [show zcs f v ((k,x)::r)=(if k=f then (k,v)::r else (k,x)::zcs f v r) from rfl]
  by_cases hk:k=f
  ·rw [if_pos hk,yag,yag];omega
  ·rw [if_neg hk,yag,yag];omega
def zfw.some_of{v:V}{o:Option Value}(r:zfw (some v) o):∃u,o=some u/\zav v u:=by
 cases o with
 | none=>exact (show False from r).elim
 | some u=>exact ⟨u,rfl,r⟩
def zfw.none_of{o:Option Value}(r:zfw none o):o=none:=by
 cases o with
 | none=>rfl
 | some u=>exact (show False from r).elim
def ziN{v:V}{u:Value}(r:zav v u):PySem.W.handedIn u=true:=by
 cases v with
 | non=>cases (show u=Value.none from r);rfl
 | bl b=>cases (show u=Value.bool b from r);rfl
 | int i=>obtain ⟨t,e⟩:=(show ∃t,u=Value.int i t from r);cases e;rfl
 | str x=>obtain ⟨t,e⟩:=(show ∃t,u=Value.str x t from r);cases e;rfl
 | byt b=>obtain ⟨t,e⟩:=(show ∃t,u=Value.bytes b t from r);cases e;rfl
 | flt b=>obtain ⟨t,e⟩:=(show ∃t,u=Value.float b t from r);cases e;rfl
 | ref a=>cases (show u=Value.ref a from r);rfl
 | ty n=>cases (show u=Value.type n from r);rfl
section
variable{P:Program}{w:World}{H H':Hp}{h h':Heap}{a C dx:Addr}{fs fs':List (Str×V)}
def zeu(hok:HOk P w H h)(e:H a=some (.ins C dx fs)):∃mA,ObjM h a dx C mA/\(∀f,zfw (fs.lookup f) (mA f))/\PySem.Within mA (fs.map (·.1))/\fs.length<=1000/\H dx=some (.own a):=by
 obtain ⟨d,z,ne,ob,mA,n,r,q⟩:=(show zaQ P w H h a (.ins C dx fs) from hok a _ e);exact ⟨mA,⟨ob,n,ne⟩,r,q,z,d⟩
end
structure Cls(K:PySem.W.Frag)(C:Addr):Prop where
 pg:PySem.W.plainGet K C Str.empty=true
 hd:PySem.W.hasDictIn K C=true
 po:PySem.W.plainOver K C=true
 sa:PySem.W.findIn K (.ref C) "__setattr__" = some (some (.builtin "object.__setattr__"))
def Cls.get{K:PySem.W.Frag}{C:Addr}(c:Cls K C)(f:Str):PySem.W.plainGet K C f=true:=c.pg
noncomputable def zcp(K:PySem.W.Frag)(C:Addr)(f:Str):Prop:=PySem.W.findIn K (.ref C) f=some none
def zcp.taker{K:PySem.W.Frag}{C:Addr}{f:Str}(n:zcp K C f):PySem.W.takerIn K C f=some none:=by
 unfold PySem.W.takerIn;rw [show PySem.W.findIn K (.ref C) f=some none from n];rfl
structure Meth(K:PySem.W.Frag)(C:Addr)(m:Str)(f:Addr):Prop where
 at_:PySem.W.findIn K (.ref C) m=some (some (.ref f))
 fn:PySem.W.isFn K (.ref f)=true
 kp:PySem.W.keepIn K (.ref f)=true
section
variable{X:Cx}{pins:Z3}{σ:St}{H:Hp}{s:Shared}{a C dx:Addr}{fs:List (Str×V)}{f:Str}{v:V}{A:Around}{E:Z5}
def zgW{b:Bool}{Q:Z5}(I:Inv X pins σ H s)(e:H a=some (.ins C dx fs))(c:Cls X.K C)(n:zcp X.K C f)(l:fs.lookup f=some v)
  (h:∀u s',Inv X pins σ H s'->zav v u->Q u s'):wpAny (model X.prog X.w) A (getAttr (.ref a) f b) Q E s:=by
 obtain ⟨mA,O,r,_,_,_⟩:=zeu I.hok e;obtain ⟨u,hu,ru⟩:=zfw.some_of (v:=v) (o:=mA f) (by rw [<-l];exact r f);exact zmX I.kIn O (c.get f) c.hd n hu (ziN ru) (h u _ (I.tok _) ru)
def zd5{m:Str}{g:Addr}{pl:Sem Bool}{Q:Value×List Value->Shared->Prop}(I:Inv X pins σ H s)(e:H a=some (.ins C dx fs))(c:Cls X.K C)(k:Meth X.K C m g)(l:fs.lookup m=none)
  (h:Q (.ref g,[.ref a]) s):wpAny (model X.prog X.w) A (getMethod (.ref a) m pl) Q E s:=by
 obtain ⟨mA,O,r,_,_,_⟩:=zeu I.hok e;have hn:mA m=none:=zfw.none_of (by rw [<-l];exact r m);exact zku I.kIn O (c.get m) k.at_ k.fn hn h
def zgJ{y:V}{u:Value}{Q:Unit->Shared->Prop}(I:Inv X pins σ H s)(e:H a=some (.ins C dx fs))(c:Cls X.K C)(n:zcp X.K C f)(hl:fs.length<1000)(ry:zav y u)
  (h:∀s',Inv X pins σ (upd H a (.ins C dx (zcs f y fs))) s'->Q () s'):wpAny (model X.prog X.w) A (setAttr (.ref a) f u) Q E s:=by
 obtain ⟨mA,O,r,wi,_,ho⟩:=zeu I.hok e
 have hz:(fs.map (·.1)).length<=sizeLine:=by rw [yak,ybT];omega
 refine zlZ I.kIn O c.sa c.po n.taker c.hd wi hz fun h' O' sb=>h _ ?_
 have hd:∃o,h'.get? dx=some o:=let ⟨o,_,_,e',_⟩:=O'.ns;⟨o,e'⟩
 refine I.write (x:=a) (e:=dx) (by rw [e];exact True.intro) (.inr ho) (fun b q hb z=>(sb.2 b hb).trans z) hd ?_;refine ⟨by rw [zaf O.ne];exact ho,?_,O.ne,O'.obj,_,O'.ns,fun g=>?_,fun g hg=>?_⟩
 ·have:=zdz f y fs;omega
 ·show zfw ((zcs f y fs).lookup g) (if g=f then some u else mA g);rw [zdy]
  by_cases q:g=f
  ·rw [if_pos q,if_pos q];exact ry
  ·rw [if_neg q,if_neg q];exact r g
 ·by_cases q:g=f
  ·rw [q];exact (zdB f y fs).1
  ·refine (zdB f y fs).2 g (wi g fun z=>hg ?_);show (if g=f then some u else mA g)=none;rw [if_neg q];exact z
def Inv.made(I:Inv X pins σ H s):Inv X pins σ (upd (upd H s.heap.objs.size (.own (s.heap.objs.size+1))) (s.heap.objs.size+1) (.ins C s.heap.objs.size []))
  { s with heap:=(s.heap.push PySem.W.emptyDict).push (PySem.W.instObj C s.heap.objs.size) }:=by
 have e1:(s.heap.push PySem.W.emptyDict).get? s.heap.objs.size=some PySem.W.emptyDict:=yao s.heap rfl
 have e2:((s.heap.push PySem.W.emptyDict).push (PySem.W.instObj C s.heap.objs.size)).get? (s.heap.objs.size+1)=some (PySem.W.instObj C s.heap.objs.size):=by
  have:=yao (s.heap.push PySem.W.emptyDict) (o:=PySem.W.instObj C s.heap.objs.size) rfl
  rwa [yby] at this
 have e3:(s.heap.push PySem.W.emptyDict).Ns s.heap.objs.size (fun _=>none):=⟨PySem.W.emptyDict,#[],_,e1,rfl,(fun e he=>absurd he (by simp)),fun _=>rfl⟩;have I1:=I.laid (a:=s.heap.objs.size) (o:=.own (s.heap.objs.size+1)) (h':=s.heap.push PySem.W.emptyDict) (t':=s.toks) (fun b u q=>yae _ q) (yaf _) ⟨_,e1⟩;refine I1.laid (a:=s.heap.objs.size+1) (o:=.ins C s.heap.objs.size []) (t':=s.toks) (fun b u q=>yae _ q) (Nat.le_of_eq (yby _ _)) ?_;have ne:s.heap.objs.size≠s.heap.objs.size+1:=yan (ycf _);refine ⟨by rw [zaf ne,zak],yaR _,ne,e2,fun _=>none,(Heap.Ns1.of_empty e3).at fun o q=>yae _ q,fun _=>True.intro,fun y hy=>absurd rfl hy⟩
def znm{prog:Program}{w:World}{env:Env}{e:Expr}{f:Str}{pos:Pos}{s:Shared}{Q:Z5}(hb:attributeBase e f env (eval e env)=eval e env)
  (h:wpAny (model prog w) A (eval e env) (fun o s₁=>wpAny (model prog w) A (getAttr o f true) Q E s₁) E s):wpAny (model prog w) A (eval (.Attribute e f pos) env) Q E s :=
 Attribute_any_ h (by rw [arm_eval_Attribute,hb])
end
noncomputable def zth(K:PySem.W.Frag)(ta:TE)(f:Str):TE:=fun σ H Q=>ta σ H fun x H1=>∃a C dx fs v,x=.ref a/\H1 a=some (.ins C dx fs)/\Cls K C/\zcp K C f/\fs.lookup f=some v/\Q v H1
noncomputable def zvb(K:PySem.W.Frag)(ta tv:TE)(f:Str):TS:=fun D σ H=>tv σ H fun y H1=>ta σ H1 fun x H2=>∃a C dx fs,x=.ref a/\H2 a=some (.ins C dx fs)/\Cls K C/\zcp K C f/\fs.length<1000 ∧
 D.nx σ (upd H2 a (.ins C dx (zcs f y fs)))
noncomputable def zuv(X:Cx)(op:Operator)(rd:V->V->Hp->VK->Prop):Prop :=
 ∀(pins:Z3) (s:Shared) (σ:St) (H:Hp) (x y:V) (u v:Value) (Q:VK),Inv X pins σ H s->zav x u->zav y v->rd x y H Q->wpAny (model X.prog X.w) X.A (inplaceOp op u v) (EP X pins σ Q) X.xe s
section
variable{X:Cx}{o e value:Expr}{f:Str}{pos pos' tpos:Pos}{ta tv:TE}
def zeZ(he:PE X e ta)(hb:attributeBase e f X.env (eval e X.env)=eval e X.env):PE X (.Attribute e f pos) (zth X.K ta f):=by
 intro pins s σ H Q I h;refine znm hb (thn (he pins s σ H _ I h) fun u s1 ⟨x,H1,I1,rx,a,C,dx,fs,v,ex,ea,c,n,l,q⟩=>?_);subst ex;obtain rfl:u=Value.ref a:=rx;exact zgW I1 ea c n l fun u' s2 I2 ru=>⟨v,H1,I2,ru,q⟩
def zk2(ha:PE X o ta)(hv:PE X value tv)(hs:swapsWith value (some (.Attribute o f pos')) pos.line X.env=pure false):PS X (.Assign [.Attribute o f pos'] value pos) (zvb X.K ta tv f):=by
 intro pins s σ H D I h;refine plainObj_wpAny_Assign_Attribute (thn (hv pins s σ H _ I h) fun u s1 ⟨y,H1,I1,ry,q⟩=>thn (ha pins s1 σ H1 _ I1 q) fun ov s2 ⟨x,H2,I2,rx,a,C,dx,fs,ex,ea,c,n,l,q2⟩=>?_) hs;subst ex;obtain rfl:ov=Value.ref a:=rx;exact zgJ I2 ea c n l ry fun s3 I3=>⟨σ,_,I3,q2⟩
noncomputable def ztm:V->V->Hp->VK->Prop:=fun x y H Q=>∃i j,x=.int i/\y=.int j/\Q (.int (i+j)) H
noncomputable def ztl:V->V->Hp->VK->Prop:=fun x y H Q=>∃i j,x=.int i/\y=.int j/\Q (.int (i-j)) H
def zpG:zuv X .Add ztm:=by
 rintro pins s σ H x y u v Q I rx ry ⟨i,j,rfl,rfl,q⟩;obtain ⟨t,rfl⟩:=(show ∃t,u=Value.int i t from rx);obtain ⟨t',rfl⟩:=(show ∃t',v=Value.int j t' from ry);exact PyProof.Rows.iadd_int ⟨.int (i+j),H,I.tok _,⟨_,rfl⟩,q⟩
def zpF:zuv X .Sub ztl:=by
 rintro pins s σ H x y u v Q I rx ry ⟨i,j,rfl,rfl,q⟩;obtain ⟨t,rfl⟩:=(show ∃t,u=Value.int i t from rx);obtain ⟨t',rfl⟩:=(show ∃t',v=Value.int j t' from ry);exact PyProof.Rows.isub_int ⟨.int (i-j),H,I.tok _,⟨_,rfl⟩,q⟩
end
section
variable{X:Cx}{pins:Z3}{σ:St}{H:Hp}{s:Shared}{A:Around}{E:Z5}{Q:Z5}{c:Value}{b:Bool}
inductive TyOf(K:PySem.W.Frag)(H:Hp):V->Value->Prop where
 | non:TyOf K H .non (.type "NoneType")
 | bl (x:Bool):TyOf K H (.bl x) (.type "bool")
 | int (i:Int):TyOf K H (.int i) (.type "int")
 | str (x:Str):TyOf K H (.str x) (.type "str")
 | flt (x:UInt64):TyOf K H (.flt x) (.type "float")
 | lst {a:Addr} {xs:List V} (e:H a=some (.lst xs)):TyOf K H (.ref a) (.type "list")
 | frz {a:Addr} {o:Obj} {xs:List V} (e:H a=some (.frz o (.lst xs))):TyOf K H (.ref a) (.type "list")
 | tup {a:Addr} {xs:List V} (e:H a=some (.tup xs)):TyOf K H (.ref a) (.type "tuple")
 | dK {a:Addr} {kvs:List (Key×V)} (e:H a=some (.dK kvs)):TyOf K H (.ref a) (.type "dict")
 | dT {a:Addr} {kvs:List (List Key×V)} (e:H a=some (.dT kvs)):TyOf K H (.ref a) (.type "dict")
 | ins {a C dx:Addr} {fs:List (Str×V)} (e:H a=some (.ins C dx fs)) (cl:Cls K C) (ha:PySem.W.findIn K (.ref C) "__class__" = some (some (.builtin "object.__class__")))
   (hn:PySem.W.specialIn K (.builtin "object.__class__") "__get__" = some (some (.builtin "getset_descriptor.__get__"))) (htk:PySem.W.takesIn K (.builtin "object.__class__")=some true)
   (hm:PySem.W.mroIn K C (.type "object")=some true):TyOf K H (.ref a) (.ref C)
def ziC{x:V}{u t:Value}(I:Inv X pins σ H s)(rx:zav x u)(ty:TyOf X.K H x t)(e:PySem.W.kitOne X.K t c=some b)(h:∀tk,Q (.bool b) { s with toks:=tk }) :
  wpAny (model X.prog X.w) A (call (.builtin "isinstance") [u,c]) Q E s:=by
 cases ty with
 | non=>cases (show u=Value.none from rx);exact yaY PySem.W.kitx_none I.kIn True.intro e (fun z=>nomatch z) h
 | bl y=>cases (show u=Value.bool y from rx);exact yaY PySem.W.kitx_bool I.kIn True.intro e (fun z=>nomatch z) h
 | int i=>obtain ⟨t,q⟩:=(show ∃t,u=Value.int i t from rx);cases q;exact yaY PySem.W.kitx_int I.kIn True.intro e (fun z=>nomatch z) h
 | str y=>obtain ⟨t,q⟩:=(show ∃t,u=Value.str y t from rx);cases q;exact yaY PySem.W.kitx_str I.kIn True.intro e (fun z=>nomatch z) h
 | flt y=>obtain ⟨t,q⟩:=(show ∃t,u=Value.float y t from rx);cases q;exact yaY PySem.W.kitx_float I.kIn True.intro e (fun z=>nomatch z) h
 | @lst a xs ea =>
  cases (show u=Value.ref a from rx);obtain ⟨_,_,n,_,h1⟩:=(show zaQ X.prog X.w H s.heap a (.lst xs) from I.hok a _ ea);exact yaY PySem.W.kitx_list I.kIn ⟨_,h1,rfl⟩ e (fun z=>nomatch z) h
 | @frz a ob xs ea =>
  cases (show u=Value.ref a from rx);obtain ⟨_,_,_,n,_,h1⟩:=(show zaQ X.prog X.w H s.heap a (.frz ob (.lst xs)) from I.hok a _ ea);exact yaY PySem.W.kitx_list I.kIn ⟨_,h1,rfl⟩ e (fun z=>nomatch z) h
 | @tup a xs ea =>
  cases (show u=Value.ref a from rx);obtain ⟨_,_,_,p⟩:=(show zaQ X.prog X.w H s.heap a (.tup xs) from I.hok a _ ea);obtain ⟨o,h1,h2,_⟩:=p;exact yaY PySem.W.kitx_tuple I.kIn ⟨o,h1,h2⟩ e (fun z=>nomatch z) h
 | @dK a kvs ea =>
  cases (show u=Value.ref a from rx);obtain ⟨_,_,vs,_,p⟩:=(show zaQ X.prog X.w H s.heap a (.dK kvs) from I.hok a _ ea);obtain ⟨o,es,ep,h1,h2,_⟩:=p;exact yaY PySem.W.kitx_dict I.kIn ⟨o,h1,h2.1⟩ e (fun z=>nomatch z) h
 | @dT a kvs ea =>
  cases (show u=Value.ref a from rx);obtain ⟨_,_,xs,_,o,es,ep,h1,h2,_⟩:=(show zaQ X.prog X.w H s.heap a (.dT kvs) from I.hok a _ ea);exact yaY PySem.W.kitx_dict I.kIn ⟨o,h1,h2.1⟩ e (fun z=>nomatch z) h
 | @ins a C dx fs ea cl ha hn htk hm =>
  cases (show u=Value.ref a from rx);obtain ⟨mA,O,_⟩:=zeu I.hok ea;obtain ⟨od,J,_⟩:=O.look;exact yaY (PySem.W.kitx_own (cl.get _) cl.hd ha hn htk hm) I.kIn J e (fun z=>nomatch z) h
end
end L2
namespace L2
open PySem PySem.Spec PyProof.Rows
structure Room(k:Nat)(A:Around):Prop where
 hd:A.handled=none
 dp:A.depth+3*k+5<recursionLimit
 un:A.units+16*k+200<cLine
def Room.mono{j k:Nat}{A:Around}(r:Room k A)(h:j<=k):Room j A:=⟨r.hd,by have:=r.dp;omega,by have:=r.un;omega⟩
theorem Room.deeper{k:Nat}{A:Around}(r:Room (k+1) A)(env:Env):Room k (A.deeper env) :=
 ⟨r.hd,by have:=r.dp;show A.depth+1+3*k+5<_;omega,by have:=r.un;show A.units+3+16*k+200<_;omega⟩
def zgS{A:Around}{C:Addr}{us:List Value}{kw:List (Str×Value)}:(A.under (.builtin "type.__call__" ⟨.ref C::us,kw⟩)).depth=A.depth+1:=by
 first | rfl | simp [Around.under,Code.weight,Code.isCreation,Code.isGuard,Code.isCaller,Code.frames,Code.isFrame,guardIds]
def zgR{A:Around}{C:Addr}{us:List Value}{kw:List (Str×Value)}:(A.under (.builtin "type.__call__" ⟨.ref C::us,kw⟩)).units=A.units+1:=by
 first | rfl | simp [Around.under,Code.cUnits,Code.frames,Code.isFrame]
def Room.make{k:Nat}{A:Around}(r:Room (k+1) A)(C:Addr)(us:List Value)(kw:List (Str×Value)):Room k (A.under (.builtin "type.__call__" ⟨.ref C::us,kw⟩)) :=
 ⟨r.hd,by have:=r.dp;rw [zgS];omega,by have:=r.un;rw [zgR];omega⟩
theorem Room.depth{k:Nat}{A:Around}(r:Room k A):A.depth<recursionLimit:=by have:=r.dp;omega
theorem Room.units{k:Nat}{A:Around}(r:Room k A):A.units+64<cLine:=by have:=r.un;omega
noncomputable def zqj:TA:=fun _ H Q=>Q [] H
noncomputable def zlH(ta:TE)(tr:TA):TA:=fun σ H Q=>ta σ H fun x H1=>tr σ H1 fun xs H2=>Q (x::xs) H2
section
variable{X:Cx}{e:Expr}{es:List Expr}{te:TE}{t:TA}{pos:Pos}
def zdw:PA X [] zqj:=fun _ _ _ _ H Q I h=>ycD ⟨[],H,I,.nil,h⟩
def zbI(ha:PE X e te)(hr:PA X es t)(hs:starEach (e::es) X.env=(false,eval e X.env)::starEach es X.env:=by rfl):PA X (e::es) (zlH te t):=by
 intro pos pins s σ H Q I h;rw [hs];show wpAny _ _ (spliced ((false,eval e X.env)::backTo pos (starEach es X.env))) _ _ s;refine ybB (thn (ha pins s σ H _ I h) fun u s1 ⟨x,H1,I1,r1,q1⟩=>?_);exact thn (hr pos pins s1 σ H1 _ I1 q1) fun us s2 ⟨xs,H2,I2,r2,q2⟩=>⟨x::xs,H2,I2,.cons r1 r2,q2⟩
noncomputable def zu3(t:TA):TE:=fun σ H Q=>t σ H fun xs H1=>xs.length<=sizeLine/\∀p,H1 p=none->Q (.ref p) (upd H1 p (.tup xs))
noncomputable def zu7(t:TA):TE:=fun σ H Q=>t σ H fun xs H1=>xs.length<=sizeLine/\∀p,H1 p=none->Q (.ref p) (upd H1 p (.lst xs))
def zoP{x1}(h:PA X es t):PE X (.Tuple es x1 pos) (zu3 t):=by
 intro pins s σ H Q I hq;refine wpAny_Tuple_spliced (thn (h pos pins s σ H _ I hq) fun us s1 ⟨xs,H1,I1,r,z,q⟩=>⟨by rw [<-r.length];exact z,?_⟩);have hf:H1 s1.heap.objs.size=none:=I1.hok.fresh (yaf _);refine ⟨.ref s1.heap.objs.size,upd H1 s1.heap.objs.size (.tup xs),I1.laid (t':=s1.toks) (fun b u e=>yae _ e) (yaf _) ?_,rfl,q _ hf⟩;exact ⟨z,us,r,⟨_,yao _ rfl,rfl,_,rfl⟩⟩
def zk6(h:PA X es t):PE X (.List es pos) (zu7 t):=by
 intro pins s σ H Q I hq;refine wpAny_List_spliced (thn (h pos pins s σ H _ I hq) fun us s1 ⟨xs,H1,I1,r,z,q⟩=>⟨by rw [<-r.length];exact z,?_⟩);have hf:H1 s1.heap.objs.size=none:=I1.hok.fresh (yaf _);refine ⟨.ref s1.heap.objs.size,upd H1 s1.heap.objs.size (.lst xs),I1.laid (t':=s1.toks) (fun b u e=>yae _ e) (yaf _) ?_,rfl,q _ hf⟩;exact ⟨z,us,0,r,yao _ rfl⟩
end
noncomputable abbrev Sp:=List V->Hp->VK->XK->Prop
noncomputable abbrev CXT:=List Env->Hp->Shared->XK->Value->Shared->Prop
structure Env0(P:Program)(w:World)(K:PySem.W.Frag)(mg:Z6)(base:Heap)(A:Around)(outer:List Env)(s:Shared)(H:Hp):Prop where
 frames:A.frames=some outer
 mod:Mod K mg base
 bs:∀b o,base.get? b=some o->s.heap.get? b=some o/\H b=none
 bsz:base.objs.size<=s.heap.objs.size
 funs:s.heap.FunFrames base outer
 frf:∀b∈frs outer,H b=none
 hok:HOk P w H s.heap
 bare:AllBare s.gens
noncomputable def CE(outer:List Env)(P:Program)(w:World)(H:Hp)(s:Shared)(Q:VK)(u:Value)(s':Shared):Prop :=
 ∃v H',s'.os=s.os/\AllBare s'.gens/\Un (frs outer) [] H H' s.heap s'.heap/\HOk P w H' s'.heap/\zav v u/\Q v H'
noncomputable def CR(CX:CXT)(outer:List Env)(P:Program)(w:World)(H:Hp)(s:Shared)(Q:VK)(E:XK)(r:Result)(s':Shared):Prop :=
 match r with
 | .ok (.ret u)=>CE outer P w H s Q u s'
 | .ok _=>False
 | .error e=>CX outer H s E e s'
structure FnOk(P:Program)(w:World)(K:PySem.W.Frag)(mg:Z6)(base:Heap)(CX:CXT)(k:Nat)(f:Addr)(fd:FuncData)(ps:List Str)(sp:Sp):Prop where
 len:∀vs H Q E,sp vs H Q E->vs.length=ps.length
 run:∀(A:Around) (outer:List Env) (s:Shared) (H:Hp) (args:Args) (us:List Value) (vs:List V) (Q:VK) (E:XK),Room k A->Env0 P w K mg base A outer s H->BindsTo s fd args (ps.zip us)->Vals vs us->sp vs H Q E →
  codeAny (model P w) A (.call (.ref f) args) (CR CX outer P w H s Q E) s
theorem FnOk.mono{P:Program}{w:World}{K:PySem.W.Frag}{mg:Z6}{base:Heap}{CX:CXT}{j k:Nat}{f:Addr}{fd:FuncData}{ps:List Str}{sp:Sp}(F:FnOk P w K mg base CX j f fd ps sp)(h:j<=k) :
  FnOk P w K mg base CX k f fd ps sp:=⟨F.len,fun A outer s H args us vs Q E hr=>F.run A outer s H args us vs Q E (hr.mono h)⟩
def FnOk.imp{P:Program}{w:World}{K:PySem.W.Frag}{mg:Z6}{base:Heap}{CX:CXT}{k:Nat}{f:Addr}{fd:FuncData}{ps:List Str}{sp sp':Sp}(F:FnOk P w K mg base CX k f fd ps sp)
  (h:∀vs H Q E,sp' vs H Q E->sp vs H Q E):FnOk P w K mg base CX k f fd ps sp' :=
 ⟨fun vs H Q E q=>F.len vs H Q E (h _ _ _ _ q),fun A outer s H args us vs Q E hr he hb hv hs=>F.run A outer s H args us vs Q E hr he hb hv (h _ _ _ _ hs)⟩
def Env0.make{P:Program}{w:World}{K:PySem.W.Frag}{mg:Z6}{base:Heap}{A:Around}{outer:List Env}{s:Shared}{H:Hp}(e:Env0 P w K mg base A outer s H)(C:Addr)(us:List Value)(kw:List (Str×Value)) :
  Env0 P w K mg base (A.under (.builtin "type.__call__" ⟨.ref C::us,kw⟩)) outer s H:=⟨by first | exact e.frames | (simpa [Around.under,Code.envs,Code.isFrame,pushEnvs] using e.frames),e.mod,e.bs,e.bsz,e.funs,e.frf,e.hok,e.bare⟩
section
variable{X:Cx}{pins:Z3}{σ:St}{H:Hp}{s s':Shared}
def Inv.env0(I:Inv X pins σ H s):Env0 X.prog X.w X.K X.mg X.base X.A X.stack s H :=
 ⟨I.ok.frames,I.ok.mod,I.bs,yal I.ok.bsz I.sz,I.stack,I.stkFree,I.hok,I.bare⟩
def Inv.after{Q:VK}{u:Value}(I:Inv X pins σ H s)(h:CE X.stack X.prog X.w H s Q u s'):EP X pins σ Q u s':=by
 obtain ⟨v,H',os,bare,un,hok,r,q⟩:=h;obtain ⟨hh,g,d,t,os'⟩:=s';obtain rfl:os'=s.os:=os;exact ⟨v,H',I.call (h':=hh) (g':=g) (d':=d) (t':=t) (ch:=[]) un hok bare (fun b z=>absurd z (by simp)),r,q⟩
end
noncomputable def zck(K:PySem.W.Frag)(fd:FuncData)(ps:List Str)(ds:List Value):Prop :=
 ∀(s:Shared) (us:List Value),K.In s.heap->(us++ds).length=ps.length->BindsTo s fd ⟨us,[]⟩ (ps.zip (us++ds))
def zck.all{K:PySem.W.Frag}{fd:FuncData}{ps:List Str}(h:∀us:List Value,us.length=ps.length->bindArgs fd ⟨us,[]⟩=pure (ps.zip us)):zck K fd ps []:=fun s us _ hl=>by
 rw [yaN] at hl ⊢;exact .of_eq (h us hl)
noncomputable def zqc(CX:CXT)(X:Cx)(E:XK):Prop:=∀(pins:Z3) (σ:St) (H:Hp) (s:Shared) (e:Value) (s':Shared),Inv X pins σ H s->CX X.stack H s E e s'->X.xe e s'
section
variable{X:Cx}{CX:CXT}{k:Nat}{f C:Addr}{fd:FuncData}{ps:List Str}{sp:Sp}{dvs:List V}{ds:List Value}{E:XK}{x m:Str}{p pos apos:Pos}{e o:Expr}{es:List Expr}{ta:TE}{t:TA}
structure Mk(K:PySem.W.Frag)(C f:Addr):Prop where
 makes:PySem.W.makesIn K C=true
 init:PySem.W.findIn K (.ref C) "__init__" = some (some (.ref f))
 fn:PySem.W.isFn K (.ref f)=true
 kp:PySem.W.keepIn K (.ref C)=true
end
section
variable{X:Cx}{CX:CXT}{k:Nat}{f C:Addr}{fd:FuncData}{ps ks:List Str}{sp:Sp}{E:XK}{x m:Str}{p pos apos kpos:Pos}{e o:Expr}{es:List Expr}{kws:List Keyword}{te ta:TE}{t tk:TA}{nm:Option Str}
variable{g:List Value->List Value->List Value}{gV:List V->List V->List V}
end
structure FnScope(N P:List Str)(sc:Scope):Prop where
 kind:sc.kind=.function
 co:sc.isCoroutine=false
 gen:sc.isGenerator=false
 nd:N.Nodup
 pre:N.take P.length=P
 par:∀x∈P,sc.names.lookup x=some .local\/sc.names.lookup x=some .cell
 nofree:∀y∈sc.names,y.2≠.free
theorem zfl{kindOf:Str->Option NameKind}{x:Str}:∀{binds:List (Str×Value)} {m:Z6},(∀v,(x,v) ∉ binds)->bindL kindOf binds m x=m x
 | [],_,_=>rfl
 | (n,v)::r,m,h=>by
  unfold bindL;rw [zfl fun w hw=>h w (yas _ hw)];split
  ·have:x≠n:=by rintro rfl;exact h v yaA
   simp [this]
  ·rfl
theorem zfn{kindOf:Str->Option NameKind}{x:Str}:∀{binds:List (Str×Value)} {m:Z6},(∀v,(x,v) ∉ binds)->bindC kindOf binds m x=m x
 | [],_,_=>rfl
 | (n,v)::r,m,h=>by
  unfold bindC;rw [zfn fun w hw=>h w (yas _ hw)];split
  ·rfl
  ·have:x≠n:=by rintro rfl;exact h v yaA
   simp [this]
theorem zfm{kindOf:Str->Option NameKind}{x:Str}{v:Value}:∀{P:List Str} {vs:List Value} {i:Nat} {m:Z6},P.Nodup->P[i]?=some x->vs[i]?=some v->kindOf x=some .local →
  bindL kindOf (P.zip vs) m x=some v
 | [],_,_,_,_,h,_,_=>by simp at h
 | _::_,[],_,_,_,_,h,_=>by simp at h
 | p::P,w::vs,0,m,nd,h1,h2,hk=>by
  simp at h1 h2;subst h1;subst h2;show bindL kindOf ((p,w)::P.zip vs) m p=_;unfold bindL;rw [zfl fun v hv=>(ybE.mp nd).1 (List.of_mem_zip hv).1,if_pos hk];simp
 | p::P,w::vs,i+1,m,nd,h1,h2,hk=>by
  show bindL kindOf ((p,w)::P.zip vs) m x=_;unfold bindL;exact zfm (i:=i) (ybE.mp nd).2 (by simpa using h1) (by simpa using h2) hk
theorem zfo{kindOf:Str->Option NameKind}{x:Str}{v:Value}:∀{P:List Str} {vs:List Value} {i:Nat} {m:Z6},P.Nodup->P[i]?=some x->vs[i]?=some v->kindOf x≠some .local →
  bindC kindOf (P.zip vs) m x=some v
 | [],_,_,_,_,h,_,_=>by simp at h
 | _::_,[],_,_,_,_,h,_=>by simp at h
 | p::P,w::vs,0,m,nd,h1,h2,hk=>by
  simp at h1 h2;subst h1;subst h2;show bindC kindOf ((p,w)::P.zip vs) m p=_;unfold bindC;rw [zfn fun v hv=>(ybE.mp nd).1 (List.of_mem_zip hv).1,if_neg hk];simp
 | p::P,w::vs,i+1,m,nd,h1,h2,hk=>by
  show bindC kindOf ((p,w)::P.zip vs) m x=_;unfold bindC;exact zfo (i:=i) (ybE.mp nd).2 (by simpa using h1) (by simpa using h2) hk
noncomputable def zef(N:List Str)(vs:List V):St:=vs.map some++List.replicate (N.length-vs.length) none
noncomputable def zjp(CX:CXT)(P:Program)(w:World)(K:PySem.W.Frag)(mg:Z6)(base:Heap)(N:List Str)(qual:Str)(scope:Scope)(f:Addr)(cd:Value)(A:Around)(outer:List Env)(s:Shared)(H:Hp)(E:XK):Cx where
 prog:=P
 w:=w
 K:=K
 mg:=mg
 base:=base
 A:=A.deeper (envOfC qual scope s.heap.objs.size f cd)
 N:=N
 s₀:=s
 H₀:=H
 env:=envOfC qual scope s.heap.objs.size f cd
 outer:=outer
 stack:=envOfC qual scope s.heap.objs.size f cd::outer
 ex:=[]
 calm:=true
 fn:=fun _=>true
 pn:=[]
 xe:=fun e s'=>wpAny (model P w) (A.deeper (envOfC qual scope s.heap.objs.size f cd)) (leaving (envOfC qual scope s.heap.objs.size f cd) e) (fun _ s''=>CX outer H s E e s'') (fun e' s''=>CX outer H s E e' s'') s'
def zgx{sc:Scope}{n:Nat}{x:Str}(h:sc.names.lookup x=some .cell):∃c,(cellsFrom n sc.names []).lookup x=some c:=by
 have q:=PySem.W.cellsFrom_some sc.names n [] (.inl h);exact ybU.mp q
def ziG{CX:CXT}{P:Program}{w:World}{K:PySem.W.Frag}{mg:Z6}{base:Heap}{N ps:List Str}{qual:Str}{scope:Scope}{f:Addr}{cd:Value}{A:Around}{outer:List Env}{s s1:Shared}{H:Hp}{E:XK}{us:List Value}{vs:List V}
  (S:FnScope N ps scope) (hd:A.handled=none) (e0:Env0 P w K mg base A outer s H) (hl:vs.length=ps.length) (r:Vals vs us)
  (x:InCallC s s.heap.objs.size (bindL (envOfC qual scope s.heap.objs.size f cd).kindOf (ps.zip us) fun _=>none) (cellsFrom (s.heap.objs.size+1) scope.names []) (bindC (envOfC qual scope s.heap.objs.size f cd).kindOf (ps.zip us) fun _=>none) s1) :
  Inv (zjp CX P w K mg base N qual scope f cd A outer s H E) [] (zef N vs) H s1:=by
 have hpl:ps.length<=N.length:=by have:=congrArg List.length S.pre;rw [yaG] at this;omega
 obtain ⟨h1,tk,rfl,hk⟩:=x.done;have noA:∀b:Addr,b ∉ (zjp CX P w K mg base N qual scope f cd A outer s H E).ex:=fun b z=>absurd (show b∈([]:List Addr) from z) (by simp)
 refine ⟨⟨e0.mod,S.kind,rfl,rfl,yaf _,fun y z c h1 h2=>?_,fun y hy=>?_,fun y c _ h=>?_,fun _=>hd,Around.frames_deeper e0.frames,.inr ⟨rfl,rfl⟩,fun b z=>absurd z (noA b),e0.bs,e0.bsz,fun b _ _=>noA b,fun b z=>absurd z (noA b),e0.funs,e0.frf⟩,
  rfl,e0.bare,Un.kept hk,⟨_,x.toInCall.ns,fun i y v h1 h2 h3=>?_⟩,fun y c h=>⟨_,x.cell y c h⟩,e0.hok.fresh (yaf _),fun y c h=>?_,fun p hp=>absurd (show p∈([]:Z3) from hp) (by simp),e0.hok.kept hk,?_⟩
 ·exact name_of_addr x.apart (yaC h1) (yaC h2)
 ·have hy:scope.names.lookup y=some .cell\/scope.names.lookup y=some .free:=hy
  rcases hy with hy | hy
  ·exact zgx hy
  ·exact absurd rfl (S.nofree _ (yaC hy))
 ·exact Nat.le_of_lt (x.above y c (yaC h))
 ·have hi:i<vs.length:=by
   unfold zef at h2
   by_cases hi:i<vs.length
   ·exact hi
   ·rw [yat (by simpa using hi)] at h2;rw [ybs] at h2
    split at h2<;>cases h2
  have ha:vs[i]?=some v:=by
   unfold zef at h2;rw [yaH (by simpa using hi),yax] at h2
   cases e:vs[i]? with
   | none=>rw [e] at h2;cases h2
   | some a=>rw [e] at h2;cases h2;rfl
  obtain ⟨u,hu,rv⟩:=r.get ha
  have hp:ps[i]?=some y:=by
   rw [<-S.pre,List.getElem?_take_of_lt (by omega)];exact h1
  have ndP:ps.Nodup:=by rw [<-S.pre];exact S.nd.sublist (List.take_sublist _ _)
  refine ⟨u,rv,?_⟩
  rcases S.par y (ya4 hp) with k | k
  ·exact .inl ⟨k,zfm ndP hp hu k⟩
  ·obtain ⟨c,e⟩:=zgx (n:=s.heap.objs.size+1) k;refine .inr ⟨.inl k,c,e,?_⟩;have q:=x.cell y c e;rw [zfo ndP hp hu (by show scope.names.lookup y≠_;rw [k];decide)] at q;exact q
 ·exact e0.hok.fresh (Nat.le_of_lt (x.above y c (yaC h)))
 ·unfold zef;show _=N.length;rw [yar,yak,yaK];omega
def zr2{CX:CXT}{P:Program}{w:World}{K:PySem.W.Frag}{mg:Z6}{base:Heap}{k:Nat}{f:Addr}{name qual:Str}{params:Arguments}{body:List Stmt}{scope:Scope}{dV kV doc pm cdv ct oc:Value}{an od:Option Addr}
  {osl:Array (Option Value)} {N ps:List Str} {sp:Sp} (lk:K.lookup f=some ⟨oc,od,.func (PySem.W.fnOf name qual params body scope dV kV doc pm an cdv ct),osl⟩) (hcd:PySem.W.codeIn K cdv qual=true) (S:FnScope N ps scope)
  (len:∀vs H Q E,sp vs H Q E->vs.length=ps.length)
  (hbody:∀(A:Around) (outer:List Env) (s:Shared) (H:Hp) (vs:List V) (Q:VK) (E:XK),Room k (A.deeper (envOfC qual scope s.heap.objs.size f cdv))->sp vs H Q E →
   ∃t,PSs (zjp CX P w K mg base N qual scope f cdv A outer s H E) body t/\t { nx:=fun _ H'=>Q .non H',rt:=Q } (zef N vs) H) :
  FnOk P w K mg base CX (k+1) f (PySem.W.fnOf name qual params body scope dV kV doc pm an cdv ct) ps sp:=by
 refine ⟨len,fun A outer s H args us vs Q E hr e0 hb r hsp=>?_⟩;have hl:=len _ _ _ _ hsp;have KX:K.In s.heap:=e0.mod.kin.keeps fun b o e=>(e0.bs b o e).1
 have lim:s.heap.NoLimit:=e0.mod.nolimit.keeps fun b o e=>(e0.bs b o e).1
 have hkind:∀y∈ps.zip us,scope.names.lookup y.1=some .local\/(scope.names.lookup y.1=some .cell/\((cellsFrom (s.heap.objs.size+1) scope.names []).lookup y.1).isSome=true):=fun ⟨n,v⟩ hy=>by
  rcases S.par n (List.of_mem_zip hy).1 with q | q
  ·exact .inl q
  ·exact .inr ⟨q,PySem.W.cellsFrom_some _ _ _ (.inl q)⟩
 refine codeAny_call_function hr.depth (KX _ _ lk) rfl S.co S.gen rfl (PySem.W.codeRec_of KX hcd) (hb _ _ _ _ ?_);refine wpAny_newFunctionEnv_cells S.kind hkind fun env he s1 x=>?_
 subst he;refine ⟨lim.keeps x.toInCall.keep,codeAny_func ?_⟩;obtain ⟨t,ht,hq⟩:=hbody A outer s H vs Q E (hr.deeper _) hsp;have I:Inv (zjp CX P w K mg base N qual scope f cdv A outer s H E) [] (zef N vs) H s1:=ziG S hr.hd e0 hl r x;refine ybe (ht [] s1 (zef N vs) H _ I hq) (fun fl s' hs=>?_) fun e s' hs=>hs
 have fin:∀{σ':St} {H':Hp} {v:V} {u:Value},Inv (zjp CX P w K mg base N qual scope f cdv A outer s H E) [] σ' H' s'->zav v u->Q v H'->CE outer P w H s Q u s' :=
  fun {σ' H' v u} J rv q=>⟨v,H',J.os,J.bare,J.base,J.hok,rv,q⟩
 cases fl with
 | ret u =>
  obtain ⟨v,σ',H',J,rv,q⟩:=hs;exact fin J rv q
 | next =>
  obtain ⟨σ',H',J,q⟩:=hs;exact fin (v:=V.non) (u:=Value.none) J rfl q
 | brk =>
  obtain ⟨_,_,_,q⟩:=hs;exact False.elim q
 | cont =>
  obtain ⟨_,_,_,q⟩:=hs;exact False.elim q
end L2
namespace L2
open PySem PySem.Spec PyProof.Rows
section
variable{X:Cx}{x:Str}{p pos:Pos}{e:Expr}{es:List Expr}{t:TA}{id T:String}{r:List V->Hp->VK->Prop}
noncomputable def tCB(r:List V->Hp->VK->Prop)(t:TA):TE:=fun σ H Q=>t σ H fun vs H1=>r vs H1 Q
def zdm(hc:zc9 X (.builtin id) r)(hg:Gl X x)(hm:X.mg x=none)(hv:bootBuiltins x=some (.builtin id))(ha:PA X (e::es) t)(hn:x ≠ "__name__":=by decide)(hdb:(x == ("__debug__":Str))=false:=by decide)
  (he:starEach (e::es) X.env=(false,eval e X.env)::starEach es X.env:=by rfl) (hpl:(backTo pos (starEach es X.env)).any (·.1)=false:=by rfl):PE X (.Call (.Name x p) (e::es) [] pos) (tCB r t):=by
 intro pins s σ H Q I h;refine ybC (ze8 I hg hm hv ?_ hn hdb);exact PyProof.Rows.callWith_builtin1 (thn (ha pos pins s σ H _ I h) fun us s1 ⟨vs,H1,I1,r1,q1⟩=>hc pins s1 σ H1 vs us Q I1 r1 q1) he hpl
def zcL(hc:zc9 X (.type T) r)(hg:Gl X x)(hm:X.mg x=none)(hv:bootBuiltins x=some (.type T))(ha:PA X (e::es) t)(hn:x ≠ "__name__":=by decide)(hdb:(x == ("__debug__":Str))=false:=by decide)
  (he:starEach (e::es) X.env=(false,eval e X.env)::starEach es X.env:=by rfl) (hpl:(backTo pos (starEach es X.env)).any (·.1)=false:=by rfl):PE X (.Call (.Name x p) (e::es) [] pos) (tCB r t):=by
 intro pins s σ H Q I h;refine ybC (ze8 I hg hm hv ?_ hn hdb);exact ybD (thn (ha pos pins s σ H _ I h) fun us s1 ⟨vs,H1,I1,r1,q1⟩=>hc pins s1 σ H1 vs us Q I1 r1 q1) he hpl
end
end L2
namespace HT
open PySem PyProof.Rows
section
open PySem.SeqAt
open PySem.AutoSeq1 (wpAny_loadPart')
open PySem.MeetsSeq PySem.MeetsSeq2 PySem.MeetsSeq3
end
section
variable{prog:Program}{w:World}{A:Around}{E:Z5}{s:Shared}
def zni{t b:Addr}{vs ws:List Value}{Q:Z5}(ht:IsTup s.heap t vs.toArray)(hb:IsTup s.heap b ws.toArray)(hv:vs≠[])
  (h1:ws=[]->Q (.ref t) s) (h2:ws≠[]->Q (.ref s.heap.objs.size) { s with heap:=s.heap.push { cls:=.type "tuple",data:=.seq (vs++ws).toArray } })
  (hsz:vs.length+ws.length<=sizeLine):wpAny (model prog w) A (binaryOp .Add (.ref t) (.ref b)) Q E s:=by
 obtain ⟨⟨cls,dd,data,sl⟩,ho,hc,n,hd⟩:=id ht;obtain ⟨⟨cls2,dd2,data2,sl2⟩,ho2,hc2,n2,hd2⟩:=id hb;simp only at hc hd hc2 hd2;subst hc hd hc2 hd2
 have e:vs.toArray++ws.toArray=(vs++ws).toArray:=by simp
 by_cases hw:ws=[]
 ·exact concat_meets ⟨_,ho,rfl⟩ ⟨_,ho2,rfl⟩ noFill_tuple_add seq_tuple_add yb4 ybZ (ybV _ _)
   (tuple_addW1 t b vs.toArray ws.toArray n n2 dd dd2 sl sl2 (by simpa using hv) (by simp [hw])) ⟨ho,ho2,h1 hw⟩
 ·refine concat_meets ⟨_,ho,rfl⟩ ⟨_,ho2,rfl⟩ noFill_tuple_add seq_tuple_add yb4 ybZ (ybV _ _)
   (tuple_addW2 t b vs.toArray ws.toArray n n2 dd dd2 sl sl2 (by simpa using hv) (by simpa using hw) (by rw [yai,yai];exact hsz)) ⟨ho,ho2,?_⟩
  rw [e];exact h2 hw
noncomputable def sIx(n d:Nat):Option Int->Nat
 | none=>d
 | some v=>if v<0 then (v+(n:Int)).toNat else min v.toNat n
def zhN(n d k:Nat):sIx n d (some (k:Int))=min k n:=by
 show (if (k:Int)<0 then ((k:Int)+(n:Int)).toNat else min (k:Int).toNat n)=min k n;rw [if_neg (by omega),ya2]
def zov(n d:Nat)(hd:d<=n)(o:Option Int):sIx n d o<=n:=by
 cases o with
 | none=>exact hd
 | some v =>
  show (if v<0 then (v+(n:Int)).toNat else min v.toNat n)<=n
  by_cases hv:v<0
  ·rw [if_pos hv];omega
  ·rw [if_neg hv];exact Nat.min_le_right _ _
def zi2(v:Int)(n d:Nat):(if v<0 then max (v+(n:Int)) 0 else min v (n:Int))=((sIx n d (some v):Nat):Int):=by
 show (if v<0 then max (v+(n:Int)) 0 else min v (n:Int))=(((if v<0 then (v+(n:Int)).toNat else min v.toNat n):Nat):Int)
 by_cases hv:v<0
 ·simp only [if_pos hv];omega
 ·simp only [if_neg hv];omega
def zhb(lo hi:Option Int)(n:Nat):Builtin.Slice.sliceAdjust lo hi 1 (n:Int)=(((sIx n 0 lo:Nat):Int),((sIx n n hi:Nat):Int)):=by
 have h1:¬ ((1:Int)<0):=by omega
 unfold Builtin.Slice.sliceAdjust;simp only [h1,ybm];refine Prod.ext ?_ ?_
 ·cases lo with
  | none=>rfl
  | some v=>exact zi2 v n 0
 ·cases hi with
  | none=>rfl
  | some v=>exact zi2 v n n
def zgM(i j:Nat):Builtin.Slice.slicePlaces (i:Int) (j:Int) 1=j-i:=by
 unfold Builtin.Slice.slicePlaces
 have h1:(1:Int) > 0:=by omega
 simp only [h1,ybM,Int.ediv_one]
 split<;>omega
def zdX{v:Value}{o:Option Int}{Q:Option Int->Shared->Prop}(p:IsPart v o)(h:Q o s):wpAny (model prog w) A (Builtin.Slice.slicePartIndex v) Q E s:=by
 cases p with
 | none=>exact slicePart_none h
 | int i t=>exact slicePart_int h
def zbO{sl:Addr}{vl vu:Value}{lo hi:Option Int}{n:Nat}{Q:Int×Int×Nat->Shared->Prop}(hs:s.heap.IsSliceOf sl vl vu .none)(pl:IsPart vl lo)(pu:IsPart vu hi)
  (h:Q (((sIx n 0 lo:Nat):Int),1,sIx n n hi-sIx n 0 lo) s):wpAny (model prog w) A (Builtin.Slice.sliceApplied (.ref sl) (pure (n:Int))) Q E s:=by
 obtain ⟨os,hos,hcs,hds⟩:=id hs;unfold Builtin.Slice.sliceApplied Builtin.Slice.sliceFields;refine yaa (yaa (wpAny_field hos hds (x:=vl) rfl (yaa (wpAny_field hos hds (x:=vu) rfl (yaa (wpAny_field hos hds (x:=.none) rfl (yac ?_)))))));refine yaa (slicePart_none ?_);show wpAny _ _ (if ((1:Int) == 0)=true then _ else _) _ _ s;rw [if_neg (by decide)];refine yaa (zdX pl (yaa (zdX pu (yaa (yac ?_)))));show wpAny _ _ (match Builtin.Slice.sliceAdjust lo hi 1 (n:Int) with | (lo,hi)=>pure (lo,(1:Int),Builtin.Slice.slicePlaces lo hi 1)) _ _ s;rw [zhb lo hi n];show wpAny _ _ (pure (((sIx n 0 lo:Nat):Int),(1:Int),Builtin.Slice.slicePlaces ((sIx n 0 lo:Nat):Int) ((sIx n n hi:Nat):Int) 1)) _ _ s;rw [zgM];exact yac h
def zjM(xs:Array Value)(i k:Nat):((List.range k).filterMap fun (m:Nat)=>xs[((i:Int)+(m:Int)*1).toNat]?).toArray=((xs.toList.drop i).take k).toArray:=by
 have e:(fun (m:Nat)=>xs[((i:Int)+(m:Int)*1).toNat]?)=fun m=>xs[i+m]?:=by
  funext m
  have:((i:Int)+(m:Int)*1).toNat=i+m:=by omega
  rw [this]
 rw [e];have:=pick_run xs i k;rw [List.filterMap_map] at this;have e2:((fun x=>xs[x]?)∘fun x=>i+x)=fun m=>xs[i+m]?:=rfl
 rw [e2] at this;rw [this]
def zc5{t sl:Addr}{items:Array Value}{vl vu:Value}{lo hi:Option Int}{Q:Z5}(ht:IsTup s.heap t items)(hs:s.heap.IsSliceOf sl vl vu .none)(pl:IsPart vl lo)(pu:IsPart vu hi)
  (hw:¬ (sIx items.size 0 lo=0/\sIx items.size items.size hi=items.size))
  (h:Q (.ref s.heap.objs.size) { s with heap:=s.heap.push { cls:=.type "tuple",data:=.seq ((items.toList.drop (sIx items.size 0 lo)).take (sIx items.size items.size hi-sIx items.size 0 lo)).toArray } })
  (hsz:items.size<=sizeLine):wpAny (model prog w) A (getItem (.ref t) (.ref sl)) Q E s:=by
 have htake:sizeOk (.seq ((items.toList.drop (sIx items.size 0 lo)).take (sIx items.size items.size hi-sIx items.size 0 lo)).toArray):=by
  show ((items.toList.drop (sIx items.size 0 lo)).take (sIx items.size items.size hi-sIx items.size 0 lo)).toArray.size<=sizeLine;rw [yai,yaG,ybR,yav];omega
 have hj:sIx items.size items.size hi<=items.size:=zov _ _ (yaf _) hi;obtain ⟨os,hos,hcs,hds⟩:=id hs;have hTs:s.TypeIs (.ref sl) "slice":=⟨os,hos,hcs⟩;unfold getItem
 try with_reducible refine yaT ?_
 first | refine yaa (yac ?_) | skip
 refine yaa (wpAny_sequenceKey ht.typeIs (by decide) ?_)
 refine yaa (ybt (name:=Str.ofString "__getitem__") ht.typeIs yaO
  (yaZ yaO ht.typeIs entry_tuple_getitem ?_ (args_tuple_getitem _ _)))
 show wpAny _ _ (Builtin.Tuple.tupleItemsOf (.ref t) >>= _) _ _ s;refine yaa (tupleItemsOf_ ht ?_);refine yaa (ybW hTs ?_);rw [if_pos (by decide)];refine yaa (zbO hs pl pu ?_)
 have hno:¬ ((((sIx items.size 0 lo:Nat):Int) == 0&&(1:Int) == 1&&(sIx items.size items.size hi-sIx items.size 0 lo) == items.size)=true):=by
  intro q;rw [yab,yab] at q;have q1:((sIx items.size 0 lo:Nat):Int)=0:=eq_of_beq q.1.1;have q2:sIx items.size items.size hi-sIx items.size 0 lo=items.size:=eq_of_beq q.2;exact hw ⟨by omega,by omega⟩
 show wpAny _ _ (if (((sIx items.size 0 lo:Nat):Int) == 0&&(1:Int) == 1&&(sIx items.size items.size hi-sIx items.size 0 lo) == items.size)=true then _ else _) _ _ s;rw [if_neg hno,zjM]
 first
  | exact yaa (m:=Builtin.Tuple.tupleExact _) (yaU (yac ⟨_,rfl,yac h⟩) htake)
  | exact yaa (m:=Builtin.Tuple.tupleExact _) (yaU (yaa (yac (yac ⟨_,rfl,yac h⟩))) htake)
  | exact yaa (yaa (m:=Builtin.Tuple.tupleExact _) (yaU (yac (yac ⟨_,rfl,yac h⟩)) htake))
  | exact yaa (yaa (m:=Builtin.Tuple.tupleExact _) (yaU (yac ⟨_,rfl,yac h⟩) htake))
end
end HT
namespace L2
open PySem PySem.Spec PyProof.Rows
noncomputable abbrev TO:=St->Hp->(Option Int->Hp->Prop)->Prop
noncomputable def PO(X:Cx)(e:Option Expr)(t:TO):Prop :=
 ∀(pins:Z3) (s:Shared) (σ:St) (H:Hp) (Q:Option Int->Hp->Prop),Inv X pins σ H s->t σ H Q →
  wpAny (model X.prog X.w) X.A (evalPart e X.env) (fun u s'=>∃o H',Inv X pins σ H' s'/\IsPart u o/\Q o H') X.xe s
noncomputable def zhv:TO:=fun _ H Q=>Q none H
noncomputable def znO(t:TE):TO:=fun σ H Q=>t σ H fun x H1=>∃i,x=.int i/\Q (some i) H1
section
variable{X:Cx}{e:Expr}{te:TE}{lo hi:Option Expr}{tl th:TO}{pos p2:Pos}
def zmg:PO X none zhv:=by
 intro pins s σ H Q I h;rw [evalPart_none];exact yac ⟨none,H,I,.none,h⟩
def zmf(h:PE X e te):PO X (some e) (znO te):=by
 intro pins s σ H Q I hw;rw [evalPart_some];refine thn (h pins s σ H _ I hw) fun u s1 ⟨x,H1,I1,r1,q1⟩=>?_
 obtain ⟨i,rfl,q⟩:=q1;obtain ⟨t,rfl⟩:=r1;exact ⟨some i,H1,I1,.int i t,q⟩
noncomputable def SlR(X:Cx)(r:V->Option Int->Option Int->Hp->VK->Prop):Prop :=
 ∀(pins:Z3) (s:Shared) (σ:St) (H:Hp) (x:V) (v vl vu:Value) (lo hi:Option Int) (sl:Addr) (Q:VK),Inv X pins σ H s->zav x v->s.heap.IsSliceOf sl vl vu .none->IsPart vl lo->IsPart vu hi->r x lo hi H Q →
  ∃T id,typeLookup (.type T) "__getitem__" = pure (some (.builtin id))/\s.TypeIs v T/\wpAny (model X.prog X.w) X.A (getItem v (.ref sl)) (EP X pins σ Q) X.xe s
noncomputable def tSl(r:V->Option Int->Option Int->Hp->VK->Prop)(te:TE)(tl th:TO):TE:=fun σ H Q=>te σ H fun x H1=>tl σ H1 fun l H2=>th σ H2 fun u H3=>r x l u H3 Q
def zjO{r:V->Option Int->Option Int->Hp->VK->Prop}(hr:SlR X r)(he:PE X e te)(hl:PO X lo tl)(hu:PO X hi th):PE X (.Subscript e (.Slice lo hi none p2) pos) (tSl r te tl th):=by
 intro pins s σ H Q I h;refine Subscript_ (thn (he pins s σ H _ I h) fun v s1 ⟨x,H1,I1,r1,q1⟩=>?_);refine wpAny_Slice (thn (hl pins s1 σ H1 _ I1 q1) fun vl s2 ⟨l,H2,I2,pl,q2⟩=>thn (hu pins s2 σ H2 _ I2 q2) fun vu s3 ⟨u,H3,I3,pu,q3⟩=>?_);rw [evalPart_none];refine yac ?_;have I4:Inv X pins σ H3 { s3 with heap:=s3.heap.push { cls:=.type "slice",data:=.fields #[vl,vu,.none] } }:=I3.kept (t':=s3.toks) fun b ob q=>yae _ q
 obtain ⟨T,id,hT,ht,hg⟩:=hr pins { s3 with heap:=s3.heap.push { cls:=.type "slice",data:=.fields #[vl,vu,.none] } } σ H3 x v vl vu l u s3.heap.objs.size Q I4 r1 (Heap.IsSliceOf.new ..) pl pu q3;show wpAny (model X.prog X.w) X.A (subscriptTail e (.Slice lo hi none p2) v (.ref s3.heap.objs.size)) (EP X pins σ Q) X.xe { s3 with heap:=s3.heap.push { cls:=.type "slice",data:=.fields #[vl,vu,.none] } };exact tail_any (ops:=[.ref s3.heap.objs.size,v]) ht hT hg (by with_unfolding_all rfl)
noncomputable def zlr(xs:List V)(lo hi:Option Int):List V:=(xs.drop (HT.sIx xs.length 0 lo)).take (HT.sIx xs.length xs.length hi-HT.sIx xs.length 0 lo)
def zdP(xs:List V)(lo hi:Option Int):(zlr xs lo hi).length<=xs.length:=by
 unfold zlr;rw [yaG,ybR];omega
noncomputable def zvc(K:PySem.W.Frag):V->Option Int->Option Int->Hp->VK->Prop:=fun x lo hi H Q=>∃a xs,x=.ref a/\SqT K H a xs ∧
 ¬ (HT.sIx xs.length 0 lo=0/\HT.sIx xs.length xs.length hi=xs.length)/\∀p,H p=none->Q (.ref p) (upd H p (.tup (zlr xs lo hi)))
def zob:SlR X (zvc X.K):=by
 intro pins s σ H x v vl vu lo hi sl Q I rx hs pl pu h;obtain ⟨a,xs,rfl,hx,hw,q⟩:=h;cases rx;obtain ⟨its,r,ht,hz⟩:=I.tuple hx
 have hlen:its.toArray.size=xs.length:=by rw [yai];exact r.length.symm
 refine ⟨"tuple",_,yaO.lookup,ht.typeIs,?_⟩;refine HT.zc5 ht hs pl pu (by rw [hlen];exact hw) ?_ (by rw [hlen];exact hz);rw [hlen];refine ⟨.ref s.heap.objs.size,_,I.laid (t':=s.toks) (o:=.tup (zlr xs lo hi)) (fun b ob q=>yae _ q) (yaf _) ?_,rfl,q _ (I.hok.fresh (yaf _))⟩;exact ⟨yal (zdP xs lo hi) hz,_,(r.drop (HT.sIx xs.length 0 lo)).take (HT.sIx xs.length xs.length hi-HT.sIx xs.length 0 lo),IsTup.new _ _⟩
noncomputable def zrm(K:PySem.W.Frag):R2:=fun x y H Q=>∃a b xs ys,x=.ref a/\y=.ref b/\SqT K H a xs/\SqT K H b ys/\xs≠[]/\xs.length+ys.length<=sizeLine ∧
 (ys=[]->Q (.ref a) H)/\(ys≠[]->∀p,H p=none->Q (.ref p) (upd H p (.tup (xs++ys))))
def Vals.nil_iff{xs:List V}{us:List Value}(r:Vals xs us):us=[]↔xs=[]:=by
 cases r with
 | nil=>simp
 | cons _ _=>simp
def zmt:OpR X (binaryOp .Add) (zrm X.K):=by
 intro pins s σ H x y v u Q I rx ry h;obtain ⟨a,b,xs,ys,rfl,rfl,ha,hb,hx,hz,q1,q2⟩:=h;cases rx;cases ry;obtain ⟨its,r1,p1,_⟩:=I.tuple ha;obtain ⟨its2,r2,p2,_⟩:=I.tuple hb;refine HT.zni p1 p2 (fun z=>hx (r1.nil_iff.mp z)) (fun z=>⟨.ref a,H,I,rfl,q1 (r2.nil_iff.mp z)⟩) (fun z=>?_) (by rw [<-r1.length,<-r2.length];exact hz);refine ⟨.ref s.heap.objs.size,_,I.laid (t':=s.toks) (o:=.tup (xs++ys)) (fun b ob q=>yae _ q) (yaf _) ?_,rfl,q2 (fun w=>z (r2.nil_iff.mpr w)) _ (I.hok.fresh (yaf _))⟩;exact ⟨by rw [yar];exact hz,_,r1.append r2,IsTup.new _ _⟩
end
end L2
namespace L2
open PySem PySem.Spec PyProof.Rows
noncomputable def ixN(n:Nat)(i:Int):Option Nat:=if 0<=i then (if i<n then some i.toNat else none) else if -(n:Int)<=i then some (i+n).toNat else none
noncomputable def atI{α:Type}(xs:List α)(i:Int):Option α:=(ixN xs.length i).bind fun j=>xs[j]?
def zmT{n:Nat}{i:Int}{j:Nat}(h:ixN n i=some j):seqIndex? i n=some j/\j<n/\-(n:Int)<=i/\i<n:=by
 unfold ixN at h
 by_cases h0:0<=i
 ·rw [if_pos h0] at h
  by_cases h1:i<n
  ·rw [if_pos h1] at h;have e:i.toNat=j:=Option.some.inj h;exact ⟨by rw [seqIndex_of h0 h1,e],by omega,by omega,h1⟩
  ·rw [if_neg h1] at h;cases h
 ·rw [if_neg h0] at h
  by_cases h1:-(n:Int)<=i
  ·rw [if_pos h1] at h;have e:(i+n).toNat=j:=Option.some.inj h;exact ⟨by rw [seqIndex_neg (by omega) h1,e],by omega,h1,by omega⟩
  ·rw [if_neg h1] at h;cases h
def zjd{α:Type}{xs:List α}{i:Int}{v:α}(h:atI xs i=some v):∃j,seqIndex? i xs.length=some j/\xs[j]?=some v/\j<xs.length/\-(xs.length:Int)<=i/\i<xs.length:=by
 unfold atI at h
 cases e:ixN xs.length i with
 | none=>rw [e] at h;cases h
 | some j =>
  rw [e] at h;obtain ⟨h1,h2,h3,h4⟩:=zmT e;exact ⟨j,h1,h,h2,h3,h4⟩
noncomputable def zeD(b:Expr):Prop:=∀o i,subscripted b false o i=operate [o,i] (getItem o i)
noncomputable def IxR(X:Cx)(r:R2):Prop :=
 ∀(value slice:Expr) (pins:Z3) (s:Shared) (σ:St) (H:Hp) (x y:V) (v u:Value) (Q:VK),Inv X pins σ H s->zav x v->zav y u->r x y H Q →
  subscripted slice false v u=operate [v,u] (getItem v u)->wpAny (model X.prog X.w) X.A (subscriptTail value slice v u) (EP X pins σ Q) X.xe s
noncomputable def MtR(X:Cx)(id:String)(r:V->List V->Hp->VK->Prop):Prop :=
 ∀(pins:Z3) (s:Shared) (σ:St) (H:Hp) (x:V) (xs:List V) (v:Value) (us:List Value) (Q:VK),Inv X pins σ H s->zav x v->Vals xs us->r x xs H Q →
  wpAny (model X.prog X.w) X.A (call (.builtin id) (v::us)) (EP X pins σ Q) X.xe s
section
variable{X:Cx}{a b:Expr}{ta tb:TE}{pos:Pos}
def zoV{r:R2}(hr:IxR X r)(ha:PE X a ta)(hb:PE X b tb)(hs:zeD b):PE X (.Subscript a b pos) (tOp r ta tb):=by
 intro pins s σ H Q I h;exact Subscript_ (zsf ha hb I h fun v u s2 x y H2 I2 rx ry q=>hr a b pins s2 σ H2 x y v u Q I2 rx ry q (hs _ _))
noncomputable def zvg(K:PySem.W.Frag):R2:=fun x y H Q=>∃p xs i v,x=.ref p/\y=.int i/\SqL K H p xs/\atI xs i=some v/\Q v H
noncomputable def zvf(K:PySem.W.Frag):R2:=fun x y H Q=>∃p xs i v,x=.ref p/\y=.int i/\SqT K H p xs/\atI xs i=some v/\Q v H
def ziA:IxR X (zvg X.K):=by
 intro value slice pins s σ H x y v u Q I rx ry h hs;obtain ⟨p,xs,i,z,rfl,rfl,hq,he,q⟩:=h;cases rx;obtain ⟨t,rfl⟩:=ry;obtain ⟨its,r,pl,hz⟩:=I.list hq;obtain ⟨j,h1,h2,h3,h4,h5⟩:=zjd he;obtain ⟨w,ew,rw'⟩:=r.get h2;have hl:=r.length;have hn:=zgj;have fin:EP X pins σ Q w s:=⟨z,H,I,rw',q⟩
 by_cases h0:0<=i
 ·have hj:i.toNat=j:=by
   rw [seqIndex_of h0 h5] at h1;exact Option.some.inj h1
  exact item_listR pl.isList h0 (by omega) (by rw [hj];simpa using ew) fin hs
 ·have hj:(i+(its.toArray.size:Int)).toNat=j:=by
   rw [seqIndex_neg (by omega) h4] at h1;rw [yai,<-hl];exact Option.some.inj h1
  exact yb5 (x:=w) pl.isList.typeIs slot_list_getitem.lookup
   (wpAny_getItem_list_neg (Q:=fun r s'=>r=w/\EP X pins σ Q r s') pl.isList (by omega) (by rw [yai]<;>omega) (by omega) (by rw [hj];simpa using ew) ⟨rfl,fin⟩) hs
def zpB:IxR X (zvf X.K):=by
 intro value slice pins s σ H x y v u Q I rx ry h hs;obtain ⟨p,xs,i,z,rfl,rfl,hq,he,q⟩:=h;cases rx;obtain ⟨t,rfl⟩:=ry;obtain ⟨its,r,pl,hz⟩:=I.tuple hq;obtain ⟨j,h1,h2,h3,h4,h5⟩:=zjd he;obtain ⟨w,ew,rw'⟩:=r.get h2;have hl:=r.length;have hn:=zgj;have fin:EP X pins σ Q w s:=⟨z,H,I,rw',q⟩
 exact yb5 (x:=w) pl.typeIs slot_tuple_getitem.lookup
  (getItem_tuple (j:=j) (Q:=fun r s'=>r=w/\EP X pins σ Q r s') pl (by omega) (by omega) (by rw [yai,<-hl];exact h1) (by simpa using ew) ⟨rfl,fin⟩) hs
def zeO(lo hi:Option Int)(n:Nat):(sliceBounds lo hi none n).1=((HT.sIx n 0 lo:Nat):Int)/\(sliceBounds lo hi none n).2.1=((HT.sIx n n hi:Nat):Int)/\(sliceBounds lo hi none n).2.2=1:=by
 refine ⟨?_,?_,rfl⟩
 ·cases lo with
  | none=>simp [sliceBounds,HT.sIx]
  | some i =>
   simp only [sliceBounds,HT.sIx,Option.getD_none,show (1:Int) > 0 by decide,ybM]
   by_cases h:i<0
   ·simp only [h,ybM]<;>omega
   ·simp only [h,ybm]<;>omega
 ·cases hi with
  | none=>simp [sliceBounds,HT.sIx]
  | some i =>
   simp only [sliceBounds,HT.sIx,Option.getD_none,show (1:Int) > 0 by decide,ybM]
   by_cases h:i<0
   ·simp only [h,ybM]<;>omega
   ·simp only [h,ybm]<;>omega
def zeg(its:List Value)(lo hi:Option Int):slicePick its.toArray lo hi none=((its.drop (HT.sIx its.length 0 lo)).take (HT.sIx its.length its.length hi-HT.sIx its.length 0 lo)).toArray:=by
 obtain ⟨h1,h2,h3⟩:=zeO lo hi its.toArray.size;unfold slicePick;rw [h1,h2,h3]
 simp only [sliceRange_one,pick_run,yai]<;>rfl
noncomputable def zvd(K:PySem.W.Frag):V->Option Int->Option Int->Hp->VK->Prop:=fun x lo hi H Q=>∃a xs,x=.ref a/\SqL K H a xs/\∀p,H p=none->Q (.ref p) (upd H p (.lst (zlr xs lo hi)))
def zlS:SlR X (zvd X.K):=by
 intro pins s σ H x v vl vu lo hi sl Q I rx hs pl pu h;obtain ⟨a,xs,rfl,hx,q⟩:=h;cases rx;obtain ⟨its,r,ht,hz⟩:=I.list hx;have hlen:=r.length;refine ⟨"list",_,slot_list_getitem.lookup,ht.isList.typeIs,?_⟩;refine wpAny_getItem_list_slice ht.isList hs pl pu .none (by simp) ?_ (by rw [yai]<;>omega);rw [zeg,<-hlen];refine ⟨.ref s.heap.objs.size,_,I.laid (t':=s.toks) (o:=.lst (zlr xs lo hi)) (fun b ob q=>yae _ q) (yaf _) ?_,rfl,q _ (I.hok.fresh (yaf _))⟩;exact ⟨yal (zdP xs lo hi) hz,_,0,(r.drop (HT.sIx xs.length 0 lo)).take (HT.sIx xs.length xs.length hi-HT.sIx xs.length 0 lo),yao _ rfl⟩
def zb5:zc9 X (.builtin "len") (fun xs H Q=>∃p ys,xs=[.ref p]/\(SqL X.K H p ys\/SqT X.K H p ys)/\Q (.int ys.length) H):=by
 intro pins s σ H xs us Q I r h;obtain ⟨p,ys,rfl,hq,q⟩:=h;obtain ⟨u,rfl,rx⟩:=zeG r;cases rx;have hn:=zgj
 rcases hq with hq | hq
 ·obtain ⟨its,r',pl,hz⟩:=I.list hq;have hlen:=r'.length;exact Calls.call_len_list pl.isList (by simp only [yai]<;>omega) ⟨.int ys.length,H,I.tok _,⟨s.toks+1,by rw [yai,hlen]⟩,q⟩
 ·obtain ⟨its,r',pl,hz⟩:=I.tuple hq;have hlen:=r'.length;exact len_tuple pl (by simp only [yai]<;>omega) ⟨.int ys.length,H,I.tok _,⟨s.toks+1,by rw [yai,hlen]⟩,q⟩
def zfk:zc9 X (.builtin "len") (fun xs H Q=>∃z,xs=[.str z]/\z.length<=sizeLine/\Q (.int z.length) H):=by
 intro pins s σ H xs us Q I r h;obtain ⟨z,rfl,hz,q⟩:=h;obtain ⟨u,rfl,t,rfl⟩:=zeG r;have hn:=zgj;exact len_str (by omega) ⟨.int z.length,H,I.tok _,⟨_,rfl⟩,q⟩
def zcW:zc9 X (.type "tuple") (fun xs H Q=>∃p ys,xs=[.ref p]/\((SqL X.K H p ys/\∀l,H l=none->Q (.ref l) (upd H l (.tup ys)))\/(SqT X.K H p ys/\Q (.ref p) H))):=by
 intro pins s σ H xs us Q I r h;obtain ⟨p,ys,rfl,h⟩:=h;obtain ⟨u,rfl,rx⟩:=zeG r;cases rx
 rcases h with ⟨hq,q⟩ | ⟨hq,q⟩
 ·obtain ⟨its,r',pl,hz⟩:=I.list hq;have hlen:=r'.length;refine call_tuple_list pl.isList (fun h' kp=>?_) (by simp only [yai]<;>omega);have I1:Inv X pins σ H { s with heap:=h' }:=I.kept (t':=s.toks) kp
  have I2:Inv X pins σ (upd H h'.objs.size (.tup ys)) { s with heap:=h'.push { cls:=.type "tuple",data:=.seq its.toArray } } :=
   I1.laid (t':=s.toks) (fun b o e=>yae _ e) (yaf _) (show zaQ X.prog X.w _ _ _ (.tup ys) from ⟨hz,its,r',IsTup.new _ _⟩)
  exact ⟨.ref h'.objs.size,_,I2,rfl,q _ (I1.hok.fresh (yaf _))⟩
 ·obtain ⟨its,r',pl,hz⟩:=I.tuple hq;exact call_tuple_same pl ⟨.ref p,H,I,rfl,q⟩
noncomputable def tyV(K:PySem.W.Frag)(T:String)(x:V)(H:Hp):Prop:=match x with
 | .str _=>T = "str"
 | .int _=>T = "int"
 | .ref p=>(T = "list" /\ ∃xs,SqL K H p xs)\/(T = "tuple" /\ ∃o,K.lookup p=some o/\o.cls=.type "tuple" /\ o.dict=none) ∨
   (T = "dict" /\ ((∃kvs,H p=some (.dK kvs))\/∃kvs,H p=some (.dT kvs)))\/(T = "set" /\ ∃S n,H p=some (.set S n))
 | _=>False
def znJ{pins:Z3}{σ:St}{H:Hp}{s:Shared}{T:String}{x:V}{v:Value}(I:Inv X pins σ H s)(r:zav x v)(ty:tyV X.K T x H) :
  s.TypeIs v T/\∀a,v=.ref a->∃ob,s.heap.get? a=some ob/\ob.dict=none:=by
 cases x with
 | str z =>
  obtain ⟨t,rfl⟩:=r;cases (show T = "str" from ty);exact ⟨typeIs_str s z t,fun _ e=>nomatch e⟩
 | int i =>
  obtain ⟨t,rfl⟩:=r;cases (show T = "int" from ty);exact ⟨ycl s i t,fun _ e=>nomatch e⟩
 | ref p =>
  cases r
  rcases ty with ⟨rfl,xs,hq⟩ | ⟨rfl,o,hk,hc,hd⟩ | ⟨rfl,hk⟩ | ⟨rfl,S,n,hk⟩
  ·obtain ⟨its,_,pl,_⟩:=I.list hq;refine ⟨pl.isList.typeIs,fun a e=>?_⟩;cases e;obtain ⟨o,n,e,c,hd,_⟩:=pl;exact ⟨o,e,hd⟩
  ·refine ⟨⟨o,I.kIn p o hk,hc⟩,fun a e=>?_⟩;cases e;exact ⟨o,I.kIn _ o hk,hd⟩
  ·have z:∃o,s.heap.get? p=some o/\o.ExactDict:=by
    rcases hk with ⟨kvs,hk⟩ | ⟨kvs,hk⟩
    ·obtain ⟨_,_,_,_,o,_,_,e,ex,_⟩:=I.hok p _ hk;exact ⟨o,e,ex⟩
    ·obtain ⟨_,_,_,_,o,_,_,e,ex,_⟩:=I.hok p _ hk;exact ⟨o,e,ex⟩
   obtain ⟨o,e,ex⟩:=z;refine ⟨⟨o,e,ex.1⟩,fun a e2=>?_⟩;cases e2;exact ⟨o,e,ex.2.1⟩
  ·obtain ⟨o,_,_,_,e,ex,_⟩:=I.hok p _ hk;refine ⟨⟨o,e,ex.1⟩,fun a e2=>?_⟩;cases e2;exact ⟨o,e,ex.2.1⟩
 | _=>exact False.elim ty
noncomputable def tBM(K:PySem.W.Frag)(T:String)(r:V->List V->Hp->VK->Prop)(to:TE)(t:TA):TE:=fun σ H Q=>to σ H fun x H1=>tyV K T x H1/\t σ H1 fun xs H2=>r x xs H2 Q
variable{o e:Expr}{es:List Expr}{to:TE}{t:TA}{name:Str}{apos cpos:Pos}{T id:String}{r:V->List V->Hp->VK->Prop}
def zoX(pa:PlainAttrs T)(slot:Slot T name id)(hty:typeOf (.builtin id)=pure (.type "method_descriptor"))(hm:MtR X id r)(ho:PE X o to)(ha:PA X (e::es) t)
  (hbase:attributeBase o name X.env (eval o X.env)=eval o X.env:=by rfl)
  (hfew:((backTo cpos (starEach (e::es) X.env)).all (fun x=>!x.1)&&(backToKw cpos (keywordEach [] X.env)).all (fun x=>x.1.isSome)
   && decide ((e::es).length+([]:List Keyword).length+(if ([]:List Keyword).isEmpty then 0 else 1)<30))=true:=by rfl)
  (hline:(apos.endLine == cpos.line)=true:=by rfl) (hs:starEach (e::es) X.env=(false,eval e X.env)::starEach es X.env:=by rfl) (hplain:(backTo cpos (starEach es X.env)).any (·.1)=false:=by rfl) :
  PE X (.Call (.Attribute o name apos) (e::es) [] cpos) (tBM X.K T r to t):=by
 intro pins s σ H Q I h;refine wpAny_Call_method_late hbase hfew hline rfl (thn (ho pins s σ H _ I h) fun v s1 ⟨x,H1,I1,r1,ty,q1⟩=>?_);obtain ⟨h1,h2⟩:=znJ I1 r1 ty;refine ⟨T,id,pa,slot,hty,h1,h2,?_⟩;have hA:=ha cpos pins s1 σ H1 _ I1 q1;rw [hs] at hA ⊢;refine yb6 (by show (false||(backTo cpos (starEach es X.env)).any (·.1))=false;rw [hplain]<;>rfl) (ybN ?_);exact thn hA fun us s2 ⟨vs,H2,I2,r2,q2⟩=>hm pins s2 σ H2 x vs v us Q I2 r1 r2 q2
end
end L2
namespace L2
open PySem PySem.Spec PyProof.Rows
noncomputable def MtM(X:Cx)(id:String)(r:V->List V->Hp->VK->Prop):Prop :=
 ∀(pins:Z3) (s:Shared) (σ:St) (H:Hp) (x:V) (xs:List V) (v:Value) (us:List Value) (Q:VK),Inv X pins σ H s->zav x v->Vals xs us->r x xs H Q →
  wpAny (model X.prog X.w) X.A (call (.builtin id) (v::us)) (EP X pins σ Q) X.xe s
theorem Vals.one:∀{x:V} {us:List Value},Vals [x] us->∃u,us=[u]/\zav x u
 | _,_,.cons r .nil=>⟨_,rfl,r⟩
theorem Vals.rep{xs:List V}{us:List Value}(h:Vals xs us):∀k:Nat,Vals (List.replicate k xs).flatten (List.replicate k us).flatten
 | 0=>.nil
 | k+1=>by
  rw [ya5,ya5,ybo,ybo];exact Vals.append h (Vals.rep h k)
theorem zdI(its:List Value):∀(k:Nat) (acc:List Value),
  List.foldl (fun x1 x2=>x1++x2) acc.toArray (List.replicate k its.toArray)=(acc++(List.replicate k its).flatten).toArray
 | 0,acc=>by simp
 | k+1,acc=>by
  have e:acc.toArray++its.toArray=(acc++its).toArray:=by simp
  have e2:(acc++its)++(List.replicate k its).flatten=acc++(List.replicate (k+1) its).flatten:=by
   rw [ya5,ybo,ycE]
  rw [<-e2,<-zdI its k (acc++its),<-e,ya5,yco]
section
variable{X:Cx}{pins:Z3}{σ:St}{H:Hp}{s:Shared}{l b:Addr}{xs ys zs:List V}
def Inv.lset{its its':List Value}{n:Nat}{f:Array Value->Array Value}{t':Nat}(I:Inv X pins σ H s)(hH:H l=some (.lst xs))
  (e:s.heap.get? l=some { cls:=.type "list",data:=.seq its.toArray n }) (hf:f its.toArray=its'.toArray) (hv:Vals ys its') (hz:ys.length<=sizeLine) :
  Inv X pins σ (upd H l (.lst ys)) { s with heap:=s.heap.update l (Obj.mapSeq f),toks:=t' }:=by
 have q:=PySem.IsL.update e f;rw [hf] at q;refine I.write (x:=l) (e:=l) (by rw [hH];exact trivial) (.inl rfl) (fun b' u hb hu=>(Heap.get?_update_other s.heap (Obj.mapSeq f) (Ne.symm hb)).trans hu) ⟨_,q⟩ ?_;exact ⟨hz,its',_,hv,q⟩
def Inv.lnew{its:List Value}{t':Nat}(I:Inv X pins σ H s)(hv:Vals ys its)(hz:ys.length<=sizeLine) :
  Inv X pins σ (upd H s.heap.objs.size (.lst ys)) { s with heap:=s.heap.push { cls:=.type "list",data:=.seq its.toArray },toks:=t' } :=
 I.laid (fun _ _ q=>yae _ q) (yaf _) ⟨hz,its,0,hv,yao _ rfl⟩
theorem Inv.fresh(I:Inv X pins σ H s):H s.heap.objs.size=none:=I.hok.fresh (yaf _)
def Inv.lstM(I:Inv X pins σ H s)(hH:H l=some (.lst xs)):xs.length<=sizeLine/\∃(its:List Value) (n:Nat),Vals xs its/\xs.length=its.length/\s.heap.get? l=some { cls:=.type "list",data:=.seq its.toArray n }:=by
 obtain ⟨z,its,n,r,e⟩:=I.hok l _ hH;exact ⟨z,its,n,r,r.length,e⟩
def zj6{n:Nat}(h:n<=sizeLine):Builtin.List.listTooLong n=false:=by
 unfold Builtin.List.listTooLong;exact yaM (by omega)
end
section
variable{X:Cx}
noncomputable def zl8:V->List V->Hp->VK->Prop:=fun x vs H Q=>∃l xs y,x=.ref l/\vs=[y]/\H l=some (.lst xs)/\xs.length<sizeLine/\Q .non (upd H l (.lst (xs++[y])))
def zij:MtM X "list.append" zl8:=by
 intro pins s σ H x vs v us Q I rx rv h;obtain ⟨l,xs,y,rfl,rfl,hH,hz,q⟩:=h;cases rx;obtain ⟨u,rfl,ru⟩:=rv.one;obtain ⟨z,its,n,r,hl,e⟩:=I.lstM hH;refine yca F.slot_list_append ⟨_,e,rfl⟩ F.entry_list_append (F.args_list_append_2 _ _) (PySem.list_append l its.toArray n u (by rw [yai];omega)) ⟨e,?_⟩;refine ⟨.non,_,I.lset (its':=its++[u]) hH e (by simp) (r.append (.cons ru .nil)) ?_,rfl,q⟩;rw [yar,List.length_singleton];omega
noncomputable def zvh:R2:=fun x y H Q=>∃l b xs zs,x=.ref l/\y=.ref b/\H l=some (.lst xs)/\H b=some (.lst zs)/\xs.length+zs.length<=sizeLine/\∀p,H p=none->Q (.ref p) (upd H p (.lst (xs++zs)))
def zo4:OpR X (binaryOp .Add) zvh:=by
 intro pins s σ H x y v u Q I rx ry h;obtain ⟨l,b,xs,zs,rfl,rfl,hH,hB,hz,q⟩:=h;cases rx;cases ry;obtain ⟨z,its,n,r,hl,e⟩:=I.lstM hH;obtain ⟨z2,its2,n2,r2,hl2,e2⟩:=I.lstM hB;refine PySem.P.add_list e e2 ?_ (by rw [yai,yai];omega)
 have ea:its.toArray++its2.toArray=(its++its2).toArray:=by simp
 rw [ea];exact ⟨.ref _,_,I.lnew (t':=s.toks) (r.append r2) (by rw [yar];omega),rfl,q _ I.fresh⟩
noncomputable def zve:R2:=fun x y H Q=>∃l k xs,x=.ref l/\y=.int k/\H l=some (.lst xs)/\-(2 ^ 63)<=k/\k<2 ^ 63/\xs.length*k.toNat<=sizeLine ∧
 ∀p,H p=none->Q (.ref p) (upd H p (.lst (List.replicate k.toNat xs).flatten))
def zfL{α:Type}(xs:List α)(k:Nat):(List.replicate k xs).flatten.length=k*xs.length:=by
 induction k with
 | zero=>simp
 | succ k ih=>rw [ya5,ybo,yar,ih,Nat.succ_mul,Nat.add_comm]
def zk7:OpR X (binaryOp .Mult) zve:=by
 intro pins s σ H x y v u Q I rx ry h;obtain ⟨l,k,xs,rfl,rfl,hH,h1,h2,hz,q⟩:=h;cases rx;obtain ⟨t,rfl⟩:=ry;obtain ⟨z,its,n,r,hl,e⟩:=I.lstM hH
 have hlen:its.toArray.size*k.toNat<=sizeLine:=by rw [yai,<-hl];exact hz
 have hcap:¬ its.toArray.size*k.toNat > (2 ^ 63-1) / 8:=by
  have:(sizeLine:Nat)<=(2 ^ 63-1) / 8:=by decide
  omega
 have hfit:¬ (!Builtin.List.listFitsIndex k)=true:=by
  rw [fitsIndex_both h1 h2];exact yaW
 have hlong:¬ Builtin.List.listTooLong (its.toArray.size*k.toNat)=true:=by
  rw [zj6 hlen];exact yaW
 have hnew:List.foldl (fun x1 x2=>x1++x2) #[] (List.replicate (if its.toArray.isEmpty=true then 0 else k.toNat) its.toArray)=(List.replicate k.toNat its).flatten.toArray:=by
  have f0:∀m:Nat,List.foldl (fun x1 x2=>x1++x2) #[] (List.replicate m its.toArray)=(List.replicate m its).flatten.toArray:=fun m=>by
   have:=zdI its m [];rwa [List.nil_append] at this
  rw [f0]
  cases its with
  | nil=>simp
  | cons a r'=>rw [if_neg (by simp)]
 refine ybP (T:="list") (U:="int") (by decide) ⟨_,e,rfl⟩ (fun s'=>ycl s' k t) noFill_list_mul F.fills_int_mul ybF repeat_list F.slot_int_index.lookup
  (yca ybF (ycl s k t) F.entry_int_rmul (ycF _ _) (int___rmul___int_list k t l its.toArray n)
   ⟨e,rfl,⟨_,e,rfl⟩,yca F.slot_list_mul ⟨_,e,rfl⟩ F.entry_list_mul (F.args_list_mul_2 _ _) (AutoListH.list___mul___list_int_3 l its.toArray n k t hfit hcap hlong) ⟨e,?_⟩⟩)
 rw [hnew];exact ⟨.ref _,_,I.lnew (t':=s.toks) (r.rep k.toNat) (by rw [zfL,Nat.mul_comm];exact hz),rfl,q _ I.fresh⟩
end
section
variable{prog:Program}{w:World}{A:Around}{E:Z5}{s:Shared}
end
section
variable{X:Cx}
end
end L2
namespace Att
open PySem PySem.W PySem.Calls PyProof.Rows
def zdF{P:Params}{h:Heap}:∀(ns:List Int) (vs:List Value),WellAll P h vs (ns.map WData.int)->IntsAre vs ns:=by
 intro ns
 induction ns with
 | nil =>
  intro vs w;rw [List.map_nil] at w;cases w;exact .nil
 | cons n ns ih =>
  intro vs w;rw [yay] at w
  cases w with
  | cons a b =>
   cases a;exact .cons _ _ (ih _ b)
def zhK{l:OpenLaw}{n:Nat}(hn:l.most=some n){P:Params}{h:Heap}{args:List WData}{vals:List Value}
  (hpre:l.row.toRowW.claim.pre args=true) (hwl:WellAll P h vals args) :
  ∃a vs ns,vals=[Value.ref a]/\args=[WData.list (ns.map WData.int)]/\h.get? a=some { cls:=.type "list",data:=.seq vs.toArray }/\IntsAre vs ns/\ns.length<=n:=by
 have hsh:WShape.hasAll [] args [.list .int]=true:=(pre_splitW hpre).1;have hc:l.pre.holds [] { args:=args }=true:=(pre_splitW hpre).2;obtain ⟨d,r,rfl,h1,h2⟩:=hasAllW_cons hsh;obtain rfl:=hasAllW_nil h2;obtain ⟨xs,rfl,h3⟩:=hasW_list h1;obtain ⟨ns,rfl⟩:=items_int h3
 have hlen:ns.length<=n:=by
  unfold OpenLaw.pre at hc
  have h4:(WTm.not (.lt (.lit (.int (n:Int))) (.len (.arg 0)))).holds [] { args:=[.list (ns.map .int)] }=true:=by
   have h4:=(holds_andW hc).1;rwa [hn] at h4
  have h5:=condW_of h4 (w_not (w_lt w_lit (w_len_list (w_arg rfl))));rw [yak] at h5;refine Nat.le_of_not_lt fun q=>?_
  have q':(n:Int)<((ns.length:Nat):Int):=by omega
  first
   | (rw [yaS q'] at h5;exact absurd h5 (by decide))
   | (simp at h5;omega)
 cases hwl with
 | cons w1 w2 =>
  cases w2
  cases w1 with
  | list ho hall=>exact ⟨_,_,ns,rfl,rfl,ho,zdF ns _ hall,hlen⟩
def zh0(l:OpenLaw)(args:List WData):l.row.toRowW.claim.post args (.bool true) args=true :=
 postW_of (r:=l.row.toRowW) (X:=(true == true))
  (show WShape.has [] (.bool true) .bool=true by first | rfl | decide | simp [WShape.has,WShape.arms,WShape.armsAll])
  (show (WTm.eq .res (.lit (.bool true))).value [] { args:=args,res:=some (.bool true),after:=args }=some (.bool (true == true)) from w_eq_bool (w_res rfl) w_lit) rfl
def zfV{l:OpenLaw}{n:Nat}{q:Program}{loose:List Str}{XP:(Str->Option Value)->Heap->Prop}{YP:World->Heap->Prop}{d:DefRec}
  (hn:l.most=some n) (hdf:d.params.defaults=[])
  (call:∀(w:World) (s₀ s₁:Shared) (mg mb:Z6) (fa:Addr) (o:Obj) (pm cd doc:Value) (a:Addr) (vs:List Value) (ns:List Int),
   Ground q loose [] XP w s₀ mg mb s₁.heap->YP w s₁.heap →
   s₁.heap.get? fa=some o->o.data=.func (docDef d.name d.params d.body d.scope pm cd doc)->s₁.heap.CodeRec cd d.name->mg d.name=some (.ref fa) →
   s₁.heap.get? a=some { cls:=.type "list",data:=.seq vs.toArray }->IntsAre vs ns->ns.length<=n->s₁.gens=#[] →
   codeAny (model l.prog w) callerA (.call (.ref fa) ⟨[.ref a],[]⟩) (fun r s'=>r=.ok (.ret (.bool true))/\OldK s₁.heap s'.heap/\s'.os=s₁.os/\AllBare s'.gens) s₁) :
  WalkO q loose XP YP l.row.toRowW d [] (fun f vs=>PySem.call f vs):=by
 intro w s₀ s₁ mg mb G Y fa o pm cd doc dV kV ho hd hcd hD hmg hg args vals as hpre hlay hrd hwl hlo;obtain rfl:dV=.none:=Dflts.none hD hdf;obtain rfl:kV=.none:=Dflts.noKw hD;obtain ⟨a,vs,ns,rfl,rfl,hobj,hints,hlen⟩:=zhK hn hpre hwl;refine enter_call (ycc (call w s₀ s₁ mg mb fa o pm cd doc a vs ns G Y ho (fd_plain hd) hcd hmg hobj hints hlen hg) fun r s' hq=>?_);obtain ⟨rfl,h2,h3,h4⟩:=hq;exact ⟨.inl ⟨.bool true,.bool true,[],rfl,fun _=>rfl,.bool true,zh0 l _,fun _=>⟨List.Pairwise.nil,fun _ hm=>(nomatch hm)⟩⟩,h2,h3,h4⟩
section
variable{prog:Program}{w:World}{A:Around}{E:Z5}{s:Shared}{K:Frag}
end
end Att
namespace L2
open PySem PySem.Spec PyProof.Rows
theorem zeF:∀{vs:List Value} {ns:List Int},IntsAre vs ns->Vals (ns.map V.int) vs
 | _,_,.nil=>.nil
 | _,_,.cons n t h=>.cons ⟨t,rfl⟩ (zeF h)
noncomputable def zqG(H:Hp):Prop:=∀b,H b=none\/∃o xs,H b=some (.frz o (.lst xs))
def zkl{P:Program}{w:World}{K:PySem.W.Frag}{mg mb:Z6}{CX:CXT}{k:Nat}{fa a:Addr}{fd:FuncData}{x:Str}{sp:Sp}{s₁:Shared}{vs:List Value}{ns:List Int}
  (KX:K.In s₁.heap) (hns:s₁.heap.Ns mainGlobals mg) (hb:s₁.heap.Ns builtinsNs mb) (hbb:∀x:Str,x ≠ "__name__" -> mb x=bootBuiltins x) (hlim:s₁.heap.NoLimit) (hg:s₁.gens=#[])
  (ha:s₁.heap.get? a=some { cls:=.type "list",data:=.seq vs.toArray }) (hi:IntsAre vs ns) (hl:ns.length<=sizeLine) (hr:Room k callerA)
  (F:∀base:Heap,K.In base->base.Ns mainGlobals mg->FnOk P w K mg base CX k fa fd [x] sp) (hbind:∀(s:Shared) (u:Value),BindsTo s fd ⟨[u],[]⟩ [(x,u)])
  (hsp:∀H:Hp,zqG H->SqL K H a (ns.map V.int)->sp [.ref a] H (fun v _=>v=.bl true) fun _ _ _=>False)
  (hCX:∀H e s',CX [] H s₁ (fun _ _ _=>False) e s'->False) :
  codeAny (model P w) callerA (.call (.ref fa) ⟨[.ref a],[]⟩) (fun r s'=>r=.ok (.ret (.bool true))/\OldK s₁.heap s'.heap/\s'.os=s₁.os/\AllBare s'.gens) s₁:=by
 have rv:=zeF hi;have lenV:=hi.length
 have core:∀H:Hp,zqG H->SqL K H a (ns.map V.int)->HOk P w H s₁.heap->(∀b,H b≠none->b=a)->(H a≠none->K.lookup a=none) →
   codeAny (model P w) callerA (.call (.ref fa) ⟨[.ref a],[]⟩) (fun r s'=>r=.ok (.ret (.bool true))/\OldK s₁.heap s'.heap/\s'.os=s₁.os/\AllBare s'.gens) s₁:=by
  intro H hO hS hok hA hK;have zcD:∀{b:Addr} {o:Obj},s₁.heap.get? b=some o->H b=none->(zkt s₁.heap H).get? b=some o:=fun e n=>zks e n
  have noA:∀{b:Addr} {o:Obj} {es:Array DictEntry} {ep:Nat},s₁.heap.get? b=some o->o.data=.dict es ep->H b=none:=fun {b o es ep} e d=>by
   cases q:H b with
   | none=>rfl
   | some u =>
    have e':b=a:=hA b (by rw [q];simp);subst e';rw [ha] at e;cases e;have d':Data.seq vs.toArray _=Data.dict es ep:=d;cases d'
  have nsK:∀{b:Addr} {m:Z6},s₁.heap.Ns b m->(zkt s₁.heap H).Ns b m:=fun {b m} ⟨o,es,ep,e,d,r⟩=>⟨o,es,ep,zcD e (noA e d),d,r⟩
  have hKb:K.In (zkt s₁.heap H):=fun b o e=>zcD (KX b o e) (by
   cases q:H b with
   | none=>rfl
   | some u =>
    have e':b=a:=hA b (by rw [q];simp);subst e'
    rw [hK (by rw [q];simp)] at e;cases e)
  have hM:Mod K mg (zkt s₁.heap H):=⟨hKb,nsK hns,⟨mb,nsK hb,hbb⟩,let ⟨mc,h1,h2⟩:=hlim;⟨mc,nsK h1,h2⟩⟩;have e0:Env0 P w K mg (zkt s₁.heap H) callerA [] s₁ H:=⟨rfl,hM,fun b o e=>zmv e,Nat.le_of_eq (ziL _ _),trivial,fun b hb=>absurd (show b∈([]:List Addr) from hb) (by simp),hok,.of_eq hg⟩;refine ycc ((F _ hKb (nsK hns)).run callerA [] s₁ H ⟨[.ref a],[]⟩ [.ref a] [.ref a] _ _ hr e0 (hbind s₁ (.ref a)) (.cons rfl .nil) (hsp H hO hS)) fun r s' h=>?_
  cases r with
  | error e=>exact (hCX H e s' h).elim
  | ok fl =>
   cases fl with
   | next=>exact False.elim h
   | brk=>exact False.elim h
   | cont=>exact False.elim h
   | ret u =>
    obtain ⟨v,H',os,bare,un,hok',r',q⟩:=h;have q':v=.bl true:=q;subst q';obtain rfl:u=Value.bool true:=r';refine ⟨rfl,OldK.of_keep fun b o e=>?_,os,bare⟩
    cases q:H b with
    | none=>exact un.keep b o e q (by intro z;exact absurd (show b∈([]:List Addr) from z) (by simp)) (by simp)
    | some u =>
     rcases hO b with z | ⟨ob,xs,z⟩
     ·rw [q] at z;cases z
     ·have z2:=un.frzs b ob _ z;obtain ⟨e1,_⟩:=hok b _ z;obtain ⟨e2,_⟩:=hok' b _ z2;rw [e] at e1;cases e1;exact e2
 cases hk:K.lookup a with
 | some o =>
  have e:=KX a o hk;rw [ha] at e;cases e;refine core (fun _=>none) (fun _=>.inl rfl) (.inr ⟨_,vs.toArray,_,hk,rfl,rfl,rfl,by rw [yai,lenV];exact hl,by simpa using rv⟩) (fun b u z=>by have z':(none:Option HO)=some u:=z;cases z') (fun b z=>absurd rfl z) fun z=>absurd rfl z
 | none =>
  refine core (fun b=>if b=a then some (.frz { cls:=.type "list",data:=.seq vs.toArray } (.lst (ns.map V.int))) else none) (fun b=>?_) (.inl (.inr ⟨{ cls:=.type "list",data:=.seq vs.toArray },if_pos rfl⟩)) (fun b u z=>?_) (fun b z=>?_) fun _=>hk
  ·by_cases hb:b=a
   ·exact .inr ⟨_,_,if_pos hb⟩
   ·exact .inl (if_neg hb)
  ·by_cases hb:b=a
   ·have z':=(if_pos hb).symm.trans z;cases z';subst hb;exact ⟨ha,by rw [yak];exact hl,vs,_,rv,ha⟩
   ·have z':=(if_neg hb).symm.trans z;cases z'
  ·by_cases hb:b=a
   ·exact hb
   ·exact absurd (if_neg hb) z
end L2
namespace L2
open PySem PySem.Spec PyProof.Rows
def zlA{l:PySem.W.OpenLaw}{n k:Nat}{q:Program}{loose:List Str}{XP:(Str->Option Value)->Heap->Prop}{YP:World->Heap->Prop}{d:DefRec}{K:Params->PySem.W.Frag}{CX:World->CXT}{sp:World->Sp}{x:Str}
  (hn:l.most=some n) (hn2:n<=sizeLine) (hdf:d.params.defaults=[]) (hr:Room k callerA)
  (hY:∀(w:World) (h:Heap),YP w h->(K w.params).In h)
  (F:∀(w:World) (mg:Z6) (fa:Addr) (h:Heap),(K w.params).In h->h.Ns mainGlobals mg->mg d.name=some (.ref fa) →
   ∃fd:FuncData,(∀(s:Shared) (u:Value),BindsTo s fd ⟨[u],[]⟩ [(x,u)]) ∧
    ∀base:Heap,(K w.params).In base->base.Ns mainGlobals mg->FnOk l.prog w (K w.params) mg base (CX w) k fa fd [x] (sp w))
  (hsp:∀(w:World) (H:Hp) (a:Addr) (ns:List Int),ns.length<=n->zqG H->SqL (K w.params) H a (ns.map V.int)->sp w [.ref a] H (fun v _=>v=.bl true) fun _ _ _=>False)
  (hCX:∀(w:World) (H:Hp) (s:Shared) (e:Value) (s':Shared),CX w [] H s (fun _ _ _=>False) e s'->False) :
  PySem.W.WalkO q loose XP YP l.row.toRowW d [] (fun f vs=>PySem.call f vs):=by
 refine Att.zfV hn hdf fun w s₀ s₁ mg mb fa o pm cd doc a vs ns G Y ho hd hcd hmg hobj hints hlen hg=>?_
 have KX:=hY w _ Y;obtain ⟨fd,hb,hF⟩:=F w mg fa _ KX G.T.g hmg;exact zkl KX G.T.g G.T.b G.T.builtins G.T.nolimit hg hobj hints (yal hlen hn2) hr hF hb (fun H hO hS=>hsp w H a ns hlen hO hS) fun H e s'=>hCX w H s₁ e s'
end L2
namespace L2
open PySem PySem.Spec PyProof.Rows
noncomputable def zbA(s:Stmt):Arguments:=match s with
 | .FunctionDef _ a _ _ _ _ _ _ _ _=>a
 | _=>{ posonlyargs:=[],args:=[],vararg:=none,kwonlyargs:=[],kw_defaults:=[],kwarg:=none,defaults:=[] }
noncomputable def zbt(s:Stmt):List Stmt:=match s with
 | .FunctionDef _ _ b _ _ _ _ _ _ _=>b
 | _=>[]
noncomputable def zab(s:Stmt):Scope:=match s with
 | .FunctionDef _ _ _ _ _ _ sc _ _ _=>sc
 | _=>{ kind:=.function,names:=[],isGenerator:=false,isCoroutine:=false }
structure Fun(K:PySem.W.Frag)(x qual:Str)(st:Stmt)(f:Addr)(fd:FuncData):Prop where
 ex:∃(oc:Value) (od:Option Addr) (kV doc pm:Value) (an:Option Addr) (cdv ct:Value) (osl:Array (Option Value)),
  fd=PySem.W.fnOf x qual (zbA st) (zbt st) (zab st) .none kV doc pm an cdv ct/\K.lookup f=some ⟨oc,od,.func fd,osl⟩/\PySem.W.codeIn K cdv qual=true
 kp:PySem.W.keepIn K (.ref f)=true
section
variable{P:Program}{w:World}{K:PySem.W.Frag}{mg:Z6}{base:Heap}
def Fun.binds{x qual:Str}{st:Stmt}{f:Addr}{fd:FuncData}{ps:List Str}(F:Fun K x qual st f fd)
  (h:∀(kV doc pm:Value) (an:Option Addr) (cdv ct:Value) (us:List Value),us.length=ps.length->bindArgs (PySem.W.fnOf x qual (zbA st) (zbt st) (zab st) .none kV doc pm an cdv ct) ⟨us,[]⟩=pure (ps.zip us)):zck K fd ps []:=by
 obtain ⟨oc,od,kV,doc,pm,an,cdv,ct,osl,rfl,lk,hcd⟩:=F.ex;exact .all (h kV doc pm an cdv ct)
def zll{x qual:Str}{st:Stmt}{f:Addr}{oc:Value}{od an:Option Addr}{osl:Array (Option Value)}{kV doc pm cdv ct:Value}(l:K.lookup f=some ⟨oc,od,.func (PySem.W.fnOf x qual (zbA st) (zbt st) (zab st) .none kV doc pm an cdv ct),osl⟩)
  (c:PySem.W.codeIn K cdv qual=true) (k:PySem.W.keepIn K (.ref f)=true):Fun K x qual st f (PySem.W.fnOf x qual (zbA st) (zbt st) (zab st) .none kV doc pm an cdv ct):=⟨⟨oc,od,kV,doc,pm,an,cdv,ct,osl,rfl,l,c⟩,k⟩
end
section
variable{X:Cx}
end
def zli{A B:Prop}(h:B):if false=true then A else B:=by
 rw [if_neg yaW];exact h
def zlh{A B:Prop}(h:A):if true=true then A else B:=by
 rw [if_pos rfl];exact h
end L2
namespace L2
open PySem PySem.Spec PyProof.Rows
def zg5{scope:Scope}{env:Env}(h:∀y∈scope.names,y.2=.free->∃c,env.cells.lookup y.1=some c) :
  ∃cl,closureFor scope env=pure cl/\(∀y c,cl.lookup y=some c->env.cells.lookup y=some c)/\∀y,(y,NameKind.free)∈scope.names->∃c,cl.lookup y=some c:=by
 unfold closureFor
 have key:∀(l:List (Str×NameKind)) (cs:List (Str×Addr)),(∀y∈l,y.2=.free->∃c,env.cells.lookup y.1=some c)->(∀y c,cs.lookup y=some c->env.cells.lookup y=some c) →
   ∃cl,(forIn l cs fun (x:Str×NameKind) (r:List (Str×Addr))=>(if (x.2 == NameKind.free)=true then (do let c ← cellOf env x.1;pure (ForInStep.yield ((x.1,c)::r))) else pure (ForInStep.yield r):Sem (ForInStep (List (Str×Addr)))))=pure cl ∧
    (∀y c,cl.lookup y=some c->env.cells.lookup y=some c)/\(∀y,(y,NameKind.free)∈l->∃c,cl.lookup y=some c)/\(∀y c,cs.lookup y=some c->∃c',cl.lookup y=some c'):=by
  intro l
  induction l with
  | nil=>intro cs _ hc;exact ⟨cs,rfl,hc,fun y hy=>by simp at hy,fun y c e=>⟨c,e⟩⟩
  | cons p l ih =>
   intro cs hl hc;obtain ⟨n,k⟩:=p
   by_cases hk:(k == NameKind.free)=true
   ·have ek:k=.free:=eq_of_beq hk;obtain ⟨c,ec⟩:=hl (n,k) yaA ek
    obtain ⟨cl,e1,e2,e3,e4⟩:=ih ((n,c)::cs) (fun y hy=>hl y (yas _ hy)) (fun y c' e=>by
     rw [yau] at e
     cases hq:y == n with
     | true=>rw [hq] at e;cases e;rw [eq_of_beq hq];exact ec
     | false=>rw [hq] at e;exact hc y c' e)
    refine ⟨cl,?_,e2,fun y hy=>?_,fun y c' e=>?_⟩
    ·rw [List.forIn_cons];show ((if (k == NameKind.free)=true then _ else _) >>= _)=_;rw [if_pos hk]
     have ecell:cellOf env n=pure c:=by unfold cellOf;rw [ec]
     show (cellOf env n >>= _) >>= _=_;rw [ecell];simpa using e1
    ·rcases yam.mp hy with z | hy
     ·cases z;exact e4 n c (by rw [yau];simp)
     ·exact e3 y hy
    ·cases hq:y == n with
     | true=>exact e4 y c (by rw [yau,hq])
     | false=>exact e4 y c' (by rw [yau,hq];exact e)
   ·obtain ⟨cl,e1,e2,e3,e4⟩:=ih cs (fun y hy=>hl y (yas _ hy)) hc;refine ⟨cl,?_,e2,fun y hy=>?_,e4⟩
    ·rw [List.forIn_cons];show ((if (k == NameKind.free)=true then _ else _) >>= _)=_;rw [if_neg hk];simpa using e1
    ·rcases yam.mp hy with z | hy
     ·cases z;exact absurd rfl hk
     ·exact e3 y hy
 obtain ⟨cl,e1,e2,e3,_⟩:=key scope.names [] h (fun y c e=>by simp at e);refine ⟨cl,?_,e2,e3⟩;show ((forIn scope.names [] _:Sem (List (Str×Addr))) >>= _)=_;have e1':=congrArg (fun m=>m >>= (pure:List (Str×Addr)->Sem (List (Str×Addr)))) e1;simpa using e1
noncomputable def PIf(X:Cx)(ifs:List Expr)(t:TT):Prop :=
 ∀(pins:Z3) (s:Shared) (σ:St) (H:Hp) (Q:Bool->Hp->Prop),Inv X pins σ H s->t σ H Q →
  wpAny (model X.prog X.w) X.A (forIn ifs true fun c r=>if r=true then do let ok ← isTrue c X.env (eval c X.env);pure (ForInStep.yield ok) else pure (ForInStep.yield r)) (TP X pins σ Q) X.xe s
noncomputable def zu2:TT:=fun _ H Q=>Q true H
def zmk{X:Cx}:PIf X [] zu2:=fun _ _ _ H _ I h=>wpAny_tests_nil ⟨H,I,h⟩
def zmj{X:Cx}{c:Expr}{t:TT}(h:PT X c t):PIf X [c] t:=fun pins s σ H Q I hw=>wpAny_tests_one (h pins s σ H Q I hw)
theorem zdc{scope:Scope}{env:Env}:∀{names:List (Str×NameKind)} {y:Str},(y,NameKind.free)∈names->(∀z∈names,z.1=y->z.2=.free) →
  (names.map fun (n,k)=>if (k == NameKind.free&&env.scope.kind == .function&&env.kindOf n == some .cell) then (n,NameKind.cell) else (n,k)).lookup y=some .cell ∨
  (names.map fun (n,k)=>if (k == NameKind.free&&env.scope.kind == .function&&env.kindOf n == some .cell) then (n,NameKind.cell) else (n,k)).lookup y=some .free
 | [],_,h,_=>by simp at h
 | (n,k)::r,y,h,u=>by
  rw [yay];show List.lookup y ((if (k == NameKind.free&&env.scope.kind == .function&&env.kindOf n == some .cell)=true then (n,NameKind.cell) else (n,k))::_)=_\/List.lookup y ((if (k == NameKind.free&&env.scope.kind == .function&&env.kindOf n == some .cell)=true then (n,NameKind.cell) else (n,k))::_)=_
  cases hq:y == n with
  | true =>
   have e:n=y:=(eq_of_beq hq).symm;have ek:k=.free:=u (n,k) yaA e
   by_cases hc:(k == NameKind.free&&env.scope.kind == .function&&env.kindOf n == some .cell)=true
   ·rw [if_pos hc];left;simp [yau,hq]
   ·rw [if_neg hc];right;simp [yau,hq,ek]
  | false =>
   have hy:(y,NameKind.free)∈r:=by
    rcases yam.mp h with z | z
    ·cases z;simp at hq
    ·exact z
   have ih:=zdc (scope:=scope) (env:=env) hy fun z hz=>u z (yas _ hz)
   by_cases hc:(k == NameKind.free&&env.scope.kind == .function&&env.kindOf n == some .cell)=true
   ·rw [if_pos hc];simpa [yau,hq] using ih
   ·rw [if_neg hc];simpa [yau,hq] using ih
def Inv.track{X:Cx}{pins:Z3}{σ:St}{H:Hp}{s:Shared}{D:Addr}{o:HO}(I:Inv X pins σ H s)(hn:H D=none)(h1:X.s₀.heap.objs.size<=D)(h2:D≠X.env.locals)(h3:∀x c,X.env.cells.lookup x=some c->c≠D)(h4:∀p∈X.pn++pins,p.1≠D)
  (new:zaQ X.prog X.w (upd H D o) s.heap D o):Inv X pins σ (upd H D o) s:=by
 have nD:∀b u,H b=some u->b≠D:=fun b u e=>zag e hn
 obtain ⟨h',g',d',t',o'⟩:=s;refine I.step (h':=h') (g':=g') (d':=d') (t':=t') (ch:=[D]) (fun b hb=>?_) (fun b o _ _ _ e _=>e) (fun b o _ _ _ e _=>⟨o.slots,e⟩) (fun b o hc e n=>?_) (fun b o _ e=>⟨o,e⟩) (fun b xs e=>?_) (fun b o u e=>?_) (fun b ps e=>?_) (fun m hm=>hm) (fun b u e=>?_) I.bare
 ·have e:b=D:=by simpa using hb
  subst e;exact ⟨.inr h1,h2,h3,h4⟩
 ·rw [zaf (fun z=>hc (by simp [z]))];exact n
 ·rw [zaf (nD _ _ e)];exact e
 ·rw [zaf (nD _ _ e)];exact e
 ·exact ⟨#[],by rw [zaf (nD _ _ e),e];simp⟩
 ·by_cases hb:b=D
  ·subst hb;rw [zak] at e;cases e;exact new
  ·rw [zaf hb] at e
   exact (I.hok b u e).stay (fun _ _ _ q=>q) (fun c q=>by rw [zaf (nD _ _ q)];exact q) fun c xs q=>by rw [zaf (nD _ _ q)];exact q
section
variable{X:Cx}{elt iter:Expr}{x:Str}{px pos:Pos}{ifs:List Expr}{scope:Scope}{caps:List (Str×Nat)}{wi:TI}{tt:TT}{te:TE}
noncomputable abbrev lob(its:List Value)(k:Nat):Obj:={ cls:=.type "list",data:=.seq its.toArray k }
end
end L2
namespace L2
open PySem PySem.Spec PyProof.Rows
section
variable{X:Cx}{elt iter:Expr}{x:Str}{px pos:Pos}{ifs:List Expr}{scope:Scope}{caps:List (Str×Nat)}{wi:TI}{tt:TT}{te:TE}
end
end L2
namespace L2
open PySem PySem.Spec PyProof.Rows
section
variable{prog:Program}{w:World}{A:Around}{R:Result->Shared->Prop}{s:Shared}
theorem zkh{elt target iter:Expr}{ifs:List Expr}{scope:Scope}{pos:Pos}{it acc:Value}{env:Env}(I:Nat->Shared->Prop)
  (turn:∀n s,I n s->wpAny (model prog w) A (pyNext it) (fun r s₁=>match r with
   | none=>R (.ok .next) s₁
   | some v=>wpAny (model prog w) A (letOwnedTupleGo target it v) (fun _ s₀=>wpAny (model prog w) A (assign target env v) (fun _ s₂ =>
     wpAny (model prog w) A (forIn ifs true fun c r=>if r=true then do let ok ← isTrue c env (eval c env);pure (ForInStep.yield ok) else pure (ForInStep.yield r)) (fun ok s₃ =>
      if ok=true then wpAny (model prog w) A (eval elt env) (fun x s₄ =>
       wpAny (model prog w) A (call (.builtin "list.append") [acc,x]) (fun _ s₅=>∃m,m<n/\I m s₅) (notedBy (model prog w) A env fun e s'=>R (.error e) s') s₄) (notedBy (model prog w) A env fun e s'=>R (.error e) s') s₃
      else ∃m,m<n/\I m s₃) (notedBy (model prog w) A env fun e s'=>R (.error e) s') s₂) (notedBy (model prog w) A env fun e s'=>R (.error e) s') s₀) (notedBy (model prog w) A env fun e s'=>R (.error e) s') s₁) (notedBy (model prog w) A env fun e s'=>R (.error e) s') s)
  (n:Nat) (h:I n s):codeAny (model prog w) A (.compLoop (.ListComp elt [⟨target,iter,ifs,0⟩] scope pos) 0 it acc env) R s:=by
 refine codeAny_loop rfl I (fun n s hI=>?_) n h;show wpAny _ A ((compTurn (.ListComp elt [⟨target,iter,ifs,0⟩] scope pos) 0 it acc env).onRaise (fun x=>do noteFrame x env;theTreesLotGoes x)) _ _ s;refine wpAny_noted ?_;rw [compTurn_list];refine yaa (ycI (yaa (ybe (turn n s hI) (fun r s₁ h₁=>?_) fun _ _ h'=>h')))
 cases r with
 | none=>exact yac h₁
 | some v =>
  refine yaa (ybe h₁ (fun _ s₀ h₀=>?_) fun _ _ h'=>h');refine yaa (ybe h₀ (fun _ s₂ h₂=>yaa (ybe h₂ (fun ok s₃ h₃=>?_) fun _ _ h'=>h')) fun _ _ h'=>h')
  cases ok with
  | false=>exact yac ⟨rfl,h₃⟩
  | true =>
   exact yaa (yaa (ybe h₃ (fun x s₄ h₄=>yaa (ybe h₄ (fun _ s₅ h₅=>yac (yac ⟨rfl,h₅⟩)) fun _ _ h'=>h')) fun _ _ h'=>h'))
end
theorem zaB:∀(names:List (Str×NameKind)) (n:Nat) (acc:List (Str×Addr)),cellsFrom n names acc=cellsFrom n names []++acc
 | [],_,_=>rfl
 | (x,k)::r,n,acc=>by
  unfold cellsFrom;split
  ·rw [zaB r (n+1) ((x,n)::acc),zaB r (n+1) [(x,n)]];simp
  ·exact zaB r n acc
theorem zbL:∀(names:List (Str×NameKind)) (n:Nat) {x:Str} {c:Addr},(x,c)∈cellsFrom n names []->(x,NameKind.cell)∈names
 | [],_,_,_,h=>by cases h
 | (y,k)::r,n,x,c,h=>by
  unfold cellsFrom at h;split at h
  ·rename_i hk;rw [zaB] at h
   rcases ya8.mp h with h | h
   ·exact yas _ (zbL r _ h)
   ·rw [yaL] at h;cases h;rw [yb9.mp hk];exact yaA
  ·exact yas _ (zbL r _ h)
theorem zbl{α:Type}{x:Str}:∀{l m:List (Str×α)},(l++m).lookup x=(l.lookup x).or (m.lookup x)
 | [],m=>rfl
 | (y,a)::l,m=>by
  rw [List.cons_append,yau,yau]
  cases x == y with
  | true=>rfl
  | false=>exact zbl
theorem zbj:∀(names:List (Str×NameKind)) (n:Nat) {x:Str},(x,NameKind.cell)∈names->∃c,(cellsFrom n names []).lookup x=some c
 | [],_,_,h=>by cases h
 | (y,k)::r,n,x,h=>by
  unfold cellsFrom;split
  ·rename_i hk;rw [zaB,zbl]
   rcases yam.mp h with e | h
   ·cases e
    cases hq:(cellsFrom (n+1) r []).lookup y with
    | some c=>exact ⟨c,rfl⟩
    | none=>exact ⟨n,by simp [yau]⟩
   ·obtain ⟨c,e⟩:=zbj r (n+1) h;rw [e];exact ⟨c,rfl⟩
  ·rename_i hk
   rcases yam.mp h with e | h
   ·cases e;exact absurd rfl hk
   ·exact zbj r n h
def zby{M:Model}{A:Around}{E:Z5}{s:Shared}{scope:Scope}{globals:Addr}{closure:List (Str×Addr)}{qual:Str}{func:Option Addr}{code:Value}{outer:Env}{builtins:Addr}{Q:Env->Shared->Prop}
  (hQ:∀h',h'.Ns s.heap.objs.size (fun _=>none)->(∀b o,s.heap.get? b=some o->h'.get? b=some o)->CellsOk h' (s.heap.objs.size+1) (cellsFrom (s.heap.objs.size+1) scope.names []) →
   Q (newEnv scope s.heap.objs.size globals (cellsFrom (s.heap.objs.size+1) scope.names []++closure) qual func code (some outer) builtins) { s with heap:=h' }) :
  wpAny M A (newFunctionEnv scope globals closure [] qual func code (some outer) builtins) Q E s:=by
 simp only [newFunctionEnv,Option.isSome_some,ybM];refine yaa (wpAny_alloc ?_);refine yaa (wpAny_layCells _ (fun name kind cells=>by cases hkc:kind == NameKind.cell<;>simp [hkc]) _ _ _ _ ?_);have ok:=cellsFrom_ok scope.names (s.heap.push { cls:=.type "dict",data:=.dict #[] }) (s.heap.objs.size+1) [] ⟨fun _ _ hm=>(nomatch hm),List.Pairwise.nil⟩ (by rw [yby];exact yaf _);rw [yby] at ok;rw [show ({ s with heap:=s.heap.push { cls:=.type "dict",data:=.dict #[] } }:Shared).heap.objs.size=s.heap.objs.size+1 from yby ..];rw [zaB];simp only [List.forIn_nil];refine yaa (yac (yac ?_));exact hQ _ ((Heap.Ns.new s.heap (.type "dict")).keeps (pushCells_keeps _ _)) (fun b o e=>pushCells_keeps _ _ b o (yae _ e)) ok
structure CompScopeG(sc scope:Scope)(N:List Str)(xs:List Str)(caps:List (Str×Nat)):Prop where
 nd:(scope.names.map (·.1)).Nodup
 kind:scope.kind=.function
 names:∀y∈scope.names,y.2=.local->scope.names.lookup y.1=some .local
 free:∀y∈scope.names,y.2=.free->sc.names.lookup y.1=some .cell\/sc.names.lookup y.1=some .free
 cap:∀p∈caps,N[p.2]?=some p.1/\(p.1,NameKind.free)∈scope.names/\sc.names.lookup p.1≠some .local
 uniq:∀p∈caps,∀z∈scope.names,z.1=p.1->z.2=.free
noncomputable def zaD(X:Cx)(xs:List Str)(caps:List (Str×Nat))(scope:Scope)(cl:List (Str×Addr))(C:Addr)(s:Shared)(H:Hp)(ex:List Addr):Cx :=
 { X with N:=xs++caps.map (·.1),s₀:=s,H₀:=H,env:=compEnvC scope cl C X.env,outer:=X.stack,ex:=ex,fn:=fun x=>decide (scope.names.lookup x=some .cell),pn:=[],xe:=fun _ _=>False }
noncomputable abbrev capσ(σ:St)(n:Nat)(caps:List (Str×Nat)):St:=List.replicate n none++caps.map fun p=>(σ[p.2]?).join
noncomputable def zf3(wi:TI)(g:TG)(tt:TT)(te:TE)(n:Nat)(caps:List (Str×Nat)):TE:=fun σ H Q=>wi σ H fun J H1=>∃W:Nat->Nat->List V->St->Hp->Prop,(∃m,W 0 m [] (capσ σ n caps) H1)/\∀i m ys σ' H,W i m ys σ' H →
 ys.length<=sizeLine/\((J.stop i H/\∀p,H p=none->Q (.ref p) (upd H p (.lst ys))) ∨
 (J.go i H/\∀x H',J.yld i H x H'->g x σ' H' fun σ2 H2=>tt σ2 H2 fun ok H3=>if ok=true then te σ2 H3 fun y H4=>∃m',m'<m/\W (i+1) m' (ys++[y]) σ2 H4 else ∃m',m'<m/\W (i+1) m' ys σ2 H3))
section
variable{X:Cx}{elt iter tg:Expr}{xs:List Str}{pos:Pos}{ifs:List Expr}{scope:Scope}{caps:List (Str×Nat)}{wi:TI}{g:TG}{tt:TT}{te:TE}
structure OwnC(X:Cx)(scope:Scope)(lo:Nat)(h:Heap)(cl:List (Str×Addr)):Prop where
 sort:∀y c,cl.lookup y=some c->X.env.cells.lookup y=some c\/(h.IsCell c none/\lo<=c)
 inj:∀y z c,cl.lookup y=some c->cl.lookup z=some c->y=z
 has:∀y,((y,NameKind.free)∈scope.names\/(y,NameKind.cell)∈scope.names)->∃c,cl.lookup y=some c
 own:∀y c,scope.names.lookup y=some .cell->cl.lookup y=some c->lo<=c
 free:∀y,(y,NameKind.free)∈scope.names->∃c,cl.lookup y=some c/\X.env.cells.lookup y=some c
def zeU{scope:Scope}{env:Env}{y:Str}(h:(relabel scope env).names.lookup y=some .cell\/(relabel scope env).names.lookup y=some .free):(y,NameKind.free)∈scope.names\/(y,NameKind.cell)∈scope.names:=by
 have go:∀k,(relabel scope env).names.lookup y=some k->(k=.cell\/k=.free)->(y,NameKind.free)∈scope.names\/(y,NameKind.cell)∈scope.names:=fun k e hk=>by
  have hm:=yaC e;obtain ⟨⟨n,k0⟩,hp,e2⟩:=yaE.mp hm
  by_cases hq:(k0 == .free&&env.scope.kind == .function&&env.kindOf n == some .cell)=true
  ·have e3:(n,NameKind.cell)=(y,k):=by rw [<-e2];show _=if _ then _ else _;rw [if_pos hq]
   cases e3
   have:k0=.free:=by simp only [yab] at hq;exact eq_of_beq hq.1.1
   subst this;exact .inl hp
  ·have e3:(n,k0)=(y,k):=by rw [<-e2];show _=if _ then _ else _;rw [if_neg hq]
   cases e3
   rcases hk with rfl | rfl
   ·exact .inr hp
   ·exact .inl hp
 rcases h with h | h
 ·exact go _ h (.inl rfl)
 ·exact go _ h (.inr rfl)
theorem ze3:∀{l:List (Str×NameKind)},(l.map (·.1)).Nodup->∀{x:Str} {a b:NameKind},(x,a)∈l->(x,b)∈l->a=b
 | [],_,_,_,_,h,_=>by cases h
 | p::l,nd,x,a,b,h,h'=>by
  rw [yay,ybE] at nd
  rcases yam.mp h with h | h<;>rcases yam.mp h' with h' | h'
  ·rw [<-h'] at h;exact (Prod.mk.inj h).2
  ·exact absurd (yaE.mpr ⟨_,h',by rw [<-h]⟩) nd.1
  ·exact absurd (yaE.mpr ⟨_,h,by rw [<-h']⟩) nd.1
  ·exact ze3 nd.2 h h'
def zia{X:Cx}{scope:Scope}{lo n:Nat}{h:Heap}{cl:List (Str×Addr)}(nd:(scope.names.map (·.1)).Nodup)(hn:lo<=n)(hinj:∀x y c,X.env.cells.lookup x=some c->X.env.cells.lookup y=some c->x=y)
  (hcl:∀y c,cl.lookup y=some c->X.env.cells.lookup y=some c) (hlo:∀y c,X.env.cells.lookup y=some c->c<lo) (hhas:∀y,(y,NameKind.free)∈scope.names->∃c,cl.lookup y=some c) (ok:CellsOk h n (cellsFrom n scope.names [])) :
  OwnC X scope lo h (cellsFrom n scope.names []++cl):=by
 have sort:∀y c,(cellsFrom n scope.names []++cl).lookup y=some c->((cellsFrom n scope.names []).lookup y=some c)\/((cellsFrom n scope.names []).lookup y=none/\cl.lookup y=some c):=fun y c e=>by
  rw [zbl] at e
  cases hq:(cellsFrom n scope.names []).lookup y with
  | some c'=>rw [hq] at e;exact .inl e
  | none=>rw [hq] at e;exact .inr ⟨rfl,e⟩
 refine ⟨fun y c e=>?_,fun y z c e e'=>?_,fun y hy=>?_,fun y c hy e=>?_,fun y hy=>?_⟩
 ·rcases sort y c e with z | ⟨_,z⟩
  ·have:=ok.empty y c (yaC z);exact .inr ⟨this.1,yal hn this.2⟩
  ·exact .inl (hcl y c z)
 ·rcases sort y c e with a | ⟨_,a⟩<;>rcases sort z c e' with b | ⟨_,b⟩
  ·exact name_of_addr ok.apart (yaC a) (yaC b)
  ·have h1:=(ok.empty y c (yaC a)).2;have h2:=hlo z c (hcl z c b);exact absurd (yah h2 (yal hn h1)) (yaQ _)
  ·have h1:=(ok.empty z c (yaC b)).2;have h2:=hlo y c (hcl y c a);exact absurd (yah h2 (yal hn h1)) (yaQ _)
  ·exact hinj y z c (hcl y c a) (hcl z c b)
 ·rw [zbl]
  cases hq:(cellsFrom n scope.names []).lookup y with
  | some c=>exact ⟨c,rfl⟩
  | none =>
   rcases hy with hy | hy
   ·exact hhas y hy
   ·obtain ⟨c,e⟩:=zbj scope.names n hy;rw [hq] at e;cases e
 ·obtain ⟨c',e'⟩:=zbj scope.names n (yaC hy);rw [zbl,e'] at e;have:c'=c:=Option.some.inj e;subst this;exact yal hn (ok.empty y c' (yaC e')).2
 ·obtain ⟨c,e⟩:=hhas y hy;refine ⟨c,?_,hcl y c e⟩;rw [zbl]
  cases hq:(cellsFrom n scope.names []).lookup y with
  | some c' =>
   have:=zbL scope.names n (yaC hq);cases ze3 nd hy this
  | none=>exact e
def ziZ{pins:Z3}{σ:St}{H:Hp}{s s':Shared}{cl:List (Str×Addr)}{C:Addr}{fp:List Addr}(S:CompScopeG X.env.scope scope X.N xs caps)(hu:∀p∈caps,∀z∈scope.names,z.1=p.1->z.2=.free)
  (I:Inv X pins σ H s) (hcl:OwnC X scope s.heap.objs.size s'.heap cl)
  (hf:∀b∈fp,zlx X pins H b) (hlt:∀b∈fp,b<s.heap.objs.size) (hC:s.heap.objs.size<=C) (ho:s'.os=s.os) (hg:s'.gens=s.gens) (hk:∀b o,s.heap.get? b=some o->s'.heap.get? b=some o) (hn:s'.heap.Ns C (fun _=>none)) :
  Inv (zaD X xs caps scope cl C s H fp) [] (capσ σ xs.length caps) H s':=by
 have cellK:∀y c,cl.lookup y=some c->∃v,s'.heap.IsCell c v:=fun y c e=>by
  rcases hcl.sort y c e with z | z
  ·obtain ⟨v,o,q,d⟩:=I.cell y c z;exact ⟨v,o,hk _ _ q,d⟩
  ·exact ⟨none,z.1⟩
 refine ⟨⟨I.ok.mod,S.kind,I.ok.glob,I.ok.blt,hC,hcl.inj,fun y hy=>hcl.has y (zeU hy),fun y c z e=>hcl.own y c (yap z) e,I.ok.hd,I.ok.frames,.inl rfl,fun b hb=>⟨yan (yah (hlt b hb) hC),fun y c e=>(hcl.sort y c e).elim (fun z=>(hf b hb).2.2.2.2.1 y c z) fun z=>ybc (yah (hlt b hb) z.2)⟩,
  I.bs,yal I.ok.bsz I.sz,fun b o e hb=>?_,fun b hb hm=>?_,I.stack,I.stkFree⟩,ho,by rw [hg];exact I.bare,Un.kept hk,⟨_,hn,fun i y v h1 h2 h3=>?_⟩,fun y c e=>cellK y c e,I.hok.fresh hC,fun y c e=>(hcl.sort y c e).elim (I.freeC y c) fun z=>I.hok.fresh z.2,fun p hp=>absurd (show p∈([]:Z3) from hp) (by simp),I.hok.kept hk,?_⟩
 ·rcases (hf b hb).2.2.2.1 with z | z
  ·exact I.ok.noex b o e z
  ·exact absurd (yah (yaj e) (yal I.ok.bsz z)) (yaQ _)
 ·rcases yam.mp (I.stkSub b hm) with z | z
  ·exact (hf b hb).2.1 z
  ·exact (hf b hb).2.2.1 z
 ·have hi:¬ i<xs.length:=fun hi=>by
   have h2':(capσ σ xs.length caps)[i]?=some (some v):=h2;rw [yaH (by rw [yaK];exact hi),ybs] at h2'
   split at h2'<;>cases h2'
  ·have h1':(caps.map (·.1))[i-xs.length]?=some y:=by
    have h1':(xs++caps.map (·.1))[i]?=some y:=h1;rwa [yat (by omega)] at h1'
   rw [yax] at h1'
   have h2':(caps.map fun p=>(σ[p.2]?).join)[i-xs.length]?=some (some v):=by
    have h2':(capσ σ xs.length caps)[i]?=some (some v):=h2;rw [yat (by rw [yaK];omega),yaK] at h2';exact h2'
   rw [yax] at h2'
   cases hp:caps[i-xs.length]? with
   | none=>rw [hp] at h1';cases h1'
   | some p =>
    rw [hp] at h1' h2';have ey:p.1=y:=Option.some.inj h1';have ev:(σ[p.2]?).join=some v:=Option.some.inj h2';subst ey;have hmem:p∈caps:=ya4 hp;obtain ⟨c1,c2,c3⟩:=S.cap p hmem
    have eσ:σ[p.2]?=some (some v):=by
     cases q:σ[p.2]? with
     | none=>rw [q] at ev;cases ev
     | some w=>rw [q] at ev;have:w=some v:=ev;rw [this]
    have hfr:=S.free _ c2 rfl;have hv:Vis X.env.scope p.1:=hfr.elim (fun z=>.inr (.inl z)) (fun z=>.inr (.inr z));obtain ⟨m,_,hl⟩:=I.loc;obtain ⟨u,r,l⟩:=hl p.2 p.1 v c1 eσ hv;refine ⟨u,r,.inr ⟨zdc (scope:=scope) (env:=X.env) c2 (hu p hmem),?_⟩⟩;obtain ⟨c,ec,ec2⟩:=hcl.free p.1 c2;refine ⟨c,ec,?_⟩
    rcases l with ⟨z,_⟩ | ⟨_,c',ec',hcell⟩
    ·exact absurd z c3
    ·have:c'=c:=by rw [ec2] at ec';exact (Option.some.inj ec').symm
     subst this;obtain ⟨o,q,d⟩:=hcell;exact ⟨o,hk _ _ q,d⟩
 ·simp [zaD,capσ]
def zfh{use:Option (Value->Sem Unit)}{Qf:Z5}{R:VK}{pins:Z3}{s:Shared}{σ:St}{H:Hp}(hc:X.calm=true)(S:CompScopeG X.env.scope scope X.N xs caps)(hi:PI X tg iter wi)(hg:∀cl C s H fp,PG (zaD X xs caps scope cl C s H fp) tg g)
  (ht:∀cl C s H fp,PIf (zaD X xs caps scope cl C s H fp) ifs tt) (he:∀cl C s H fp,PE (zaD X xs caps scope cl C s H fp) elt te)
  (hs:∀v,foldedSetIterable iter X.env v=pure v) (I:Inv X pins σ H s) (h:zf3 wi g tt te xs.length caps σ H R)
  (fin:∀(D C:Addr) (s4:Shared) (m4:Z6) (H6:Hp) (r:Flow),s4.heap.Ns C m4->(∀{σ':St} {H7:Hp} {s5:Shared} {h':Heap},Inv X pins σ' H7 s5->Heap.SameBut C s5.heap h'->H7 C=none->Inv X pins σ' H7 { s5 with heap:=h' })->H6 C=none->C≠X.env.locals->(∀y c,X.env.cells.lookup y=some c->C≠c)->Inv X pins σ H6 s4->R (.ref D) H6->compPost (model X.prog X.w) X.A X.xe use Qf (.ref D) C (.ok r) s4) :
  wpAny (model X.prog X.w) X.A (comprehension (.ListComp elt [⟨tg,iter,ifs,0⟩] scope pos) scope X.env (firstIterPos [⟨tg,iter,ifs,0⟩] pos) (newList []) false (eval iter X.env) use) Qf X.xe s:=by
 obtain ⟨cl,hclos,hcl,hhas⟩:=zg5 (scope:=scope) (env:=X.env) fun y hy hf=>I.ok.has y.1 (S.free y hy hf)
 refine wpAny_comprehension_free (use:=use) rfl hs hclos S.kind S.names (thn (hi pins s σ H _ I h) fun v s1 h1=>thn h1 fun itv s2 h2=>?_);obtain ⟨it,fp,tn,J,H2,rfl,I2,T,st2,f2,W,⟨m0,w0⟩,turn⟩:=h2;refine yaU (zby (fun h₁ hns₁ hsb₁ hok₁=>?_));dsimp only at hns₁ hsb₁ hok₁ ⊢;generalize hHp:s2.heap.push { cls:=.type "list",dict:=none,data:=.seq ([]:List Value).toArray }=Hq at hns₁ hsb₁ hok₁ ⊢
 have hCe:Hq.objs.size=s2.heap.objs.size+1:=by rw [<-hHp,yby]
 have hDC:s2.heap.objs.size≠Hq.objs.size:=by rw [hCe];exact yan (ycf _)
 have hC:s2.heap.objs.size<=Hq.objs.size:=by rw [hCe];exact ybg _
 have old:∀b o,s2.heap.get? b=some o->h₁.get? b=some o:=fun b o e=>hsb₁ b o (hHp ▸ yae _ e)
 have hacc:h₁.get? s2.heap.objs.size=some (lob [] 0):=hsb₁ _ _ (hHp ▸ yao _ rfl)
 have cellX:∀y c,X.env.cells.lookup y=some c->c<s2.heap.objs.size:=fun y c e=>by obtain ⟨v,q⟩:=I2.cell y c e;exact q.lt
 have oc:=zia (X:=X) (lo:=s2.heap.objs.size+1) S.nd (by rw [hCe];exact ybg _) I.ok.inj hcl (fun y c e=>ya6 (cellX y c e)) hhas hok₁;generalize hcl2:cellsFrom (Hq.objs.size+1) scope.names []++cl=cl2 at oc ⊢;have oc':OwnC X scope s2.heap.objs.size h₁ cl2:=⟨fun y c e=>(oc.sort y c e).imp id fun z=>⟨z.1,ycG z.2⟩,oc.inj,oc.has,fun y c a e=>ycG (oc.own y c a e),oc.free⟩
 have hlt:∀b∈fp,b<s2.heap.objs.size:=fun b hb=>by obtain ⟨o,e,_⟩:=T.obj 0 _ st2 b hb;exact yaj e
 generalize hY:zaD X xs caps scope cl2 Hq.objs.size s2 H2 fp=Y;have PEY:PE Y elt te:=hY ▸ he cl2 _ s2 H2 fp;have PIY:PIf Y ifs tt:=hY ▸ ht cl2 _ s2 H2 fp;have PGY:PG Y tg g:=hY ▸ hg cl2 _ s2 H2 fp
 have I3:Inv Y [] (capσ σ xs.length caps) H2 { s2 with heap:=h₁ }:=by
  rw [<-hY];exact ziZ S S.uniq I2 oc' f2 hlt hC rfl rfl old hns₁
 have eYenv:Y.env=compEnvC scope cl2 Hq.objs.size X.env:=by rw [<-hY];rfl
 have eYloc:Y.env.locals=Hq.objs.size:=by rw [eYenv];rfl
 have eYfs:Y.fs=frs X.stack:=by rw [<-hY];rfl
 have eYprog:Y.prog=X.prog:=by rw [<-hY];rfl
 have eYw:Y.w=X.w:=by rw [<-hY];rfl
 have eYK:Y.K=X.K:=by rw [<-hY];rfl
 have eYA:Y.A=X.A:=by rw [<-hY];rfl
 have eYc:Y.calm=true:=by rw [<-hY];exact hc
 have eYex:Y.ex=fp:=by rw [<-hY];rfl
 have eYs:Y.s₀=s2:=by rw [<-hY];rfl
 have eYH:Y.H₀=H2:=by rw [<-hY];rfl
 have eYpn:Y.pn=[]:=by rw [<-hY];rfl
 have eYcell:∀y c,Y.env.cells.lookup y=some c->X.env.cells.lookup y=some c\/s2.heap.objs.size+1<=c:=fun y c e=>(oc.sort y c (by rwa [eYenv] at e)).imp id (·.2)
 have eYxe:∀e s',¬ Y.xe e s':=fun e s' z=>by rwa [<-hY] at z
 have stkX:∀b∈frs X.stack,b<s2.heap.objs.size:=fun b hb=>by
  rcases yam.mp (I2.stkSub b hb) with z | z
  ·rw [z];exact I2.lt
  ·refine Nat.not_le.mp fun hle=>I2.nofs hle z
 have pinX:∀p∈X.pn++pins,p.1<s2.heap.objs.size:=fun p hp=>yaj (I2.pin p hp).1
 have fpY:∀{H':Hp} {its:List Value} {k:Nat},(∀b∈fp,H' b=none)->∀b∈fp,zlx Y [(s2.heap.objs.size,lob its k)] H' b:=fun {H' its k} hn b hb=>by
  refine ⟨hn b hb,by rw [eYloc];exact yan (yah (hlt b hb) hC),?_,.inl (by rw [eYex];exact hb),fun y c e=>(eYcell y c e).elim (fun z=>(f2 b hb).2.2.2.2.1 y c z) fun z=>ybc (yah (hlt b hb) (ycG z)),fun p hp=>?_⟩
  ·rw [eYfs];intro hm
   rcases yam.mp (I2.stkSub b hm) with z | z
   ·exact (f2 b hb).2.1 z
   ·exact (f2 b hb).2.2.1 z
  ·rw [eYpn] at hp
   have e:p=(s2.heap.objs.size,lob its k):=by simpa using hp
   rw [e];exact ybc (hlt b hb)
 have pinD:∀{H':Hp} {σ':St} {s':Shared} {its:List Value} {k:Nat},Inv Y [] σ' H' s'->s'.heap.get? s2.heap.objs.size=some (lob its k)->H' s2.heap.objs.size=none->Inv Y [(s2.heap.objs.size,lob its k)] σ' H' s':=fun {H' σ' s' its k} I' e n =>
  I'.pins_of fun p hp=>by
   have ep:p=(s2.heap.objs.size,lob its k):=by simpa using hp
   subst ep;refine ⟨e,n,by rw [eYloc];exact hDC,?_,fun v z=>?_⟩
   ·rw [eYfs];exact fun hm=>yaQ _ (stkX _ hm)
   ·have z':Data.seq its.toArray k=Data.cell v:=z;cases z'
 have loop:codeAny (model X.prog X.w) X.A (.compLoop (.ListComp elt [⟨tg,iter,ifs,0⟩] scope pos) 0 (.ref it) (.ref s2.heap.objs.size) (compEnvC scope cl2 Hq.objs.size X.env))
   (compPost (model X.prog X.w) X.A X.xe use Qf (.ref s2.heap.objs.size) Hq.objs.size) { s2 with heap:=h₁ }:=by
  refine zkh (fun n s'=>∃i σx H' ys its k,Inv Y [(s2.heap.objs.size,lob its k)] σx H' s'/\tn i s'.heap/\(∀b∈fp,H' b=none)/\Vals ys its/\W i n ys σx H') ?_ m0
   ⟨0,capσ σ xs.length caps,H2,[],[],0,pinD I3 hacc (I2.hok.fresh (yaf _)),T.keep _ _ _ st2 fun b hb o e=>old b o e,fun b hb=>(f2 b hb).1,.nil,w0⟩
  rintro n s3 ⟨i,σx,H3,ys,its,k,J3,st3,fr3,rv,w3⟩;obtain ⟨hz,hcase⟩:=turn i n ys σx H3 w3
  rcases hcase with ⟨stop,q⟩ | ⟨go,step⟩
  ·have hd:=T.done Y eYprog eYw eYK eYc i _ s3 _ H3 (notedBy (model X.prog X.w) X.A (compEnvC scope cl2 Hq.objs.size X.env) fun e s'=>compPost (model X.prog X.w) X.A X.xe use Qf (.ref s2.heap.objs.size) Hq.objs.size (.error e) s') J3 (fpY fr3) st3 stop;rw [eYA] at hd;refine thn hd fun r s4 ⟨hr,J4⟩=>?_
   subst hr;obtain ⟨m4,hn4,_⟩:=J4.loc
   have hn4':s4.heap.Ns Hq.objs.size m4:=by rw [<-eYloc];exact hn4
   have hnC:H3 Hq.objs.size=none:=by rw [<-eYloc];exact J4.free
   have hk5:HOk X.prog X.w H3 s4.heap:=by rw [<-eYprog,<-eYw];exact J4.hok
   have u5:Un (frs X.stack) fp H2 H3 s2.heap s4.heap:=by
    have ub:=J4.base;rwa [eYfs,eYex,eYH,eYs] at ub
   have J5:Inv X pins σ H3 s4:=I2.call' (s':=s4) (ch:=fp) (by have:=J4.os;rwa [eYs] at this) u5 hk5 J4.bare fun b hb=>⟨(f2 b hb).2.2.2.1,(f2 b hb).2.1,(f2 b hb).2.2.2.2.1,(f2 b hb).2.2.2.2.2⟩
   have hp4:=J4.pin (s2.heap.objs.size,lob its k) (yaD _ yaA);have hD5:s4.heap.get? s2.heap.objs.size=some (lob its k):=hp4.1;have J6:Inv X pins σ (upd H3 s2.heap.objs.size (.lst ys)) s4:=J5.track hp4.2.1 I2.sz (ybc I2.lt) (fun y c e=>yan (cellX y c e)) (fun p hp=>yan (pinX p hp)) (show zaQ X.prog X.w _ s4.heap _ (.lst ys) from ⟨hz,its,k,rv,hD5⟩);have hCloc:Hq.objs.size≠X.env.locals:=ybc (yah I2.lt hC);exact fin _ Hq.objs.size s4 m4 _ _ hn4' (fun {σ'} {H7} {s5} {h'} J sb' hn=>J.turned (t':=s5.toks) (it:=Hq.objs.size) (fun b o hb e=>(sb'.2 b hb).trans e) hn hCloc (.inr (yal I2.sz hC)) (fun y c e=>yan (yah (cellX y c e) hC)) (fun p hp=>yan (yah (pinX p hp) hC))) (by rw [zaf (Ne.symm hDC)];exact hnC) hCloc (fun y c e=>ybc (yah (cellX y c e) hC)) J6 (q _ hp4.2.1)
  ·have hd:=T.item Y eYprog eYw eYK eYc i _ s3 _ H3 (notedBy (model X.prog X.w) X.A (compEnvC scope cl2 Hq.objs.size X.env) fun e s'=>compPost (model X.prog X.w) X.A X.xe use Qf (.ref s2.heap.objs.size) Hq.objs.size (.error e) s') J3 (fpY fr3) st3 go;rw [eYA] at hd;refine thn hd fun r s4 ⟨u,hr,h4⟩=>?_
   subst hr;refine thn h4 fun _ s5 ⟨v4,H4,J4,r4,y4,st5,fr4⟩=>?_
   have J4':=J4.pinned (fp:=fp) (fpY fr4) (T.obj _ _ st5);have ha:=PGY _ s5 σx H4 v4 u _ J4' r4 (step v4 H4 y4);rw [eYprog,eYw,eYA,eYenv] at ha;refine ybe ha (fun _ s5' ⟨σ5,H5,J5',q5⟩=>?_) fun e s' z=>(eYxe _ _ z).elim
   have ht5:=PIY _ s5' σ5 H5 _ J5' q5;rw [eYprog,eYw,eYA,eYenv] at ht5;refine ybe ht5 (fun ok s6 ⟨H6,J6,q6⟩=>?_) fun e s' z=>(eYxe _ _ z).elim
   have back:∀{H7:Hp} {s7:Shared},Inv Y ([(s2.heap.objs.size,lob its k)]++zeY fp s5.heap) σ5 H7 s7->tn (i+1) s7.heap/\∀b∈fp,H7 b=none:=fun {H7 s7} J7 =>
    ⟨T.keep _ _ _ st5 fun b hb o e=>(J7.pin (b,o) (yaD _ (yaD _ (zcb hb e)))).1,fun b hb=>by
     obtain ⟨o,e,d⟩:=T.obj _ _ st5 b hb
     exact (J7.pin (b,o) (yaD _ (yaD _ (zcb hb e)))).2.1⟩
   cases ok with
   | false =>
    rw [if_neg yaW] at q6;rw [if_neg yaW];obtain ⟨m',hm',w6⟩:=q6;exact ⟨m',hm',i+1,σ5,H6,ys,its,k,J6.unpinned,(back J6).1,(back J6).2,rv,w6⟩
   | true =>
    rw [if_pos rfl] at q6;rw [if_pos rfl];have he6:=PEY _ s6 _ H6 _ J6 q6;rw [eYprog,eYw,eYA,eYenv] at he6;refine ybe he6 (fun u7 s7 ⟨v7,H7,J7,r7,m',hm',w7⟩=>?_) fun e s' z=>(eYxe _ _ z).elim
    obtain ⟨st7,fr7⟩:=back J7;have hp7:=(J7.unpinned).pin (s2.heap.objs.size,lob its k) (yaD _ yaA);have hl:=rv.length;refine append_at (hsz:=by show its.toArray.size<=sizeLine;rw [yai];omega) hp7.1 fun h8 sb8 hD8=>?_
    have J7':Inv Y [] σ5 H7 s7:=J7.unpinned.pins_of fun p hp=>absurd hp (by simp)
    have J8:Inv Y [] σ5 H7 { s7 with heap:=h8 }:=J7'.turned (t':=s7.toks) (it:=s2.heap.objs.size) (fun b o hb e=>(sb8.2 b hb).trans e) hp7.2.1 (by rw [eYloc];exact hDC) (.inr (by rw [eYs];exact yaf _)) (fun y c e=>(eYcell y c e).elim (fun z=>yan (cellX y c z)) fun z=>ybc z) (fun p hp=>by rw [eYpn] at hp;simp at hp)
    have hD8':h8.get? s2.heap.objs.size=some (lob (its++[u7]) (k+1)):=by rw [hD8];simp [lob]
    exact ⟨m',hm',i+1,σ5,H7,ys++[v7],its++[u7],k+1,pinD J8 hD8' hp7.2.1,T.keep _ _ _ st7 fun b hb o e=>(sb8.2 b (yan (hlt b hb))).trans e,fr7,rv.append (.cons r7 .nil),w7⟩
 exact codeAny_compStart_list loop (T.self X.A 0 _ _ _ (T.keep _ _ _ st2 fun b hb o e=>old b o e) loop)
def zjV(hc:X.calm=true)(S:CompScopeG X.env.scope scope X.N xs caps)(hi:PI X tg iter wi)(hg:∀cl C s H fp,PG (zaD X xs caps scope cl C s H fp) tg g)
  (ht:∀cl C s H fp,PIf (zaD X xs caps scope cl C s H fp) ifs tt) (he:∀cl C s H fp,PE (zaD X xs caps scope cl C s H fp) elt te)
  (hs:∀v,foldedSetIterable iter X.env v=pure v:=by intro _;rfl):PE X (.ListComp elt [⟨tg,iter,ifs,0⟩] scope pos) (zf3 wi g tt te xs.length caps):=by
 intro pins s σ H Q I h;rw [eval_ListComp];exact zfh (use:=none) hc S hi hg ht he hs I h fun D C s4 m4 H6 r hn tr hC _ _ J6 q=>⟨m4,hn,fun h5 sb=>⟨.ref D,H6,tr J6 sb hC,rfl,q⟩⟩
def zjJ{k0:Nat}{y0:Str}{py spos:Pos}(hc:X.calm=true)(S:CompScopeG X.env.scope scope X.N xs caps)(hN0:X.N.Nodup)(hi0:X.N[k0]?=some y0)(hx0:Loc X.env.scope y0)(hi:PI X tg iter wi)(hg:∀cl C s H fp,PG (zaD X xs caps scope cl C s H fp) tg g)
  (ht:∀cl C s H fp,PIf (zaD X xs caps scope cl C s H fp) ifs tt) (he:∀cl C s H fp,PE (zaD X xs caps scope cl C s H fp) elt te)
  (hsw:swapsWith (.ListComp elt [⟨tg,iter,ifs,0⟩] scope pos) (some (.Name y0 py)) spos.line X.env=pure true)
  (hf0:X.fn y0=true\/X.env.scope.names.lookup y0=some .local)
  (hs:∀v,foldedSetIterable iter X.env v=pure v):PS X (.Assign [.Name y0 py] (.ListComp elt [⟨tg,iter,ifs,0⟩] scope pos) spos) (znw (zf3 wi g tt te xs.length caps) (ziP k0)):=by
 intro pins s σ H DD I h;rw [exec_Assign_Name_used _ _ _ _ hsw];refine yaa (ycI (yaa ?_));show wpAny _ X.A (do let _ ← comprehension (.ListComp elt [⟨tg,iter,ifs,0⟩] scope pos) scope X.env _ (newList []) false (eval iter X.env) (some (assign (.Name y0 py) X.env))) _ _ s;refine yaa (ybe (zfh (use:=some (assign (.Name y0 py) X.env)) (Qf:=fun _ s'=>SP X pins DD .next s') hc S hi hg ht he hs I h fun D C s4 m4 H6 r hn tr hC hl hce J6 q=>?_) (fun _ s' hq=>yac (yac hq)) fun _ _ e=>e);show wpAny _ X.A (assign (.Name y0 py) X.env (.ref D)) _ X.xe s4;refine wpAny_assign_Name (zeM (i:=k0) J6 hN0 hi0 hx0 (v:=.ref D) rfl (fun s5 J7 ⟨a,sb,ha⟩=>?_) hf0);have haC:C≠a:=ha.elim (fun z=>by rw [z];exact hl) fun z=>hce _ _ z
 exact ⟨m4,hn.sameBut sb haC,fun h' sb'=>⟨_,_,tr J7 sb' hC,q⟩⟩
end
end L2
namespace ST
open PySem PySem.SetTable
noncomputable def stp(mask:Nat)(p:Probe):Probe :=
 if p.more > 0 then { p with j:=p.j+1,more:=p.more-1 } else
 { p with j:=(leap mask p.i p.perturb).1,more:=runEnd mask (leap mask p.i p.perturb).1-(leap mask p.i p.perturb).1,i:=(leap mask p.i p.perturb).1,perturb:=(leap mask p.i p.perturb).2 }
noncomputable def itr(mask:Nat):Nat->Probe->Probe
 | 0,p=>p
 | n+1,p=>itr mask n (stp mask p)
noncomputable def zsj(mask i pert:Nat):Probe:={ j:=i,more:=runEnd mask i-i,i:=i,perturb:=pert,dummy:=none }
noncomputable def st(mask:Nat)(h:Int)(n:Nat):Probe:=itr mask n (zsj mask (bits h % (mask+1)) (bits h))
noncomputable def pos(mask:Nat)(h:Int)(n:Nat):Nat:=(st mask h n).j
end ST
namespace ST
open PySem PySem.SetTable
noncomputable def Cut(ps:List Nat)(j c:Nat):Prop:=c<=ps.length/\(∀k x,k<c->ps[k]?=some x->x<j)/\∀k x,c<=k->ps[k]?=some x->j<=x
theorem zgw:∀(ps:List Nat) (j:Nat),ps.Pairwise (· < ·)->∃c,Cut ps j c
 | [],j,_=>⟨0,yaf _,fun k x h _=>by omega,fun k x _ e=>by simp at e⟩
 | a::ps,j,h=>by
  obtain ⟨ha,hp⟩:=yb0.mp h
  by_cases hj:a<j
  ·obtain ⟨c,h1,h2,h3⟩:=zgw ps j hp;refine ⟨c+1,Nat.succ_le_succ h1,fun k x hk e=>?_,fun k x hk e=>?_⟩
   ·cases k with
    | zero=>simp at e;omega
    | succ k=>exact h2 k x (by omega) (by simpa using e)
   ·cases k with
    | zero=>omega
    | succ k=>exact h3 k x (by omega) (by simpa using e)
  ·refine ⟨0,yaR _,fun k x hk _=>by omega,fun k x _ e=>?_⟩
   cases k with
   | zero=>simp at e;omega
   | succ k =>
    have:=ha x (ya4 (by simpa using e));omega
theorem ziO{xs:Array Nat}{j c:Nat}(hc:Cut xs.toList j c):∀(fuel lo hi:Nat),lo<=c->c<=hi->hi<=xs.size->hi-lo<=fuel->below.go xs j fuel lo hi=c
 | 0,lo,hi,h1,h2,h3,h4=>by unfold below.go;omega
 | fuel+1,lo,hi,h1,h2,h3,h4=>by
  unfold below.go
  by_cases hlt:lo<hi
  ·rw [if_pos hlt]
   have hm:(lo+hi) / 2<xs.size:=by omega
   have e:xs.toList[(lo+hi) / 2]?=some xs[(lo+hi) / 2]:=by rw [ya9];exact ya7 hm
   have eD:xs.getD ((lo+hi) / 2) j=xs[(lo+hi) / 2]:=by simp [Array.getD,hm]
   show (if xs.getD ((lo+hi) / 2) j<j then below.go xs j fuel ((lo+hi) / 2+1) hi else below.go xs j fuel lo ((lo+hi) / 2))=c;rw [eD]
   by_cases hx:xs[(lo+hi) / 2]<j
   ·rw [if_pos hx];refine ziO hc fuel _ _ ?_ h2 h3 (by omega);refine Classical.byContradiction fun z=>?_
    have:=hc.2.2 ((lo+hi) / 2) _ (by omega) e;omega
   ·rw [if_neg hx];refine ziO hc fuel _ _ h1 ?_ (by omega) (by omega);refine Classical.byContradiction fun z=>?_
    have:=hc.2.1 ((lo+hi) / 2) _ (by omega) e;omega
  ·rw [if_neg hlt];omega
def zdT{xs:Array Nat}{j c:Nat}(hc:Cut xs.toList j c):below xs j=c:=by
 unfold below;exact ziO hc _ _ _ (yaR _) (by have:=hc.1;simpa using this) (yaf _) (by omega)
def zhC{t:SetTable}(hs:t.place.toList.Pairwise (· < ·))(hd:t.dummies=#[]){j:Nat}(h:j ∉ t.place.toList):t.slot j=.empty:=by
 obtain ⟨c,hc⟩:=zgw t.place.toList j hs;unfold slot;rw [zdT hc]
 have e:(t.place[c]? == some j)=false:=by
  rw [<-ya9]
  cases q:t.place.toList[c]? with
  | none=>rfl
  | some x =>
   have:x≠j:=fun z=>h (z ▸ ya4 q)
   simpa using this
 show (if (t.place[c]? == some j)=true then Slot.live c else if has t.dummies j=true then .dummy else .empty)=.empty;rw [e,if_neg (by simp),hd]
 have:has #[] j=false:=by unfold has below;rfl
 rw [this,if_neg (by simp)]
def zmE{α:Type}(xs:List α)(c:Nat)(x y:α):y∈xs.take c++x::xs.drop c↔y=x\/y∈xs:=by
 have e:y∈xs↔y∈xs.take c++xs.drop c:=by rw [List.take_append_drop]
 rw [e];simp only [ya8,yam];constructor
 ·rintro (h | h | h)
  ·exact .inr (.inl h)
  ·exact .inl h
  ·exact .inr (.inr h)
 ·rintro (h | h | h)
  ·exact .inr (.inl h)
  ·exact .inl h
  ·exact .inr (.inr h)
def zcd{α:Type}(xs:Array α)(p:Nat)(x:α):(insertAt xs p x).toList=xs.toList.take p++x::xs.toList.drop p:=by
 simp [insertAt,List.extract_eq_take_drop,yb7]
def zoG{t:SetTable}(hd:t.dummies=#[])(j:Nat):t.put j=({ t with place:=insertAt t.place (below t.place j) j },below t.place j):=by
 unfold put
 have:has t.dummies j=false:=by rw [hd];unfold has below;rfl
 rw [this];simp
def zlR{ps:List Nat}{j c:Nat}(hs:ps.Pairwise (· < ·))(hc:Cut ps j c)(hj:j ∉ ps):(ps.take c++j::ps.drop c).Pairwise (· < ·):=by
 rw [List.pairwise_append,yb0]
 have e:(ps.take c++ps.drop c).Pairwise (· < ·):=by rw [List.take_append_drop];exact hs
 rw [List.pairwise_append] at e
 have lo:∀x∈ps.take c,x<j:=fun x hx=>by
  obtain ⟨k,hk⟩:=List.getElem?_of_mem hx;rw [ycu] at hk;split at hk
  ·exact hc.2.1 k x (by assumption) hk
  ·cases hk
 have hi:∀x∈ps.drop c,j<x:=fun x hx=>by
  obtain ⟨k,hk⟩:=List.getElem?_of_mem hx;rw [yba] at hk;have h1:=hc.2.2 (c+k) x (by omega) hk;have h2:x≠j:=fun z=>hj (z ▸ ya4 hk)
  omega
 refine ⟨e.1,⟨hi,e.2.1⟩,fun x hx y hy=>?_⟩
 rcases yam.mp hy with rfl | hy
 ·exact lo x hx
 ·have:=lo x hx;have:=hi y hy;omega
end ST
namespace ST
open PySem PySem.SetTable
end ST
namespace ST
open PySem PySem.Spec PyProof.Rows
section
variable{prog:Program}{w:World}{A:Around}{E:Z5}{s:Shared}
end
end ST
namespace ST
open PySem PySem.Spec PyProof.Rows
section
variable{prog:Program}{w:World}{A:Around}{E:Z5}{s:Shared}
def ztn{h:Heap}{a:Addr}{o:Obj}{es es':Array (Int×Value)}{ep:Nat}{t t':SetTable}(ho:h.get? a=some o)(hx:o.ExactSet)(hd:o.data=.set es ep t) :
  ∃o',(h.update a (Obj.putSet es' t')).get? a=some o'/\o'.ExactSet/\o'.data=.set es' (ep+1) t':=by
 refine ⟨{ o with data:=.set es' (ep+1) t' },?_,hx,rfl⟩;rw [ycd _ ho (by rw [putSet_of es' t' hd];rfl),putSet_of es' t' hd]
end
end ST
namespace ST
open PySem PySem.Spec PyProof.Rows
section
variable{prog:Program}{w:World}{A:Around}{R:Result->Shared->Prop}{s:Shared}
end
end ST
namespace PySem
section
variable{prog:Program}{w:World}{A:Around}{E:Z5}{s:Shared}
end
end PySem
namespace L2
open PySem PySem.Spec PyProof.Rows
section
variable{X:Cx}{a b c:Expr}{ta tb tc:TE}{pos:Pos}
def zfT:zc9 X (.builtin "isinstance") (fun xs H Q=>∃x t c k,xs=[x,.ty c]/\TyOf X.K H x t/\PySem.W.kitOne X.K t (.type c)=some k/\Q (.bl k) H):=by
 intro pins s σ H xs us Q I r h;obtain ⟨x,t,c,k,rfl,ty,e,q⟩:=h
 cases r with
 | cons r1 rr =>
  cases rr with
  | cons r2 r3 =>
   cases r3;cases (show _=Value.type c from r2);exact ziC I r1 ty e fun tk=>⟨.bl k,H,I.tok tk,rfl,q⟩
def zem(bs:List Bool):((List.range bs.length).all fun i=>(bs[i]?).getD true)=bs.all id:=by
 rw [ycp,ybS,ybS];constructor
 ·intro h b hb;obtain ⟨i,hi,e⟩:=yci.mp hb;have:=h i (ybO.mpr hi);rwa [yad hi,e] at this
 ·intro h i hi;have hi':=ybO.mp hi;rw [yad hi'];exact h _ (ybh hi')
def zfU(hc:X.calm=true):zc9 X (.builtin "all") (fun xs H Q=>∃(p:Addr) (bs:List Bool),xs=[.ref p]/\SqL X.K H p (bs.map V.bl)/\Q (.bl (bs.all id)) H):=by
 intro pins s σ H xs us Q I r h;obtain ⟨p,bs,rfl,hq,q⟩:=h;obtain ⟨u,rfl,rx⟩:=zeG r;cases rx;obtain ⟨its,rv,pl,hz⟩:=I.list hq;have hl:=pl.isList
 have hlt:p<s.heap.objs.size:=by obtain ⟨_,e,_⟩:=hl;exact yaj e
 have hn:its.length=bs.length:=by have:=rv.length;rw [yak] at this;exact this.symm
 refine call_all_walk (yb8 hl ?_);refine ⟨s.heap.objs.size,[s.heap.objs.size,p],[s.heap.objs.size],its.toArray.size,_,_,fun i=>(bs[i]?).getD true,rfl,Walks.list (A:=X.A.in1) (I.ok.hd hc) _ p (yan hlt) its.toArray,⟨⟨_,yao _ rfl,rfl,rfl⟩,hl.push _⟩,fun i v s' Q' E' hP hQ=>?_,fun h' tk hk=>?_⟩
 ·have hv:its[i]?=some v:=by simpa using hP
  have hi:i<bs.length:=by rw [<-hn];exact (yaq.mp hv).1
  obtain ⟨u,hu,ru⟩:=rv.get (i:=i) (x:=.bl bs[i]) (by rw [yax,yad hi];rfl);rw [hv] at hu;cases hu;cases (show v=Value.bool bs[i] from ru);refine ya1 ?_;have hQ':Q' ((bs[i]?).getD true) s':=hQ;rwa [yad hi] at hQ'
 ·rw [yai,hn,zem];refine ⟨.bl _,H,I.kept (t':=tk) fun b o e=>?_,rfl,q⟩;exact hk b o (fun hm=>by rw [yaL.mp hm] at e;exact yaQ _ (yaj e)) (yae _ e)
def zfI:OpR X (compareOp .IsNot) (fun x y H Q=>∃i j,x=.bl i/\y=.bl j/\Q (.bl (!decide (i=j))) H):=by
 intro pins s σ H x y v u Q I rx ry h;obtain ⟨i,j,rfl,rfl,q⟩:=h;cases rx;cases ry;show wpAny _ _ (isSame (Value.bool i) (Value.bool j) >>= fun r=>pure (Value.bool (!r))) _ _ s;refine yaa (wpAny_isSame_plain (by rfl) (yac ?_));refine ⟨.bl (!decide (i=j)),H,I,?_,q⟩;show _=Value.bool _;congr 1
 cases i<;>cases j<;>rfl
def zj2:OpR X (binaryOp .Add) (fun x y H Q=>∃(a b:Addr) (ys:List V),x=.ref a/\y=.ref b/\SqT X.K H a []/\SqT X.K H b ys/\Q (.ref b) H):=by
 intro pins s σ H x y v u Q I rx ry h;obtain ⟨a,b,ys,rfl,rfl,ha,hb,q⟩:=h;cases rx;cases ry;obtain ⟨its,r1,p1,_⟩:=I.tuple ha;obtain ⟨its2,r2,p2,_⟩:=I.tuple hb;cases r1;obtain ⟨⟨cls,dd,data,sl⟩,ho,hc,n,hd⟩:=id p1;obtain ⟨⟨cls2,dd2,data2,sl2⟩,ho2,hc2,n2,hd2⟩:=id p2;simp only at hc hd hc2 hd2;subst hc hd hc2 hd2
 exact concat_meets ⟨_,ho,rfl⟩ ⟨_,ho2,rfl⟩ noFill_tuple_add seq_tuple_add yb4 ybZ (ybV _ _)
  (tuple_addW0 a b ([]:List Value).toArray its2.toArray n n2 dd dd2 sl sl2 (by rfl)) ⟨ho,ho2,⟨.ref b,H,I,rfl,q⟩⟩
end
end L2
namespace PySem
open PySem.Spec PyProof.Rows
def zcn:fillsNumberSlot (.type "tuple") "mul" = pure false :=
 fillsNumberSlot_seq (id:="tuple.__mul__") (r:=some (.builtin "tuple.__rmul__")) ycg.lookup (by decide +kernel) F.slot_tuple_rmul.lookup (by decide +kernel)
def zdZ:seqRepeat? (.type "tuple")=pure (some (.builtin "tuple.__mul__")):=by
 have e1:=seqSlot_of (T:="tuple") (name:="__mul__") (id:="tuple.__mul__") ycg.lookup (by decide +kernel);have e2:=seqSlot_of (T:="tuple") (name:="__rmul__") (id:="tuple.__rmul__") F.slot_tuple_rmul.lookup (by decide +kernel);unfold seqRepeat?;rw [e1,e2];rfl
def zdg(a:Int)(t:Tok)(l:Addr)(o:Obj){its:Array Value}{n:Nat}(hc:o.cls=.type "tuple")(hdd:o.data=.seq its n) :
  Meets (Builtin.«int.__rmul__» ⟨[.int a t,.ref l],[]⟩) (fun _ R s=>s.heap.get? l=some o/\R (.ok (.ret Value.notImplemented)) s) :=
 .of_wp fun prog w A R s h=>by
  obtain ⟨c,d,dt,sl⟩:=o;simp only at hc hdd;subst hc hdd;obtain ⟨hp,g,dr,tk,os⟩:=s;obtain ⟨hl,h⟩:=h
  wp_walk
  exact ⟨_,rfl,h⟩
section
variable{prog:Program}{w:World}{A:Around}{E:Z5}{s:Shared}
def zeJ{a:Addr}{o:Obj}{its:Array Value}{n:Nat}{k:Int}{t:Tok}{P:Fin->Shared->Prop}(ho:s.heap.get? a=some o)(hc:o.cls=.type "tuple")(hd:o.data=.seq its n)(hne:its.isEmpty=false)(h2:2<=k)(hz:(its.size:Int)*k<=1000000)(hk:k<=1000)
  (h:P (.done (.ret (.ref s.heap.objs.size))) { s with heap:=s.heap.push { cls:=.type "tuple",data:=.seq ((List.replicate k.toNat its).foldl (·++·) #[]) } }) (hsz:((List.replicate k.toNat its).foldl (·++·) #[]).size<=sizeLine) :
  wpAny (model prog w) A (Builtin.«tuple.__mul__» ⟨[.ref a,.int k t],[]⟩) P E s:=by
 show wpAny _ _ (asIndex (.int k t) >>= _) _ _ s;refine yaa ?_;unfold asIndex;refine yaa (yac ?_);dsimp only;refine yac ?_
 have e0:(decide (k < -(2 ^ 63))||decide (k ≥ 2 ^ 63))=false:=by
  rw [Bool.or_eq_false_iff];refine ⟨yaM ?_,yaM ?_⟩
  ·omega
  ·omega
 rw [e0];simp only [yaF,ybm];refine yaa (ycv ho hd ?_)
 have e1:(its.isEmpty||k == 1)=false:=by rw [hne,Bool.false_or];simp;omega
 rw [e1];simp only [yaF,ybm]
 have e2:(decide (k<=0)||its.isEmpty)=false:=by rw [hne,Bool.or_false];exact yaM (by omega)
 rw [e2];simp only [yaF,ybm];rw [if_neg (by omega)]
 have e3:Builtin.Tuple.tupleTooMany (its.size*k)=false:=by
  unfold Builtin.Tuple.tupleTooMany;refine yaM ?_
  have:(1000000:Int)<=(sizeLine:Int):=by decide
  omega
 rw [e3];simp only [yaF,ybm];unfold Builtin.Tuple.tupleExact;exact yaa (yaU (yac h) hsz)
def zeI{a:Addr}{o:Obj}{its:Array Value}{n:Nat}{t:Tok}{P:Fin->Shared->Prop}(ho:s.heap.get? a=some o)(hc:o.cls=.type "tuple")(hd:o.data=.seq its n)(h:P (.done (.ret (.ref a))) s) :
  wpAny (model prog w) A (Builtin.«tuple.__mul__» ⟨[.ref a,.int 1 t],[]⟩) P E s:=by
 show wpAny _ _ (asIndex (.int 1 t) >>= _) _ _ s;refine yaa ?_;unfold asIndex;refine yaa (yac ?_);dsimp only;refine yac ?_
 have e0:(decide ((1:Int) < -(2 ^ 63))||decide ((1:Int) ≥ 2 ^ 63))=false:=by decide
 rw [e0];simp only [yaF,ybm];refine yaa (ycv ho hd ?_)
 have e1:(its.isEmpty||(1:Int) == 1)=true:=by simp
 rw [e1];simp only [ybM];unfold Builtin.Tuple.tupleIsExact;refine yaa (yaa (ybW (T:="tuple") ⟨o,ho,hc⟩ (yac ?_)));simp only [ybi,ybM];exact yaa (ycC (yac h))
def zmB{a:Addr}{o:Obj}{its:Array Value}{n:Nat}{k:Int}{t:Tok}{Q:Z5}(ho:s.heap.get? a=some o)(hc:o.cls=.type "tuple")(hd:o.data=.seq its n)(hne:its.isEmpty=false)(h2:2<=k)(hz:(its.size:Int)*k<=1000000)(hk:k<=1000)
  (h:Q (.ref s.heap.objs.size) { s with heap:=s.heap.push { cls:=.type "tuple",data:=.seq ((List.replicate k.toNat its).foldl (·++·) #[]) } }) (hsz:((List.replicate k.toNat its).foldl (·++·) #[]).size<=sizeLine) :
  wpAny (model prog w) A (binaryOp .Mult (.ref a) (.int k t)) Q E s:=by
 have hT:s.TypeIs (.ref a) "tuple":=⟨o,ho,hc⟩
 refine ybP (T:="tuple") (U:="int") (by decide) hT (fun s'=>ycl s' k t) zcn F.fills_int_mul ybF zdZ F.slot_int_index.lookup
  (yca ybF (ycl s k t) F.entry_int_rmul (ycF _ _) (zdg k t a o hc hd) ⟨ho,rfl,hT,?_⟩)
 exact yaZ ycg hT F.entry_tuple_mul (zeJ ho hc hd hne h2 hz hk ⟨_,rfl,h⟩ hsz) (F.args_tuple_mul_2 _ _)
def zka{a:Addr}{o:Obj}{its:Array Value}{n:Nat}{t:Tok}{Q:Z5}(ho:s.heap.get? a=some o)(hc:o.cls=.type "tuple")(hd:o.data=.seq its n)(h:Q (.ref a) s):wpAny (model prog w) A (binaryOp .Mult (.ref a) (.int 1 t)) Q E s:=by
 have hT:s.TypeIs (.ref a) "tuple":=⟨o,ho,hc⟩
 refine ybP (T:="tuple") (U:="int") (by decide) hT (fun s'=>ycl s' 1 t) zcn F.fills_int_mul ybF zdZ F.slot_int_index.lookup
  (yca ybF (ycl s 1 t) F.entry_int_rmul (ycF _ _) (zdg 1 t a o hc hd) ⟨ho,rfl,hT,?_⟩)
 exact yaZ ycg hT F.entry_tuple_mul (zeI ho hc hd ⟨_,rfl,h⟩) (F.args_tuple_mul_2 _ _)
end
end PySem
namespace L2
open PySem PySem.Spec PyProof.Rows
inductive D where
 | non | bl (b:Bool) | int (i:Int) | str (x:Str) | tup (l:List D) | lst (l:List D)
section
variable{X:Cx}
def zmq:OpR X (binaryOp .Mult) (fun x y H Q=>∃(p:Addr) (k:Int) (xs:List V),x=.ref p/\y=.int k/\SqT X.K H p xs/\xs≠[]/\2<=k/\k<=1000/\xs.length<=1000/\∀l,H l=none->Q (.ref l) (upd H l (.tup (List.replicate k.toNat xs).flatten))):=by
 intro pins s σ H x y v u Q I rx ry h;obtain ⟨p,k,xs,rfl,rfl,hq,hne,h2,hk,hx,q⟩:=h;cases rx;obtain ⟨t,rfl⟩:=ry;obtain ⟨its,rv,⟨o,ho,hc,n,hd⟩,_⟩:=I.tuple hq;have hl:=rv.length
 have hnew:(List.replicate k.toNat its.toArray).foldl (·++·) #[]=(List.replicate k.toNat its).flatten.toArray:=by
  have:=zdI its k.toNat [];rwa [List.nil_append] at this
 have hsz:(List.replicate k.toNat its).flatten.length<=1000000:=by
  rw [zfL];exact yal (ybl (show k.toNat<=1000 by omega) (show its.length<=1000 by omega)) (by decide)
 have hline:(1000000:Nat)<=sizeLine:=by decide
 refine zmB ho hc hd ?_ h2 ?_ hk ?_ ?_
 ·have:its≠[]:=fun z=>hne (by cases xs with | nil=>rfl | cons a r=>rw [z] at hl;cases hl)
  simpa using this
 ·rw [yai];have:=Int.mul_le_mul (show (its.length:Int)<=1000 by omega) hk (by omega) (by omega);omega
 ·rw [hnew];refine ⟨.ref s.heap.objs.size,_,I.laid (t':=s.toks) (o:=.tup (List.replicate k.toNat xs).flatten) (fun b ob q=>yae _ q) (yaf _) ?_,rfl,q _ (I.hok.fresh (yaf _))⟩;refine ⟨?_,_,rv.rep k.toNat,IsTup.new _ _⟩;rw [zfL] at hsz ⊢;rw [<-hl] at hsz;omega
 ·rw [hnew,yai];omega
end
end L2
namespace HT
open PySem PySem.Spec PyProof.Rows L2
section
variable{prog:Program}{w:World}{A:Around}{E:Z5}{s:Shared}
def zc6{t sl:Addr}{items:Array Value}{vl vu:Value}{lo hi:Option Int}{Q:Z5}(ht:IsTup s.heap t items)(hs:s.heap.IsSliceOf sl vl vu .none)(pl:IsPart vl lo)(pu:IsPart vu hi)
  (h1:sIx items.size 0 lo=0) (h2:sIx items.size items.size hi=items.size) (h:Q (.ref t) s):wpAny (model prog w) A (getItem (.ref t) (.ref sl)) Q E s:=by
 obtain ⟨os,hos,hcs,hds⟩:=id hs;have hTs:s.TypeIs (.ref sl) "slice":=⟨os,hos,hcs⟩;unfold getItem
 try with_reducible refine yaT ?_
 first | refine yaa (yac ?_) | skip
 refine yaa (wpAny_sequenceKey ht.typeIs (by decide) ?_)
 refine yaa (ybt (name:=Str.ofString "__getitem__") ht.typeIs yaO
  (yaZ yaO ht.typeIs entry_tuple_getitem ?_ (args_tuple_getitem _ _)))
 show wpAny _ _ (Builtin.Tuple.tupleItemsOf (.ref t) >>= _) _ _ s;refine yaa (tupleItemsOf_ ht ?_);refine yaa (ybW hTs ?_);rw [if_pos (by decide)];refine yaa (zbO hs pl pu ?_);rw [h1,h2];show wpAny _ _ (if ((((0:Nat):Int) == 0&&(1:Int) == 1&&(items.size-0) == items.size)=true) then _ else _) _ _ s;rw [if_pos (by simp)];unfold Builtin.Tuple.tupleIsExact;refine yaa (yaa (ybW ht.typeIs (yac ?_)));simp only [ybi,ybM];refine yaa (ycC ?_)
 first
  | exact yac ⟨_,rfl,yac h⟩
  | exact yaa (yac (yac ⟨_,rfl,yac h⟩))
end
end HT
namespace L2
open PySem PySem.Spec PyProof.Rows
def zgI{X:Cx}:SlR X (fun x lo hi H Q=>∃(a:Addr) (xs:List V),x=.ref a/\SqT X.K H a xs/\HT.sIx xs.length 0 lo=0/\HT.sIx xs.length xs.length hi=xs.length/\Q (.ref a) H):=by
 intro pins s σ H x v vl vu lo hi sl Q I rx hs pl pu h;obtain ⟨a,xs,rfl,hx,h1,h2,q⟩:=h;cases rx;obtain ⟨its,r,ht,hz⟩:=I.tuple hx
 have hlen:its.toArray.size=xs.length:=by rw [yai];exact r.length.symm
 refine ⟨"tuple",_,yaO.lookup,ht.typeIs,?_⟩;exact HT.zc6 ht hs pl pu (by rw [hlen];exact h1) (by rw [hlen];exact h2) ⟨.ref a,H,I,rfl,q⟩
end L2
namespace L2
open PySem PySem.Spec PyProof.Rows
mutual
noncomputable def D.py:D->PyData
 | .non=>.none
 | .bl b=>.bool b
 | .int i=>.int i
 | .str x=>.str x
 | .tup l=>.tuple (D.pys l)
 | .lst l=>.list (D.pys l)
noncomputable def D.pys:List D->List PyData
 | []=>[]
 | d::l=>d.py::D.pys l
end
mutual
noncomputable def D.fit:Nat->D->Bool
 | _,.non=>true
 | _,.bl _=>false
 | _,.int _=>true
 | _,.str x=>PyData.strOk x
 | 0,.tup _=>false
 | n+1,.tup l=>D.fits n l
 | 0,.lst _=>false
 | n+1,.lst l=>D.fits n l
noncomputable def D.fits:Nat->List D->Bool
 | _,[]=>true
 | n,d::l=>d.fit n&&D.fits n l
end
theorem D.fits_iff{n:Nat}:∀{l:List D},D.fits n l=true↔∀d∈l,d.fit n=true
 | []=>by simp [D.fits]
 | d::l=>by simp [D.fits,D.fits_iff (l:=l)]
mutual
theorem D.lay:∀{n:Nat} {d:D},d.fit n=true->d.py.canLay0=true/\d.py.depth<=n
 | _,.non,_=>⟨rfl,yaR _⟩
 | _,.bl _,h=>by simp [D.fit] at h
 | _,.int _,_=>⟨rfl,yaR _⟩
 | _,.str x,h=>⟨by simpa [D.fit,D.py,PyData.canLay0] using h,yaR _⟩
 | 0,.tup _,h=>by simp [D.fit] at h
 | 0,.lst _,h=>by simp [D.fit] at h
 | n+1,.tup l,h=>by
  have h':D.fits n l=true:=by simpa [D.fit] using h
  obtain ⟨a,b⟩:=D.lays h';exact ⟨by simpa [D.py,PyData.canLay0] using a,by simp only [D.py,PyData.depth];omega⟩
 | n+1,.lst l,h=>by
  have h':D.fits n l=true:=by simpa [D.fit] using h
  obtain ⟨a,b⟩:=D.lays h';exact ⟨by simpa [D.py,PyData.canLay0] using a,by simp only [D.py,PyData.depth];omega⟩
theorem D.lays:∀{n:Nat} {l:List D},D.fits n l=true->PyData.canLayAll0 (D.pys l)=true/\PyData.depthAll (D.pys l)<=n
 | _,[],_=>⟨rfl,yaR _⟩
 | n,d::l,h=>by
  simp only [D.fits,yab] at h;obtain ⟨a,b⟩:=D.lay h.1;obtain ⟨c,e⟩:=D.lays h.2;exact ⟨by simp [D.pys,PyData.canLayAll0,a,c],by simp only [D.pys,PyData.depthAll];omega⟩
end
section
variable{X:Cx}
def zfH{h:Heap}{v:Value}{d:PyData}{as:List Addr}(hl:d.canLay0=true)(r:Reads h v d as):SeqAt.readOf h v=d:=by
 have hx:∃d as,Reads h v d as:=⟨d,as,r⟩;unfold SeqAt.readOf;rw [dif_pos hx];obtain ⟨bs,rb⟩:=hx.choose_spec;exact (SeqAt.Reads.unique _ _ _ _ _ hl r rb).symm
end
end L2
namespace L2
open PySem PySem.Spec PyProof.Rows
noncomputable def zid:Option Int->Value->Bool
 | none,.none=>true
 | some i,v=>Value.isInt i v
 | _,_=>false
theorem zay:∀{k:Option Int} {v:Value},zid k v=true->(k=none/\v=.none)\/∃i t,k=some i/\v=.int i t
 | none,v,h=>by
  cases v<;>simp [zid] at h
  exact .inl ⟨rfl,rfl⟩
 | some i,v,h=>by
  obtain ⟨t,e⟩:=ycB (k:=i) (v:=v) (by simpa [zid] using h);exact .inr ⟨i,t,rfl,e⟩
noncomputable def zgf:Int:=reduceHash 0xFCA86420
def ziM{prog:Program}{w:World}{A:Around}{E:Z5}{s:Shared}{Q:Int->Shared->Prop}(h:Q zgf { s with toks:=s.toks+1 }):wpAny (model prog w) A (pyHash .none) Q E s :=
 PySem.W.pyHash_slot (T:="NoneType") rfl F.slot_NoneType_hash F.entry_NoneType_hash (F.args_NoneType_hash_1 _) (beq_builtin_none _) (.inl rfl) (yaa (yac (yaa (wpAny_mkInt (yac ⟨_,_,rfl,h⟩)))))
noncomputable def zc3(prog:Program)(w:World):KeyKind prog w (Option Int) where
 is:=zid
 hash:=fun k=>match k with | none=>zgf | some i=>hashInt i
 inj:=fun v a b ha hb=>by
  rcases zay ha with ⟨rfl,rfl⟩ | ⟨i,t,rfl,rfl⟩<;>rcases zay hb with ⟨rfl,e⟩ | ⟨j,u,rfl,e⟩<;>cases e<;>rfl
 byValue:=fun k v h=>by
  rcases zay h with ⟨rfl,rfl⟩ | ⟨i,t,rfl,rfl⟩<;>rfl
 pyHash:=fun {A E s k v Q} h hq=>by
  rcases zay h with ⟨rfl,rfl⟩ | ⟨i,t,rfl,rfl⟩
  ·exact ziM hq
  ·exact wpAny_pyHash_int hq
 eqBool:=fun {A E s a b u v Q} ha hb hq=>by
  rcases zay ha with ⟨rfl,rfl⟩ | ⟨i,t,rfl,rfl⟩<;>rcases zay hb with ⟨rfl,rfl⟩ | ⟨j,u,rfl,rfl⟩
  ·unfold PySem.eqBool;refine yaT ?_;refine yb1 (fun _=>yaa (ycC (yac (by simpa using hq)))) (fun z=>absurd rfl z)
  ·exact SeqAt.EqAt.none_int j u prog w E Q (by simpa using hq)
  ·exact SeqAt.EqAt.int_none i t prog w E Q (by simpa using hq)
  ·refine SeqAt.EqAt.int_int i t j u prog w E Q ?_
   have e:decide (some i=some j)=(i == j):=by
    rw [ycp];simp
   rw [<-e];exact hq
 «strs»:=fun k x t v h=>by
  rcases zay h with ⟨_,e⟩ | ⟨i,u,_,e⟩<;>cases e
noncomputable abbrev NK:=Int×List (Option Int)
noncomputable def zc2:Option Int->PyData | none=>.none | some i=>.int i
noncomputable def zcX(prog:Program)(w:World)(h:Heap)(k:NK)(a:Addr):Prop:=∃o items n t b,h.get? a=some o/\o.cls=.type "tuple" /\ o.data=.seq items n/\items.toList=[.int k.1 t,.ref b]/\IsTupleKey (zc3 prog w) h k.2 b
section
variable{prog:Program}{w:World}{A:Around}{E:Z5}{s:Shared}
noncomputable def zj8(prog:Program)(w:World)(k:NK):Int:=reduceHash (Builtin.Tuple.tupleHashOf [hashInt k.1,tupleKeyHash (zc3 prog w) k.2])
def zcX.typeIs{k:NK}{a:Addr}(x:zcX prog w s.heap k a):s.TypeIs (.ref a) "tuple":=let ⟨o,_,_,_,_,ho,hc,_⟩:=x;⟨o,ho,hc⟩
theorem zcu{h:Heap}:∀{l:Z4} {vs:List Value},ItemsAre (zc3 prog w) l vs->ReadsAll h vs (l.map zc2) []
 | _,_,.nil=>.nil
 | _,_,.cons h1 r=>by
  rcases zay h1 with ⟨rfl,rfl⟩ | ⟨i,t,rfl,rfl⟩
  ·exact .cons (as:=[]) (bs:=[]) .none (zcu r)
  ·exact .cons (as:=[]) (bs:=[]) (.int i t) (zcu r)
def zcX.reads{h:Heap}{k:NK}{a:Addr}(x:zcX prog w h k a):Reads h (.ref a) (.tuple [.int k.1,.tuple (k.2.map zc2)]) []:=by
 obtain ⟨o,items,n,t,b,ho,hc,hd,hi,ob,its,m,hob,hcb,hdb,hib⟩:=x;refine .tuple ho hc hd ?_;rw [hi];exact .cons (as:=[]) (bs:=[]) (.int _ _) (.cons (as:=[]) (bs:=[]) (.tuple hob hcb hdb (zcu hib)) .nil)
theorem ze1:∀{l m:Z4},PyData.eqvAll (l.map zc2) (m.map zc2)=decide (l=m)
 | [],[]=>by simp [PyData.eqvAll]
 | [],_::_=>by simp [PyData.eqvAll]
 | _::_,[]=>by simp [PyData.eqvAll]
 | x::l,y::m=>by
  have ih:=ze1 (l:=l) (m:=m);simp only [yay,PyData.eqvAll,ih]
  cases x<;>cases y<;>simp [zc2,PyData.eqv]
  rw [ycp];simp
theorem zdo:∀{l:Z4},PyData.canLayAll0 (l.map zc2)=true/\PyData.depthAll (l.map zc2)=0
 | []=>⟨rfl,rfl⟩
 | x::l=>by
  obtain ⟨a,b⟩:=zdo (l:=l)
  cases x<;>simp [zc2,PyData.canLayAll0,PyData.depthAll,PyData.canLay0,PyData.depth,a,b]
noncomputable def zcN(prog:Program)(w:World):HeapKind prog w NK where
 is:=zcX prog w
 hash:=zj8 prog w
 draws:=fun k=>1+(k.2.length+1)+1
 room:=fun A=>A.units+8<cLine
 inj:=fun {h a x y} hx hy=>by
  obtain ⟨o,items,n,t,b,ho,hc,hd,hi,kx⟩:=hx;obtain ⟨o',items',n',t',b',ho',hc',hd',hi',ky⟩:=hy;rw [ho] at ho';cases ho';rw [hd] at hd';cases hd';rw [hi] at hi';simp only [List.cons.injEq,Value.int.injEq,Value.ref.injEq,and_true] at hi';obtain ⟨⟨e1,_⟩,e2⟩:=hi';subst e2;exact Prod.ext e1 (kx.inj ky)
 keeps:=fun {h h' k a d o es ep} x ho hd hs=>by
  obtain ⟨o1,items,n,t,b,ho1,hc,hd1,hi,kx⟩:=x;refine ⟨o1,items,n,t,b,(hs.2 a ?_).trans ho1,hc,hd1,hi,kx.keeps ho hd hs⟩;rintro rfl;rw [ho] at ho1;cases ho1;rw [hd] at hd1;cases hd1
 pyHash:=fun {A E s k a Q} hu x hq=>by
  have hT:=zcX.typeIs (prog:=prog) (w:=w) x;obtain ⟨o,items,n,t,b,ho,hc,hd,hi,kx⟩:=x;refine PySem.W.pyHash_slot (T:="tuple") hT F.slot_tuple_hash F.entry_tuple_hash (F.args_tuple_hash_1 _) (beq_builtin_none _) (.inr (by omega)) ?_;show wpAny _ _ (Builtin.Tuple.tupleItemsOf (.ref a) >>= _) _ _ s;refine yaa (ycv ho hd ?_);refine yaa ?_;rw [<-ycw,hi];refine wpAny_forIn_list _ (fun zbu (r:Array Int) s'=>(zbu=[.int k.1 t,.ref b]/\r.toList=[]/\s'=s)\/(zbu=[.ref b]/\r.toList=[hashInt k.1]/\s'={ s with toks:=s.toks+1 })\/(zbu=[]/\r.toList=[hashInt k.1,tupleKeyHash (zc3 prog w) k.2]/\s'={ s with toks:=s.toks+1+(k.2.length+1) })) _ ?_ ?_ _ _ (.inl ⟨rfl,rfl,rfl⟩)
  ·rintro x zbu r s' (⟨e,hr,rfl⟩ | ⟨e,hr,rfl⟩ | ⟨e,hr,rfl⟩)
   ·injection e with e1 e2
    subst e1 e2;refine yaa (wpAny_pyHash_int ?_)
    first
     | exact yac (.inr (.inl ⟨rfl,by simp [hr],rfl⟩))
     | exact yaa (yac (yac (.inr (.inl ⟨rfl,by simp [hr],rfl⟩))))
   ·injection e with e1 e2
    subst e1 e2;refine yaa (wpAny_pyHash_tuple (A:=A.in1) (by show A.units+1<cLine;omega) kx ?_)
    first
     | exact yac (.inr (.inr ⟨rfl,by simp [hr],rfl⟩))
     | exact yaa (yac (yac (.inr (.inr ⟨rfl,by simp [hr],rfl⟩))))
   ·cases e
  ·rintro r s' (⟨e,_⟩ | ⟨e,_⟩ | ⟨_,hr,rfl⟩)
   ·cases e
   ·cases e
   ·show wpAny _ _ (retInt (Builtin.Tuple.tupleHashOf r.toList)) _ _ _;rw [hr];refine yaa (wpAny_mkInt (yac ⟨_,_,rfl,?_⟩))
    have e:s.toks+1+(k.2.length+1)+1=s.toks+(1+(k.2.length+1)+1):=by omega
    show Q _ { s with toks:=s.toks+1+(k.2.length+1)+1 };rw [e];exact hq
 eqBool:=fun {A E s x y a b Q} hu hx hy hq=>by
  refine SeqAt.eqAt_reads _ _ A s (.ref a) (.ref b) [] [] hx.reads hy.reads ?_ ?_ ?_ prog w E Q ?_
  ·simp [PyData.canLay0,PyData.canLayAll0,zdo.1]
  ·simp [PyData.canLay0,PyData.canLayAll0,zdo.1]
  ·have h1:(PyData.tuple [.int x.1,.tuple (x.2.map zc2)]).depth<=3:=by
    simp [PyData.depth,PyData.depthAll,zdo.2]
   have:min (PyData.tuple [.int x.1,.tuple (x.2.map zc2)]).depth (PyData.tuple [.int y.1,.tuple (y.2.map zc2)]).depth<=3:=yal (Nat.min_le_left _ _) h1;omega
  ·have e:(PyData.tuple [.int x.1,.tuple (x.2.map zc2)]).eqv (.tuple [.int y.1,.tuple (y.2.map zc2)])=decide (x=y):=by
    simp only [PyData.eqv,PyData.eqvAll,ze1];rw [ycp];simp [Prod.ext_iff]
   rw [e];exact hq
 quiet:=fun {A E s k a Q} x hq=>by
  have hT:=zcX.typeIs (prog:=prog) (w:=w) x;obtain ⟨o,items,n,t,b,ho,hc,hd,hi,kx⟩:=x;have hTb:=kx.typeIs;obtain ⟨ob,its,m,hob,hcb,hdb,hib⟩:=kx
  have low:wpAny (model prog w) A (eqIsQuiet 7 (.ref b)) (fun r s'=>r=true/\s'=s) E s:=by
   unfold eqIsQuiet;refine yaa (wpAny_specialOf hTb F.slot_tuple_eq.lookup ?_);show wpAny _ _ (isInstance (.ref b) (.type "tuple") >>= _) _ _ s;refine yaa (ych hTb isSubtype_tuple_tuple ?_);simp only [ycj,yaF,ybm];refine yaa (wpAny_seqItems hob hdb (yaa ?_));show wpAny _ _ (forIn its _ _) _ _ s;rw [<-ycw];refine wpAny_forIn_list _ (fun zbu r s'=>r.1=none/\s'=s/\∀v∈zbu,carriedByValue v=true) _ ?_ ?_ _ _ ⟨rfl,rfl,hib.byValue⟩
   ·rintro v zbu r s' ⟨hr,rfl,hall⟩;rw [eqIsQuiet_byValue _ (hall v yaA)];refine yaa (yac ?_);simp only [ycj,yaF,ybm];exact yac ⟨rfl,rfl,fun z hz=>hall z (yas _ hz)⟩
   ·rintro ⟨r1,r2⟩ s' ⟨hr,rfl,_⟩;simp only at hr;subst hr;exact yac ⟨rfl,rfl⟩
  unfold eqIsQuiet;refine yaa (wpAny_specialOf hT F.slot_tuple_eq.lookup ?_);show wpAny _ _ (isInstance (.ref a) (.type "tuple") >>= _) _ _ s;refine yaa (ych hT isSubtype_tuple_tuple ?_);simp only [ycj,yaF,ybm];refine yaa (wpAny_seqItems ho hd (yaa ?_));show wpAny _ _ (forIn items _ _) _ _ s;rw [<-ycw,hi];refine wpAny_forIn_list _ (fun zbu r s'=>r.1=none/\s'=s/\(zbu=[.int k.1 t,.ref b]\/zbu=[.ref b]\/zbu=[])) _ ?_ ?_ _ _ ⟨rfl,rfl,.inl rfl⟩
  ·rintro v zbu r s' ⟨hr,rfl,(e | e | e)⟩
   ·injection e with e1 e2
    subst e1 e2;rw [eqIsQuiet_byValue _ rfl];refine yaa (yac ?_);simp only [ycj,yaF,ybm];exact yac ⟨rfl,rfl,by simp⟩
   ·injection e with e1 e2
    subst e1 e2;refine yaa (ybe low (fun r' s'' hz=>?_) fun _ _ z=>z);obtain ⟨rfl,rfl⟩:=hz;simp only [ycj,yaF,ybm];exact yac ⟨rfl,rfl,by simp⟩
   ·cases e
  ·rintro ⟨r1,r2⟩ s' ⟨hr,rfl,_⟩;simp only at hr;subst hr;exact yac hq
end
end L2
namespace L2
open PySem PySem.Spec PyProof.Rows
section
variable{σ:St}{H:Hp}{K:PySem.W.Frag}{te:TE}{tt:TT}{caps:List (Str×Nat)}{Q:VK}
end
end L2
namespace L2
open PySem PySem.Spec PyProof.Rows
noncomputable def oV:Option Int->V | none=>.non | some i=>.int i
noncomputable def DN(P:Program)(w:World)(a:Addr)(xs:List (NK×Addr×Value))(h:Heap):Prop :=
 ∃o es ep,h.get? a=some o/\o.ExactDict/\o.data=.dict es ep/\es.toList=xs.map (entryOfKey (zcN P w))/\(xs.map (·.1)).Nodup/\(a == sysModules)=false
noncomputable def zfX(H:Hp)(kb:Addr)(k:NK):Prop:=∃b,H kb=some (.tup [.int k.1,.ref b])/\H b=some (.tup (k.2.map oV))
noncomputable def zkQ(H:Hp)(xs:List (NK×Addr×Value))(m:List (NK×V)):Prop:=Paired (fun (x:NK×Addr×Value) (p:NK×V)=>x.1=p.1/\zfX H x.2.1 x.1/\zav p.2 x.2.2) xs m
def zgt{P:Program}{w:World}{a:Addr}{xs:List (NK×Addr×Value)}:∀h1 h2:Heap,DN P w a xs h1->(∀o,h1.get? a=some o->h2.get? a=some o)->DN P w a xs h2:=fun h1 h2 ⟨o,es,ep,e,r⟩ k=>⟨o,es,ep,k _ e,r⟩
section
variable{X:Cx}{pins:Z3}{σ:St}{H:Hp}{s:Shared}
theorem zdp:∀{l:Z4} {its:List Value},Vals (l.map oV) its->ItemsAre (zc3 X.prog X.w) l its
 | [],_,.nil=>.nil
 | none::l,_,.cons r t=>by
  cases r;exact .cons rfl (zdp t)
 | some i::l,_,.cons r t=>by
  obtain ⟨u,rfl⟩:=r;exact .cons (by simp [zc3,zid,Value.isInt]) (zdp t)
def Inv.nest(I:Inv X pins σ H s){kb:Addr}{k:NK}(h:zfX H kb k):zcX X.prog X.w s.heap k kb:=by
 obtain ⟨b,h1,h2⟩:=h;obtain ⟨its,rv,⟨o,ho,hc,n,hd⟩,_⟩:=I.tuple (SqT.of (K:=X.K) h1);obtain ⟨its2,rv2,⟨o2,ho2,hc2,n2,hd2⟩,_⟩:=I.tuple (SqT.of (K:=X.K) h2)
 cases rv with
 | cons r1 rr =>
  cases rr with
  | cons r2 rr =>
   cases rr;obtain ⟨t,rfl⟩:=r1;cases r2;exact ⟨o,_,n,t,b,ho,hc,hd,rfl,o2,_,n2,ho2,hc2,hd2,by simpa using zdp rv2⟩
def zkQ.keys{xs:List (NK×Addr×Value)}{m:List (NK×V)}(I:Inv X pins σ H s):zkQ H xs m->∀x∈xs,zcX X.prog X.w s.heap x.1 x.2.1:=by
 intro h
 induction h with
 | nil=>intro x hx;simp at hx
 | cons h t ih =>
  intro x hx
  rcases yam.mp hx with rfl | hx
  ·exact I.nest h.2.1
  ·exact ih x hx
def Inv.ndict(I:Inv X pins σ H s){a:Addr}{xs:List (NK×Addr×Value)}{m:List (NK×V)}(h:H a=some (.ext (DN X.prog X.w a xs)))(e:zkQ H xs m):s.heap.DictOfH (zcN X.prog X.w) a xs/\(a == sysModules)=false:=by
 obtain ⟨⟨o,es,ep,h1,h2,h3,h4,h5,h6⟩,_⟩:=I.hok a _ h;exact ⟨⟨o,es,ep,h1,h2,h3,h4,e.keys I,h5⟩,h6⟩
def zc8{xs:List (NK×Addr×Value)}{m:List (NK×V)}(e:zkQ H xs m)(k:NK):(m.lookup k=none/\atKey xs k=none)\/∃c p,m.lookup k=some c/\atKey xs k=some p/\zav c p.2:=by
 induction e with
 | nil=>exact .inl ⟨rfl,rfl⟩
 | @cons x p l1 l2 h t ih =>
  obtain ⟨h1,h2,h3⟩:=h
  by_cases hk:x.1=k
  ·refine .inr ⟨p.2,x.2,?_,?_,h3⟩
   ·obtain ⟨pk,pc⟩:=p;simp only at h1;subst h1;rw [yau,hk];simp
   ·simp [atKey,hk]
  ·have hk':¬ p.1=k:=by rw [<-h1];exact hk
   have e1:List.lookup k (p::l2)=List.lookup k l2:=by
    obtain ⟨pk,pc⟩:=p;rw [yau]
    have:(k == pk)=false:=by
     rw [yaP];exact fun z=>hk' z.symm
    rw [this]
   have e2:atKey (x::l1) k=atKey l1 k:=by simp [atKey,ybp,hk]
   rw [e1,e2];exact ih
def zk8(hu:X.A.units+16<cLine):OpR X (compareOp .NotIn) (fun x y H Q=>∃kb a k xs m,x=.ref kb/\y=.ref a/\zfX H kb k/\H a=some (.ext (DN X.prog X.w a xs))/\zkQ H xs m/\Q (.bl (m.lookup k).isNone) H):=by
 intro pins s σ H x y v u Q I rx ry h;obtain ⟨kb,a,k,xs,m,rfl,rfl,hk,hx,he,q⟩:=h;cases rx;cases ry;obtain ⟨hm,hd⟩:=I.ndict hx he;refine wpAny_notIn_heap (knd:=zcN X.prog X.w) (k:=k) (by show X.A.units+1+8<cLine;omega) (I.nest hk) hd hm ⟨.bl _,H,I.tok _,?_,q⟩
 rcases zc8 he k with ⟨e1,e2⟩ | ⟨c,p,e1,e2,_⟩<;>rw [e1,e2]<;>rfl
def zpC(hu:X.A.units+16<cLine):IxR X (fun x y H Q=>∃a kb k xs m c,x=.ref a/\y=.ref kb/\zfX H kb k/\H a=some (.ext (DN X.prog X.w a xs))/\zkQ H xs m/\m.lookup k=some c/\Q c H):=by
 intro value slice pins s σ H x y v u Q I rx ry h hs;obtain ⟨a,kb,k,xs,m,c,rfl,rfl,hk,hx,he,hl,q⟩:=h;cases rx;cases ry;obtain ⟨hm,hd⟩:=I.ndict hx he
 rcases zc8 he k with ⟨e1,_⟩ | ⟨c',p,e1,e2,r⟩
 ·rw [e1] at hl;cases hl
 ·rw [e1] at hl;cases hl;exact yb5 (x:=p.2) hm.typeIs slot_dict_getitem.lookup (wpAny_getItem_heap (knd:=zcN X.prog X.w) (k:=k) (by show X.A.units+1+8<cLine;omega) (I.nest hk) hm e2 ⟨rfl,c,H,I.tok _,r,q⟩) hs
def zlY(hu:X.A.units+16<cLine):zuu X (fun o i v H Q=>∃a kb k xs m,o=.ref a/\i=.ref kb/\zfX H kb k/\H a=some (.ext (DN X.prog X.w a xs))/\zkQ H xs m/\m.lookup k=none/\m.length<=1000000/\∀u,zav v u->Q (upd H a (.ext (DN X.prog X.w a (xs++[(k,kb,u)]))))):=by
 intro pins s σ H o i v ov iv u Q I ro ri rv h;obtain ⟨a,kb,k,xs,m,rfl,rfl,hk,hx,he,hl,hz,q⟩:=h;cases ro;cases ri;obtain ⟨hm,hd⟩:=I.ndict hx he;have hlen:xs.length=m.length:=Paired.length he
 have e2:atKey xs k=none:=by
  rcases zc8 he k with ⟨_,e2⟩ | ⟨c',p,e1,_,_⟩
  ·exact e2
  ·rw [e1] at hl;cases hl
 refine wpAny_setItem_heap (knd:=zcN X.prog X.w) (k:=k) (by show X.A.units+1+8<cLine;omega) (I.nest hk) hm (fun h' hm' sb=>?_) (by rw [hlen];exact yal hz (by decide));rw [storedH_new e2] at hm';obtain ⟨o,es,ep,g1,g2,g3,g4,g5,g6⟩:=hm';have dn:DN X.prog X.w a (xs++[(k,kb,u)]) h':=⟨o,es,ep,g1,g2,g3,g4,g6,hd⟩;refine ⟨upd H a (.ext (DN X.prog X.w a (xs++[(k,kb,u)]))),?_,q u rv⟩;exact I.write (x:=a) (e:=a) (by rw [hx];trivial) (.inl rfl) (fun b o hb z=>(sb.2 b hb).trans z) ⟨_,g1⟩ ⟨dn,⟨_,g1⟩,zgt⟩
noncomputable def zq3(P:Program)(w:World):TE:=fun _ H Q=>∀p,H p=none->Q (.ref p) (upd H p (.ext (DN P w p [])))
def zmo{pos:Pos}:PE X (.Dict [] [] pos) (zq3 X.prog X.w):=fun pins s σ H Q I h=>by
 have big:sysModules<s.heap.objs.size:=ycx (show sysModules<mainGlobals by decide) (I.mod.glob.keeps I.bk).lt;have hne:(s.heap.objs.size == sysModules)=false:=yaP.mpr (Ne.symm (yan big));have dn:DN X.prog X.w s.heap.objs.size [] (s.heap.push { cls:=.type "dict",data:=.dict #[] }):=⟨_,#[],0,yao _ rfl,⟨rfl,rfl,rfl⟩,rfl,rfl,List.nodup_nil,hne⟩;refine wpAny_Dict_empty ⟨.ref s.heap.objs.size,upd H s.heap.objs.size (.ext (DN X.prog X.w s.heap.objs.size [])),?_,rfl,h _ (I.hok.fresh (yaf _))⟩;exact I.laid (a:=s.heap.objs.size) (t':=s.toks) (fun _ _ q=>yae _ q) (yaf _) ⟨dn,⟨_,yao _ rfl⟩,zgt⟩
end
end L2
namespace L2
open PySem PySem.Spec PyProof.Rows
section
variable{κ:Type}[DecidableEq κ]
noncomputable def zdj(kvs:List (κ×V))(k:κ):Option V:=(kvs.find? fun kv=>decide (kv.1=k)).map (·.2)
noncomputable def zd1(kvs:List (κ×V))(k:κ)(v:V):List (κ×V) :=
 if (kvs.any fun kv=>decide (kv.1=k))=true then kvs.map (fun kv=>if kv.1=k then (kv.1,v) else kv) else kvs++[(k,v)]
def zaR{p:κ×V}{r:List (κ×V)}{k:κ}(e:p.1=k):zdj (p::r) k=some p.2:=by simp [zdj,ybp,e]
def zaS{p:κ×V}{r:List (κ×V)}{k:κ}(e:¬ p.1=k):zdj (p::r) k=zdj r k:=by simp [zdj,ybp,e]
theorem zdk(k:κ):∀kvs:List (κ×V),(kvs.any fun kv=>decide (kv.1=k))=(zdj kvs k).isSome
 | []=>rfl
 | p::r=>by
  rw [ycJ]
  by_cases e:p.1=k
  ·simp only [zaR e,yaS e,Bool.true_or,Option.isSome_some]
  ·rw [zaS e,yaM e,Bool.false_or];exact zdk k r
theorem zfZ(k j:κ)(y:V):∀kvs:List (κ×V),zdj (kvs.map fun kv=>if kv.1=k then (kv.1,y) else kv) j=(zdj kvs j).map fun x=>if j=k then y else x
 | []=>rfl
 | p::r=>by
  have ih:=zfZ k j y r;rw [yay]
  by_cases h:p.1=k
  ·rw [if_pos h]
   by_cases e:p.1=j
   ·rw [zaR (p:=(p.1,y)) e,zaR e,ycq,if_pos (e.symm.trans h)]
   ·rw [zaS (p:=(p.1,y)) e,zaS e,ih]
  ·rw [if_neg h]
   by_cases e:p.1=j
   ·rw [zaR (p:=p) e,zaR e,ycq,if_neg (fun z=>h (e.trans z))]
   ·rw [zaS (p:=p) e,zaS e,ih]
theorem zeH(k j:κ)(y:V):∀kvs:List (κ×V),zdj kvs k=none->zdj (kvs++[(k,y)]) j=if j=k then some y else zdj kvs j
 | [],_=>by
  by_cases e:k=j
  ·rw [if_pos e.symm];exact zaR (p:=(k,y)) e
  ·rw [if_neg (fun z=>e z.symm)];exact zaS (p:=(k,y)) e
 | p::r,hn=>by
  rw [List.cons_append]
  have hk:¬ p.1=k:=fun z=>by rw [zaR z] at hn;cases hn
  rw [zaS hk] at hn;have ih:=zeH k j y r hn
  by_cases e:p.1=j
  ·rw [zaR e,zaR e,if_neg (fun z=>hk (e.trans z))]
  ·rw [zaS e,zaS e,ih]
def zec(kvs:List (κ×V))(k j:κ)(y:V):zdj (zd1 kvs k y) j=if j=k then some y else zdj kvs j:=by
 unfold zd1
 by_cases a:(kvs.any fun kv=>decide (kv.1=k))=true
 ·rw [if_pos a,zfZ];rw [zdk] at a
  by_cases e:j=k
  ·obtain ⟨x,hx⟩:=ybU.mp a;rw [if_pos e,e,hx,ycq,if_pos rfl]
  ·rw [if_neg e]
   cases zdj kvs j with
   | none=>rfl
   | some x=>rw [ycq,if_neg e]
 ·rw [if_neg a];refine zeH k j y kvs ?_;rw [zdk] at a
  cases q:zdj kvs k with
  | none=>rfl
  | some x=>rw [q] at a;exact (a rfl).elim
def zct(kvs:List (κ×V))(k:κ)(v:V):(zd1 kvs k v).length<=kvs.length+1:=by
 unfold zd1;split
 ·rw [yak];omega
 ·rw [yar,yag,List.length_nil];omega
def zfw.isSome_eq{o:Option V}{u:Option Value}(r:zfw o u):o.isSome=u.isSome:=by
 cases o with
 | none=>cases u with
  | none=>rfl
  | some _=>exact (show False from r).elim
 | some _=>cases u with
  | none=>exact (show False from r).elim
  | some _=>rfl
theorem zfw.getD{o:Option V}{u:Option Value}{d:V}{d':Value}(r:zfw o u)(rd:zav d d'):zav (o.getD d) (u.getD d'):=by
 cases o with
 | none=>cases u with
  | none=>exact rd
  | some _=>exact (show False from r).elim
 | some _=>cases u with
  | none=>exact (show False from r).elim
  | some _=>exact r
end
def zmL{P:Program}{w:World}{k:Key}{u:Value}(r:zav (kV k) u):(zaX P w).is k u=true:=by
 cases k with
 | inl i=>obtain ⟨t,e⟩:=(show ∃t,u=Value.int i t from r);subst e;exact zfK P w i t
 | inr x=>obtain ⟨t,e⟩:=(show ∃t,u=Value.str x t from r);subst e;exact zfJ P w x t
theorem zfa{P:Program}{w:World}:∀{ks:List Key} {us:List Value},Vals (ks.map kV) us->ItemsAre (zaX P w) ks us
 | [],_,r=>by rw [List.map_nil] at r;cases r;exact .nil
 | k::ks,_,r=>by
  rw [yay] at r
  cases r with
  | cons h t=>exact .cons (zmL h) (zfa t)
noncomputable abbrev KT(H:Hp):List (List Key×V)->List (List Key×Addr×Value)->Prop:=Paired fun p q=>p.1=q.1/\H q.2.1=some (.tup (p.1.map kV))/\zav p.2 q.2.2
def KT.val{H:Hp}{kvs:List (List Key×V)}{xs:List (List Key×Addr×Value)}(r:KT H kvs xs)(k:List Key):zfw (zdj kvs k) ((atKey xs k).map (·.2)):=by
 induction r with
 | nil=>exact True.intro
 | @cons p q ps qs h t ih =>
  obtain ⟨h1,_,h2⟩:=h
  by_cases e:p.1=k
  ·have e':q.1=k:=h1.symm.trans e
   have b:atKey (q::qs) k=some q.2:=by simp [atKey,ybp,e']
   rw [zaR e,b];exact h2
  ·have e':¬ q.1=k:=fun z=>e (h1.trans z)
   have b:atKey (q::qs) k=atKey qs k:=by simp [atKey,ybp,e']
   rw [zaS e,b];exact ih
def KT.repl{H:Hp}{kvs:List (List Key×V)}{xs:List (List Key×Addr×Value)}(r:KT H kvs xs)(k:List Key){y:V}{u:Value}(ry:zav y u) :
  KT H (kvs.map fun kv=>if kv.1=k then (kv.1,y) else kv) (xs.map (putAt k u)):=by
 induction r with
 | nil=>exact .nil
 | @cons p q ps qs h t ih =>
  rw [yay,yay];refine .cons ?_ ih;obtain ⟨h1,h2,h3⟩:=h;unfold putAt
  by_cases e:p.1=k
  ·rw [if_pos e,if_pos (h1.symm.trans e)];exact ⟨h1,h2,ry⟩
  ·rw [if_neg e,if_neg (fun z=>e (h1.trans z))];exact ⟨h1,h2,h3⟩
def KT.put{H:Hp}{kvs:List (List Key×V)}{xs:List (List Key×Addr×Value)}(r:KT H kvs xs)(k:List Key){b:Addr}{y:V}{u:Value}(hb:H b=some (.tup (k.map kV)))(ry:zav y u) :
  KT H (zd1 kvs k y) (storedH xs k b u):=by
 have e:(kvs.any fun kv=>decide (kv.1=k))=(atKey xs k).isSome:=by
  rw [zdk,(r.val k).isSome_eq,Option.isSome_map]
 unfold zd1 storedH;rw [e]
 by_cases q:(atKey xs k).isSome=true
 ·rw [if_pos q,if_pos q];exact r.repl k ry
 ·rw [if_neg q,if_neg q];exact Paired.snoc r ⟨rfl,hb,ry⟩
def KT.keeps{H H':Hp}{kvs:List (List Key×V)}{xs:List (List Key×Addr×Value)}(r:KT H kvs xs)(ht:∀b ys,H b=some (.tup ys)->H' b=some (.tup ys)):KT H' kvs xs :=
 Paired.mapP r fun _ _ z=>⟨z.1,ht _ _ z.2.1,z.2.2⟩
section
variable{P:Program}{w:World}{H:Hp}{h:Heap}{a:Addr}
def zoB{u:HO}(ok:HOk P w H h)(e:Rd H a u):zaQ P w H h a u:=e.ok ok
def zir{ks:List Key}(ok:HOk P w H h)(e:H a=some (.tup (ks.map kV))):(tupleKind (zaX P w)).is h ks a:=by
 obtain ⟨_,its,r,o,h1,h2,n,h3⟩:=(show zaQ P w H h a (.tup (ks.map kV)) from ok a _ e);exact ⟨o,its.toArray,n,h1,h2,h3,by simpa using zfa r⟩
def zna{kvs:List (List Key×V)}(ok:HOk P w H h)(e:Rd H a (.dT kvs)):kvs.length<=sizeLine/\(a == sysModules)=false ∧
  ∃xs,KT H kvs xs/\h.DictOfH (tupleKind (zaX P w)) a xs:=by
 obtain ⟨z,y,xs,r,o,es,ep,h1,h2,h3,h4,h5⟩:=(show zaQ P w H h a (.dT kvs) from zoB ok e);refine ⟨z,y,xs,r,o,es,ep,h1,h2,h3,h4,fun x hx=>?_,h5⟩
 have all:∀{l:List (List Key×V)} {m:List (List Key×Addr×Value)},KT H l m->∀x∈m,(tupleKind (zaX P w)).is h x.1 x.2.1:=by
  intro l m q
  induction q with
  | nil=>intro x hx;exact nomatch hx
  | @cons p q ps qs hq t ih =>
   intro x hx
   rcases yam.mp hx with e | hx
   ·subst e;exact zir ok (by rw [<-hq.1];exact hq.2.1)
   ·exact ih x hx
 exact all r x hx
def zr9{kvs:List (List Key×V)}(ok:HOk P w H h)(e:H a=some (.dT kvs)):kvs.length<=sizeLine/\(a == sysModules)=false ∧
  ∃xs,KT H kvs xs/\h.DictOfH (tupleKind (zaX P w)) a xs:=zna ok (.inl e)
end
noncomputable def zqe(H:Hp)(a:Addr)(y:V)(r:Option V):Prop:=∃kvs k b,Rd H a (.dT kvs)/\y=.ref b/\H b=some (.tup (k.map kV))/\r=zdj kvs k
def zqe.t{H:Hp}{a b:Addr}{kvs:List (List Key×V)}{k:List Key}(e:H a=some (.dT kvs))(eb:H b=some (.tup (k.map kV))):zqe H a (.ref b) (zdj kvs k):=⟨kvs,k,b,.inl e,rfl,eb,rfl⟩
section
variable{X:Cx}{pins:Z3}{σ:St}{H:Hp}{s:Shared}{a:Addr}{y v:V}{u r:Value}{o:Option V}{A:Around}{E:Z5}
def Inv.big(I:Inv X pins σ H s):sysModules<s.heap.objs.size:=by
 have h:mainGlobals<s.heap.objs.size:=(I.mod.glob.keeps I.bk).lt;exact ycx (by decide) h
def znd{h':Heap}{t':Nat}{ob:HO}(I:Inv X pins σ H s)(mu:Mut (H a))(hs:Heap.SameBut a s.heap h')(he:∃q,h'.get? a=some q)(new:zaQ X.prog X.w (upd H a ob) h' a ob) :
  Inv X pins σ (upd H a ob) { s with heap:=h',toks:=t' } :=
 I.write (x:=a) (e:=a) mu (.inl rfl) (fun b q hb z=>(hs.2 b hb).trans z) he new
end
section
variable{X:Cx}{pins:Z3}{σ:St}{H:Hp}{s:Shared}{a:Addr}{kvs:List (Key×V)}{k:Key}{u:Value}{A:Around}{E:Z5}
end
section
variable{X:Cx}{o i e value:Expr}{pos pos' tpos:Pos}{td ty tv:TE}
end
def zgr{P:Program}{w:World}{H:Hp}(h:Heap)(hb:sysModules<h.objs.size):zaQ P w H (h.push { cls:=.type "dict",data:=.dict #[] }) h.objs.size (.dT []) :=
 ⟨yaR _,yaP.mpr (Ne.symm (yan hb)),[],.nil,_,#[],0,yao _ rfl,⟨rfl,rfl,rfl⟩,rfl,rfl,List.nodup_nil⟩
noncomputable def znR:TE:=fun _ H Q=>∀p,H p=none->Q (.ref p) (upd H p (.dT []))
section
variable{X:Cx}{pos:Pos}
def zjR:PE X (.Dict [] [] pos) znR:=fun pins s σ H Q I h =>
 wpAny_Dict_empty ⟨.ref s.heap.objs.size,_,I.laid (a:=s.heap.objs.size) (o:=.dT []) (t':=s.toks) (fun _ _ q=>yae _ q) (yaf _) (zgr s.heap I.big),rfl,h _ (I.hok.fresh (yaf _))⟩
end
structure M2(X:Cx)(o:Expr)(m:Str)(apos:Pos)(e f:Expr)(cpos:Pos):Prop where
 base:attributeBase o m X.env (eval o X.env)=eval o X.env
 few:((backTo cpos (starEach [e,f] X.env)).all (fun x=>!x.1)&&(backToKw cpos (keywordEach [] X.env)).all (fun x=>x.1.isSome)
  && decide (([e,f]:List Expr).length+([]:List Keyword).length+(if ([]:List Keyword).isEmpty then 0 else 1)<30))=true
 line:(apos.endLine == cpos.line)=true
 trees:backTo cpos (starEach [e,f] X.env)=[(false,eval e X.env),(false,eval f X.env)]
noncomputable def IsD(H:Hp)(a:Addr):Prop:=∃kvs,Rd H a (.dT kvs)
def zpE{X:Cx}{pins:Z3}{σ:St}{H:Hp}{s:Shared}{a:Addr}(I:Inv X pins σ H s)(d:IsD H a) :
  s.TypeIs (.ref a) "dict" /\ (∀b,Value.ref a=.ref b->∃ob,s.heap.get? b=some ob/\ob.dict=none)/\(a == sysModules)=false:=by
 obtain ⟨kvs,e⟩:=d;obtain ⟨_,hd,xs,_,dd⟩:=zna I.hok e;refine ⟨dd.typeIs,fun b q=>?_,hd⟩;cases q;obtain ⟨ob,_,_,h1,h2,_⟩:=dd;exact ⟨ob,h1,h2.2.1⟩
section
variable{X:Cx}{pins:Z3}{σ:St}{H:Hp}{s:Shared}{a:Addr}{y d:V}{u r:Value}{o:Option V}{A:Around}{E:Z5}
def zpU{Q:Z5}(hu:A.units+1<cLine)(I:Inv X pins σ H s)(g:zqe H a y o)(ry:zav y u)(rd:zav d r)(h:∀w' s',Inv X pins σ H s'->zav (o.getD d) w'->Q w' s') :
  wpAny (model X.prog X.w) A (call (.builtin "dict.get") [.ref a,u,r]) Q E s:=by
 obtain ⟨kvs,k,b,e,ey,eb,l⟩:=g;subst ey;cases (show u=Value.ref b from ry);obtain ⟨z,hd,xs,rel,dd⟩:=zna I.hok e;refine call_meetsIn ybG dd.typeIs PySem.F.entry_dict_get (PySem.F.args_dict_get_3 _ _ _) (meetsH_dict_get_default (tupleKind (zaX X.prog X.w)) a b hd r) ⟨tupleKind_room_in1 hu,k,xs,zir I.hok eb,dd,h _ _ (I.tok _) ?_⟩;rw [l];exact (rel.val k).getD rd
end
noncomputable def znT(td ty tx:TE):TE:=fun σ H Q=>td σ H fun x H1=>∃a,x=.ref a/\IsD H1 a/\ty σ H1 fun y H2=>tx σ H2 fun z H3=>∃o,zqe H3 a y o/\Q (o.getD z) H3
section
variable{X:Cx}{o e f:Expr}{apos cpos:Pos}{td ty tx:TE}
def zjU(hu:X.A.units+1<cLine)(ho:PE X o td)(he:PE X e ty)(hf:PE X f tx)(m:M2 X o "get" apos e f cpos):PE X (.Call (.Attribute o "get" apos) [e,f] [] cpos) (znT td ty tx):=by
 intro pins s σ H Q I h;refine wpAny_Call_method m.base m.few m.line PySem.F.plainAttrs_dict ybG PySem.F.type_dict_get (thn (ho pins s σ H _ I h) fun u s1 ⟨x,H1,I1,rx,a,ex,d,q1⟩=>?_);subst ex;obtain rfl:u=Value.ref a:=rx;obtain ⟨t1,t2,_⟩:=zpE I1 d;refine ⟨t1,t2,?_⟩;rw [m.trees]
 refine yb6 rfl (ybN (ybB (thn (he pins s1 σ H1 _ I1 q1) fun iv s2 ⟨y,H2,I2,ry,q2⟩ =>
  ybB (thn (hf pins s2 σ H2 _ I2 q2) fun fv s3 ⟨z,H3,I3,rz,ov,g,q3⟩=>ycD ?_))))
 exact zpU hu I3 g ry rz fun w' s4 I4 rw'=>⟨_,H3,I4,rw',q3⟩
end
section
variable{X:Cx}{pins:Z3}{σ:St}{H:Hp}{s:Shared}{a:Addr}{kvs:List (Key×V)}{A:Around}{E:Z5}
end
section
variable{X:Cx}{pins:Z3}{σ:St}{H:Hp}{s:Shared}{a:Addr}{y:V}{u:Value}{A:Around}{E:Z5}
end
end L2
namespace S2
open PySem PySem.Spec PyProof.Rows L2
noncomputable abbrev St:=L2.St
inductive D where
 | non | bl (b:Bool) | int (i:Int) | str (x:Str) | tup (l:List D) | lst (l:List D) | dic (l:List (D×D)) | ref (n:Nat) | exc (c:Str) | scr (l:List Int)
inductive Root where
 | slot (i:Nat) | fld (n:Nat) (f:Str) | obj (n:Nat) | far
 deriving DecidableEq
noncomputable abbrev Ow:=Addr->Option Root
structure Cf where
 ad:Str->Addr
 K:PySem.W.Frag
 P:Program
 wo:PySem.World
noncomputable instance:CoeFun Cf (fun _=>Str->Addr):=⟨Cf.ad⟩
structure Wd where
 H:Hp
 ow:Ow
 mu:List Addr
noncomputable def zvm:Key->D | .inl i=>.int i | .inr x=>.str x
noncomputable def zvk(k:List Key):D:=.tup (k.map zvm)
noncomputable def zup(ds:List (D×D)):D:=.dic ((.exc "",.non)::ds)
mutual
inductive Shd(cl:Cf)(w:Wd):V->D->Prop
 | non:Shd cl w .non .non
 | bl (b:Bool):Shd cl w (.bl b) (.bl b)
 | int (i:Int):Shd cl w (.int i) (.int i)
 | str (x:Str):Shd cl w (.str x) (.str x)
 | tup {a:Addr} {xs:List V} {ds:List D}:w.H a=some (.tup xs)->w.ow a=none->Shds cl w xs ds->Shd cl w (.ref a) (.tup ds)
 | lst {a:Addr} {xs:List V} {ds:List D}:w.H a=some (.lst xs)->w.ow a=none->Shds cl w xs ds->Shd cl w (.ref a) (.lst ds)
 | dicK {a:Addr} {kvs:List (Key×V)} {ds:List (D×D)}:w.H a=some (.dK kvs)->w.ow a=none->ShdK cl w kvs ds->Shd cl w (.ref a) (.dic ds)
 | dicT {a:Addr} {kvs:List (List Key×V)} {ds:List (D×D)}:w.H a=some (.dT kvs)->w.ow a=none->ShdT cl w kvs ds->Shd cl w (.ref a) (.dic ((.exc "",.non)::ds))
 | ref {n:Nat} {a:Addr}:w.mu[n]?=some a->Shd cl w (.ref a) (.ref n)
 | scr {a:Addr} {o:Obj} {l:List Int}:w.H a=some (.frz o (.lst (l.map V.int)))->w.ow a=none->Shd cl w (.ref a) (.scr l)
 | scrK {a:Addr} {l:List Int}:(∀H:Hp,SqL cl.K H a (l.map V.int))->Shd cl w (.ref a) (.scr l)
 | exc {a:Addr} {c:Str} {ob:Obj}:w.H a=some (.frz ob (.own a))->w.ow a=none->ob.cls=.ref (cl c)->Shd cl w (.ref a) (.exc c)
inductive Shds(cl:Cf)(w:Wd):List V->List D->Prop
 | nil:Shds cl w [] []
 | cons {v:V} {d:D} {vs:List V} {ds:List D}:Shd cl w v d->Shds cl w vs ds->Shds cl w (v::vs) (d::ds)
inductive ShdK(cl:Cf)(w:Wd):List (Key×V)->List (D×D)->Prop
 | nil:ShdK cl w [] []
 | consI {i:Int} {v:V} {d:D} {vs:List (Key×V)} {ds:List (D×D)}:Shd cl w v d->ShdK cl w vs ds->ShdK cl w ((.inl i,v)::vs) ((.int i,d)::ds)
 | consS {x:Str} {v:V} {d:D} {vs:List (Key×V)} {ds:List (D×D)}:Shd cl w v d->ShdK cl w vs ds->ShdK cl w ((.inr x,v)::vs) ((.str x,d)::ds)
inductive ShdT(cl:Cf)(w:Wd):List (List Key×V)->List (D×D)->Prop
 | nil:ShdT cl w [] []
 | cons {k:List Key} {v:V} {d:D} {vs:List (List Key×V)} {ds:List (D×D)}:Shd cl w v d->ShdT cl w vs ds->ShdT cl w ((k,v)::vs) ((zvk k,d)::ds)
end
structure Fut(w w':Wd):Prop where
 keep:∀a o,w.H a=some o->w.ow a=none->w'.H a=some o/\w'.ow a=none
 mu:∀(n:Nat) (a:Addr),w.mu[n]?=some a->w'.mu[n]?=some a
def Fut.refl(w:Wd):Fut w w:=⟨fun _ _ h k=>⟨h,k⟩,fun _ _ h=>h⟩
def Fut.trans{w w1 w2:Wd}(a:Fut w w1)(b:Fut w1 w2):Fut w w2:=⟨fun c o h k=>b.keep c o (a.keep c o h k).1 (a.keep c o h k).2,fun n c h=>b.mu n c (a.mu n c h)⟩
mutual
theorem Shd.up{cl:Cf}{w w':Wd}(f:Fut w w'):∀{v:V} {d:D},Shd cl w v d->Shd cl w' v d
 | _,_,.non=>.non
 | _,_,.bl b=>.bl b
 | _,_,.int i=>.int i
 | _,_,.str x=>.str x
 | _,_,.tup e k r=>.tup (f.keep _ _ e k).1 (f.keep _ _ e k).2 (Shds.up f r)
 | _,_,.lst e k r=>.lst (f.keep _ _ e k).1 (f.keep _ _ e k).2 (Shds.up f r)
 | _,_,.dicK e k r=>.dicK (f.keep _ _ e k).1 (f.keep _ _ e k).2 (ShdK.up f r)
 | _,_,.dicT e k r=>.dicT (f.keep _ _ e k).1 (f.keep _ _ e k).2 (ShdT.up f r)
 | _,_,.ref e=>.ref (f.mu _ _ e)
 | _,_,.scr e k=>.scr (f.keep _ _ e k).1 (f.keep _ _ e k).2
 | _,_,.scrK h=>.scrK h
 | _,_,.exc e k h=>.exc (f.keep _ _ e k).1 (f.keep _ _ e k).2 h
theorem Shds.up{cl:Cf}{w w':Wd}(f:Fut w w'):∀{vs:List V} {ds:List D},Shds cl w vs ds->Shds cl w' vs ds
 | _,_,.nil=>.nil
 | _,_,.cons r t=>.cons (Shd.up f r) (Shds.up f t)
theorem ShdK.up{cl:Cf}{w w':Wd}(f:Fut w w'):∀{vs:List (Key×V)} {ds:List (D×D)},ShdK cl w vs ds->ShdK cl w' vs ds
 | _,_,.nil=>.nil
 | _,_,.consI r t=>.consI (Shd.up f r) (ShdK.up f t)
 | _,_,.consS r t=>.consS (Shd.up f r) (ShdK.up f t)
theorem ShdT.up{cl:Cf}{w w':Wd}(f:Fut w w'):∀{vs:List (List Key×V)} {ds:List (D×D)},ShdT cl w vs ds->ShdT cl w' vs ds
 | _,_,.nil=>.nil
 | _,_,.cons r t=>.cons (Shd.up f r) (ShdT.up f t)
end
section
variable{cl:Cf}{w:Wd}
theorem Shds.length:∀{vs:List V} {ds:List D},Shds cl w vs ds->vs.length=ds.length
 | _,_,.nil=>rfl
 | _,_,.cons _ t=>by rw [yag,yag,Shds.length t]
theorem Shds.get:∀{vs:List V} {ds:List D},Shds cl w vs ds->∀{i:Nat} {v:V},vs[i]?=some v->∃d,ds[i]?=some d/\Shd cl w v d
 | _,_,.nil,i,v,e=>by simp at e
 | _,_,.cons r _,0,v,e=>by simp at e;subst e;exact ⟨_,rfl,r⟩
 | _,_,.cons _ t,i+1,v,e=>by
  obtain ⟨d,h1,h2⟩:=Shds.get t (i:=i) (v:=v) (by simpa using e);exact ⟨d,by simpa using h1,h2⟩
theorem Shds.at:∀{vs:List V} {ds:List D},Shds cl w vs ds->∀{i:Nat} {d:D},ds[i]?=some d->∃v,vs[i]?=some v/\Shd cl w v d
 | _,_,.nil,i,v,e=>by simp at e
 | _,_,.cons r _,0,v,e=>by simp at e;subst e;exact ⟨_,rfl,r⟩
 | _,_,.cons _ t,i+1,v,e=>by
  obtain ⟨d,h1,h2⟩:=Shds.at t (i:=i) (d:=v) (by simpa using e);exact ⟨d,by simpa using h1,h2⟩
theorem Shds.append:∀{vs ws:List V} {ds es:List D},Shds cl w vs ds->Shds cl w ws es->Shds cl w (vs++ws) (ds++es)
 | _,_,_,_,.nil,s=>s
 | _,_,_,_,.cons r t,s=>.cons r (Shds.append t s)
theorem Shds.take:∀{vs:List V} {ds:List D} (n:Nat),Shds cl w vs ds->Shds cl w (vs.take n) (ds.take n)
 | _,_,0,_=>.nil
 | _,_,_+1,.nil=>.nil
 | _,_,n+1,.cons r t=>.cons r (Shds.take n t)
theorem Shds.drop:∀{vs:List V} {ds:List D} (n:Nat),Shds cl w vs ds->Shds cl w (vs.drop n) (ds.drop n)
 | _,_,0,s=>s
 | _,_,_+1,.nil=>.nil
 | _,_,n+1,.cons _ t=>Shds.drop n t
theorem Shds.flat{vs:List V}{ds:List D}(h:Shds cl w vs ds):∀n:Nat,Shds cl w (List.replicate n vs).flatten (List.replicate n ds).flatten
 | 0=>.nil
 | n+1=>by
  rw [ya5,ya5,ybo,ybo];exact Shds.append h (Shds.flat h n)
end
inductive Top(cl:Cf)(w:Wd):HO->D->Prop
 | lst {xs:List V} {ds:List D}:Shds cl w xs ds->Top cl w (.lst xs) (.lst ds)
 | dicK {kvs:List (Key×V)} {ds:List (D×D)}:ShdK cl w kvs ds->Top cl w (.dK kvs) (.dic ds)
 | dicT {kvs:List (List Key×V)} {ds:List (D×D)}:ShdT cl w kvs ds->Top cl w (.dT kvs) (.dic ((.exc "",.non)::ds))
theorem Top.up{cl:Cf}{w w':Wd}(f:Fut w w'){o:HO}{d:D}:Top cl w o d->Top cl w' o d
 | .lst h=>.lst (h.up f)
 | .dicK h=>.dicK (h.up f)
 | .dicT h=>.dicT (h.up f)
noncomputable def zgz(cl:Cf)(w:Wd)(r:Root):Bool->V->D->Prop
 | false,v,d=>Shd cl w v d
 | true,v,d=>∃a o,v=.ref a/\w.ow a=some r/\w.H a=some o/\Top cl w o d
theorem zgz.keep{cl:Cf}{w w':Wd}(f:Fut w w'){r:Root}(k:∀a o,w.H a=some o->w.ow a=some r->w'.H a=some o/\w'.ow a=some r):∀{b:Bool} {v:V} {d:D},zgz cl w r b v d->zgz cl w' r b v d
 | false,_,_,h=>Shd.up f h
 | true,_,_,⟨a,o,e,h1,h2,t⟩=>⟨a,o,e,(k a o h2 h1).2,(k a o h2 h1).1,t.up f⟩
noncomputable def oDn:Option Int->D | none=>.non | some i=>.int i
noncomputable def nkD(k:NK):D:=.tup [.int k.1,.tup (k.2.map oDn)]
inductive ShdN(cl:Cf)(w:Wd):List (NK×V)->List (D×D)->Prop
 | nil:ShdN cl w [] []
 | cons {k:NK} {v:V} {d:D} {m:List (NK×V)} {ds:List (D×D)}:Shd cl w v d->ShdN cl w m ds->ShdN cl w ((k,v)::m) ((nkD k,d)::ds)
theorem ShdN.up{cl:Cf}{w w':Wd}(f:Fut w w'):∀{m:List (NK×V)} {ds:List (D×D)},ShdN cl w m ds->ShdN cl w' m ds
 | _,_,.nil=>.nil
 | _,_,.cons r t=>.cons (r.up f) (ShdN.up f t)
noncomputable def zjq(w:Wd)(kb:Addr)(k:NK):Prop:=∃b,(w.H kb=some (.tup [.int k.1,.ref b])/\w.ow kb=none)/\w.H b=some (.tup (k.2.map oV))/\w.ow b=none
def zjq.up{w w':Wd}(f:Fut w w'){kb:Addr}{k:NK}(h:zjq w kb k):zjq w' kb k:=by
 obtain ⟨b,h1,h2⟩:=h;exact ⟨b,f.keep _ _ h1.1 h1.2,f.keep _ _ h2.1 h2.2⟩
def zjq.at{w:Wd}{kb:Addr}{k:NK}(h:zjq w kb k):zfX w.H kb k:=by
 obtain ⟨b,h1,h2⟩:=h;exact ⟨b,h1.1,h2.1⟩
noncomputable def zgC(w:Wd):List (NK×Addr×Value)->List (NK×V)->Prop:=Paired fun (x:NK×Addr×Value) (p:NK×V)=>x.1=p.1/\zjq w x.2.1 x.1/\zav p.2 x.2.2
theorem zgC.up{w w':Wd}(f:Fut w w'):∀{xs:List (NK×Addr×Value)} {m:List (NK×V)},zgC w xs m->zgC w' xs m
 | _,_,.nil=>.nil
 | _,_,.cons h t=>.cons ⟨h.1,h.2.1.up f,h.2.2⟩ (zgC.up f t)
theorem zgC.ents{w:Wd}:∀{xs:List (NK×Addr×Value)} {m:List (NK×V)},zgC w xs m->zkQ w.H xs m
 | _,_,.nil=>.nil
 | _,_,.cons h t=>.cons ⟨h.1,h.2.1.at,h.2.2⟩ (zgC.ents t)
theorem zgC.snoc{w:Wd}{x:NK×Addr×Value}{p:NK×V}(h:x.1=p.1/\zjq w x.2.1 x.1/\zav p.2 x.2.2):∀{xs:List (NK×Addr×Value)} {m:List (NK×V)},zgC w xs m->zgC w (xs++[x]) (m++[p])
 | _,_,.nil=>.cons h .nil
 | _,_,.cons h' t=>.cons h' (zgC.snoc h t)
theorem ShdN.snoc{cl:Cf}{w:Wd}{k:NK}{v:V}{d:D}(h:Shd cl w v d):∀{m:List (NK×V)} {ds:List (D×D)},ShdN cl w m ds->ShdN cl w (m++[(k,v)]) (ds++[(nkD k,d)])
 | _,_,.nil=>.cons h .nil
 | _,_,.cons r t=>.cons r (ShdN.snoc h t)
noncomputable def zv8(cl:Cf)(w:Wd)(r:Root)(v:V)(d:D):Prop:=∃a xs m ds,v=.ref a/\w.ow a=some r/\w.H a=some (.ext (DN cl.P cl.wo a xs))/\zgC w xs m/\ShdN cl w m ds/\d=.dic ds
noncomputable def zfY(cl:Cf)(w:Wd)(r:Root)(own:Bool)(v:V)(d:D):Prop:=(own=false/\Shd cl w v d)\/(own=true/\zv8 cl w r v d)
def zfY.keep{cl:Cf}{w w':Wd}(f:Fut w w'){r:Root}(k:∀a o,w.H a=some o->w.ow a=some r->w'.H a=some o/\w'.ow a=some r){b:Bool}{v:V}{d:D}(h:zfY cl w r b v d):zfY cl w' r b v d:=by
 rcases h with ⟨e,h⟩ | ⟨e,a,xs,m,ds,e1,e2,e3,e4,e5,e6⟩
 ·exact .inl ⟨e,h.up f⟩
 ·exact .inr ⟨e,a,xs,m,ds,e1,(k a _ e3 e2).2,(k a _ e3 e2).1,e4.up f,e5.up f,e6⟩
structure Ob where
 cls:Str
 fs:List (Str×Bool×D)
noncomputable abbrev Sto:=List Ob
noncomputable def zci(cl:Cf)(w:Wd)(n:Nat):List (Str×V)->List (Str×Bool×D)->Prop:=Paired fun p q=>p.1=q.1/\zfY cl w (.fld n q.1) q.2.1 p.2 q.2.2
noncomputable def zqd(cl:Cf)(w:Wd)(n:Nat)(a:Addr)(ob:Ob):Prop:=w.ow a=some (.obj n)/\∃dx fs,w.H a=some (.ins (cl ob.cls) dx fs)/\zci cl w n fs ob.fs
noncomputable def zo7(n:Nat):Option Root->Prop | some (.obj m)=>m=n | some (.fld m _)=>m=n | _=>False
theorem zci.keep{cl:Cf}{w w':Wd}(f:Fut w w'){n:Nat}(k:∀a o,w.H a=some o->zo7 n (w.ow a)->w'.H a=some o/\w'.ow a=w.ow a):∀{fs:List (Str×V)} {gs:List (Str×Bool×D)},zci cl w n fs gs->zci cl w' n fs gs
 | _,_,.nil=>.nil
 | _,_,.cons ⟨e,h⟩ t=>.cons ⟨e,h.keep f fun a o ha hr=>by
   have:=k a o ha (by rw [hr];rfl)
   exact ⟨this.1,this.2.trans hr⟩⟩ (zci.keep f k t)
theorem zqd.keep{cl:Cf}{w w':Wd}(f:Fut w w'){n:Nat}{a:Addr}{ob:Ob}(k:∀a o,w.H a=some o->zo7 n (w.ow a)->w'.H a=some o/\w'.ow a=w.ow a)(h:zqd cl w n a ob):zqd cl w' n a ob:=by
 obtain ⟨h1,dx,fs,h2,h3⟩:=h;have:=k a _ h2 (by rw [h1];rfl);exact ⟨this.2.trans h1,dx,fs,this.1,h3.keep f k⟩
structure Base where
 Fr:Hp
 fw:Ow
structure World'(cl:Cf)(B:Base)(w:Wd)(S:Sto):Prop where
 fr:∀a o,B.Fr a=some o->w.H a=some o/\w.ow a=B.fw a
 own:∀a r,w.ow a=some r->r=.far\/B.Fr a=none
 len:w.mu.length=S.length
 obj:∀(n:Nat) (ob:Ob),S[n]?=some ob->∃a,w.mu[n]?=some a/\zqd cl w n a ob
noncomputable abbrev Env:=List (Option (Bool×D))
structure Rel(cl:Cf)(B:Base)(σ:St)(w:Wd)(ρ:Env)(S:Sto):Prop where
 wd:World' cl B w S
 len:σ.length=ρ.length
 slots:∀(i:Nat) (o:Bool) (d:D),ρ[i]?=some (some (o,d))->∃v,σ[i]?=some (some v)/\zgz cl w (.slot i) o v d
structure Grow(w w':Wd):Prop where
 keep:∀a o,w.H a=some o->w'.H a=some o/\w'.ow a=w.ow a
 new:∀a r,w'.ow a=some r->w.H a=none->w.ow a=some r\/r=.far
 mu:w'.mu=w.mu
def Grow.refl(w:Wd):Grow w w:=⟨fun _ _ h=>⟨h,rfl⟩,fun _ _ h _=>.inl h,rfl⟩
def Grow.fut{w w':Wd}(g:Grow w w'):Fut w w':=⟨fun a o h k=>⟨(g.keep a o h).1,(g.keep a o h).2.trans k⟩,fun n a h=>by rw [g.mu];exact h⟩
def World'.grow{cl:Cf}{B:Base}{w w':Wd}{S:Sto}(W:World' cl B w S)(g:Grow w w'):World' cl B w' S where
 fr:=fun a o h=>by
  obtain ⟨h1,h2⟩:=W.fr a o h;exact ⟨(g.keep a o h1).1,(g.keep a o h1).2.trans h2⟩
 own:=fun a r h=>by
  cases e:w.H a with
  | none=>exact (g.new a r h e).elim (W.own a r) .inl
  | some o=>exact W.own a r (by rw [<-(g.keep a o e).2];exact h)
 len:=by rw [g.mu];exact W.len
 obj:=fun n ob h=>by
  obtain ⟨a,e,x⟩:=W.obj n ob h;exact ⟨a,by rw [g.mu];exact e,x.keep g.fut fun a o ha _=>g.keep a o ha⟩
theorem Rel.grow{cl:Cf}{B:Base}{σ:St}{w w':Wd}{ρ:Env}{S:Sto}(R:Rel cl B σ w ρ S)(g:Grow w w'):Rel cl B σ w' ρ S where
 wd:=R.wd.grow g
 len:=R.len
 slots:=fun i o d h=>by
  obtain ⟨v,e,x⟩:=R.slots i o d h;exact ⟨v,e,x.keep g.fut fun a o ha hr=>⟨(g.keep a o ha).1,(g.keep a o ha).2.trans hr⟩⟩
noncomputable def Wd.add(w:Wd)(p:Addr)(o:HO):Wd:=⟨upd w.H p o,fun a=>if a=p then none else w.ow a,w.mu⟩
def zam{w:Wd}{p:Addr}(h:w.H p=none)(o:HO):Grow w (w.add p o) where
 keep:=fun a u ha=>by
  have n:a≠p:=zag ha h;refine ⟨?_,?_⟩
  ·show upd w.H p o a=_;rw [zaf n];exact ha
  ·show (if a=p then none else w.ow a)=_;rw [if_neg n]
 new:=fun a r h1 h2=>by
  have h1':(if a=p then none else w.ow a)=some r:=h1;split at h1'
  ·cases h1'
  ·exact .inl h1'
 mu:=rfl
def zft{w:Wd}{p:Addr}{o:HO}:(w.add p o).ow p=none:=if_pos rfl
def zjg{w:Wd}{p:Addr}{o:HO}:(w.add p o).H p=some o:=zak
def Shd.newT{cl:Cf}{w:Wd}{p:Addr}{xs:List V}{ds:List D}(h:w.H p=none)(r:Shds cl w xs ds):Shd cl (w.add p (.tup xs)) (.ref p) (.tup ds):=.tup zjg zft (r.up (zam h _).fut)
def Shd.newL{cl:Cf}{w:Wd}{p:Addr}{xs:List V}{ds:List D}(h:w.H p=none)(r:Shds cl w xs ds):Shd cl (w.add p (.lst xs)) (.ref p) (.lst ds):=.lst zjg zft (r.up (zam h _).fut)
def Shd.newO{cl:Cf}{w:Wd}{p:Addr}{o:HO}{d:D}(h:w.H p=none)(r:Top cl w o d):Shd cl (w.add p o) (.ref p) d:=by
 have g:=(zam h o).fut
 cases r with
 | lst r=>exact .lst zjg zft (r.up g)
 | dicK r=>exact .dicK zjg zft (r.up g)
 | dicT r=>exact .dicT zjg zft (r.up g)
inductive Out(α:Type) where
 | ok (a:α) (S:Sto) | exc (c:Str) (S:Sto) | bad
noncomputable abbrev Fe:=Env->Sto->Out D
inductive Fo where
 | nx (ρ:Env) (S:Sto) | rt (d:D) (S:Sto) | bk (ρ:Env) (S:Sto) | ct (ρ:Env) (S:Sto) | ex (c:Str) (ρ:Env) (S:Sto) | bad
noncomputable abbrev Fs:=Env->Sto->Fo
noncomputable def tE(cl:Cf)(E:St->XK)(f:Fe):TE:=fun σ H Q=>∃B w ρ S,w.H=H/\Rel cl B σ w ρ S/\match f ρ S with
 | .ok d S'=>∀v w',Rel cl B σ w' ρ S'->Fut w w'->Shd cl w' v d->Q v w'.H
 | .exc c S'=>∀w',Rel cl B σ w' ρ S'->Fut w w'->E σ (.ref (cl c)) none w'.H
 | .bad=>False
noncomputable def tN(cl:Cf)(E:St->XK)(f:Fe):TE:=fun σ H Q=>∃B w ρ S,w.H=H/\Rel cl B σ w ρ S/\match f ρ S with
 | .ok d S'=>∀p o w',Rel cl B σ w' ρ S'->Fut w w'->w'.H p=none->Top cl w' o d->Q (.ref p) (upd w'.H p o)
 | .exc c S'=>∀w',Rel cl B σ w' ρ S'->Fut w w'->E σ (.ref (cl c)) none w'.H
 | .bad=>False
noncomputable def Hd(cl:Cf)(σ:St)(ρ:Env)(w:Wd)(v:V)(d:D):Prop:=Shd cl w v d\/∃i:Nat,ρ[i]?=some (some (true,d))/\σ[i]?=some (some v)
noncomputable def tH(cl:Cf)(E:St->XK)(f:Fe):TE:=fun σ H Q=>∃B w ρ S,w.H=H/\Rel cl B σ w ρ S/\match f ρ S with
 | .ok d S'=>∀v w',Rel cl B σ w' ρ S'->Fut w w'->Hd cl σ ρ w' v d->Q v w'.H
 | .exc c S'=>∀w',Rel cl B σ w' ρ S'->Fut w w'->E σ (.ref (cl c)) none w'.H
 | .bad=>False
inductive TopV(cl:Cf)(w:Wd):V->D->Prop
 | sh {v:V} {d:D}:Shd cl w v d->TopV cl w v d
 | ow {a:Addr} {o:HO} {d:D}:w.H a=some o->Top cl w o d->TopV cl w (.ref a) d
def Hd.top{cl:Cf}{B:Base}{σ:St}{ρ:Env}{w:Wd}{S:Sto}{v:V}{d:D}(h:Hd cl σ ρ w v d)(R:Rel cl B σ w ρ S):TopV cl w v d:=by
 rcases h with h | ⟨i,h1,h2⟩
 ·exact .sh h
 ·obtain ⟨v',e,a,o,rfl,_,h3,t⟩:=R.slots i true d h1;rw [h2] at e;cases e;exact .ow h3 t
theorem Hd.up{cl:Cf}{σ:St}{ρ:Env}{w w':Wd}{v:V}{d:D}(f:Fut w w')(h:Hd cl σ ρ w v d):Hd cl σ ρ w' v d:=by
 rcases h with h | h
 ·exact .inl (h.up f)
 ·exact .inr h
def PE.imp{X:Cx}{e:Expr}{t t':TE}(h:PE X e t)(i:∀σ H Q,t' σ H Q->t σ H Q):PE X e t':=fun pins s σ H Q I q=>h pins s σ H Q I (i _ _ _ q)
def zq0{cl:Cf}{E:St->XK}{f:Fe}{σ:St}{H:Hp}{Q:VK}(h:tE cl E f σ H Q):tN cl E f σ H Q:=by
 obtain ⟨B,w,ρ,S,e,R,h⟩:=h;refine ⟨B,w,ρ,S,e,R,?_⟩
 cases hf:f ρ S with
 | ok d S' =>
  rw [hf] at h;intro p o w' R' F' hp t;exact h (.ref p) (w'.add p o) (R'.grow (zam hp o)) (F'.trans (zam hp o).fut) (Shd.newO hp t)
 | exc c S'=>rwa [hf] at h
 | bad=>rwa [hf] at h
def zqZ{cl:Cf}{E:St->XK}{f:Fe}{σ:St}{H:Hp}{Q:VK}(h:tH cl E f σ H Q):tE cl E f σ H Q:=by
 obtain ⟨B,w,ρ,S,e,R,h⟩:=h;refine ⟨B,w,ρ,S,e,R,?_⟩
 cases hf:f ρ S with
 | ok d S' =>
  rw [hf] at h;intro v w' R' F' t;exact h v w' R' F' (.inl t)
 | exc c S'=>rwa [hf] at h
 | bad=>rwa [hf] at h
end S2
namespace S2
open PySem PySem.Spec PyProof.Rows L2
noncomputable def Out.bind{α β:Type}(o:Out α)(k:α->Sto->Out β):Out β:=match o with | .ok a S=>k a S | .exc c S=>.exc c S | .bad=>.bad
noncomputable def Out.of{α:Type}(o:Option α)(S:Sto):Out α:=match o with | some a=>.ok a S | none=>.bad
@[simp] def Out.bind_ok{α β:Type}(a:α)(S:Sto)(k:α->Sto->Out β):(Out.ok a S).bind k=k a S:=rfl
@[simp] def Out.bind_exc{α β:Type}(c:Str)(S:Sto)(k:α->Sto->Out β):(Out.exc c S:Out α).bind k=.exc c S:=rfl
@[simp] def Out.bind_bad{α β:Type}(k:α->Sto->Out β):(Out.bad:Out α).bind k=.bad:=rfl
@[simp] def Out.of_some{α:Type}(a:α)(S:Sto):Out.of (some a) S=.ok a S:=rfl
noncomputable def zah(i:Nat):Fe:=fun ρ S=>match ρ[i]? with | some (some (false,d))=>.ok d S | _=>.bad
noncomputable def zan(i:Nat):Fe:=fun ρ S=>match ρ[i]? with | some (some (_,d))=>.ok d S | _=>.bad
noncomputable def zao(d:D):Fe:=fun _ S=>.ok d S
noncomputable def eUn(g:D->Option D)(f:Fe):Fe:=fun ρ S=>(f ρ S).bind fun a S1=>Out.of (g a) S1
noncomputable def zaj(g:D->D->Option D)(f h:Fe):Fe:=fun ρ S=>(f ρ S).bind fun a S1=>(h ρ S1).bind fun b S2=>Out.of (g a b) S2
noncomputable def isB:D->Option Bool | .bl b=>some b | _=>none
noncomputable def eIf(c f h:Fe):Fe:=fun ρ S=>(c ρ S).bind fun d S1=>match isB d with | some true=>f ρ S1 | some false=>h ρ S1 | none=>.bad
noncomputable def zg1(f h:Fe):Fe:=fun ρ S=>(f ρ S).bind fun d S1=>match isB d with | some true=>h ρ S1 | some false=>.ok (.bl false) S1 | none=>.bad
noncomputable def eOr(f h:Fe):Fe:=fun ρ S=>(f ρ S).bind fun d S1=>match isB d with | some true=>.ok (.bl true) S1 | some false=>h ρ S1 | none=>.bad
noncomputable def zfv:D->Option D | .bl b=>some (.bl (!b)) | _=>none
noncomputable def zae:List Fe->Env->Sto->Out (List D)
 | [],_,S=>.ok [] S
 | f::fs,ρ,S=>(f ρ S).bind fun d S1=>(zae fs ρ S1).bind fun ds S2=>.ok (d::ds) S2
noncomputable def zaT(n:Nat):Bool:=decide (n<=100000)
noncomputable def zgZ(fs:List Fe):Fe:=fun ρ S=>(zae fs ρ S).bind fun ds S1=>if zaT ds.length then .ok (.tup ds) S1 else .bad
noncomputable def zg0(fs:List Fe):Fe:=fun ρ S=>(zae fs ρ S).bind fun ds S1=>if zaT ds.length then .ok (.lst ds) S1 else .bad
noncomputable def za5(g:List D->Option D)(fs:List Fe):Fe:=fun ρ S=>(zae fs ρ S).bind fun ds S1=>Out.of (g ds) S1
def zaN{n:Nat}(h:zaT n=true):n<=sizeLine:=yal (yap h) (by decide)
noncomputable def zbe:Expr->Bool | .Starred _ _=>false | _=>true
def zaP{e:Expr}{es:List Expr}{env:PySem.Env}(h:zbe e=true):starEach (e::es) env=(false,eval e env)::starEach es env:=by
 cases e<;>first | rfl | cases h
theorem za8{pos:Pos}{env:PySem.Env}:∀{es:List Expr},es.all zbe=true->(backTo pos (starEach es env)).any (·.1)=false
 | [],_=>rfl
 | e::es,h=>by
  rw [ybb,yab] at h;rw [zaP h.1];show (false||(backTo pos (starEach es env)).any (·.1))=false;rw [za8 h.2];rfl
theorem zeX{pos:Pos}{env:PySem.Env}:∀{es:List Expr},es.all zbe=true->(backTo pos (starEach es env)).all (fun x=>!x.1)=true
 | [],_=>rfl
 | e::es,h=>by
  rw [ybb,yab] at h;rw [zaP h.1];show (true&&(backTo pos (starEach es env)).all (fun x=>!x.1))=true;rw [zeX h.2];rfl
def zgo{pos:Pos}{env:PySem.Env}{es:List Expr}(h:es.all zbe=true)(hl:es.length<30):((backTo pos (starEach es env)).all (fun x=>!x.1)&&(backToKw pos (keywordEach [] env)).all (fun x=>x.1.isSome)
   && decide (es.length+([]:List Keyword).length+(if ([]:List Keyword).isEmpty then 0 else 1)<30))=true:=by
 rw [zeX h];show (true&&true&&decide (es.length+0+0<30))=true;simpa using hl
noncomputable def Hds(cl:Cf)(σ:St)(ρ:Env)(w:Wd):List V->List D->Prop:=Paired (Hd cl σ ρ w)
noncomputable def zjh(cl:Cf)(w:Wd):List V->List D->Prop:=Paired (TopV cl w)
theorem Hds.top{cl:Cf}{B:Base}{σ:St}{ρ:Env}{w:Wd}{S:Sto}(R:Rel cl B σ w ρ S):∀{vs:List V} {ds:List D},Hds cl σ ρ w vs ds->zjh cl w vs ds
 | _,_,.nil=>.nil
 | _,_,.cons h t=>.cons (h.top R) (Hds.top R t)
noncomputable def tAs(cl:Cf)(E:St->XK)(fs:List Fe):TA:=fun σ H Q=>∃B w ρ S,w.H=H/\Rel cl B σ w ρ S/\match zae fs ρ S with
 | .ok ds S'=>∀vs w',Rel cl B σ w' ρ S'->Fut w w'->Shds cl w' vs ds->Q vs w'.H
 | .exc c S'=>∀w',Rel cl B σ w' ρ S'->Fut w w'->E σ (.ref (cl c)) none w'.H
 | .bad=>False
noncomputable def tHs(cl:Cf)(E:St->XK)(fs:List Fe):TA:=fun σ H Q=>∃B w ρ S,w.H=H/\Rel cl B σ w ρ S/\match zae fs ρ S with
 | .ok ds S'=>∀vs w',Rel cl B σ w' ρ S'->Fut w w'->Hds cl σ ρ w' vs ds->Q vs w'.H
 | .exc c S'=>∀w',Rel cl B σ w' ρ S'->Fut w w'->E σ (.ref (cl c)) none w'.H
 | .bad=>False
def PA.imp{X:Cx}{es:List Expr}{t t':TA}(h:PA X es t)(i:∀σ H Q,t' σ H Q->t σ H Q):PA X es t':=fun pos pins s σ H Q I q=>h pos pins s σ H Q I (i _ _ _ q)
def PT.imp{X:Cx}{e:Expr}{t t':TT}(h:PT X e t)(i:∀σ H Q,t' σ H Q->t σ H Q):PT X e t':=fun pins s σ H Q I q=>h pins s σ H Q I (i _ _ _ q)
section
variable{X:Cx}{cl:Cf}{E:St->XK}{a b c e:Expr}{f h g:Fe}{pos:Pos}
def zoh{i:Nat}{x:Str}(hN:X.N[i]?=some x)(hv:Vis X.env.scope x)(hd:(x == ("__debug__":Str))=false)(hcd:(x == ("__classdict__":Str))=false):PE X (.Name x pos) (tE cl E (zah i)):=by
 refine PE.imp (zcK hN hv hd hcd) ?_;rintro σ H Q ⟨B,w,ρ,S,rfl,R,q⟩;unfold zah at q;split at q
 ·rename_i o d S' hm;split at hm
  ·rename_i d' he;cases hm;obtain ⟨v,e,r⟩:=R.slots i false d he;exact ⟨v,e,q v w R (Fut.refl _) r⟩
  ·cases hm
 ·rename_i hm;split at hm<;>cases hm
 ·exact q.elim
def zot{i:Nat}{x:Str}(hN:X.N[i]?=some x)(hv:Vis X.env.scope x)(hd:(x == ("__debug__":Str))=false)(hcd:(x == ("__classdict__":Str))=false):PE X (.Name x pos) (tH cl E (zan i)):=by
 refine PE.imp (zcK hN hv hd hcd) ?_;rintro σ H Q ⟨B,w,ρ,S,rfl,R,q⟩;unfold zan at q;split at q
 ·rename_i o d S' hm;split at hm
  ·rename_i b d' he;cases hm;obtain ⟨v,e,r⟩:=R.slots i b d he;refine ⟨v,e,q v w R (Fut.refl _) ?_⟩
   cases b with
   | false=>exact .inl r
   | true=>exact .inr ⟨i,he,e⟩
  ·cases hm
 ·rename_i hm;split at hm<;>cases hm
 ·exact q.elim
def zhI{v:V}{d:D}(h:PE X e (tC v))(hd:∀w,Shd cl w v d):PE X e (tE cl E (zao d)):=by
 refine PE.imp h ?_;rintro σ H Q ⟨B,w,ρ,S,rfl,R,q⟩;exact q v w R (Fut.refl _) (hd w)
def zhJ(h:PE X e (tE cl E f)):PE X e (tH cl E f):=PE.imp h fun _ _ _=>zqZ
def zbP(h:PE X e (tN cl E f)):PE X e (tE cl E f):=PE.imp h fun _ _ _=>zq0
noncomputable def OpD(X:Cx)(cl:Cf)(op:Value->Value->Sem Value)(g:D->D->Option D):Prop:=OpR X op fun x y H Q=>∃w d e r,w.H=H/\TopV cl w x d/\TopV cl w y e/\g d e=some r/\∀v w',Grow w w'->Shd cl w' v r->Q v w'.H
noncomputable def UnD(X:Cx)(cl:Cf)(op:Value->Sem Value)(g:D->Option D):Prop:=UnR X op fun x H Q=>∃w d r,w.H=H/\TopV cl w x d/\g d=some r/\∀v w',Grow w w'->Shd cl w' v r->Q v w'.H
noncomputable def zjk(X:Cx)(cl:Cf)(fv:Value)(g:List D->Option D):Prop:=zc9 X fv fun xs H Q=>∃w ds r,w.H=H/\zjh cl w xs ds/\g ds=some r/\∀v w',Grow w w'->Shd cl w' v r->Q v w'.H
noncomputable def zsu(X:Cx)(cl:Cf)(fv:Value)(g:List D->Option D):Prop:=zc9 X fv fun xs H Q=>∃w ds r,w.H=H/\zjh cl w xs ds/\g ds=some r/\∀p o w',Grow w w'->w'.H p=none->Top cl w' o r->Q (.ref p) (upd w'.H p o)
noncomputable def IxD(X:Cx)(cl:Cf)(g:D->D->Option D):Prop:=IxR X fun x y H Q=>∃w d e r,w.H=H/\TopV cl w x d/\TopV cl w y e/\g d e=some r/\∀v w',Grow w w'->Shd cl w' v r->Q v w'.H
def two{gg:D->D->Option D}{r2:R2}(hr:∀x y H Q,(∃w d e r,w.H=H/\TopV cl w x d/\TopV cl w y e/\gg d e=some r/\∀v w',Grow w w'->Shd cl w' v r->Q v w'.H)->r2 x y H Q)(σ:St)(H:Hp)(Q:VK)(q:tE cl E (zaj gg f h) σ H Q):tOp r2 (tH cl E f) (tH cl E h) σ H Q:=by
 obtain ⟨B,w,ρ,S,rfl,R,q⟩:=q;refine ⟨B,w,ρ,S,rfl,R,?_⟩;unfold zaj at q
 cases hf:f ρ S with
 | bad=>rwa [hf] at q
 | exc c S1=>rwa [hf] at q
 | ok d S1 =>
  rw [hf] at q;intro v w1 R1 F1 h1;refine ⟨B,w1,ρ,S1,rfl,R1,?_⟩;dsimp only [Out.bind] at q
  cases hh:h ρ S1 with
  | bad=>rwa [hh] at q
  | exc c S2=>rw [hh] at q;exact fun w2 R2 F2=>q w2 R2 (F1.trans F2)
  | ok e S2 =>
   rw [hh] at q;intro y w2 R2 F2 h2;dsimp only at q
   cases hg:gg d e with
   | none=>rw [hg] at q;exact q.elim
   | some r =>
    rw [hg] at q;exact hr _ _ _ _ ⟨w2,d,e,r,rfl,(h1.up F2).top R2,h2.top R2,hg,fun v' w' gr sh=>q v' w' (R2.grow gr) (F1.trans (F2.trans gr.fut)) sh⟩
def zkY{op:Operator}{gg:D->D->Option D}(ho:OpD X cl (binaryOp op) gg)(ha:PE X a (tH cl E f))(hb:PE X b (tH cl E h)):PE X (.BinOp a op b pos) (tE cl E (zaj gg f h)) :=
 PE.imp (zoR ho ha hb) (two fun _ _ _ _ z=>z)
def zrh{gg:D->D->Option D}(ho:IxD X cl gg)(ha:PE X a (tH cl E f))(hb:PE X b (tH cl E h))(hs:zeD b):PE X (.Subscript a b pos) (tE cl E (zaj gg f h)) :=
 PE.imp (zoV ho ha hb hs) (two fun _ _ _ _ z=>z)
def zos{op:CmpOp}{gg:D->D->Option D}(ho:OpD X cl (compareOp op) gg)(ha:PE X a (tH cl E f))(hb:PE X b (tH cl E h))(hm:behindInMarks op b=false):PE X (.Compare a [op] [b] pos) (tE cl E (zaj gg f h)) :=
 PE.imp (zh8 ho ha hb hm) (two fun _ _ _ _ z=>z)
def zrf{op:UnaryOp}{gg:D->Option D}(ho:UnD X cl (unaryOp op) gg)(ha:PE X a (tH cl E f)):PE X (.UnaryOp op a pos) (tE cl E (eUn gg f)):=by
 refine PE.imp (zrq ho ha) ?_;rintro σ H Q ⟨B,w,ρ,S,rfl,R,q⟩;refine ⟨B,w,ρ,S,rfl,R,?_⟩;unfold eUn at q
 cases hf:f ρ S with
 | bad=>rwa [hf] at q
 | exc c S1=>rwa [hf] at q
 | ok d S1 =>
  rw [hf] at q;intro v w1 R1 F1 h1;dsimp only [Out.bind] at q
  cases hg:gg d with
  | none=>rw [hg] at q;exact q.elim
  | some r =>
   rw [hg] at q;exact ⟨w1,d,r,rfl,h1.top R1,hg,fun v' w' gr sh=>q v' w' (R1.grow gr) (F1.trans gr.fut) sh⟩
noncomputable def tTr(cl:Cf)(E:St->XK)(f:Fe):TT:=fun σ H Q=>∃B w ρ S,w.H=H/\Rel cl B σ w ρ S/\match f ρ S with
 | .ok d S'=>match isB d with
  | some b=>∀w',Rel cl B σ w' ρ S'->Fut w w'->Q b w'.H
  | none=>False
 | .exc c S'=>∀w',Rel cl B σ w' ρ S'->Fut w w'->E σ (.ref (cl c)) none w'.H
 | .bad=>False
def zcc{d:D}{b:Bool}(h:isB d=some b):d=.bl b:=by
 cases d<;>simp [isB] at h
 subst h;rfl
def zeR{w:Wd}{v:V}{b:Bool}(h:Shd cl w v (.bl b)):v=.bl b:=by cases h;rfl
def zf1{σ:St}{H:Hp}{Q:Bool->Hp->Prop}(q:tTr cl E f σ H Q):tB (tE cl E f) σ H Q:=by
 obtain ⟨B,w,ρ,S,rfl,R,q⟩:=q;refine ⟨B,w,ρ,S,rfl,R,?_⟩
 cases hf:f ρ S with
 | bad=>rwa [hf] at q
 | exc c S1=>rwa [hf] at q
 | ok d S1 =>
  rw [hf] at q;intro v w1 R1 F1 h1;dsimp only at q
  cases hb:isB d with
  | none=>rw [hb] at q;exact q.elim
  | some b =>
   rw [hb] at q;rw [zcc hb] at h1;exact ⟨b,zeR h1,q w1 R1 F1⟩
def zaF(h:PE X e (tE cl E f))(he:∀whole,isTrue e X.env whole=(do let v ← whole;standAt e.pos;holding [v] (truthy v))):PT X e (tTr cl E f) :=
 PT.imp (zoH h he) fun _ _ _ q=>zf1 q
def zht{gg:D->D->Option D}{r2:R2}(hr:∀x y H Q,(∃w d e r,w.H=H/\TopV cl w x d/\TopV cl w y e/\gg d e=some r/\∀v w',Grow w w'->Shd cl w' v r->Q v w'.H)->r2 x y H Q){σ:St}{H:Hp}{Q:Bool->Hp->Prop}(q:tTr cl E (zaj gg f h) σ H Q):zlF (tOp r2 (tH cl E f) (tH cl E h)) σ H Q :=
 two hr σ H _ (zf1 q)
def zn3{op:CmpOp}{gg:D->D->Option D}(ho:OpD X cl (compareOp op) gg)(ha:PE X a (tH cl E f))(hb:PE X b (tH cl E h))(hm:behindInMarks op b=false):PT X (.Compare a [op] [b] pos) (tTr cl E (zaj gg f h)) :=
 PT.imp (zhV ho ha hb hm) fun _ _ _ q=>zht (fun _ _ _ _ z=>z) q
def PW.imp{X:Cx}{e:Expr}{t t':TT}(h:PW X e t)(i:∀σ H Q,t' σ H Q->t σ H Q):PW X e t':=fun whole pins s σ H Q I q=>h whole pins s σ H Q I (i _ _ _ q)
def zlE{σ:St}{H:Hp}{Q:Bool->Hp->Prop}(q:tTr cl E (zg1 f h) σ H Q):zti (tTr cl E f) (tTr cl E h) σ H Q:=by
 obtain ⟨B,w,ρ,S,rfl,R,q⟩:=q;refine ⟨B,w,ρ,S,rfl,R,?_⟩;unfold zg1 at q
 cases hf:f ρ S with
 | bad=>rwa [hf] at q
 | exc c S1=>rwa [hf] at q
 | ok d S1 =>
  rw [hf] at q;dsimp only [Out.bind] at q ⊢
  cases hb:isB d with
  | none=>rw [hb] at q;exact q.elim
  | some b =>
   rw [hb] at q;intro w1 R1 F1
   cases b with
   | false=>exact zli (q w1 R1 F1)
   | true =>
    refine zlh ⟨B,w1,ρ,S1,rfl,R1,?_⟩;dsimp only at q
    cases hh:h ρ S1 with
    | bad=>rwa [hh] at q
    | exc c S2=>rw [hh] at q;exact fun w2 R2 F2=>q w2 R2 (F1.trans F2)
    | ok e S2 =>
     rw [hh] at q;dsimp only at q ⊢
     cases hb2:isB e with
     | none=>rw [hb2] at q;exact q.elim
     | some b2=>rw [hb2] at q;exact fun w2 R2 F2=>q w2 R2 (F1.trans F2)
def znN{σ:St}{H:Hp}{Q:Bool->Hp->Prop}(q:tTr cl E (eOr f h) σ H Q):tOr (tTr cl E f) (tTr cl E h) σ H Q:=by
 obtain ⟨B,w,ρ,S,rfl,R,q⟩:=q;refine ⟨B,w,ρ,S,rfl,R,?_⟩;unfold eOr at q
 cases hf:f ρ S with
 | bad=>rwa [hf] at q
 | exc c S1=>rwa [hf] at q
 | ok d S1 =>
  rw [hf] at q;dsimp only [Out.bind] at q ⊢
  cases hb:isB d with
  | none=>rw [hb] at q;exact q.elim
  | some b =>
   rw [hb] at q;intro w1 R1 F1
   cases b with
   | true=>exact zlh (q w1 R1 F1)
   | false =>
    refine zli ⟨B,w1,ρ,S1,rfl,R1,?_⟩;dsimp only at q
    cases hh:h ρ S1 with
    | bad=>rwa [hh] at q
    | exc c S2=>rw [hh] at q;exact fun w2 R2 F2=>q w2 R2 (F1.trans F2)
    | ok e S2 =>
     rw [hh] at q;dsimp only at q ⊢
     cases hb2:isB e with
     | none=>rw [hb2] at q;exact q.elim
     | some b2=>rw [hb2] at q;exact fun w2 R2 F2=>q w2 R2 (F1.trans F2)
def zlD{σ:St}{H:Hp}{Q:Bool->Hp->Prop}(q:tTr cl E (eUn zfv f) σ H Q):ztg (tTr cl E f) σ H Q:=by
 obtain ⟨B,w,ρ,S,rfl,R,q⟩:=q;refine ⟨B,w,ρ,S,rfl,R,?_⟩;unfold eUn at q
 cases hf:f ρ S with
 | bad=>rwa [hf] at q
 | exc c S1=>rwa [hf] at q
 | ok d S1 =>
  rw [hf] at q;dsimp only [Out.bind] at q ⊢
  cases hb:isB d with
  | none =>
   have:zfv d=none:=by cases d<;>simp [isB] at hb<;>rfl
   rw [this] at q;exact q.elim
  | some b =>
   rwa [zcc hb] at q
def zn1(ha:PT X a (tTr cl E f)):PT X (.UnaryOp .Not a pos) (tTr cl E (eUn zfv f)):=PT.imp (zoI ha) fun _ _ _ q=>zlD q
def znY{zbu:List Expr}(ha:PT X a (tTr cl E f))(hb:PW X (.BoolOp .And (b::zbu) pos) (tTr cl E h)):PW X (.BoolOp .And (a::b::zbu) pos) (tTr cl E (zg1 f h)):=PW.imp (zoF ha hb) fun _ _ _ q=>zlE q
def zq6{zbu:List Expr}(ha:PT X a (tTr cl E f))(hb:PW X (.BoolOp .Or (b::zbu) pos) (tTr cl E h)):PW X (.BoolOp .Or (a::b::zbu) pos) (tTr cl E (eOr f h)):=PW.imp (zrn ha hb) fun _ _ _ q=>znN q
def zou{zbu:List Expr}(ha:PE X a (tE cl E f))(hb:PE X (.BoolOp .And (b::zbu) pos) (tE cl E h)):PE X (.BoolOp .And (a::b::zbu) pos) (tE cl E (zg1 f h)):=by
 refine PE.imp (zoY ha hb) ?_;rintro σ H Q ⟨B,w,ρ,S,rfl,R,q⟩;refine ⟨B,w,ρ,S,rfl,R,?_⟩;unfold zg1 at q
 cases hf:f ρ S with
 | bad=>rwa [hf] at q
 | exc c S1=>rwa [hf] at q
 | ok d S1 =>
  rw [hf] at q;intro v w1 R1 F1 h1;dsimp only [Out.bind] at q
  cases hb:isB d with
  | none=>rw [hb] at q;exact q.elim
  | some b =>
   rw [hb] at q;rw [zcc hb] at h1;refine ⟨b,zeR h1,?_⟩
   cases b with
   | false=>exact zli (q _ w1 R1 F1 (.bl false))
   | true =>
    refine zlh ⟨B,w1,ρ,S1,rfl,R1,?_⟩;dsimp only at q
    cases hh:h ρ S1 with
    | bad=>rwa [hh] at q
    | exc c S2=>rw [hh] at q;exact fun w2 R2 F2=>q w2 R2 (F1.trans F2)
    | ok e S2=>rw [hh] at q;exact fun v w2 R2 F2=>q v w2 R2 (F1.trans F2)
def zrg{zbu:List Expr}(ha:PE X a (tE cl E f))(hb:PE X (.BoolOp .Or (b::zbu) pos) (tE cl E h)):PE X (.BoolOp .Or (a::b::zbu) pos) (tE cl E (eOr f h)):=by
 refine PE.imp (zrr ha hb) ?_;rintro σ H Q ⟨B,w,ρ,S,rfl,R,q⟩;refine ⟨B,w,ρ,S,rfl,R,?_⟩;unfold eOr at q
 cases hf:f ρ S with
 | bad=>rwa [hf] at q
 | exc c S1=>rwa [hf] at q
 | ok d S1 =>
  rw [hf] at q;intro v w1 R1 F1 h1;dsimp only [Out.bind] at q
  cases hb:isB d with
  | none=>rw [hb] at q;exact q.elim
  | some b =>
   rw [hb] at q;rw [zcc hb] at h1;refine ⟨b,zeR h1,?_⟩
   cases b with
   | true=>exact zlh (q _ w1 R1 F1 (.bl true))
   | false =>
    refine zli ⟨B,w1,ρ,S1,rfl,R1,?_⟩;dsimp only at q
    cases hh:h ρ S1 with
    | bad=>rwa [hh] at q
    | exc c S2=>rw [hh] at q;exact fun w2 R2 F2=>q w2 R2 (F1.trans F2)
    | ok e S2=>rw [hh] at q;exact fun v w2 R2 F2=>q v w2 R2 (F1.trans F2)
def zol(ha:PE X a (tE cl E f)):PE X (.UnaryOp .Not a pos) (tE cl E (eUn zfv f)):=by
 refine PE.imp (zoT ha) ?_;rintro σ H Q ⟨B,w,ρ,S,rfl,R,q⟩;refine ⟨B,w,ρ,S,rfl,R,?_⟩;unfold eUn at q
 cases hf:f ρ S with
 | bad=>rwa [hf] at q
 | exc c S1=>rwa [hf] at q
 | ok d S1 =>
  rw [hf] at q;intro v w1 R1 F1 h1;dsimp only [Out.bind] at q
  cases hb:isB d with
  | none =>
   have:zfv d=none:=by cases d<;>simp [isB] at hb<;>rfl
   rw [this] at q;exact q.elim
  | some b =>
   rw [zcc hb] at q h1;exact ⟨b,zeR h1,q _ w1 R1 F1 (.bl _)⟩
def zq1{σ:St}{H:Hp}{Q:VK}(q:tE cl E (eIf g f h) σ H Q):tIf (tTr cl E g) (tE cl E f) (tE cl E h) σ H Q:=by
 obtain ⟨B,w,ρ,S,rfl,R,q⟩:=q;refine ⟨B,w,ρ,S,rfl,R,?_⟩;unfold eIf at q
 cases hg:g ρ S with
 | bad=>rwa [hg] at q
 | exc c S1=>rwa [hg] at q
 | ok d S1 =>
  rw [hg] at q;dsimp only [Out.bind] at q ⊢
  cases hb:isB d with
  | none=>rw [hb] at q;exact q.elim
  | some b =>
   rw [hb] at q;intro w1 R1 F1
   cases b with
   | true =>
    refine zlh ⟨B,w1,ρ,S1,rfl,R1,?_⟩;dsimp only at q
    cases hh:f ρ S1 with
    | bad=>rwa [hh] at q
    | exc c S2=>rw [hh] at q;exact fun w2 R2 F2=>q w2 R2 (F1.trans F2)
    | ok e S2=>rw [hh] at q;exact fun v w2 R2 F2=>q v w2 R2 (F1.trans F2)
   | false =>
    refine zli ⟨B,w1,ρ,S1,rfl,R1,?_⟩;dsimp only at q
    cases hh:h ρ S1 with
    | bad=>rwa [hh] at q
    | exc c S2=>rw [hh] at q;exact fun w2 R2 F2=>q w2 R2 (F1.trans F2)
    | ok e S2=>rw [hh] at q;exact fun v w2 R2 F2=>q v w2 R2 (F1.trans F2)
def zri(hc:PT X c (tTr cl E g))(ha:PE X a (tE cl E f))(hb:PE X b (tE cl E h)):PE X (.IfExp c a b pos) (tE cl E (eIf g f h)):=PE.imp (zjQ hc ha hb) fun _ _ _ q=>zq1 q
def zdY:PA X [] (tAs cl E []):=by
 refine PA.imp zdw ?_;rintro σ H Q ⟨B,w,ρ,S,rfl,R,q⟩;exact q [] w R (Fut.refl _) .nil
def zbS{es:List Expr}{fs:List Fe}(ha:PE X e (tE cl E f))(hr:PA X es (tAs cl E fs))(hs:starEach (e::es) X.env=(false,eval e X.env)::starEach es X.env):PA X (e::es) (tAs cl E (f::fs)):=by
 refine PA.imp (zbI ha hr hs) ?_;rintro σ H Q ⟨B,w,ρ,S,rfl,R,q⟩;refine ⟨B,w,ρ,S,rfl,R,?_⟩;unfold zae at q
 cases hf:f ρ S with
 | bad=>rwa [hf] at q
 | exc c S1=>rwa [hf] at q
 | ok d S1 =>
  rw [hf] at q;intro v w1 R1 F1 h1;refine ⟨B,w1,ρ,S1,rfl,R1,?_⟩;dsimp only [Out.bind] at q
  cases hh:zae fs ρ S1 with
  | bad=>rwa [hh] at q
  | exc c S2=>rw [hh] at q;exact fun w2 R2 F2=>q w2 R2 (F1.trans F2)
  | ok ds S2 =>
   rw [hh] at q;exact fun vs w2 R2 F2 h2=>q _ w2 R2 (F1.trans F2) (.cons (h1.up F2) h2)
def zkX:PA X [] (tHs cl E []):=by
 refine PA.imp zdw ?_;rintro σ H Q ⟨B,w,ρ,S,rfl,R,q⟩;exact q [] w R (Fut.refl _) .nil
def zhF{es:List Expr}{fs:List Fe}(ha:PE X e (tH cl E f))(hr:PA X es (tHs cl E fs))(hs:starEach (e::es) X.env=(false,eval e X.env)::starEach es X.env):PA X (e::es) (tHs cl E (f::fs)):=by
 refine PA.imp (zbI ha hr hs) ?_;rintro σ H Q ⟨B,w,ρ,S,rfl,R,q⟩;refine ⟨B,w,ρ,S,rfl,R,?_⟩;unfold zae at q
 cases hf:f ρ S with
 | bad=>rwa [hf] at q
 | exc c S1=>rwa [hf] at q
 | ok d S1 =>
  rw [hf] at q;intro v w1 R1 F1 h1;refine ⟨B,w1,ρ,S1,rfl,R1,?_⟩;dsimp only [Out.bind] at q
  cases hh:zae fs ρ S1 with
  | bad=>rwa [hh] at q
  | exc c S2=>rw [hh] at q;exact fun w2 R2 F2=>q w2 R2 (F1.trans F2)
  | ok ds S2 =>
   rw [hh] at q;exact fun vs w2 R2 F2 h2=>q _ w2 R2 (F1.trans F2) (.cons (h1.up F2) h2)
def zoi{es:List Expr}{fs:List Fe}{k:Nat}(h:PA X es (tAs cl E fs)):PE X (.Tuple es k pos) (tE cl E (zgZ fs)):=by
 refine PE.imp (zoP h) ?_;rintro σ H Q ⟨B,w,ρ,S,rfl,R,q⟩;refine ⟨B,w,ρ,S,rfl,R,?_⟩;unfold zgZ at q
 cases hf:zae fs ρ S with
 | bad=>rwa [hf] at q
 | exc c S1=>rwa [hf] at q
 | ok ds S1 =>
  rw [hf] at q;intro vs w1 R1 F1 h1;dsimp only [Out.bind] at q
  cases hz:zaT ds.length with
  | false=>rw [hz,if_neg (by decide)] at q;exact q.elim
  | true =>
   rw [hz,if_pos rfl] at q;refine ⟨by rw [h1.length];exact zaN hz,fun p hp=>?_⟩;exact q _ (w1.add p (.tup vs)) (R1.grow (zam hp _)) (F1.trans (zam hp _).fut) (Shd.newT hp h1)
def zoo{es:List Expr}{fs:List Fe}(h:PA X es (tAs cl E fs)):PE X (.List es pos) (tN cl E (zg0 fs)):=by
 refine PE.imp (zk6 h) ?_;rintro σ H Q ⟨B,w,ρ,S,rfl,R,q⟩;refine ⟨B,w,ρ,S,rfl,R,?_⟩;unfold zg0 at q
 cases hf:zae fs ρ S with
 | bad=>rwa [hf] at q
 | exc c S1=>rwa [hf] at q
 | ok ds S1 =>
  rw [hf] at q;intro vs w1 R1 F1 h1;dsimp only [Out.bind] at q
  cases hz:zaT ds.length with
  | false=>rw [hz,if_neg (by decide)] at q;exact q.elim
  | true =>
   rw [hz,if_pos rfl] at q;refine ⟨by rw [h1.length];exact zaN hz,fun p hp=>?_⟩;exact q _ (.lst vs) w1 R1 F1 hp (.lst h1)
def znU{fs:List Fe}{gg:List D->Option D}{r:List V->Hp->VK->Prop}(hr:∀xs H Q,(∃w ds r,w.H=H/\zjh cl w xs ds/\gg ds=some r/\∀v w',Grow w w'->Shd cl w' v r->Q v w'.H)->r xs H Q){σ:St}{H:Hp}{Q:VK}(q:tE cl E (za5 gg fs) σ H Q):tCB r (tHs cl E fs) σ H Q:=by
 obtain ⟨B,w,ρ,S,rfl,R,q⟩:=q;refine ⟨B,w,ρ,S,rfl,R,?_⟩;unfold za5 at q
 cases hf:zae fs ρ S with
 | bad=>rwa [hf] at q
 | exc c S1=>rwa [hf] at q
 | ok ds S1 =>
  rw [hf] at q;intro vs w1 R1 F1 h1;dsimp only [Out.bind] at q
  cases hg:gg ds with
  | none=>rw [hg] at q;exact q.elim
  | some d =>
   rw [hg] at q;exact hr _ _ _ ⟨w1,ds,d,rfl,h1.top R1,hg,fun v w' gr sh=>q v w' (R1.grow gr) (F1.trans gr.fut) sh⟩
def zq4{fs:List Fe}{gg:List D->Option D}{r:List V->Hp->VK->Prop}(hr:∀xs H Q,(∃w ds r,w.H=H/\zjh cl w xs ds/\gg ds=some r/\∀p o w',Grow w w'->w'.H p=none->Top cl w' o r->Q (.ref p) (upd w'.H p o))->r xs H Q){σ:St}{H:Hp}{Q:VK}(q:tN cl E (za5 gg fs) σ H Q):tCB r (tHs cl E fs) σ H Q:=by
 obtain ⟨B,w,ρ,S,rfl,R,q⟩:=q;refine ⟨B,w,ρ,S,rfl,R,?_⟩;unfold za5 at q
 cases hf:zae fs ρ S with
 | bad=>rwa [hf] at q
 | exc c S1=>rwa [hf] at q
 | ok ds S1 =>
  rw [hf] at q;intro vs w1 R1 F1 h1;dsimp only [Out.bind] at q
  cases hg:gg ds with
  | none=>rw [hg] at q;exact q.elim
  | some d =>
   rw [hg] at q;exact hr _ _ _ ⟨w1,ds,d,rfl,h1.top R1,hg,fun p o w' gr hp t=>q p o w' (R1.grow gr) (F1.trans gr.fut) hp t⟩
end
end S2
namespace S2
open PySem PySem.Spec PyProof.Rows L2
noncomputable def Root.out:Option Root->Option Root | some (.slot _)=>some .far | o=>o
def Root.out_none{o:Option Root}:Root.out o=none↔o=none:=by
 cases o with
 | none=>exact ⟨fun h=>h,fun h=>h⟩
 | some r=>cases r<;>simp [Root.out]
noncomputable def zdE:Option Root->Bool | some (.fld _ _)=>true | some (.obj _)=>true | _=>false
noncomputable def Wd.inn(w:Wd):Wd:=⟨w.H,fun a=>Root.out (w.ow a),w.mu⟩
noncomputable def Wd.base(w:Wd):Base:=⟨fun a=>if zdE (w.ow a)=true then none else w.H a,fun a=>Root.out (w.ow a)⟩
noncomputable def Wd.back(w w':Wd):Wd:=⟨w'.H,fun a=>if (w.base.Fr a).isSome=true then w.ow a else Root.out (w'.ow a),w'.mu⟩
def zbz(w:Wd):Fut w w.inn:=⟨fun a o h k=>⟨h,by show Root.out (w.ow a)=none;rw [k];rfl⟩,fun _ _ h=>h⟩
def zfp{w:Wd}{a:Addr}{o:HO}(h:w.H a=some o)(k:zdE (w.ow a)=false):w.base.Fr a=some o:=by
 show (if zdE (w.ow a)=true then none else w.H a)=_;rw [k,if_neg (by decide)];exact h
def zmw{w:Wd}{a:Addr}{o:HO}(h:w.base.Fr a=some o):w.H a=some o/\zdE (w.ow a)=false:=by
 have h':(if zdE (w.ow a)=true then none else w.H a)=some o:=h;split at h'
 ·cases h'
 ·rename_i z;exact ⟨h',by simpa using z⟩
section
variable{cl:Cf}{B:Base}{σ:St}{w w':Wd}{ρ:Env}{S S':Sto}
def World'.enter(W:World' cl B w S):World' cl w.base w.inn S where
 fr:=fun a o h=>⟨(zmw h).1,rfl⟩
 own:=fun a r h=>by
  have h':Root.out (w.ow a)=some r:=h
  cases e:w.ow a with
  | none=>rw [e] at h';cases h'
  | some q =>
   cases q with
   | slot i=>rw [e] at h';cases h';exact .inl rfl
   | far=>rw [e] at h';cases h';exact .inl rfl
   | fld n f=>exact .inr (by show (if zdE (w.ow a)=true then none else w.H a)=none;rw [e];rfl)
   | obj n=>exact .inr (by show (if zdE (w.ow a)=true then none else w.H a)=none;rw [e];rfl)
 len:=W.len
 obj:=fun n ob h=>by
  obtain ⟨a,e,x⟩:=W.obj n ob h;refine ⟨a,e,x.keep (zbz w) fun a o ha hn=>⟨ha,?_⟩⟩;show Root.out (w.ow a)=w.ow a
  cases e:w.ow a with
  | none=>rfl
  | some q=>cases q with
   | slot i=>rw [e] at hn;exact hn.elim
   | _=>rfl
def zcD(W:World' cl B w S){a:Addr}{o:HO}(h:B.Fr a=some o):w.base.Fr a=some o:=by
 refine zfp (W.fr a o h).1 ?_
 cases e:w.ow a with
 | none=>rfl
 | some q =>
  rcases W.own a q e with rfl | z
  ·rfl
  ·rw [h] at z;cases z
def zce(W':World' cl w.base w' S'):Fut w' (w.back w') where
 keep:=fun a o h k=>by
  refine ⟨h,?_⟩;show (if (w.base.Fr a).isSome=true then w.ow a else Root.out (w'.ow a))=none;split
  ·rename_i z;obtain ⟨u,hu⟩:=ybU.mp z;have:=(W'.fr a u hu).2;rw [k] at this;exact Root.out_none.mp this.symm
  ·rw [k];rfl
 mu:=fun _ _ h=>h
def Rel.leave(R:Rel cl B σ w ρ S)(W':World' cl w.base w' S')(F:Fut w.inn w'):Rel cl B σ (w.back w') ρ S'/\Fut w (w.back w'):=by
 have fb:=zce W';have ff:Fut w (w.back w'):=(zbz w).trans (F.trans fb)
 have in_:∀a o,w.base.Fr a=some o->(w.back w').H a=some o/\(w.back w').ow a=w.ow a:=fun a o h=>by
  refine ⟨(W'.fr a o h).1,?_⟩;show (if (w.base.Fr a).isSome=true then w.ow a else _)=_;rw [h];rfl
 refine ⟨⟨⟨fun a o h=>?_,fun a r h=>?_,W'.len,fun n ob h=>?_⟩,R.len,fun i o d h=>?_⟩,ff⟩
 ·have:=in_ a o (zcD R.wd h);exact ⟨this.1,this.2.trans (R.wd.fr a o h).2⟩
 ·cases hb:B.Fr a with
  | none=>exact .inr rfl
  | some o =>
   have:=(in_ a o (zcD R.wd hb)).2;rw [h] at this
   rcases R.wd.own a r this.symm with z | z
   ·exact .inl z
   ·rw [hb] at z;cases z
 ·obtain ⟨a,e,x⟩:=W'.obj n ob h;refine ⟨a,e,x.keep fb fun a o ha hn=>⟨ha,?_⟩⟩;show (if (w.base.Fr a).isSome=true then w.ow a else Root.out (w'.ow a))=_
  cases e:w'.ow a with
  | none=>rw [e] at hn;exact hn.elim
  | some q =>
   rcases W'.own a q e with rfl | z
   ·rw [e] at hn;exact hn.elim
   ·rw [z]
    cases q with
    | slot i=>rw [e] at hn;exact hn.elim
    | _=>rfl
 ·obtain ⟨v,e,x⟩:=R.slots i o d h;refine ⟨v,e,x.keep ff fun a u ha hr=>?_⟩;have:=in_ a u (zfp ha (by rw [hr];rfl));exact ⟨this.1,this.2.trans hr⟩
noncomputable def Wd.del(w:Wd)(a:Addr):Wd:=⟨fun b=>if b=a then none else w.H b,w.ow,w.mu⟩
def zfO{a:Addr}(k:w.ow a≠none):Fut w (w.del a) where
 keep:=fun b o h e=>⟨by
  show (if b=a then none else w.H b)=_
  rw [if_neg (fun z=>k (by rw [<-z];exact e))];exact h,e⟩
 mu:=fun _ _ h=>h
def zhi{a:Addr}{o:HO}(h:w.H a=some o):upd (w.del a).H a o=w.H:=by
 funext b
 by_cases e:b=a
 ·rw [e,zak,h]
 ·rw [zaf e];show (if b=a then none else w.H b)=_;rw [if_neg e]
theorem Rel.del{a:Addr}(R:Rel cl B σ w ρ S)(k:w.ow a=some .far)(hb:B.Fr a=none):Rel cl B σ (w.del a) ρ S:=by
 have fd:Fut w (w.del a):=zfO (by rw [k];exact yaI _)
 have kp:∀b o,w.H b=some o->b≠a->(w.del a).H b=some o:=fun b o h n=>by
  show (if b=a then none else w.H b)=_;rw [if_neg n];exact h
 refine ⟨⟨fun b o h=>⟨kp b o (R.wd.fr b o h).1 (fun z=>by rw [z,hb] at h;cases h),(R.wd.fr b o h).2⟩,R.wd.own,R.wd.len,fun n ob h=>?_⟩,R.len,fun i o d h=>?_⟩
 ·obtain ⟨c,e,x⟩:=R.wd.obj n ob h;exact ⟨c,e,x.keep fd fun b o hb' hn=>⟨kp b o hb' (fun z=>by rw [z,k] at hn;exact hn.elim),rfl⟩⟩
 ·obtain ⟨v,e,x⟩:=R.slots i o d h;exact ⟨v,e,x.keep fd fun b o hb' hr=>⟨kp b o hb' (fun z=>by rw [z,k] at hr;cases hr),hr⟩⟩
end
noncomputable def zut(cl:Cf)(w:Wd):Bool->V->D->Prop
 | false,v,d=>Shd cl w v d
 | true,v,d=>∃a o i,v=.ref a/\w.ow a=some (.slot i)/\w.H a=some o/\Top cl w o d
noncomputable def zgG(cl:Cf)(n:Nat)(own:Bool)(G:List D->Sto->Out D):Sp:=fun vs H Q E=>vs.length=n/\∃B w ds S,w.H=H/\World' cl B w S/\Shds cl w vs ds/\match G ds S with
 | .ok d S'=>∀v w',World' cl B w' S'->Fut w w'->zut cl w' own v d->Q v w'.H
 | .exc c S'=>∀w',World' cl B w' S'->Fut w w'->E (.ref (cl c)) none w'.H
 | .bad=>False
noncomputable def zb7(CX:CXT)(X:Cx)(E:St->XK):Prop:=∀(pins:Z3) (σ:St) (H:Hp) (s:Shared) (e:Value) (s':Shared),Inv X pins σ H s->CX X.stack H s (E σ) e s'->X.xe e s'
noncomputable def zeL(sp:Sp)(dvs:List V)(E:St->XK)(t:TA):TE:=fun σ H Q=>t σ H fun vs H1=>sp (vs++dvs) H1 Q (E σ)
section
variable{X:Cx}{CX:CXT}{k:Nat}{f C:Addr}{fd:FuncData}{ps:List Str}{sp:Sp}{dvs:List V}{ds:List Value}{E:St->XK}{x m:Str}{p pos apos:Pos}{e o:Expr}{es:List Expr}{ta:TE}{t:TA}
def zej{pins:Z3}{σ:St}{H:Hp}{s:Shared}{Q:VK}{us:List Value}{vs:List V}(F:FnOk X.prog X.w X.K X.mg X.base CX k f fd ps sp)(hr:Room k X.A)(hb:zck X.K fd ps ds)(hd:Vals dvs ds)(hx:zb7 CX X E)
  (I:Inv X pins σ H s) (r:Vals vs us) (h:sp (vs++dvs) H Q (E σ)):wpAny (model X.prog X.w) X.A (call (.ref f) us) (EP X pins σ Q) X.xe s:=by
 have r2:Vals (vs++dvs) (us++ds):=r.append hd
 have hl:(us++ds).length=ps.length:=by rw [<-r2.length];exact F.len _ _ _ _ h
 refine wpAny_call (ycc (F.run X.A X.stack s H ⟨us,[]⟩ (us++ds) (vs++dvs) Q (E σ) hr I.env0 (hb s us I.kIn hl) r2 h) fun r s' hq=>?_)
 cases r with
 | error e=>exact hx pins σ H s e s' I hq
 | ok fl =>
  cases fl with
  | ret u=>exact I.after hq
  | next=>exact False.elim hq
  | brk=>exact False.elim hq
  | cont=>exact False.elim hq
def zjX(F:FnOk X.prog X.w X.K X.mg X.base CX k f fd ps sp)(hr:Room k X.A)(hg:Gl X x)(hm:X.mg x=some (.ref f))(hk:PySem.W.keepIn X.K (.ref f)=true)(hb:zck X.K fd ps ds)(hd:Vals dvs ds)(hx:zb7 CX X E)
  (ha:PA X (e::es) t) (hdb:(x == ("__debug__":Str))=false) (he:starEach (e::es) X.env=(false,eval e X.env)::starEach es X.env) (hpl:(backTo pos (starEach es X.env)).any (·.1)=false) :
  PE X (.Call (.Name x p) (e::es) [] pos) (zeL sp dvs E t):=by
 intro pins s σ H Q I h;refine ybC (zdA I hg hm ?_ hdb);refine ycy (h₀:=X.base) I.ok.mod.kin hk (thn (ha pos pins s σ H _ I h) fun us s1 ⟨vs,H1,I1,r,q⟩=>⟨I1.kIn,?_⟩) he hpl;exact zej F hr hb hd hx I1 r q
def zh9(F:FnOk X.prog X.w X.K X.mg X.base CX k f fd ps sp)(hr:Room k X.A)(hg:Gl X x)(hm:X.mg x=some (.ref f))(hk:PySem.W.keepIn X.K (.ref f)=true)(hb:zck X.K fd ps ds)(hd:Vals dvs ds)(hx:zb7 CX X E)
  (hdb:(x == ("__debug__":Str))=false):PE X (.Call (.Name x p) [] [] pos) (zeL sp dvs E zqj):=by
 intro pins s σ H Q I h;refine ybC (zdA I hg hm ?_ hdb);exact PySem.W.callWith_K0 I.kIn hk (zej (us:=[]) F hr hb hd hx I .nil h)
end
noncomputable def eFn(G:List D->Sto->Out D)(fs:List Fe):Fe:=fun ρ S=>(zae fs ρ S).bind fun ds S1=>G ds S1
section
variable{cl:Cf}{E:St->XK}{fs:List Fe}{G:List D->Sto->Out D}{σ:St}{H:Hp}{Q:VK}{n:Nat}
def zp4(q:tE cl E (eFn G fs) σ H Q)(hn:fs.length=n):zeL (zgG cl n false G) [] E (tAs cl E fs) σ H Q:=by
 obtain ⟨B,w,ρ,S,rfl,R,q⟩:=q;refine ⟨B,w,ρ,S,rfl,R,?_⟩;unfold eFn at q
 cases hf:zae fs ρ S with
 | bad=>rwa [hf] at q
 | exc c S1=>rwa [hf] at q
 | ok ds S1 =>
  rw [hf] at q;intro vs w1 R1 F1 h1;dsimp only [Out.bind] at q
  have hl:∀(fs:List Fe) (S S1:Sto) (ds:List D),zae fs ρ S=.ok ds S1->ds.length=fs.length:=by
   intro fs
   induction fs with
   | nil=>intro S S1 ds h;cases h;rfl
   | cons f fs ih =>
    intro S S1 ds h;unfold zae at h
    cases h1:f ρ S with
    | bad=>rw [h1] at h;cases h
    | exc c S2=>rw [h1] at h;cases h
    | ok d S2 =>
     rw [h1] at h;dsimp only [Out.bind] at h
     cases h2:zae fs ρ S2 with
     | bad=>rw [h2] at h;cases h
     | exc c S3=>rw [h2] at h;cases h
     | ok es S3=>rw [h2] at h;cases h;rw [yag,yag,ih S2 _ es h2]
  refine ⟨by rw [yaN,h1.length,hl fs S S1 ds hf];exact hn,w1.base,w1.inn,ds,S1,rfl,R1.wd.enter,by rw [yaN];exact h1.up (zbz w1),?_⟩
  cases hg:G ds S1 with
  | bad=>rwa [hg] at q
  | exc c S2 =>
   rw [hg] at q;intro w2 W2 F2;obtain ⟨R3,F3⟩:=R1.leave W2 F2;exact q (w1.back w2) R3 (F1.trans F3)
  | ok d S2 =>
   rw [hg] at q;intro v w2 W2 F2 r2;obtain ⟨R3,F3⟩:=R1.leave W2 F2;exact q v (w1.back w2) R3 (F1.trans F3) (Shd.up (zce W2) r2)
def zp3(q:tN cl E (eFn G fs) σ H Q)(hn:fs.length=n):zeL (zgG cl n true G) [] E (tAs cl E fs) σ H Q:=by
 obtain ⟨B,w,ρ,S,rfl,R,q⟩:=q;refine ⟨B,w,ρ,S,rfl,R,?_⟩;unfold eFn at q
 cases hf:zae fs ρ S with
 | bad=>rwa [hf] at q
 | exc c S1=>rwa [hf] at q
 | ok ds S1 =>
  rw [hf] at q;intro vs w1 R1 F1 h1;dsimp only [Out.bind] at q
  have hl:∀(fs:List Fe) (S S1:Sto) (ds:List D),zae fs ρ S=.ok ds S1->ds.length=fs.length:=by
   intro fs
   induction fs with
   | nil=>intro S S1 ds h;cases h;rfl
   | cons f fs ih =>
    intro S S1 ds h;unfold zae at h
    cases h1:f ρ S with
    | bad=>rw [h1] at h;cases h
    | exc c S2=>rw [h1] at h;cases h
    | ok d S2 =>
     rw [h1] at h;dsimp only [Out.bind] at h
     cases h2:zae fs ρ S2 with
     | bad=>rw [h2] at h;cases h
     | exc c S3=>rw [h2] at h;cases h
     | ok es S3=>rw [h2] at h;cases h;rw [yag,yag,ih S2 _ es h2]
  refine ⟨by rw [yaN,h1.length,hl fs S S1 ds hf];exact hn,w1.base,w1.inn,ds,S1,rfl,R1.wd.enter,by rw [yaN];exact h1.up (zbz w1),?_⟩
  cases hg:G ds S1 with
  | bad=>rwa [hg] at q
  | exc c S2 =>
   rw [hg] at q;intro w2 W2 F2;obtain ⟨R3,F3⟩:=R1.leave W2 F2;exact q (w1.back w2) R3 (F1.trans F3)
  | ok d S2 =>
   rw [hg] at q;intro v w2 W2 F2 r2;obtain ⟨R3,F3⟩:=R1.leave W2 F2;obtain ⟨a,o,i,rfl,k1,k2,t⟩:=r2;have hfr:w1.base.Fr a=none:=(W2.own a _ k1).elim (fun z=>by cases z) fun z=>z
   have k3:(w1.back w2).ow a=some .far:=by
    show (if (w1.base.Fr a).isSome=true then w1.ow a else Root.out (w2.ow a))=_;rw [hfr,k1];rfl
   have hb:B.Fr a=none:=by
    cases z:B.Fr a with
    | none=>rfl
    | some u=>rw [zcD R1.wd z] at hfr;cases hfr
   have hd:=zfO (w:=w1.back w2) (a:=a) (by rw [k3];exact yaI _);have:=q a o ((w1.back w2).del a) (R3.del k3 hb) (F1.trans (F3.trans hd)) (if_pos rfl) ((t.up (zce W2)).up hd);rwa [zhi (w:=w1.back w2) k2] at this
end
end S2
namespace S2
open PySem PySem.Spec PyProof.Rows L2
noncomputable def frz1(ρ:Env)(i:Nat):Env:=match ρ[i]? with | some (some (true,d))=>ρ.set i (some (false,d)) | _=>ρ
noncomputable def frz(is:List Nat)(ρ:Env):Env:=is.foldl frz1 ρ
noncomputable def sFz(is:List Nat)(f:Fs):Fs:=fun ρ S=>f (frz is ρ) S
noncomputable def sNx:Fs:=fun ρ S=>.nx ρ S
noncomputable def sBk:Fs:=fun ρ S=>.bk ρ S
noncomputable def zas(f g:Fs):Fs:=fun ρ S=>match f ρ S with | .nx ρ' S'=>g ρ' S' | o=>o
noncomputable def zcj(i:Nat)(own:Bool)(f:Fe):Fs:=fun ρ S=>match f ρ S with | .ok d S'=>.nx (ρ.set i (some (own,d))) S' | .exc c S'=>.ex c ρ S' | .bad=>.bad
noncomputable def zny(f:Fe):Fs:=fun ρ S=>match f ρ S with | .ok _ S'=>.nx ρ S' | .exc c S'=>.ex c ρ S' | .bad=>.bad
noncomputable def zbT(f:Fe):Fs:=fun ρ S=>match f ρ S with | .ok d S'=>.rt d S' | .exc c S'=>.ex c ρ S' | .bad=>.bad
noncomputable def zjB:Fs:=fun _ S=>.rt .non S
noncomputable def zhL(i:Nat):Fs:=fun ρ S=>match ρ[i]? with | some (some (true,d))=>.rt d S | _=>.bad
noncomputable def sIf(c:Fe)(f g:Fs):Fs:=fun ρ S=>match c ρ S with | .ok d S'=>(match isB d with | some true=>f ρ S' | some false=>g ρ S' | none=>.bad) | .exc x S'=>.ex x ρ S' | .bad=>.bad
noncomputable def zgA(cl:Cf)(E:St->XK)(own:Bool)(B:Base)(w:Wd)(De:Ends):Fo->Prop
 | .nx ρ' S'=>∀σ' w',Rel cl B σ' w' ρ' S'->Fut w w'->De.nx σ' w'.H
 | .bk ρ' S'=>∀σ' w',Rel cl B σ' w' ρ' S'->Fut w w'->De.bk σ' w'.H
 | .ct ρ' S'=>∀σ' w',Rel cl B σ' w' ρ' S'->Fut w w'->De.ct σ' w'.H
 | .rt d S'=>∀v w',World' cl B w' S'->Fut w w'->zut cl w' own v d->De.rt v w'.H
 | .ex c ρ' S'=>∀σ' w',Rel cl B σ' w' ρ' S'->Fut w w'->E σ' (.ref (cl c)) none w'.H
 | .bad=>False
theorem zgA.up{cl:Cf}{E:St->XK}{own:Bool}{B:Base}{w w1:Wd}{De:Ends}(f:Fut w w1):∀{o:Fo},zgA cl E own B w De o->zgA cl E own B w1 De o
 | .nx _ _,h=>fun σ' w' R F=>h σ' w' R (f.trans F)
 | .bk _ _,h=>fun σ' w' R F=>h σ' w' R (f.trans F)
 | .ct _ _,h=>fun σ' w' R F=>h σ' w' R (f.trans F)
 | .rt _ _,h=>fun v w' R F=>h v w' R (f.trans F)
 | .ex _ _ _,h=>fun σ' w' R F=>h σ' w' R (f.trans F)
 | .bad,h=>h
noncomputable def tS(cl:Cf)(E:St->XK)(own:Bool)(f:Fs):TS:=fun De σ H=>∃B w ρ S,w.H=H/\Rel cl B σ w ρ S/\zgA cl E own B w De (f ρ S)
def PS.imp{X:Cx}{st:Stmt}{t t':TS}(h:PS X st t)(i:∀De σ H,t' De σ H->t De σ H):PS X st t':=fun pins s σ H De I q=>h pins s σ H De I (i _ _ _ q)
def PSs.imp{X:Cx}{st:List Stmt}{t t':TS}(h:PSs X st t)(i:∀De σ H,t' De σ H->t De σ H):PSs X st t':=fun pins s σ H De I q=>h pins s σ H De I (i _ _ _ q)
section
variable{cl:Cf}{B:Base}{σ:St}{w:Wd}{ρ:Env}{S:Sto}
def Rel.put{i:Nat}{v:V}{d:D}(R:Rel cl B σ w ρ S)(h:Shd cl w v d):Rel cl B (σ.set i (some v)) w (ρ.set i (some (false,d))) S where
 wd:=R.wd
 len:=by rw [yaB,yaB];exact R.len
 slots:=fun j o e hj=>by
  by_cases hij:i=j
  ·subst hij
   have hlt:i<ρ.length:=by
    have:=(yaq.mp hj).1;rwa [yaB] at this
   rw [yaz hlt] at hj;cases hj;exact ⟨v,by rw [yaz (by rw [R.len];exact hlt)],h⟩
  ·rw [yaJ hij] at hj ⊢;exact R.slots j o e hj
noncomputable def Wd.addAs(w:Wd)(p:Addr)(o:HO)(r:Root):Wd:=⟨upd w.H p o,fun a=>if a=p then some r else if w.ow a=some r then some .far else w.ow a,w.mu⟩
def zbp{p:Addr}{o:HO}{r:Root}(h:w.H p=none):Fut w (w.addAs p o r) where
 keep:=fun a u ha hk=>by
  have n:a≠p:=zag ha h;refine ⟨?_,?_⟩
  ·show upd w.H p o a=_;rw [zaf n];exact ha
  ·show (if a=p then some r else if w.ow a=some r then some Root.far else w.ow a)=none;rw [if_neg n,if_neg (by rw [hk];exact fun z=>by cases z)];exact hk
 mu:=fun _ _ h=>h
theorem Rel.own{i:Nat}{p:Addr}{o:HO}{d:D}(R:Rel cl B σ w ρ S)(hp:w.H p=none)(t:Top cl w o d):Rel cl B (σ.set i (some (.ref p))) (w.addAs p o (.slot i)) (ρ.set i (some (true,d))) S:=by
 have ff:=zbp (w:=w) (p:=p) (o:=o) (r:=.slot i) hp
 have kp:∀a u,w.H a=some u->w.ow a≠some (.slot i)->(w.addAs p o (.slot i)).H a=some u/\(w.addAs p o (.slot i)).ow a=w.ow a:=fun a u ha hk=>by
  have n:a≠p:=zag ha hp;refine ⟨?_,?_⟩
  ·show upd w.H p o a=_;rw [zaf n];exact ha
  ·show (if a=p then _ else if w.ow a=some (Root.slot i) then some Root.far else w.ow a)=_;rw [if_neg n,if_neg hk]
 have hBp:B.Fr p=none:=by
  cases z:B.Fr p with
  | none=>rfl
  | some u=>have:=(R.wd.fr p u z).1;rw [hp] at this;cases this
 refine ⟨⟨fun a u h=>?_,fun a r h=>?_,R.wd.len,fun n ob h=>?_⟩,by rw [yaB,yaB];exact R.len,fun j b e hj=>?_⟩
 ·have hne:w.ow a≠some (.slot i):=fun z=>by
   rcases R.wd.own a _ z with y | y
   ·cases y
   ·rw [h] at y;cases y
  have:=kp a u (R.wd.fr a u h).1 hne;exact ⟨this.1,this.2.trans (R.wd.fr a u h).2⟩
 ·have h':(if a=p then some (Root.slot i) else if w.ow a=some (Root.slot i) then some Root.far else w.ow a)=some r:=h;split at h'
  ·rename_i e;rw [e];exact .inr hBp
  ·split at h'
   ·cases h';exact .inl rfl
   ·exact R.wd.own a r h'
 ·obtain ⟨a,e,x⟩:=R.wd.obj n ob h;exact ⟨a,e,x.keep ff fun b u hb hn=>kp b u hb fun z=>by rwa [z] at hn⟩
 ·by_cases hij:i=j
  ·subst hij
   have hlt:i<ρ.length:=by
    have:=(yaq.mp hj).1;rwa [yaB] at this
   rw [yaz hlt] at hj;cases hj;exact ⟨.ref p,by rw [yaz (by rw [R.len];exact hlt)],p,o,rfl,if_pos rfl,zak,t.up ff⟩
  ·rw [yaJ hij] at hj ⊢;obtain ⟨v,e1,x⟩:=R.slots j b e hj;refine ⟨v,e1,x.keep ff fun a u ha hr=>?_⟩;have:=kp a u ha (by rw [hr];exact fun z=>hij (by cases z;rfl));exact ⟨this.1,this.2.trans hr⟩
noncomputable def Wd.mut(w:Wd)(p:Addr)(o:HO):Wd:=⟨upd w.H p o,w.ow,w.mu⟩
def zex{p:Addr}{o:HO}(h:w.ow p≠none):Fut w (w.mut p o) where
 keep:=fun a u ha hk=>⟨by
  show upd w.H p o a=_
  rw [zaf (fun z=>h (by rw [<-z];exact hk))];exact ha,hk⟩
 mu:=fun _ _ h=>h
theorem Rel.mut{i:Nat}{p:Addr}{o:HO}{d d0:D}(R:Rel cl B σ w ρ S)(hs:σ[i]?=some (some (.ref p)))(hk:w.ow p=some (.slot i))(t:Top cl w o d):Rel cl B σ (w.mut p o) (ρ.set i (some (true,d))) S:=by
 have ff:=zex (w:=w) (p:=p) (o:=o) (by rw [hk];exact yaI _)
 have kp:∀a u,w.H a=some u->w.ow a≠some (.slot i)->(w.mut p o).H a=some u/\(w.mut p o).ow a=w.ow a:=fun a u ha hn=>⟨by
  show upd w.H p o a=_
  rw [zaf (fun z=>hn (by rw [z];exact hk))];exact ha,rfl⟩
 have hBp:B.Fr p=none:=(R.wd.own p _ hk).elim (fun z=>by cases z) fun z=>z
 refine ⟨⟨fun a u h=>?_,R.wd.own,R.wd.len,fun n ob h=>?_⟩,by rw [yaB];exact R.len,fun j b e hj=>?_⟩
 ·have hne:w.ow a≠some (.slot i):=fun z=>by
   rcases R.wd.own a _ z with y | y
   ·cases y
   ·rw [h] at y;cases y
  have:=kp a u (R.wd.fr a u h).1 hne;exact ⟨this.1,(R.wd.fr a u h).2⟩
 ·obtain ⟨a,e,x⟩:=R.wd.obj n ob h;exact ⟨a,e,x.keep ff fun b u hb hn=>kp b u hb fun z=>by rwa [z] at hn⟩
 ·by_cases hij:i=j
  ·subst hij
   have hlt:i<ρ.length:=by
    have:=(yaq.mp hj).1;rwa [yaB] at this
   rw [yaz hlt] at hj;cases hj;exact ⟨.ref p,hs,p,o,rfl,hk,zak,t.up ff⟩
  ·rw [yaJ hij] at hj;obtain ⟨v,e1,x⟩:=R.slots j b e hj;refine ⟨v,e1,x.keep ff fun a u ha hr=>?_⟩;have:=kp a u ha (by rw [hr];exact fun z=>hij (by cases z;rfl));exact ⟨this.1,this.2.trans hr⟩
noncomputable def Wd.free(w:Wd)(r:Root):Wd:=⟨w.H,fun a=>if w.ow a=some r then none else w.ow a,w.mu⟩
def zkv{r:Root}:Fut w (w.free r) where
 keep:=fun a u ha hk=>⟨ha,by
  show (if w.ow a=some r then none else w.ow a)=none
  rw [hk];rfl⟩
 mu:=fun _ _ h=>h
theorem Top.shd{o:HO}{d:D}{a:Addr}(h:w.H a=some o)(k:w.ow a=none):Top cl w o d->Shd cl w (.ref a) d
 | .lst t=>.lst h k t
 | .dicK t=>.dicK h k t
 | .dicT t=>.dicT h k t
theorem Rel.frz1(R:Rel cl B σ w ρ S)(i:Nat):∃w',w'.H=w.H/\Fut w w'/\Rel cl B σ w' (frz1 ρ i) S:=by
 unfold S2.frz1;split
 ·rename_i d hd;have ff:=zkv (w:=w) (r:=.slot i);have kp:∀a u,w.H a=some u->w.ow a≠some (.slot i)->(w.free (.slot i)).H a=some u/\(w.free (.slot i)).ow a=w.ow a:=fun a u ha hn=>⟨ha,if_neg hn⟩
  refine ⟨w.free (.slot i),rfl,ff,⟨fun a u h=>?_,fun a r h=>?_,R.wd.len,fun n ob h=>?_⟩,by rw [yaB];exact R.len,fun j b e hj=>?_⟩
  ·have hne:w.ow a≠some (.slot i):=fun z=>by
    rcases R.wd.own a _ z with y | y
    ·cases y
    ·rw [h] at y;cases y
   have:=kp a u (R.wd.fr a u h).1 hne;exact ⟨this.1,this.2.trans (R.wd.fr a u h).2⟩
  ·have h':(if w.ow a=some (Root.slot i) then none else w.ow a)=some r:=h;split at h'
   ·cases h'
   ·exact R.wd.own a r h'
  ·obtain ⟨a,e,x⟩:=R.wd.obj n ob h;exact ⟨a,e,x.keep ff fun b u hb hn=>kp b u hb fun z=>by rwa [z] at hn⟩
  ·by_cases hij:i=j
   ·subst hij;have hlt:i<ρ.length:=(yaq.mp hd).1;rw [yaz hlt] at hj;cases hj;obtain ⟨v,e1,a,o,rfl,h1,h2,t⟩:=R.slots i true d hd;refine ⟨.ref a,e1,(t.up ff).shd h2 ?_⟩;show (if w.ow a=some (Root.slot i) then none else w.ow a)=none;rw [if_pos h1]
   ·rw [yaJ hij] at hj;obtain ⟨v,e1,x⟩:=R.slots j b e hj;refine ⟨v,e1,x.keep ff fun a u ha hr=>?_⟩;have:=kp a u ha (by rw [hr];exact fun z=>hij (by cases z;rfl));exact ⟨this.1,this.2.trans hr⟩
 ·exact ⟨w,rfl,Fut.refl _,R⟩
theorem Rel.frz:∀(is:List Nat) {w:Wd} {ρ:Env},Rel cl B σ w ρ S->∃w',w'.H=w.H/\Fut w w'/\Rel cl B σ w' (frz is ρ) S
 | [],w,ρ,R=>⟨w,rfl,Fut.refl _,R⟩
 | i::is,w,ρ,R=>by
  obtain ⟨w1,e1,f1,R1⟩:=R.frz1 i;obtain ⟨w2,e2,f2,R2⟩:=Rel.frz is R1;exact ⟨w2,e2.trans e1,f1.trans f2,R2⟩
end
section
variable{X:Cx}{cl:Cf}{E:St->XK}{own:Bool}{st:Stmt}{zbu:List Stmt}{f g:Fs}{e:Expr}{fe:Fe}{pos pos':Pos}
def zq9(is:List Nat)(h:PS X st (tS cl E own f)):PS X st (tS cl E own (sFz is f)):=by
 refine PS.imp h ?_;rintro De σ H ⟨B,w,ρ,S,rfl,R,q⟩;obtain ⟨w',e',f',R'⟩:=R.frz is;exact ⟨B,w',frz is ρ,S,e',R',zgA.up f' q⟩
def zn5:PSs X [] (tS cl E own sNx):=by
 refine PSs.imp zmb ?_;rintro De σ H ⟨B,w,ρ,S,rfl,R,q⟩;exact q σ w R (Fut.refl _)
def zlQ(h1:PS X st (tS cl E own f))(h2:PSs X zbu (tS cl E own g)):PSs X (st::zbu) (tS cl E own (zas f g)):=by
 refine PSs.imp (zjI h1 h2) ?_;rintro De σ H ⟨B,w,ρ,S,rfl,R,q⟩;refine ⟨B,w,ρ,S,rfl,R,?_⟩;unfold zas at q
 cases hf:f ρ S with
 | nx ρ' S' =>
  rw [hf] at q;intro σ' w' R' F';exact ⟨B,w',ρ',S',rfl,R',zgA.up F' q⟩
 | bk ρ' S'=>rwa [hf] at q
 | ct ρ' S'=>rwa [hf] at q
 | rt d S'=>rwa [hf] at q
 | ex c ρ' S'=>rwa [hf] at q
 | bad=>rwa [hf] at q
def zlN:PS X (.Pass pos) (tS cl E own sNx):=by
 refine PS.imp zmd ?_;rintro De σ H ⟨B,w,ρ,S,rfl,R,q⟩;exact q σ w R (Fut.refl _)
def zn7:PS X (.Break pos) (tS cl E own sBk):=by
 refine PS.imp zjK ?_;rintro De σ H ⟨B,w,ρ,S,rfl,R,q⟩;exact q σ w R (Fut.refl _)
def zsm{i:Nat}{De:Ends}{σ:St}{H:Hp}(q:tS cl E own (zcj i false fe) De σ H):znw (tE cl E fe) (ziP i) De σ H:=by
 obtain ⟨B,w,ρ,S,rfl,R,q⟩:=q;refine ⟨B,w,ρ,S,rfl,R,?_⟩;unfold zcj at q
 cases hf:fe ρ S with
 | bad=>rwa [hf] at q
 | exc c S1=>rw [hf] at q;exact fun w' R' F'=>q σ w' R' F'
 | ok d S1 =>
  rw [hf] at q;intro v w' R' F' h';exact q _ w' (R'.put h') F'
def zp9{i:Nat}{De:Ends}{σ:St}{H:Hp}(q:tS cl E own (zcj i true fe) De σ H):znw (tN cl E fe) (ziP i) De σ H:=by
 obtain ⟨B,w,ρ,S,rfl,R,q⟩:=q;refine ⟨B,w,ρ,S,rfl,R,?_⟩;unfold zcj at q
 cases hf:fe ρ S with
 | bad=>rwa [hf] at q
 | exc c S1=>rw [hf] at q;exact fun w' R' F'=>q σ w' R' F'
 | ok d S1 =>
  rw [hf] at q;intro p o w' R' F' hp t;exact q _ (w'.addAs p o (.slot i)) (R'.own hp t) (F'.trans (zbp hp))
def zn9{i:Nat}{x:Str}(hN:X.N.Nodup)(hi:X.N[i]?=some x)(hx:Loc X.env.scope x)(he:PE X e (tE cl E fe))(hs:swapsWith e (some (.Name x pos')) pos.line X.env=pure false)(hf:X.fn x=true\/X.env.scope.names.lookup x=some .local):PS X (.Assign [.Name x pos'] e pos) (tS cl E own (zcj i false fe)) :=
 PS.imp (zk1 hN hi hx he hs hf) fun _ _ _ q=>zsm q
def zhz{i:Nat}{x:Str}(hN:X.N.Nodup)(hi:X.N[i]?=some x)(hx:Loc X.env.scope x)(he:PE X e (tN cl E fe))(hs:swapsWith e (some (.Name x pos')) pos.line X.env=pure false)(hf:X.fn x=true\/X.env.scope.names.lookup x=some .local):PS X (.Assign [.Name x pos'] e pos) (tS cl E own (zcj i true fe)) :=
 PS.imp (zk1 hN hi hx he hs hf) fun _ _ _ q=>zp9 q
def zkV(he:PE X e (tE cl E fe))(hs:swapsWith e none pos.line X.env=pure false):PS X (.Expr e pos) (tS cl E own (zny fe)):=by
 refine PS.imp (zhY he hs) ?_;rintro De σ H ⟨B,w,ρ,S,rfl,R,q⟩;refine ⟨B,w,ρ,S,rfl,R,?_⟩;unfold zny at q
 cases hf:fe ρ S with
 | bad=>rwa [hf] at q
 | exc c S1=>rw [hf] at q;exact fun w' R' F'=>q σ w' R' F'
 | ok d S1=>rw [hf] at q;exact fun v w' R' F' _=>q σ w' R' F'
def zn4(he:PE X e (tE cl E fe)):PS X (.Return (some e) pos) (tS cl E false (zbT fe)):=by
 refine PS.imp (zhW he) ?_;rintro De σ H ⟨B,w,ρ,S,rfl,R,q⟩;refine ⟨B,w,ρ,S,rfl,R,?_⟩;unfold zbT at q
 cases hf:fe ρ S with
 | bad=>rwa [hf] at q
 | exc c S1=>rw [hf] at q;exact fun w' R' F'=>q σ w' R' F'
 | ok d S1=>rw [hf] at q;exact fun v w' R' F' h'=>q v w' R'.wd F' h'
def zlK(he:PE X e (tN cl E fe)):PS X (.Return (some e) pos) (tS cl E true (zbT fe)):=by
 refine PS.imp (zhW he) ?_;rintro De σ H ⟨B,w,ρ,S,rfl,R,q⟩;refine ⟨B,w,ρ,S,rfl,R,?_⟩;unfold zbT at q
 cases hf:fe ρ S with
 | bad=>rwa [hf] at q
 | exc c S1=>rw [hf] at q;exact fun w' R' F'=>q σ w' R' F'
 | ok d S1 =>
  rw [hf] at q;intro p o w' R' F' hp t;have ff:=zbp (w:=w') (p:=p) (o:=o) (r:=.slot 0) hp;exact q (.ref p) (w'.addAs p o (.slot 0)) (Rel.own (i:=0) R' hp t).wd (F'.trans ff) ⟨p,o,0,rfl,if_pos rfl,zak,t.up ff⟩
def zlJ{i:Nat}{x:Str}(hN:X.N[i]?=some x)(hv:Vis X.env.scope x)(hd:(x == ("__debug__":Str))=false)(hcd:(x == ("__classdict__":Str))=false):PS X (.Return (some (.Name x pos')) pos) (tS cl E true (zhL i)):=by
 refine PS.imp (zhW (zcK hN hv hd hcd)) ?_;rintro De σ H ⟨B,w,ρ,S,rfl,R,q⟩;unfold zhL at q;split at q
 ·rename_i d hd;obtain ⟨v,e1,a,o,rfl,h1,h2,t⟩:=R.slots i true d hd;exact ⟨_,e1,q _ w R.wd (Fut.refl _) ⟨a,o,i,rfl,h1,h2,t⟩⟩
 ·exact q.elim
def zlL:PS X (.Return none pos) (tS cl E false zjB):=by
 refine PS.imp zmc ?_;rintro De σ H ⟨B,w,ρ,S,rfl,R,q⟩;exact q .non w R.wd (Fut.refl _) .non
def zq8{c:Expr}{a b:List Stmt}{fc:Fe}(hc:PT X c (tTr cl E fc))(ha:PSs X a (tS cl E own f))(hb:PSs X b (tS cl E own g)):PS X (.If c a b pos) (tS cl E own (sIf fc f g)):=by
 refine PS.imp (zrp hc ha hb) ?_;rintro De σ H ⟨B,w,ρ,S,rfl,R,q⟩;refine ⟨B,w,ρ,S,rfl,R,?_⟩;unfold sIf at q
 cases hg:fc ρ S with
 | bad=>rwa [hg] at q
 | exc c S1=>rw [hg] at q;exact fun w' R' F'=>q σ w' R' F'
 | ok d S1 =>
  rw [hg] at q;dsimp only at q ⊢
  cases hb:isB d with
  | none=>rw [hb] at q;exact q.elim
  | some b =>
   rw [hb] at q;intro w1 R1 F1
   cases b with
   | true=>exact zlh ⟨B,w1,ρ,S1,rfl,R1,zgA.up F1 q⟩
   | false=>exact zli ⟨B,w1,ρ,S1,rfl,R1,zgA.up F1 q⟩
end
noncomputable def zjC(i:Nat)(fe:Fe):Fs:=fun ρ S=>match ρ[i]? with
 | some (some (true,.lst l))=>(match fe ρ S with
  | .ok d S'=>if zaT l.length then .nx (ρ.set i (some (true,.lst (l++[d])))) S' else .bad
  | .exc c S'=>.ex c ρ S' | .bad=>.bad)
 | _=>.bad
section
variable{X:Cx}{cl:Cf}{E:St->XK}{own:Bool}{e:Expr}{fe:Fe}{pos pos':Pos}
def zjy{n:Nat}(h:zaT n=true):n<sizeLine:=Nat.lt_of_le_of_lt (yap h) (by decide)
def Rel.list{B:Base}{σ:St}{w:Wd}{ρ:Env}{S:Sto}{i:Nat}{l:List D}(R:Rel cl B σ w ρ S)(h:ρ[i]?=some (some (true,.lst l))):∃a xs,σ[i]?=some (some (.ref a))/\w.ow a=some (.slot i)/\w.H a=some (.lst xs)/\Shds cl w xs l:=by
 obtain ⟨v,e1,a,o,rfl,h1,h2,t⟩:=R.slots i true _ h
 cases t with
 | lst t=>exact ⟨a,_,e1,h1,h2,t⟩
def zoa{i:Nat}{x:Str}{ap cp:Pos}(hN:X.N[i]?=some x)(hv:Vis X.env.scope x)(hd:(x == ("__debug__":Str))=false)(hcd:(x == ("__classdict__":Str))=false)(he:PE X e (tE cl E fe))
  (hpl:zbe e=true) (hln:(ap.endLine == cp.line)=true):PS X (.Expr (.Call (.Attribute (.Name x pos') "append" ap) [e] [] cp) pos) (tS cl E own (zjC i fe)):=by
 refine PS.imp (zhY (zoX (es:=[]) PySem.F.plainAttrs_list PySem.F.slot_list_append PySem.F.type_list_append zij (zcK hN hv hd hcd) (zbI he zdw (zaP hpl)) (hfew:=zgo (by simp [hpl]) (by simp)) (hline:=hln) (hs:=zaP hpl) (hplain:=rfl))) ?_;rintro De σ H ⟨B,w,ρ,S,rfl,R,q⟩;unfold zjC at q;split at q
 ·rename_i l hl;obtain ⟨a,xs,e1,h1,h2,t⟩:=R.list hl;refine ⟨_,e1,.inl ⟨rfl,_,SqL.of h2⟩,B,w,ρ,S,rfl,R,?_⟩
  cases hf:fe ρ S with
  | bad=>rwa [hf] at q
  | exc c S1=>rw [hf] at q;exact fun w' R' F'=>q σ w' R' F'
  | ok d S1 =>
   rw [hf] at q;intro v w' R' F' h';dsimp only at q
   cases hz:zaT l.length with
   | false=>rw [hz,if_neg (by decide)] at q;exact q.elim
   | true =>
    rw [hz,if_pos rfl] at q;obtain ⟨a',xs',e1',h1',h2',t'⟩:=R'.list hl;rw [e1] at e1';cases e1';refine ⟨a,xs',v,rfl,rfl,h2',by rw [t'.length];exact zjy hz,?_⟩;exact q σ (w'.mut a (.lst (xs'++[v]))) (R'.mut (d0:=.non) e1 h1' (.lst (t'.append (.cons h' .nil)))) (F'.trans (zex (by rw [h1'];exact yaI _)))
 ·exact q.elim
end
end S2
namespace L2
open PySem PySem.Spec PyProof.Rows
section
variable{prog:Program}{w:World}{A:Around}{E:Z5}{s:Shared}
end
section
variable{X:Cx}{pins:Z3}{σ:St}{H:Hp}{s:Shared}
end
end L2
namespace S2
open PySem PySem.Spec PyProof.Rows L2
structure ItOk(cl:Cf)(w:Wd)(J:It)(ds:List D):Prop where
 go:∀w',Fut w w'->∀i,i<ds.length->J.go i w'.H
 stop:∀w',Fut w w'->J.stop ds.length w'.H
 yld:∀w',Fut w w'->∀i d x H',ds[i]?=some d->J.yld i w'.H x H'->∃w'',w''.H=H'/\Grow w' w''/\Shd cl w'' x d
noncomputable abbrev Fi:=Env->Sto->Out (List D)
noncomputable def tI(cl:Cf)(E:St->XK)(f:Fi):TI:=fun σ H R'=>∃B w ρ S,w.H=H/\Rel cl B σ w ρ S/\match f ρ S with
 | .ok ds S'=>∀J w',Rel cl B σ w' ρ S'->Fut w w'->ItOk cl w' J ds->R' J w'.H
 | .exc c S'=>∀w',Rel cl B σ w' ρ S'->Fut w w'->E σ (.ref (cl c)) none w'.H
 | .bad=>False
def PI.imp{X:Cx}{tg it:Expr}{t t':TI}(h:PI X tg it t)(i:∀σ H Q,t' σ H Q->t σ H Q):PI X tg it t':=fun pins s σ H Q I q=>h pins s σ H Q I (i _ _ _ q)
inductive Tg where | one (i:Nat) | tup (is:List Nat)
noncomputable def zdd:List Nat->List D->Env->Option Env
 | [],[],ρ=>some ρ
 | i::is,d::ds,ρ=>zdd is ds (ρ.set i (some (false,d)))
 | _,_,_=>none
noncomputable def Tg.put:Tg->Env->D->Option Env
 | .one i,ρ,d=>some (ρ.set i (some (false,d)))
 | .tup is,ρ,.tup ds=>zdd is ds ρ
 | .tup _,_,_=>none
noncomputable def tG(cl:Cf)(n:Nat)(tg:Tg):TG:=fun v σ H Q=>∃B w ρ S d ρ',w.H=H/\Rel cl B σ w ρ S/\Shd cl w v d/\tg.put ρ d=some ρ'/\∀σ',σ'.length=σ.length->σ'.drop n=σ.drop n->Rel cl B σ' w ρ' S->Q σ' w.H
def PG.imp{X:Cx}{tg:Expr}{t t':TG}(h:PG X tg t)(i:∀v σ H Q,t' v σ H Q->t v σ H Q):PG X tg t':=fun pins s σ H v u Q I r q=>h pins s σ H v u Q I r (i _ _ _ _ q)
noncomputable def zgX(tg:Tg)(body:Fs):List D->Env->Sto->Fo
 | [],ρ,S=>.nx ρ S
 | d::ds,ρ,S=>match tg.put ρ d with
  | none=>.bad
  | some ρ1=>match body ρ1 S with
   | .nx ρ' S'=>zgX tg body ds ρ' S'
   | .ct ρ' S'=>zgX tg body ds ρ' S'
   | .bk ρ' S'=>.nx ρ' S'
   | o=>o
noncomputable def zhO(tg:Tg)(it:Fi)(body:Fs):Fs:=fun ρ S=>match it ρ S with
 | .ok ds S'=>zgX tg body ds ρ S'
 | .exc c S'=>.ex c ρ S'
 | .bad=>.bad
section
variable{X:Cx}{cl:Cf}{E:St->XK}{own:Bool}{e iter tg:Expr}{body:List Stmt}{fb:Fs}{fi:Fi}{fc:Fe}{t:Tg}{pos:Pos}
def zgs{α:Type}{n i:Nat}{l:List α}{a:α}(h:i<n):(l.set i a).drop n=l.drop n:=by
 refine ybq fun k=>?_
 rw [yba,yba,yaJ (by omega)]
def zog{n i:Nat}{x:Str}(hin:i<n)(hN:X.N.Nodup)(hi:X.N[i]?=some x)(hx:Loc X.env.scope x)(hf:X.fn x=true\/X.env.scope.names.lookup x=some .local):PG X (.Name x pos) (tG cl n (.one i)):=by
 refine PG.imp (zh6 hN hi hx hf) ?_;rintro v σ H Q ⟨B,w,ρ,S,d,ρ',rfl,R,h,hp,q⟩;cases hp;exact q _ (yaB ..) (zgs hin) (R.put h)
noncomputable def tGs(cl:Cf)(n:Nat)(is:List Nat):TGs:=fun vs σ H Q=>∃B w ρ S ds ρ',w.H=H/\Rel cl B σ w ρ S/\Shds cl w vs ds/\zdd is ds ρ=some ρ'/\∀σ',σ'.length=σ.length->σ'.drop n=σ.drop n->Rel cl B σ' w ρ' S->Q σ' w.H
def zlX{n:Nat}:PGs X [] (tGs cl n []):=by
 intro pins s σ H vs us Q I r h;obtain ⟨B,w,ρ,S,ds,ρ',rfl,R,hs,hp,q⟩:=h
 cases hs with
 | nil =>
  cases hp;exact zmm pins s σ w.H [] us Q I r ⟨rfl,q σ rfl rfl R⟩
 | cons _ _=>cases hp
def zjz{n i:Nat}{is:List Nat}{x:Str}{es:List Expr}(hin:i<n)(hN:X.N.Nodup)(hi:X.N[i]?=some x)(hx:Loc X.env.scope x)(hf:X.fn x=true\/X.env.scope.names.lookup x=some .local)(h2:PGs X es (tGs cl n is)):PGs X (.Name x pos::es) (tGs cl n (i::is)):=by
 intro pins s σ H vs us Q I r h;obtain ⟨B,w,ρ,S,ds,ρ',rfl,R,hs,hp,q⟩:=h;refine zjN (zh6 hN hi hx hf) h2 rfl pins s σ w.H vs us Q I r ?_
 cases hs with
 | nil=>cases hp
 | cons h t =>
  rename_i v d vs ds;exact ⟨v,vs,rfl,B,w,_,S,ds,ρ',rfl,R.put h,t,hp,fun σ' e1 e2=>q σ' (e1.trans (yaB ..)) (e2.trans (zgs hin))⟩
def zof{es:List Expr}{n k:Nat}{is:List Nat}(hc:X.calm=true)(h:PGs X es (tGs cl n is))(hn:(assignEach es X.env).length=is.length)(hst:(assignEach es X.env).findIdx? (·.1)=none):PG X (.Tuple es k pos) (tG cl n (.tup is)):=by
 refine PG.imp (zoN hc h hn hst) ?_;rintro v σ H Q ⟨B,w,ρ,S,d,ρ',rfl,R,h,hp,q⟩
 cases h with
 | tup e k r =>
  have hl:∀(is:List Nat) (ds:List D) (ρ ρ':Env),zdd is ds ρ=some ρ'->ds.length=is.length:=by
   intro is
   induction is with
   | nil=>intro ds ρ ρ' h;cases ds with
    | nil=>rfl
    | cons _ _=>cases h
   | cons i is ih=>intro ds ρ ρ' h;cases ds with
    | nil=>cases h
    | cons d ds=>rw [yag,yag,ih ds _ _ h]
  rename_i a xs ds;refine ⟨a,xs,rfl,SqT.of e,by rw [r.length];exact hl is ds ρ ρ' hp,B,w,ρ,S,ds,ρ',rfl,R,r,hp,q⟩
 | _=>cases hp
def zn6{n:Nat}(hp:PassesOwn (model X.prog X.w) X.A X.env X.xe)(hc:X.calm=true)(hi:PI X tg iter (tI cl E fi))(hg:PG X tg (tG cl n t))(hb:PSs X body (tS cl E own fb))(hs:∀x,foldedSetIterable iter X.env x=pure x):PS X (.For tg iter body [] pos) (tS cl E own (zhO t fi fb)):=by
 refine PS.imp (zoK hp hc hi hg hb hs) ?_;rintro De σ H ⟨B,w,ρ,S,rfl,R,q⟩;refine ⟨B,w,ρ,S,rfl,R,?_⟩;unfold zhO at q
 cases hf:fi ρ S with
 | bad=>rwa [hf] at q
 | exc c S1=>rw [hf] at q;exact fun w' R' F'=>q σ w' R' F'
 | ok ds S1 =>
  rw [hf] at q;intro J w0 R0 F0 hJ;dsimp only at q;refine ⟨fun i m σ' H'=>m=ds.length-i/\i<=ds.length/\∃w1 ρ1 S2,w1.H=H'/\Fut w0 w1/\Rel cl B σ' w1 ρ1 S2/\zgA cl E own B w1 De (zgX t fb (ds.drop i) ρ1 S2),⟨ds.length,by simp,yaR _,w0,ρ,S1,rfl,Fut.refl _,R0,by rw [List.drop_zero];exact zgA.up F0 q⟩,?_⟩;rintro i m σ1 H1 ⟨rfl,hi,w1,ρ1,S2,rfl,F1,R1,q1⟩
  by_cases hlt:i<ds.length
  ·obtain ⟨d,hd⟩:∃d,ds[i]?=some d:=⟨ds[i],yad hlt⟩
   have hdr:ds.drop i=d::ds.drop (i+1):=by
    rw [List.drop_eq_getElem_cons hlt];rw [yad hlt] at hd;cases hd;rfl
   rw [hdr] at q1;unfold zgX at q1
   cases hp1:t.put ρ1 d with
   | none=>rw [hp1] at q1;exact q1.elim
   | some ρ2 =>
    rw [hp1] at q1;dsimp only at q1;refine .inr ⟨hJ.go w1 F1 i hlt,fun σ' H'=>i+1<=ds.length/\∃w1 ρ1 S2,w1.H=H'/\Fut w0 w1/\Rel cl B σ' w1 ρ1 S2/\zgA cl E own B w1 De (zgX t fb (ds.drop (i+1)) ρ1 S2),fun σ' H' h'=>⟨ds.length-(i+1),by omega,rfl,h'.1,h'.2⟩,fun x H' y=>?_⟩;obtain ⟨w2,rfl,g2,s2⟩:=hJ.yld w1 F1 i d x H' hd y;refine ⟨B,w2,ρ1,S2,d,ρ2,rfl,R1.grow g2,s2,hp1,fun σ2 _ _ R2=>⟨B,w2,ρ2,S2,rfl,R2,?_⟩⟩;have q2:=zgA.up g2.fut q1
    cases hb:fb ρ2 S2 with
    | bad=>rwa [hb] at q2
    | rt d S3=>rwa [hb] at q2
    | ex c ρ3 S3=>rwa [hb] at q2
    | bk ρ3 S3=>rw [hb] at q2;exact fun σ3 w3 R3 F3=>q2 σ3 w3 R3 F3
    | nx ρ3 S3=>rw [hb] at q2;exact fun σ3 w3 R3 F3=>⟨hlt,w3,ρ3,S3,rfl,F1.trans (g2.fut.trans F3),R3,zgA.up F3 q2⟩
    | ct ρ3 S3=>rw [hb] at q2;exact fun σ3 w3 R3 F3=>⟨hlt,w3,ρ3,S3,rfl,F1.trans (g2.fut.trans F3),R3,zgA.up F3 q2⟩
  ·have e:i=ds.length:=by omega
   subst e;rw [List.drop_length] at q1;exact .inl ⟨hJ.stop w1 F1,q1 σ1 w1 R1 (Fut.refl _)⟩
noncomputable def zgq(f:Fe):Fi:=fun ρ S=>(f ρ S).bind fun d S1=>match d with | .lst l=>.ok l S1 | _=>.bad
noncomputable def zfR(f:Fe):Fi:=fun ρ S=>(f ρ S).bind fun d S1=>match d with | .tup l=>.ok l S1 | _=>.bad
def zhE(he:PE X e (tE cl E fc)):PI X tg e (tI cl E (zgq fc)):=by
 refine PI.imp (zml he) ?_;rintro σ H Q ⟨B,w,ρ,S,rfl,R,q⟩;refine ⟨B,w,ρ,S,rfl,R,?_⟩;unfold zgq at q
 cases hf:fc ρ S with
 | bad=>rwa [hf] at q
 | exc c S1=>rwa [hf] at q
 | ok d S1 =>
  rw [hf] at q;intro v w' R' F' h';dsimp only [Out.bind] at q
  cases h' with
  | lst e k r =>
   rename_i a xs ds;refine ⟨a,rfl,⟨xs,SqL.of e⟩,q _ w' R' F' ?_⟩;have hl:=r.length;refine ⟨fun w1 F1 i hi=>⟨xs,xs[i]'(by omega),SqL.of (F1.keep _ _ e k).1,yad (by omega)⟩,fun w1 F1=>⟨xs,SqL.of (F1.keep _ _ e k).1,by omega⟩,fun w1 F1 i d x H1 hd y=>?_⟩;obtain ⟨rfl,hy⟩:=y;have hx:=hy xs (SqL.of (F1.keep _ _ e k).1);obtain ⟨d',e1,e2⟩:=r.get hx;rw [hd] at e1;cases e1;exact ⟨w1,rfl,Grow.refl _,e2.up F1⟩
  | _=>exact q.elim
def zoc(he:PE X e (tE cl E fc)):PI X tg e (tI cl E (zfR fc)):=by
 refine PI.imp (zoM he) ?_;rintro σ H Q ⟨B,w,ρ,S,rfl,R,q⟩;refine ⟨B,w,ρ,S,rfl,R,?_⟩;unfold zfR at q
 cases hf:fc ρ S with
 | bad=>rwa [hf] at q
 | exc c S1=>rwa [hf] at q
 | ok d S1 =>
  rw [hf] at q;intro v w' R' F' h';dsimp only [Out.bind] at q
  cases h' with
  | tup e k r =>
   rename_i a xs ds;refine ⟨a,rfl,⟨xs,SqT.of e⟩,q _ w' R' F' ?_⟩;have hl:=r.length;refine ⟨fun w1 F1 i hi=>⟨xs,xs[i]'(by omega),SqT.of (F1.keep _ _ e k).1,yad (by omega)⟩,fun w1 F1=>⟨xs,SqT.of (F1.keep _ _ e k).1,by omega⟩,fun w1 F1 i d x H1 hd y=>?_⟩;obtain ⟨rfl,hy⟩:=y;have hx:=hy xs (SqT.of (F1.keep _ _ e k).1);obtain ⟨d',e1,e2⟩:=r.get hx;rw [hd] at e1;cases e1;exact ⟨w1,rfl,Grow.refl _,e2.up F1⟩
  | _=>exact q.elim
noncomputable def zaw(lo hi:Int):List D:=(List.range (hi-lo).toNat).map fun (i:Nat)=>.int (lo+i)
noncomputable def zdN(f:Fe):Fi:=fun ρ S=>(zae [f] ρ S).bind fun ds S1=>match ds with | [.int j]=>if -1000000<=j/\j<=1000000 then .ok (zaw 0 j) S1 else .bad | _=>.bad
noncomputable def ziT(f g:Fe):Fi:=fun ρ S=>(zae [f,g] ρ S).bind fun ds S1=>match ds with | [.int i,.int j]=>if (-1000000<=i/\i<=1000000)/\-1000000<=j/\j<=1000000 then .ok (zaw i j) S1 else .bad | _=>.bad
def zlg{w:Wd}{lo hi:Int}{n:Nat}(hn:n=(hi-lo).toNat):ItOk cl w (Itr lo n) (zaw lo hi):=by
 subst hn
 have hl:(zaw lo hi).length=(hi-lo).toNat:=by unfold zaw;rw [yak,List.length_range]
 refine ⟨fun w1 F1 i h=>by rw [hl] at h;exact h,fun w1 F1=>by rw [hl];exact yaf _,fun w1 F1 i d x H1 hd y=>?_⟩;obtain ⟨rfl,rfl⟩:=y;unfold zaw at hd;rw [yax] at hd
 cases hr:(List.range (hi-lo).toNat)[i]? with
 | none=>rw [hr] at hd;cases hd
 | some j =>
  rw [hr] at hd;have:=(yaq.mp hr).2;rw [List.getElem_range] at this;subst this;cases hd;exact ⟨w1,rfl,Grow.refl _,.int _⟩
def zlU{p:Pos}(hg:Gl X "range")(hm:X.mg "range" = none)(ha:PA X [e] (tAs cl E [fc]))(hs:starEach [e] X.env=[(false,eval e X.env)]):PI X tg (.Call (.Name "range" p) [e] [] pos) (tI cl E (zdN fc)):=by
 refine PI.imp (zh5 hg hm ha hs) ?_;rintro σ H Q ⟨B,w,ρ,S,rfl,R,q⟩;refine ⟨B,w,ρ,S,rfl,R,?_⟩;unfold zdN at q
 cases hf:zae [fc] ρ S with
 | bad=>rwa [hf] at q
 | exc c S1=>rwa [hf] at q
 | ok ds S1 =>
  rw [hf] at q;intro vs w' R' F' h';dsimp only [Out.bind] at q;split at q
  ·rename_i ds' S' hm';split at hm'
   ·rename_i j;split at hm'
    ·rename_i hb;cases hm'
     cases h' with
     | cons h1 h2 =>
      cases h1;cases h2;exact ⟨j,rfl,by omega,by omega,q _ w' R' F' (zlg (by omega))⟩
    ·cases hm'
   ·cases hm'
  ·rename_i hm';split at hm'<;>first | (split at hm'<;>cases hm') | cases hm'
  ·exact q.elim
def zlT{a:Expr}{fa:Fe}{p:Pos}(hg:Gl X "range")(hm:X.mg "range" = none)(ha:PA X [a,e] (tAs cl E [fa,fc]))(hs:starEach [a,e] X.env=[(false,eval a X.env),(false,eval e X.env)])(hs2:starEach [e] X.env=[(false,eval e X.env)]):PI X tg (.Call (.Name "range" p) [a,e] [] pos) (tI cl E (ziT fa fc)):=by
 refine PI.imp (zh4 hg hm ha hs hs2) ?_;rintro σ H Q ⟨B,w,ρ,S,rfl,R,q⟩;refine ⟨B,w,ρ,S,rfl,R,?_⟩;unfold ziT at q
 cases hf:zae [fa,fc] ρ S with
 | bad=>rwa [hf] at q
 | exc c S1=>rwa [hf] at q
 | ok ds S1 =>
  rw [hf] at q;intro vs w' R' F' h';dsimp only [Out.bind] at q;split at q
  ·rename_i ds' S' hm';split at hm'
   ·rename_i i j;split at hm'
    ·rename_i hb;cases hm'
     cases h' with
     | cons h1 h2 =>
      cases h1
      cases h2 with
      | cons h2 h3 =>
       cases h2;cases h3;exact ⟨i,j,rfl,by omega,q _ w' R' F' (zlg rfl)⟩
    ·cases hm'
   ·cases hm'
  ·rename_i hm';split at hm'<;>first | (split at hm'<;>cases hm') | cases hm'
  ·exact q.elim
end
end S2
namespace S2
open PySem PySem.Spec PyProof.Rows L2
noncomputable def zp2(ρ:Env)(i:Nat):Option (Bool×D):=match ρ[i]? with | some (some (false,d))=>some (false,d) | _=>none
noncomputable def zbc(n:Nat)(caps:List Nat)(ρ:Env):Env:=List.replicate n none++caps.map (zp2 ρ)
noncomputable def zjo:Fe:=zao (.bl true)
noncomputable def zb3(tg:Tg)(c elt:Fe)(ρ0:Env):List D->Sto->Out (List D)
 | [],S=>.ok [] S
 | d::ds,S=>match tg.put ρ0 d with
  | none=>.bad
  | some ρ1=>(c ρ1 S).bind fun b S1=>match isB b with
   | some true=>(elt ρ1 S1).bind fun y S2=>(zb3 tg c elt ρ0 ds S2).bind fun ys S3=>.ok (y::ys) S3
   | some false=>zb3 tg c elt ρ0 ds S1
   | none=>.bad
noncomputable def zdO(n:Nat)(tg:Tg)(it:Fi)(c elt:Fe)(caps:List Nat):Fe:=fun ρ S=>(it ρ S).bind fun ds S1=>match zb3 tg c elt (zbc n caps ρ) ds S1 with
 | .ok ys S2=>if zaT ys.length then .ok (.lst ys) S2 else .bad
 | _=>.bad
noncomputable abbrev noE:St->XK:=fun _ _ _ _=>False
section
variable{cl:Cf}
def ziJ{B:Base}{σ:St}{w w1:Wd}{ρ:Env}{S S1:Sto}{n:Nat}{caps:List (Str×Nat)}(R:Rel cl B σ w ρ S){B1:Base}(W1:World' cl B1 w1 S1)(F1:Fut w w1){σ':St}(hσ:σ'.length=n+caps.length)(hc:σ'.drop n=caps.map fun p=>(σ[p.2]?).join) :
  Rel cl B1 σ' w1 (zbc n (caps.map (·.2)) ρ) S1 where
 wd:=W1
 len:=by unfold zbc;rw [hσ,yar,yaK,yak,yak]
 slots:=fun i o d h=>by
  unfold zbc at h
  by_cases hi:i<n
  ·rw [yaH (by rw [yaK];exact hi),ybs] at h
   split at h<;>cases h
  ·rw [yat (by rw [yaK];omega),yaK,List.map_map,yax] at h
   cases hp:caps[i-n]? with
   | none=>rw [hp] at h;cases h
   | some p =>
    rw [hp] at h;have h':zp2 ρ p.2=some (o,d):=Option.some.inj h;unfold zp2 at h';split at h'
    ·rename_i d' hd;cases h';obtain ⟨v,e,x⟩:=R.slots p.2 false d hd;refine ⟨v,?_,Shd.up F1 x⟩;have:=congrArg (fun l=>l[i-n]?) hc;rw [yba,yax,hp] at this;rw [show n+(i-n)=i by omega] at this;rw [this];show some ((σ[p.2]?).join)=_;rw [e];rfl
    ·cases h'
end
section
variable{X:Cx}{cl:Cf}{E:St->XK}
def zls{fi:Fi}{t:Tg}{fc fe:Fe}{n:Nat}{caps:List (Str×Nat)}{σ:St}{H:Hp}{Q:VK}(q:tN cl E (zdO n t fi fc fe (caps.map (·.2))) σ H Q) :
  zf3 (tI cl E fi) (tG cl n t) (tTr cl noE fc) (tE cl noE fe) n caps σ H Q:=by
 obtain ⟨B,w,ρ,S,rfl,R,q⟩:=q;refine ⟨B,w,ρ,S,rfl,R,?_⟩;unfold zdO at q
 cases hf:fi ρ S with
 | bad=>rwa [hf] at q
 | exc c S1=>rwa [hf] at q
 | ok ds S1 =>
  rw [hf] at q;dsimp only [Out.bind] at q;intro J w0 R0 F0 hJ
  cases hcd:zb3 t fc fe (zbc n (caps.map (·.2)) ρ) ds S1 with
  | bad=>rw [hcd] at q;exact q.elim
  | exc _ _=>rw [hcd] at q;exact q.elim
  | ok all Sf =>
   rw [hcd] at q;dsimp only at q
   cases hz:zaT all.length with
   | false=>rw [hz,if_neg (by decide)] at q;exact q.elim
   | true =>
    rw [hz,if_pos rfl] at q;dsimp only at q;refine ⟨fun i m ys σ' H'=>m=ds.length-i/\i<=ds.length/\σ'.length=n+caps.length/\σ'.drop n=(caps.map fun p=>(σ[p.2]?).join)/\∃w1 S2 es zbu,w1.H=H'/\Fut w0.inn w1/\World' cl w0.base w1 S2/\Shds cl w1 ys es/\zb3 t fc fe (zbc n (caps.map (·.2)) ρ) (ds.drop i) S2=.ok zbu Sf/\es++zbu=all,⟨ds.length,by simp,yaR _,by simp [capσ],by simp [capσ],w0.inn,S1,[],all,rfl,Fut.refl _,R0.wd.enter,.nil,by rw [List.drop_zero];exact hcd,rfl⟩,?_⟩;rintro i m ys σ1 H1 ⟨rfl,hi,hl1,hd1,w1,S2,es,zbu,rfl,F1,W1,sh,hrest,hall⟩;refine ⟨?_,?_⟩
    ·rw [sh.length];refine yal ?_ (zaN hz);rw [<-hall,yar];omega
    have F1':Fut w0 w1:=(zbz w0).trans F1
    by_cases hlt:i<ds.length
    ·obtain ⟨d,hdi⟩:∃d,ds[i]?=some d:=⟨ds[i],yad hlt⟩
     have hdr:ds.drop i=d::ds.drop (i+1):=by
      rw [List.drop_eq_getElem_cons hlt];rw [yad hlt] at hdi;cases hdi;rfl
     rw [hdr] at hrest;unfold zb3 at hrest;refine .inr ⟨hJ.go w1 F1' i hlt,fun x H' y=>?_⟩;obtain ⟨w2,rfl,g2,s2⟩:=hJ.yld w1 F1' i d x H' hdi y;have R1:Rel cl w0.base σ1 w2 (zbc n (caps.map (·.2)) ρ) S2:=ziJ R0 (W1.grow g2) (F1'.trans g2.fut) hl1 hd1
     cases hp:t.put (zbc n (caps.map (·.2)) ρ) d with
     | none=>rw [hp] at hrest;cases hrest
     | some ρ1 =>
      rw [hp] at hrest;dsimp only at hrest;refine ⟨w0.base,w2,_,S2,d,ρ1,rfl,R1,s2,hp,fun σ2 hk1 hk2 R2=>⟨w0.base,w2,ρ1,S2,rfl,R2,?_⟩⟩
      cases hc:fc ρ1 S2 with
      | bad=>rw [hc] at hrest;cases hrest
      | exc _ _=>rw [hc] at hrest;cases hrest
      | ok b S3 =>
       rw [hc] at hrest;dsimp only [Out.bind] at hrest ⊢
       cases hb:isB b with
       | none=>rw [hb] at hrest;cases hrest
       | some bb =>
        rw [hb] at hrest;intro w3 R3 F3
        cases bb with
        | false=>exact zli ⟨ds.length-(i+1),by omega,rfl,hlt,hk1.trans hl1,hk2.trans hd1,w3,S3,es,zbu,rfl,F1.trans (g2.fut.trans F3),R3.wd,sh.up (g2.fut.trans F3),hrest,hall⟩
        | true =>
         refine zlh ⟨w0.base,w3,ρ1,S3,rfl,R3,?_⟩;dsimp only at hrest
         cases he:fe ρ1 S3 with
         | bad=>rw [he] at hrest;cases hrest
         | exc _ _=>rw [he] at hrest;cases hrest
         | ok yv S4 =>
          rw [he] at hrest;dsimp only at hrest
          cases hr:zb3 t fc fe (zbc n (caps.map (·.2)) ρ) (ds.drop (i+1)) S4 with
          | bad=>rw [hr] at hrest;cases hrest
          | exc _ _=>rw [hr] at hrest;cases hrest
          | ok zs S5 =>
           rw [hr] at hrest;cases hrest;intro v w4 R4 F4 h4;have ff:=g2.fut.trans (F3.trans F4);exact ⟨ds.length-(i+1),by omega,rfl,hlt,hk1.trans hl1,hk2.trans hd1,w4,S4,es++[yv],zs,rfl,F1.trans ff,R4.wd,(sh.up ff).append (.cons h4 .nil),hr,by rw [<-hall,ycE];rfl⟩
    ·have e:i=ds.length:=by omega
     subst e;rw [List.drop_length] at hrest;cases hrest;rw [yaN] at hall;subst hall;refine .inl ⟨hJ.stop w1 F1',fun p hp=>?_⟩;obtain ⟨Rb,Fb⟩:=R0.leave W1 F1;exact q p (.lst ys) (w0.back w1) Rb (F0.trans Fb) hp (.lst (sh.up (zce W1)))
end
end S2
namespace L2
open PySem PySem.Spec PyProof.Rows
section
variable{X:Cx}
end
end L2
namespace L2
open PySem PySem.Spec PyProof.Rows
noncomputable def CXE(P:Program)(w:World):CXT:=fun outer H s E e s'=>∃(a:Addr) (cls a0:Value) (H':Hp) (B:Heap),e=.ref a/\Heap.FlyingW B outer a cls a0 s'.heap ∧
 (∀b o,s'.heap.get? b=some o->H' b≠none->B.get? b=some o)/\(∀b o,s.heap.get? b=some o->H b=none->b ∉ frs outer->B.get? b=some o) ∧
 (∀b o,s.heap.get? b=some o->b ∉ frs outer->∃o',B.get? b=some o') ∧
 s'.os=s.os/\AllBare s'.gens/\Un (frs outer) [] H H' s.heap s'.heap/\HOk P w H' s'.heap/\E cls none H'
def zaQ.has{P:Program}{w:World}{H:Hp}{h:Heap}{a:Addr}{o:HO}(x:zaQ P w H h a o):∃ob,h.get? a=some ob:=by
 cases o with
 | lst xs=>obtain ⟨_,_,_,_,e⟩:=x;exact ⟨_,e⟩
 | tup xs=>obtain ⟨_,_,_,ob,e,_⟩:=x;exact ⟨_,e⟩
 | dK kvs=>obtain ⟨_,_,_,_,o,_,_,e,_⟩:=x;exact ⟨_,e⟩
 | dT kvs=>obtain ⟨_,_,_,_,o,_,_,e,_⟩:=x;exact ⟨_,e⟩
 | set S n=>obtain ⟨o,_,_,_,e,_⟩:=x;exact ⟨_,e⟩
 | ins C dx fs=>obtain ⟨_,_,_,e,_⟩:=x;exact ⟨_,e⟩
 | own y=>exact x
 | xd fs=>obtain ⟨_,⟨_,_,_,e,_⟩,_⟩:=x;exact ⟨_,e⟩
 | rng lo hi=>obtain ⟨_,_,_,e⟩:=x;exact ⟨_,e⟩
 | frz ob u=>obtain ⟨e,_⟩:=x;exact ⟨_,e⟩
 | tbl ps=>exact ⟨_,(show h.get? a=some _ from x)⟩
 | met f y=>exact ⟨_,(show h.get? a=some _ from x)⟩
 | ext φ=>obtain ⟨_,e,_⟩:=x;exact e
def HOk.same{P:Program}{w:World}{H:Hp}{h h':Heap}(x:HOk P w H h)(k:∀b u,h.get? b=some u->H b≠none->h'.get? b=some u):HOk P w H h':=fun a o e =>
 (x a o e).stay (fun b u hb q=>k b u q (hb.elim (fun z=>by rw [z,e];exact yaI _) (fun z=>by rw [z];exact yaI _))) (fun _ q=>q) fun _ _ q=>q
section
variable{X:Cx}{pins:Z3}{σ:St}{H:Hp}{s:Shared}{M:Model}
def zkw(l:List Env):∀env∈l,∀b,env.frame=some b->b∈frs l:=fun env he b hb=>ybA.mpr ⟨env,he,hb⟩
def zgT{h':Heap}{e:Addr}{cls:Value}{vs:List Value}{E:XK}{Er:Z5}(I:Inv X pins σ H s)(hx:X.ex=[])(hs:X.stack=X.env::X.outer)(hf:X.env.frame=some X.env.locals)(mk:Heap.MadeExcOf s.heap h' e cls vs)(q:E cls none H) :
  wpAny M X.A (leaving X.env (.ref e)) (fun _ s''=>CXE X.prog X.w X.outer X.H₀ X.s₀ E (.ref e) s'') Er { s with heap:=h' }:=by
 have hfr:X.A.frames=some (X.env::X.outer):=by rw [<-hs];exact I.ok.frames
 have hst:s.heap.FunFrames X.base (X.env::X.outer):=by rw [<-hs];exact I.stack
 refine wpAny_leaves_madeW (base:=PySem.W.hideAll s.heap (frs (X.env::X.outer))) hfr hf (fun b o z=>PySem.W.of_hideAll _ z) (PySem.W.funFrames_hide hst (zkw _)) mk fun h2 t fl tup _ up=>?_
 have inB:∀b o,s.heap.get? b=some o->b ∉ frs (X.env::X.outer)->(PySem.W.hideAll s.heap (frs (X.env::X.outer))).get? b=some o:=fun b o z n=>PySem.W.hideAll_get _ z n
 have sub:∀b,b∈frs (X.env::X.outer)->b=X.env.locals\/b∈X.fs:=fun b hb=>by
  rw [<-hs] at hb;exact yam.mp (I.stkSub b hb)
 have fre:∀b,b∈frs (X.env::X.outer)->H b=none:=fun b hb=>by rw [<-hs] at hb;exact I.stkFree b hb
 have old:∀b o,X.s₀.heap.get? b=some o->b ∉ frs X.outer->b ∉ frs (X.env::X.outer):=fun b o z n hb=>by
  rcases sub b hb with r | r
  ·exact absurd (yah (yaj z) I.ok.above) (by rw [r];exact yaQ _)
  ·exact n r
 have nx:∀b:Addr,b ∉ X.ex:=fun b z=>by rw [hx] at z;cases z
 have trk:∀b o,s.heap.get? b=some o->H b≠none->h2.get? b=some o:=fun b o z n=>fl.1 b o (inB b o z fun hb=>n (fre b hb))
 have hok2:HOk X.prog X.w H h2:=I.hok.same trk
 have slt:∀b o,s.heap.get? b=some o->b∈frs X.stack->∃sl,h2.get? b=some { o with slots:=sl }:=fun b o z hb=>by
  obtain ⟨_,o',z',hd⟩:=I.stack.mem hb;rw [z] at z';cases z';exact up b o (mk.keeps b o z) hd
 have un2:Un (frs X.stack) [] H H s.heap h2:=⟨fun b o z n hb _=>fl.1 b o (inB b o z (by rw [<-hs];exact hb)),fun b o z n hb _=>slt b o z hb,fun b o z n _=>n,
  fun b o z _=>by
   by_cases hb:b∈frs X.stack
   ·obtain ⟨sl,r⟩:=slt b o z hb;exact ⟨_,r⟩
   ·exact ⟨o,fl.1 b o (inB b o z (by rw [<-hs];exact hb))⟩,
  fun _ _ z=>z,fun _ _ _ z=>z,fun _ ps z=>⟨#[],by rw [z,Array.append_empty]⟩⟩
 have J:=I.call (g':=s.gens) (t':=s.toks) (d':=s.drawn) (ch:=[]) un2 hok2 I.bare (fun b z=>absurd z (by simp));refine ⟨e,cls,.ref t,H,_,rfl,fl,fun b o z n=>?_,fun b o z n hb=>?_,fun b o z hb=>?_,J.os,J.bare,?_,J.hok,q⟩
 ·cases k:H b with
  | none=>exact absurd k n
  | some u =>
   obtain ⟨o',z'⟩:=(I.hok b u k).has;have:=trk b o' z' n;rw [show h2.get? b=some o from z] at this;cases this;exact inB b o z' fun hb=>n (fre b hb)
 ·exact inB b o (I.base.keep b o z n hb (nx b)) (old b o z hb)
 ·obtain ⟨o',z'⟩:=I.base.there b o z (nx b);exact ⟨o',inB b o' z' (old b o z hb)⟩
 ·have:=J.base;rwa [hx] at this
def zkj{e:Value}{s':Shared}{E:XK}{Er:Z5}(I:Inv X pins σ H s)(hx:X.ex=[])(hs:X.stack=X.env::X.outer)(hf:X.env.frame=some X.env.locals)(q:CXE X.prog X.w X.stack H s E e s') :
  wpAny M X.A (leaving X.env e) (fun _ s''=>CXE X.prog X.w X.outer X.H₀ X.s₀ E e s'') Er s':=by
 have hfr:X.A.frames=some (X.env::X.outer):=by rw [<-hs];exact I.ok.frames
 obtain ⟨a,cls,a0,H',B,rfl,fl,c1,c2,c3,os,bare,un,hok,q⟩:=q
 have fl':Heap.FlyingW B (X.env::X.outer) a cls a0 s'.heap:=by rw [<-hs];exact fl
 refine wpAny_leaves_onW hfr hf fl' fun h2 fl2 up=>?_
 have sub:∀b,b∈frs X.stack->b=X.env.locals\/b∈X.fs:=fun b hb=>yam.mp (I.stkSub b hb)
 have old:∀b o,X.s₀.heap.get? b=some o->b ∉ frs X.outer->b ∉ frs X.stack:=fun b o z n hb=>by
  rcases sub b hb with r | r
  ·exact absurd (yah (yaj z) I.ok.above) (by rw [r];exact yaQ _)
  ·exact n r
 have nx:∀b:Addr,b ∉ X.ex:=fun b z=>by rw [hx] at z;cases z
 have trk:∀b o,s'.heap.get? b=some o->H' b≠none->h2.get? b=some o:=fun b o z n=>fl2.1 b o (c1 b o z n)
 have hok2:HOk X.prog X.w H' h2:=hok.same trk
 have slt:∀b o,s.heap.get? b=some o->H b=none->b∈frs X.stack->∃sl,h2.get? b=some { o with slots:=sl }:=fun b o z n hb=>by
  obtain ⟨_,o',z',hd⟩:=I.stack.mem hb;rw [z] at z';cases z';obtain ⟨sl,r⟩:=un.slot b o z n hb (by simp);obtain ⟨sl',r'⟩:=up b ({ o with slots:=sl }:Obj) r hd;exact ⟨sl',r'⟩
 have un2:Un (frs X.stack) [] H H' s.heap h2:=⟨fun b o z n hb _=>fl2.1 b o (c2 b o z n hb),fun b o z n hb _=>slt b o z n hb,un.free,
  fun b o z _=>by
   by_cases hb:b∈frs X.stack
   ·obtain ⟨sl,r⟩:=slt b o z (I.stkFree b hb) hb;exact ⟨_,r⟩
   ·obtain ⟨o',r⟩:=c3 b o z hb
    exact ⟨o',fl2.1 b o' r⟩,
  un.tups,un.frzs,un.tbls⟩
 have J:=I.call (g':=s'.gens) (t':=s'.toks) (d':=s'.drawn) (ch:=[]) un2 hok2 bare (fun b z=>absurd z (by simp));refine ⟨a,cls,a0,H',B,rfl,fl2,fun b o z n=>?_,fun b o z n hb=>?_,fun b o z hb=>?_,os.trans I.os,bare,?_,J.hok,q⟩
 ·cases k:H' b with
  | none=>exact absurd k n
  | some u =>
   obtain ⟨o',z'⟩:=(hok b u k).has;have:=trk b o' z' n;rw [show h2.get? b=some o from z] at this;cases this;exact c1 b o z' n
 ·exact c2 b o (I.base.keep b o z n hb (nx b)) (I.base.free b o z n (nx b)) (old b o z hb)
 ·obtain ⟨o',z'⟩:=I.base.there b o z (nx b);exact c3 b o' z' (old b o z hb)
 ·have:=J.base;rwa [hx] at this
end
def zrt{P:Program}{w:World}{K:PySem.W.Frag}{mg:Z6}{base:Heap}{N:List Str}{qual:Str}{scope:Scope}{f:Addr}{cd:Value}{A:Around}{outer:List Env}{s:Shared}{H:Hp}{E:XK} :
  zqc (CXE P w) (zjp (CXE P w) P w K mg base N qual scope f cd A outer s H E) E:=fun pins σ H1 s1 e s' I q =>
 zkj (X:=zjp (CXE P w) P w K mg base N qual scope f cd A outer s H E) I rfl rfl rfl q
def zm5{K:PySem.W.Frag}{h:Heap}{C:Addr}{bmB:List Value}{nid:String}(k:K.In h)(z:PySem.W.excIn K C bmB nid=true) :
  ∃bm N nm qn bs hd sn sub ab col dd c0 c1 c2 c3 c5 mN,h.get? C=some (excClassObj nm qn C N bs bm hd sn sub ab col dd c0 c1 c2 c3 c5 nid)/\h.Ns N mN/\mN "__init__" = none/\OwnTail h bmB bm:=by
 unfold PySem.W.excIn at z;split at z
 case h_2=>cases z
 case h_1 dd cd sl ho =>
  split at z
  case h_2=>cases z
  case h_1 D bm c0 c1 c2 c3 n c5 e1 e2 =>
   simp only [yab,yb9,ybr] at z;obtain ⟨⟨⟨⟨⟨z1,z2⟩,z3⟩,z4⟩,z5⟩,z6⟩:=z;subst z1 z2
   have hsl:sl=#[c0,c1,c2,c3,some (.builtin n),c5]:=by
    cases sl with
    | mk l=>exact congrArg Array.mk e2
   have hcd:cd={ cd with mro:=.ref D::bm,hasDel:=false }:=by
    cases cd;simp only at e1 z3;simp only [e1,z3]
   rw [hsl,hcd] at ho;exact ⟨bm,cd.ns,cd.name,_,cd.bases,_,_,_,_,_,dd,c0,c1,c2,c3,c5,_,k _ _ ho,.of_isNs (PySem.W.isNs_of_in k z5),PySem.W.nsMap_none_of_in k z5 z6,PySem.W.tail_of_in k z4⟩
noncomputable def zqb(X:Cx)(E:XK):Prop:=∀(C:Addr) (pins:Z3) (σ:St) (H:Hp) (s:Shared) (e:Addr) (h':Heap) (vs:List Value),Inv X pins σ H s->Heap.MadeExcOf s.heap h' e (.ref C) vs->E (.ref C) none H->X.xe (.ref e) { s with heap:=h' }
def zl7{P:Program}{w:World}{K:PySem.W.Frag}{mg:Z6}{base:Heap}{N:List Str}{qual:Str}{scope:Scope}{f:Addr}{cd:Value}{A:Around}{outer:List Env}{s:Shared}{H:Hp}{E:XK} :
  zqb (zjp (CXE P w) P w K mg base N qual scope f cd A outer s H E) E:=fun C pins σ H1 s1 e h' vs I mk q =>
 zgT (X:=zjp (CXE P w) P w K mg base N qual scope f cd A outer s H E) I rfl rfl rfl mk q
end L2
namespace L2
open PySem PySem.Spec PyProof.Rows
noncomputable def XP(X:Cx)(pins:Z3)(σ:St)(E:XK)(e:Value)(s':Shared):Prop:=∃H1 s1,Inv X pins σ H1 s1/\CXE X.prog X.w X.stack H1 s1 E e s'
section
variable{X:Cx}{k:Nat}{f C:Addr}{fd:FuncData}{ps:List Str}{sp:Sp}{dvs:List V}{ds:List Value}{x m:Str}{p pos apos:Pos}{e o:Expr}{es:List Expr}{ta:TE}{t:TA}
end
end L2
namespace L2
open PySem PySem.Spec PyProof.Rows
section
variable{X:Cx}{pins:Z3}{σ:St}{H:Hp}{s:Shared}
end
end L2
namespace L2
open PySem PySem.Spec PyProof.Rows
section
variable{X:Cx}{pins:Z3}{σ:St}{H H':Hp}{s s':Shared}{B h2:Heap}{a:Addr}{cls a0:Value}
noncomputable abbrev Cx.inH(X:Cx)(a:Addr):Cx:={ X with A:=X.A.mark (some (.ref a)),calm:=false,xe:=fun _ _=>False }
end
noncomputable def zns(K:PySem.W.Frag)(C D:Addr):Prop:=(∃bC iC,PySem.W.excIn K C bC iC=true)/\∃cd d cl sl,K.lookup C=some ⟨cl,d,.cls cd,sl⟩/\cd.mro.contains (.ref D)=true
noncomputable def Ends.goes(D:Ends)(i:Nat):Ends:={ nx:=fun σ H=>D.nx (σ.set i none) H,rt:=D.rt,bk:=fun σ H=>D.bk (σ.set i none) H,ct:=fun σ H=>D.ct (σ.set i none) H }
end L2
namespace PySem.W
open PySem
structure ExcCls(K:Frag)(C:Addr):Prop where
 ga:findIn K (.ref C) "__getattribute__" = some (some (.builtin "BaseException.__getattribute__"))
 gt:findIn K (.ref C) "__getattr__" = some none
 cl:findIn K (.ref C) "__class__" = some (some (.builtin "object.__class__"))
 ob:subIn K (.ref C) (.type "object")=some true
 be:subIn K (.ref C) (.type "BaseException")=some true
 is:∃c d cd sl,K.lookup C=some ⟨c,d,.cls cd,sl⟩
section
variable{prog:Program}{w:World}{A:Around}{E:Z5}{h:Heap}{g:Array GenState}{d:Drawn}{t:Nat}{os:OsState}{a C:Addr}{o:Obj}{K:Frag}
end
end PySem.W
namespace PySem.W
open PySem
section
variable{prog:Program}{w:World}{A:Around}{E:Z5}{h:Heap}{g:Array GenState}{d:Drawn}{t:Nat}{os:OsState}{a C:Addr}{o:Obj}{K:Frag}
end
end PySem.W
namespace L2
open PySem PySem.Spec PyProof.Rows
end L2
namespace L2
open PySem PySem.Spec PyProof.Rows PySem.SeqAt
section
variable{X:Cx}
end
end L2
namespace L2
open PySem PySem.Spec PyProof.Rows
section
variable{X:Cx}
end
end L2
namespace S2
open PySem PySem.Spec PyProof.Rows L2
mutual
noncomputable def D.py:D->PyData
 | .non=>.none
 | .bl b=>.bool b
 | .int i=>.int i
 | .str x=>.str x
 | .tup l=>.tuple (D.pys l)
 | .lst l=>.list (D.pys l)
 | .scr l=>.list (l.map PyData.int)
 | .dic _=>.none
 | .ref _=>.none
 | .exc _=>.none
noncomputable def D.pys:List D->List PyData
 | []=>[]
 | d::l=>d.py::D.pys l
end
mutual
noncomputable def D.fit:Nat->D->Bool
 | _,.non=>true
 | _,.bl _=>true
 | _,.int _=>true
 | _,.str x=>PyData.strOk x
 | 0,.tup _=>false
 | n+1,.tup l=>D.fits n l
 | 0,.lst _=>false
 | n+1,.lst l=>D.fits n l
 | 0,.scr _=>false
 | _+1,.scr _=>true
 | _,.dic _=>false
 | _,.ref _=>false
 | _,.exc _=>false
noncomputable def D.fits:Nat->List D->Bool
 | _,[]=>true
 | n,d::l=>d.fit n&&D.fits n l
end
theorem D.fits_iff{n:Nat}:∀{l:List D},D.fits n l=true↔∀d∈l,d.fit n=true
 | []=>by simp [D.fits]
 | d::l=>by simp [D.fits,D.fits_iff (l:=l)]
theorem zgm:∀(l:List Int),PyData.canLayAll0 (l.map PyData.int)=true/\PyData.depthAll (l.map PyData.int)=0
 | []=>⟨rfl,rfl⟩
 | i::l=>by
  obtain ⟨a,b⟩:=zgm l;exact ⟨by simp [PyData.canLayAll0,PyData.canLay0,a],by simp [PyData.depthAll,PyData.depth,b]⟩
mutual
theorem D.lay:∀{n:Nat} {d:D},d.fit n=true->d.py.canLay0=true/\d.py.depth<=n
 | _,.non,_=>⟨rfl,yaR _⟩
 | _,.bl _,h=>⟨rfl,yaR _⟩
 | _,.int _,_=>⟨rfl,yaR _⟩
 | _,.str x,h=>⟨by simpa [D.fit,D.py,PyData.canLay0] using h,yaR _⟩
 | 0,.tup _,h=>by simp [D.fit] at h
 | 0,.lst _,h=>by simp [D.fit] at h
 | 0,.scr _,h=>by simp [D.fit] at h
 | n+1,.scr l,h=>by
  obtain ⟨a,b⟩:=zgm l;exact ⟨by simpa [D.py,PyData.canLay0] using a,by simp only [D.py,PyData.depth];omega⟩
 | _,.dic _,h=>by simp [D.fit] at h
 | _,.ref _,h=>by simp [D.fit] at h
 | _,.exc _,h=>by simp [D.fit] at h
 | n+1,.tup l,h=>by
  have h':D.fits n l=true:=by simpa [D.fit] using h
  obtain ⟨a,b⟩:=D.lays h';exact ⟨by simpa [D.py,PyData.canLay0] using a,by simp only [D.py,PyData.depth];omega⟩
 | n+1,.lst l,h=>by
  have h':D.fits n l=true:=by simpa [D.fit] using h
  obtain ⟨a,b⟩:=D.lays h';exact ⟨by simpa [D.py,PyData.canLay0] using a,by simp only [D.py,PyData.depth];omega⟩
theorem D.lays:∀{n:Nat} {l:List D},D.fits n l=true->PyData.canLayAll0 (D.pys l)=true/\PyData.depthAll (D.pys l)<=n
 | _,[],_=>⟨rfl,yaR _⟩
 | n,d::l,h=>by
  simp only [D.fits,yab] at h;obtain ⟨a,b⟩:=D.lay h.1;obtain ⟨c,e⟩:=D.lays h.2;exact ⟨by simp [D.pys,PyData.canLayAll0,a,c],by simp only [D.pys,PyData.depthAll];omega⟩
end
section
variable{X:Cx}{cl:Cf}{w:Wd}
def TopV.lstI{v:V}{ds:List D}(h:TopV cl w v (.lst ds)):∃a xs,v=.ref a/\w.H a=some (.lst xs)/\Shds cl w xs ds:=by
 cases h with
 | sh h=>cases h with
  | lst e k r=>exact ⟨_,_,rfl,e,r⟩
 | ow e t=>cases t with
  | lst r=>exact ⟨_,_,rfl,e,r⟩
def TopV.tupI{v:V}{ds:List D}(h:TopV cl w v (.tup ds)):∃a xs,v=.ref a/\w.H a=some (.tup xs)/\w.ow a=none/\Shds cl w xs ds:=by
 cases h with
 | sh h=>cases h with
  | tup e k r=>exact ⟨_,_,rfl,e,k,r⟩
 | ow e t=>cases t
def TopV.intI{v:V}{i:Int}(h:TopV cl w v (.int i)):v=.int i:=by
 cases h with
 | sh h=>cases h;rfl
 | ow e t=>cases t
def TopV.strI{v:V}{i:Str}(h:TopV cl w v (.str i)):v=.str i:=by
 cases h with
 | sh h=>cases h;rfl
 | ow e t=>cases t
def TopV.blI{v:V}{i:Bool}(h:TopV cl w v (.bl i)):v=.bl i:=by
 cases h with
 | sh h=>cases h;rfl
 | ow e t=>cases t
def TopV.nonI{v:V}(h:TopV cl w v .non):v=.non:=by
 cases h with
 | sh h=>cases h;rfl
 | ow e t=>cases t
def Shd.scrI{v:V}{l:List Int}(hK:X.K=cl.K)(h:Shd cl w v (.scr l)):∃a,v=.ref a/\SqL X.K w.H a (l.map V.int):=by
 cases h with
 | scr e k=>exact ⟨_,rfl,.inl (.inr ⟨_,e⟩)⟩
 | scrK h=>exact ⟨_,rfl,by rw [hK];exact h _⟩
theorem TopV.scrI{v:V}{l:List Int}(hK:X.K=cl.K)(h:TopV cl w v (.scr l)):∃a,v=.ref a/\SqL X.K w.H a (l.map V.int):=by
 cases h with
 | sh h=>exact h.scrI hK
 | ow e t=>cases t
def zf6{pins:Z3}{σ:St}{s:Shared}(I:Inv X pins σ w.H s)(hK:X.K=cl.K){v:V}{l:List Int}(h:Shd cl w v (.scr l)){u:Value}(r:zav v u):∃as,Reads s.heap u (D.scr l).py as:=by
  obtain ⟨a,rfl,hq⟩:=h.scrI hK;cases r;obtain ⟨its,rv,p,_⟩:=I.list hq;obtain ⟨o,ho,hc,n,hd⟩:=id p.isList
  have go:∀{l:List Int} {us:List Value},Vals (l.map V.int) us->∃as,ReadsAll s.heap us (l.map PyData.int) as:=by
   intro l
   induction l with
   | nil=>intro us h;cases h;exact ⟨_,.nil⟩
   | cons i l ih =>
    intro us h
    cases h with
    | cons h1 h2 =>
     obtain ⟨t,rfl⟩:=h1;obtain ⟨as,ra⟩:=ih h2;exact ⟨_,.cons (.int i t) ra⟩
  obtain ⟨as,ra⟩:=go rv;exact ⟨_,.list ho hc hd (by simpa using ra)⟩
mutual
theorem zoA{pins:Z3}{σ:St}{s:Shared}(I:Inv X pins σ w.H s)(hK:X.K=cl.K):∀{v:V} {d:D} {n:Nat},Shd cl w v d->d.fit n=true->∀{u:Value},zav v u->∃as,Reads s.heap u d.py as
 | _,_,_,.non,_,_,r=>by cases r;exact ⟨_,.none⟩
 | _,_,_,.bl b,_,_,r=>by cases r;exact ⟨_,.bool b⟩
 | _,_,_,.int i,_,_,r=>by obtain ⟨t,rfl⟩:=r;exact ⟨_,.int i t⟩
 | _,_,_,.str x,_,_,r=>by obtain ⟨t,rfl⟩:=r;exact ⟨_,.str x t⟩
 | _,_,0,.tup _ _ _,h,_,_=>by simp [D.fit] at h
 | _,_,0,.lst _ _ _,h,_,_=>by simp [D.fit] at h
 | _,_,n+1,.tup (a:=a) e _ rs,h,_,r=>by
  cases r;obtain ⟨its,rv,p,_⟩:=I.tuple (SqT.of (K:=X.K) e);obtain ⟨o,ho,hc,n,hd⟩:=id p;obtain ⟨as,ra⟩:=zcm I hK rs (by simpa [D.fit] using h) rv;exact ⟨_,.tuple ho hc hd (by simpa using ra)⟩
 | _,_,n+1,.lst (a:=a) e _ rs,h,_,r=>by
  cases r;obtain ⟨its,rv,p,_⟩:=I.list (SqL.of (K:=X.K) e);obtain ⟨o,ho,hc,n,hd⟩:=id p.isList;obtain ⟨as,ra⟩:=zcm I hK rs (by simpa [D.fit] using h) rv;exact ⟨_,.list ho hc hd (by simpa using ra)⟩
 | _,_,n,.scr e k,h,_,r=>zf6 I hK (.scr e k) r
 | _,_,n,.scrK e,h,_,r=>zf6 I hK (.scrK e) r
 | _,_,n,.dicK _ _ _,h,_,_=>by simp [D.fit] at h
 | _,_,n,.dicT _ _ _,h,_,_=>by simp [D.fit] at h
 | _,_,n,.ref _,h,_,_=>by simp [D.fit] at h
 | _,_,n,.exc _ _ _,h,_,_=>by simp [D.fit] at h
theorem zcm{pins:Z3}{σ:St}{s:Shared}(I:Inv X pins σ w.H s)(hK:X.K=cl.K):∀{vs:List V} {ds:List D} {n:Nat},Shds cl w vs ds->D.fits n ds=true->∀{us:List Value},Vals vs us->∃as,ReadsAll s.heap us (D.pys ds) as
 | _,_,_,.nil,_,_,r=>by cases r;exact ⟨_,.nil⟩
 | _,_,n,.cons h t,f,_,r=>by
  simp only [D.fits,yab] at f
  cases r with
  | cons r1 r2 =>
   obtain ⟨as,a⟩:=zoA I hK h f.1 r1;obtain ⟨bs,b⟩:=zcm I hK t f.2 r2;exact ⟨_,.cons a b⟩
end
def zeV{pins:Z3}{σ:St}{s:Shared}(I:Inv X pins σ w.H s)(hK:X.K=cl.K){v:V}{d:D}{n:Nat}(h:TopV cl w v d)(f:d.fit n=true){u:Value}(r:zav v u):∃as,Reads s.heap u d.py as:=by
 cases h with
 | sh h=>exact zoA I hK h f r
 | ow e t =>
  cases t with
  | lst rs =>
   cases n with
   | zero=>simp [D.fit] at f
   | succ n =>
    cases r;obtain ⟨its,rv,p,_⟩:=I.list (SqL.of (K:=X.K) e);obtain ⟨o,ho,hc,n,hd⟩:=id p.isList;obtain ⟨as,ra⟩:=zcm I hK rs (by simpa [D.fit] using f) rv;exact ⟨_,.list ho hc hd (by simpa using ra)⟩
  | dicK _=>simp [D.fit] at f
  | dicT _=>simp [D.fit] at f
noncomputable def zdU(d e:D):Bool:=d.py.eqv e.py
noncomputable def eqD(d e:D):Option D:=if d.fit 9&&e.fit 9 then some (.bl (zdU d e)) else none
noncomputable def neD(d e:D):Option D:=if d.fit 9&&e.fit 9 then some (.bl (!zdU d e)) else none
def zrA(hK:X.K=cl.K)(hu:X.A.units+64<cLine):OpD X cl (compareOp .Eq) eqD:=by
 intro pins s σ H x y v u Q I rx ry h;obtain ⟨w,d,e,r,rfl,hx,hy,hg,q⟩:=h;unfold eqD at hg;split at hg
 ·rename_i hf;cases hg;rw [yab] at hf;obtain ⟨as,ra⟩:=zeV I hK hx hf.1 rx;obtain ⟨bs,rb⟩:=zeV I hK hy hf.2 ry;obtain ⟨l1,d1⟩:=D.lay hf.1;obtain ⟨l2,d2⟩:=D.lay hf.2;exact SeqAt.compareEq_reads ra rb l1 l2 (by omega) ⟨.bl _,w.H,I,rfl,q _ w (Grow.refl _) (.bl _)⟩
 ·cases hg
def zry(hK:X.K=cl.K)(hu:X.A.units+64<cLine):OpD X cl (compareOp .NotEq) neD:=by
 intro pins s σ H x y v u Q I rx ry h;obtain ⟨w,d,e,r,rfl,hx,hy,hg,q⟩:=h;unfold neD at hg;split at hg
 ·rename_i hf;cases hg;rw [yab] at hf;obtain ⟨as,ra⟩:=zeV I hK hx hf.1 rx;obtain ⟨bs,rb⟩:=zeV I hK hy hf.2 ry;obtain ⟨l1,d1⟩:=D.lay hf.1;obtain ⟨l2,d2⟩:=D.lay hf.2;exact SeqAt.compareNe_reads ra rb l1 l2 (by omega) ⟨.bl _,w.H,I,rfl,q _ w (Grow.refl _) (.bl _)⟩
 ·cases hg
noncomputable def zhH:D->Option (List D) | .lst l=>some l | .tup l=>some l | _=>none
noncomputable def zhe(d:D)(l:List D):Bool:=l.any fun e=>zdU e d
noncomputable def inD(d e:D):Option D:=match zhH e with | some l=>if d.fit 8&&D.fits 8 l then some (.bl (zhe d l)) else none | none=>none
noncomputable def zmz(d e:D):Option D:=match zhH e with | some l=>if d.fit 8&&D.fits 8 l then some (.bl (!zhe d l)) else none | none=>none
def zcg{s:Shared}{its:List Value}{ds:List D}{as:List Addr}{d:D}(ra:ReadsAll s.heap its (D.pys ds) as)(f:D.fits 8 ds=true):(its.toArray.any fun y=>(SeqAt.readOf s.heap y).eqv d.py)=zhe d ds:=by
 rw [SeqAt.any_by_data (vs:=its.toArray) (xs:=D.pys ds) (as:=as) (by simpa using ra) (D.lays f).1]
 have:∀{l:List D},((D.pys l).any fun y=>y.eqv d.py)=zhe d l:=by
  intro l
  induction l with
  | nil=>rfl
  | cons e l ih =>
   show (e.py.eqv d.py||(D.pys l).any fun y=>y.eqv d.py)=(zdU e d||zhe d l);rw [ih];rfl
 exact this
theorem zbo{A:Around}{s:Shared}{x:Value}{d:D}{bs:List Addr}(hu:A.units+64<cLine)(rx:Reads s.heap x d.py bs)(fd:d.fit 8=true):∀{its:List Value} {ds:List D} {as:List Addr},ReadsAll s.heap its (D.pys ds) as->D.fits 8 ds=true->∀y,y∈its.toArray->SeqAt.EqAt A.in1 s y x ((SeqAt.readOf s.heap y).eqv d.py)
 | [],[],_,_,_,y,hy=>by simp at hy
 | [],_::_,_,h,_,_,_=>by cases h
 | _::_,[],_,h,_,_,_=>by cases h
 | v::its,e::ds,_,h,f,y,hy=>by
  simp only [D.fits,yab] at f
  cases h with
  | cons h1 h2 =>
   simp at hy
   rcases hy with rfl | hy
   ·rw [zfH (D.lay f.1).1 h1];refine SeqAt.eqAt_reads _ _ _ _ _ _ _ _ h1 rx (D.lay f.1).1 (D.lay fd).1 ?_;have:=(D.lay f.1).2;show A.units+1+_<cLine;omega
   ·exact zbo hu rx fd h2 f.2 y (by simpa using hy)
def zhG{e:D}{l:List D}(h:zhH e=some l):e=.lst l\/e=.tup l:=by
 cases e<;>simp [zhH] at h
 ·exact .inr (by rw [h])
 ·exact .inl (by rw [h])
def zrz(hK:X.K=cl.K)(hu:X.A.units+64<cLine):OpD X cl (compareOp .In) inD:=by
 intro pins s σ H x y v u Q I rx ry h;obtain ⟨w,d,e,r,rfl,hx,hy,hg,q⟩:=h;unfold inD at hg;split at hg
 ·rename_i l hl;split at hg
  ·rename_i hf;cases hg;rw [yab] at hf;obtain ⟨bs,rb⟩:=zeV I hK hx hf.1 rx
   rcases zhG hl with rfl | rfl
   ·obtain ⟨a,xs,rfl,e,rs⟩:=hy.lstI;cases ry;obtain ⟨its,rv,p,_⟩:=I.list (SqL.of (K:=X.K) e);obtain ⟨as,ra⟩:=zcm I hK rs hf.2 rv;refine SeqAt.in_listAt _ p.isList (zbo hu rb hf.1 ra hf.2) ?_;rw [zcg ra hf.2];exact ⟨.bl _,w.H,I,rfl,q _ w (Grow.refl _) (.bl _)⟩
   ·obtain ⟨a,xs,rfl,e,_,rs⟩:=hy.tupI;cases ry;obtain ⟨its,rv,p,_⟩:=I.tuple (SqT.of (K:=X.K) e);obtain ⟨as,ra⟩:=zcm I hK rs hf.2 rv;refine SeqAt.in_tupleAt _ p (zbo hu rb hf.1 ra hf.2) ?_;rw [zcg ra hf.2];exact ⟨.bl _,w.H,I,rfl,q _ w (Grow.refl _) (.bl _)⟩
  ·cases hg
 ·cases hg
def zo9(hK:X.K=cl.K)(hu:X.A.units+64<cLine):OpD X cl (compareOp .NotIn) zmz:=by
 intro pins s σ H x y v u Q I rx ry h;obtain ⟨w,d,e,r,rfl,hx,hy,hg,q⟩:=h;unfold zmz at hg;split at hg
 ·rename_i l hl;split at hg
  ·rename_i hf;cases hg;rw [yab] at hf;obtain ⟨bs,rb⟩:=zeV I hK hx hf.1 rx
   rcases zhG hl with rfl | rfl
   ·obtain ⟨a,xs,rfl,e,rs⟩:=hy.lstI;cases ry;obtain ⟨its,rv,p,_⟩:=I.list (SqL.of (K:=X.K) e);obtain ⟨as,ra⟩:=zcm I hK rs hf.2 rv;refine SeqAt.notIn_listAt _ p.isList (zbo hu rb hf.1 ra hf.2) ?_;rw [zcg ra hf.2];exact ⟨.bl _,w.H,I,rfl,q _ w (Grow.refl _) (.bl _)⟩
   ·obtain ⟨a,xs,rfl,e,_,rs⟩:=hy.tupI;cases ry;obtain ⟨its,rv,p,_⟩:=I.tuple (SqT.of (K:=X.K) e);obtain ⟨as,ra⟩:=zcm I hK rs hf.2 rv;refine SeqAt.notIn_tupleAt _ p (zbo hu rb hf.1 ra hf.2) ?_;rw [zcg ra hf.2];exact ⟨.bl _,w.H,I,rfl,q _ w (Grow.refl _) (.bl _)⟩
  ·cases hg
 ·cases hg
noncomputable def zch:D->D->Option D
 | .int i,.int j=>some (.int (i+j))
 | .tup a,.tup b=>if zaT (a.length+b.length) then some (.tup (a++b)) else none
 | .lst a,.lst b=>if zaT (a.length+b.length) then some (.lst (a++b)) else none
 | .str a,.str b=>if zaT (a.length+b.length) then some (.str (a++b)) else none
 | _,_=>none
def zpf:OpD X cl (binaryOp .Add) zch:=by
 intro pins s σ H x y v u Q I rx ry h;obtain ⟨w,d,e,r,rfl,hx,hy,hg,q⟩:=h;unfold zch at hg;split at hg
 ·cases hg;rename_i i j;obtain rfl:=hx.intI;obtain rfl:=hy.intI;exact zo5 pins s σ w.H _ _ v u Q I rx ry ⟨i,j,rfl,rfl,q _ w (Grow.refl _) (.int _)⟩
 ·rename_i a b;split at hg
  ·rename_i hz;cases hg;obtain ⟨p,xs,rfl,ep,kp,rs⟩:=hx.tupI;obtain ⟨p2,ys,rfl,ep2,kp2,rs2⟩:=hy.tupI
   by_cases hxe:xs=[]
   ·subst hxe;cases rs;exact zj2 pins s σ w.H _ _ v u Q I rx ry ⟨p,p2,ys,rfl,rfl,SqT.of ep,SqT.of ep2,q _ w (Grow.refl _) (.tup ep2 kp2 rs2)⟩
   ·refine zmt pins s σ w.H _ _ v u Q I rx ry ⟨p,p2,xs,ys,rfl,rfl,SqT.of ep,SqT.of ep2,hxe,by rw [rs.length,rs2.length];exact zaN hz,fun z=>?_,fun z l hl=>?_⟩
    ·subst z;cases rs2;rw [yaN] at q;exact q _ w (Grow.refl _) (.tup ep kp rs)
    ·exact q _ (w.add l _) (zam hl _) (Shd.newT hl (rs.append rs2))
  ·cases hg
 ·rename_i a b;split at hg
  ·rename_i hz;cases hg;obtain ⟨p,xs,rfl,ep,rs⟩:=hx.lstI;obtain ⟨p2,ys,rfl,ep2,rs2⟩:=hy.lstI;exact zo4 pins s σ w.H _ _ v u Q I rx ry ⟨p,p2,xs,ys,rfl,rfl,ep,ep2,by rw [rs.length,rs2.length];exact zaN hz,fun l hl=>q _ (w.add l _) (zam hl _) (Shd.newL hl (rs.append rs2))⟩
  ·cases hg
 ·rename_i a b;split at hg
  ·rename_i hz;cases hg;obtain rfl:=hx.strI;obtain rfl:=hy.strI;exact zgO pins s σ w.H _ _ v u Q I rx ry ⟨a,b,rfl,rfl,zaN hz,q _ w (Grow.refl _) (.str _)⟩
  ·cases hg
 ·cases hg
noncomputable def zqk:D->D->Option D | .int i,.int j=>some (.int (i-j)) | _,_=>none
def zo8:OpD X cl (binaryOp .Sub) zqk:=by
 intro pins s σ H x y v u Q I rx ry h;obtain ⟨w,d,e,r,rfl,hx,hy,hg,q⟩:=h;unfold zqk at hg;split at hg
 ·cases hg;rename_i i j;obtain rfl:=hx.intI;obtain rfl:=hy.intI;exact zo0 pins s σ w.H _ _ v u Q I rx ry ⟨i,j,rfl,rfl,q _ w (Grow.refl _) (.int _)⟩
 ·cases hg
noncomputable def zbx(i:Int):Bool:=decide (-(2 ^ 64)<i/\i<2 ^ 64)
noncomputable def zhd:D->D->Option D
 | .int i,.int j=>if zbx i||zbx j then some (.int (i*j)) else none
 | .tup a,.int j=>if decide (1<=j/\j<=1000/\a≠[]/\a.length<=1000) then some (.tup (List.replicate j.toNat a).flatten) else none
 | .lst a,.int j=>if decide (0<=j/\j<=1000/\a.length<=1000) then some (.lst (List.replicate j.toNat a).flatten) else none
 | _,_=>none
def zpa:OpD X cl (binaryOp .Mult) zhd:=by
 intro pins s σ H x y v u Q I rx ry h;obtain ⟨w,d,e,r,rfl,hx,hy,hg,q⟩:=h;unfold zhd at hg;split at hg
 ·rename_i i j;split at hg
  ·rename_i hz;cases hg;obtain rfl:=hx.intI;obtain rfl:=hy.intI;refine zo1 pins s σ w.H _ _ v u Q I rx ry ⟨i,j,rfl,rfl,?_,q _ w (Grow.refl _) (.int _)⟩;rw [yb2] at hz;exact hz.imp (fun z=>yap z) fun z=>yap z
  ·cases hg
 ·rename_i a j;split at hg
  ·rename_i hz;cases hg;have hz':=yap hz;obtain ⟨p,xs,rfl,ep,kp,rs⟩:=hx.tupI;obtain rfl:=hy.intI;have hl:=rs.length;obtain ⟨k,rfl⟩:∃k:Nat,j=(k:Int):=⟨j.toNat,by omega⟩;have hne:xs≠[]:=fun z=>hz'.2.2.1 (by cases a with | nil=>rfl | cons _ _=>rw [z] at hl;cases hl)
   by_cases hk:k=1
   ·subst hk;cases rx;obtain ⟨t,rfl⟩:=ry;obtain ⟨its,rv,⟨o,ho,hc,n,hd⟩,_⟩:=I.tuple (SqT.of (K:=X.K) ep);refine PySem.zka ho hc hd ⟨.ref p,w.H,I,rfl,q _ w (Grow.refl _) (.tup ep kp ?_)⟩;simpa using rs
   ·refine zmq pins s σ w.H _ _ v u Q I rx ry ⟨p,k,xs,rfl,rfl,SqT.of ep,hne,by omega,by omega,by omega,fun l hl=>q _ (w.add l _) (zam hl _) (Shd.newT hl (rs.flat _))⟩
  ·cases hg
 ·rename_i a j;split at hg
  ·rename_i hz;cases hg;have hz':=yap hz;obtain ⟨p,xs,rfl,ep,rs⟩:=hx.lstI;obtain rfl:=hy.intI;have hl:=rs.length;refine zk7 pins s σ w.H _ _ v u Q I rx ry ⟨p,j,xs,rfl,rfl,ep,by omega,by omega,?_,fun l hl=>q _ (w.add l _) (zam hl _) (Shd.newL hl (rs.flat _))⟩;refine yal (ybl (show xs.length<=1000 by omega) (show j.toNat<=1000 by omega)) (by decide)
  ·cases hg
 ·cases hg
noncomputable def zkb:D->D->Option D | .int i,.int j=>if 0<j then some (.int (i % j)) else none | _,_=>none
noncomputable def zpT:D->D->Option D | .int i,.int j=>if 0<j/\j<1073741824 then some (.int (i / j)) else none | _,_=>none
def zpb:OpD X cl (binaryOp .Mod) zkb:=by
 intro pins s σ H x y v u Q I rx ry h;obtain ⟨w,d,e,r,rfl,hx,hy,hg,q⟩:=h;unfold zkb at hg;split at hg
 ·rename_i i j;split at hg
  ·rename_i hz;cases hg;obtain rfl:=hx.intI;obtain rfl:=hy.intI;exact zo2 pins s σ w.H _ _ v u Q I rx ry ⟨i,j,rfl,rfl,hz,q _ w (Grow.refl _) (.int _)⟩
  ·cases hg
 ·cases hg
def zpe:OpD X cl (binaryOp .FloorDiv) zpT:=by
 intro pins s σ H x y v u Q I rx ry h;obtain ⟨w,d,e,r,rfl,hx,hy,hg,q⟩:=h;unfold zpT at hg;split at hg
 ·rename_i i j;split at hg
  ·rename_i hz;cases hg;obtain rfl:=hx.intI;obtain rfl:=hy.intI;exact zms pins s σ w.H _ _ v u Q I rx ry ⟨i,j,rfl,rfl,hz,q _ w (Grow.refl _) (.int _)⟩
  ·cases hg
 ·cases hg
noncomputable def znz:D->Option D | .int i=>some (.int (-i)) | _=>none
def znI:UnD X cl (unaryOp .USub) znz:=by
 intro pins s σ H x v Q I rx h;obtain ⟨w,d,r,rfl,hx,hg,q⟩:=h;unfold znz at hg;split at hg
 ·cases hg;rename_i i;obtain rfl:=hx.intI;exact znH pins s σ w.H _ v Q I rx ⟨i,rfl,q _ w (Grow.refl _) (.int _)⟩
 ·cases hg
noncomputable def znD(p:Int->Int->Bool):D->D->Option D | .int i,.int j=>some (.bl (p i j)) | _,_=>none
def zep{op:CmpOp}{p:Int->Int->Bool}(ho:OpR X (compareOp op) (rI0 fun i j=>.bl (p i j))):OpD X cl (compareOp op) (znD p):=by
 intro pins s σ H x y v u Q I rx ry h;obtain ⟨w,d,e,r,rfl,hx,hy,hg,q⟩:=h;unfold znD at hg;split at hg
 ·cases hg;rename_i i j;obtain rfl:=hx.intI;obtain rfl:=hy.intI;exact ho pins s σ w.H _ _ v u Q I rx ry ⟨i,j,rfl,rfl,q _ w (Grow.refl _) (.bl _)⟩
 ·cases hg
noncomputable def zbY:D->Bool | .non=>true | _=>false
noncomputable def zqv(d e:D):Option D:=if zbY e then some (.bl (zbY d)) else none
noncomputable def zgP(d e:D):Option D:=if zbY e then some (.bl (!zbY d)) else none
def TopV.non_iff{v:V}{d:D}(h:TopV cl w v d):decide (v=.non)=zbY d:=by
 cases h with
 | sh h=>cases h<;>simp [zbY]
 | ow e t=>cases t<;>simp [zbY]
def zfb{d:D}(h:zbY d=true):d=.non:=by cases d<;>simp [zbY] at h;rfl
def zpc:OpD X cl (compareOp .Is) zqv:=by
 intro pins s σ H x y v u Q I rx ry h;obtain ⟨w,d,e,r,rfl,hx,hy,hg,q⟩:=h;unfold zqv at hg;split at hg
 ·rename_i hz;cases hg;rw [zfb hz] at hy;obtain rfl:=hy.nonI;refine zo3 pins s σ w.H _ _ v u Q I rx ry ⟨rfl,?_⟩;rw [hx.non_iff];exact q _ w (Grow.refl _) (.bl _)
 ·cases hg
def zmx:OpD X cl (compareOp .IsNot) zgP:=by
 intro pins s σ H x y v u Q I rx ry h;obtain ⟨w,d,e,r,rfl,hx,hy,hg,q⟩:=h;unfold zgP at hg;split at hg
 ·rename_i hz;cases hg;rw [zfb hz] at hy;obtain rfl:=hy.nonI;refine zmr pins s σ w.H _ _ v u Q I rx ry ⟨rfl,?_⟩;rw [hx.non_iff];exact q _ w (Grow.refl _) (.bl _)
 ·cases hg
noncomputable def zj5:D->D->Option D | .bl a,.bl b=>some (.bl (!decide (a=b))) | _,_=>none
def zmy:OpD X cl (compareOp .IsNot) zj5:=by
 intro pins s σ H x y v u Q I rx ry h;obtain ⟨w,d,e,r,rfl,hx,hy,hg,q⟩:=h;unfold zj5 at hg;split at hg
 ·cases hg;obtain rfl:=hx.blI;obtain rfl:=hy.blI;exact zfI pins s σ w.H _ _ v u Q I rx ry ⟨_,_,rfl,rfl,q _ w (Grow.refl _) (.bl _)⟩
 ·cases hg
noncomputable def ixD:D->D->Option D
 | .lst l,.int i=>atI l i
 | .tup l,.int i=>atI l i
 | .scr l,.int i=>(atI l i).map D.int
 | _,_=>none
def zf4{xs:List V}{ds:List D}(r:Shds cl w xs ds){i:Int}{d:D}(h:atI ds i=some d):∃v,atI xs i=some v/\Shd cl w v d:=by
 unfold atI at h ⊢;rw [r.length]
 cases e:ixN ds.length i with
 | none=>rw [e] at h;cases h
 | some j =>
  rw [e] at h;exact r.at h
def zrW(hK:X.K=cl.K):IxD X cl ixD:=by
 intro value slice pins s σ H x y v u Q I rx ry h hsub;obtain ⟨w,d,e,r,rfl,hx,hy,hg,q⟩:=h;unfold ixD at hg;split at hg
 ·rename_i l i;obtain ⟨p,xs,rfl,ep,rs⟩:=hx.lstI;obtain rfl:=hy.intI;obtain ⟨z,e1,e2⟩:=zf4 rs hg;exact ziA value slice pins s σ w.H _ _ v u Q I rx ry ⟨p,xs,i,z,rfl,rfl,SqL.of ep,e1,q _ w (Grow.refl _) e2⟩ hsub
 ·rename_i l i;obtain ⟨p,xs,rfl,ep,_,rs⟩:=hx.tupI;obtain rfl:=hy.intI;obtain ⟨z,e1,e2⟩:=zf4 rs hg;exact zpB value slice pins s σ w.H _ _ v u Q I rx ry ⟨p,xs,i,z,rfl,rfl,SqT.of ep,e1,q _ w (Grow.refl _) e2⟩ hsub
 ·rename_i l i;obtain ⟨p,rfl,ep⟩:=hx.scrI hK;obtain rfl:=hy.intI
  cases hl:atI l i with
  | none=>rw [hl] at hg;cases hg
  | some k =>
   rw [hl] at hg;cases hg
   have e1:atI (l.map V.int) i=some (.int k):=by
    unfold atI at hl ⊢;rw [yak]
    cases e:ixN l.length i with
    | none=>rw [e] at hl;cases hl
    | some j =>
     rw [e] at hl;have hl':l[j]?=some k:=hl;show (l.map V.int)[j]?=_;rw [yax,hl'];rfl
   exact ziA value slice pins s σ w.H _ _ v u Q I rx ry ⟨p,_,i,_,rfl,rfl,ep,e1,q _ w (Grow.refl _) (.int _)⟩ hsub
 ·cases hg
noncomputable def ze7:List D->Option D
 | [.lst l]=>some (.int l.length)
 | [.tup l]=>some (.int l.length)
 | [.scr l]=>some (.int l.length)
 | [.str x]=>if zaT x.length then some (.int x.length) else none
 | _=>none
def zp0(hK:X.K=cl.K):zjk X cl (.builtin "len") ze7:=by
 intro pins s σ H xs us Q I r h;obtain ⟨w,ds,d,rfl,hx,hg,q⟩:=h;unfold ze7 at hg;split at hg
 ·rename_i l;cases hg
  cases hx with
  | cons h1 h2 =>
   cases h2;obtain ⟨p,ys,rfl,ep,rs⟩:=h1.lstI;refine zb5 pins s σ w.H _ us Q I r ⟨p,ys,rfl,.inl (SqL.of ep),?_⟩;rw [rs.length];exact q _ w (Grow.refl _) (.int _)
 ·rename_i l;cases hg
  cases hx with
  | cons h1 h2 =>
   cases h2;obtain ⟨p,ys,rfl,ep,_,rs⟩:=h1.tupI;refine zb5 pins s σ w.H _ us Q I r ⟨p,ys,rfl,.inr (SqT.of ep),?_⟩;rw [rs.length];exact q _ w (Grow.refl _) (.int _)
 ·rename_i l;cases hg
  cases hx with
  | cons h1 h2 =>
   cases h2;obtain ⟨p,rfl,ep⟩:=h1.scrI hK;refine zb5 pins s σ w.H _ us Q I r ⟨p,l.map V.int,rfl,.inl ep,?_⟩;rw [yak];exact q _ w (Grow.refl _) (.int _)
 ·rename_i x;split at hg
  ·rename_i hz;cases hg
   cases hx with
   | cons h1 h2 =>
    cases h2;obtain rfl:=h1.strI;exact zfk pins s σ w.H _ us Q I r ⟨x,rfl,zaN hz,q _ w (Grow.refl _) (.int _)⟩
  ·cases hg
 ·cases hg
noncomputable def zcF:List D->Option D
 | [.lst l]=>some (.tup l)
 | [.tup l]=>some (.tup l)
 | _=>none
def zkH:zjk X cl (.type "tuple") zcF:=by
 intro pins s σ H xs us Q I r h;obtain ⟨w,ds,d,rfl,hx,hg,q⟩:=h;unfold zcF at hg;split at hg
 ·rename_i l;cases hg
  cases hx with
  | cons h1 h2 =>
   cases h2;obtain ⟨p,ys,rfl,ep,rs⟩:=h1.lstI;exact zcW pins s σ w.H _ us Q I r ⟨p,ys,rfl,.inl ⟨SqL.of ep,fun l hl=>q _ (w.add l _) (zam hl _) (Shd.newT hl rs)⟩⟩
 ·rename_i l;cases hg
  cases hx with
  | cons h1 h2 =>
   cases h2;obtain ⟨p,ys,rfl,ep,kp,rs⟩:=h1.tupI;exact zcW pins s σ w.H _ us Q I r ⟨p,ys,rfl,.inr ⟨SqT.of ep,q _ w (Grow.refl _) (.tup ep kp rs)⟩⟩
 ·cases hg
noncomputable def zg9:List D->Option (List Bool)
 | []=>some []
 | .bl b::l=>(zg9 l).map (b::·)
 | _=>none
def zkM{bs:List Bool}{ds:List D}:∀{xs:List V},Shds cl w xs ds->zg9 ds=some bs->xs=bs.map V.bl:=by
 induction ds generalizing bs with
 | nil=>intro xs r h;cases r;cases h;rfl
 | cons d ds ih =>
  intro xs r e
  cases r with
  | cons h t =>
   cases d with
   | bl b =>
    cases h;unfold zg9 at e
    cases hr:zg9 ds with
    | none=>rw [hr] at e;cases e
    | some cs=>rw [hr] at e;cases e;rw [ih t hr];rfl
   | _=>cases e
noncomputable def zss:List D->Option D
 | [.lst l]=>(zg9 l).map fun bs=>.bl (bs.all id)
 | _=>none
def zp1(hc:X.calm=true):zjk X cl (.builtin "all") zss:=by
 intro pins s σ H xs us Q I r h;obtain ⟨w,ds,d,rfl,hx,hg,q⟩:=h;unfold zss at hg;split at hg
 ·rename_i l
  cases hb:zg9 l with
  | none=>rw [hb] at hg;cases hg
  | some bs =>
   rw [hb] at hg;cases hg
   cases hx with
   | cons h1 h2 =>
    cases h2;obtain ⟨p,ys,rfl,ep,rs⟩:=h1.lstI;obtain rfl:=zkM rs hb;exact zfU hc pins s σ w.H _ us Q I r ⟨p,bs,rfl,SqL.of ep,q _ w (Grow.refl _) (.bl _)⟩
 ·cases hg
noncomputable def zco:List D->Option (List Int)
 | []=>some []
 | .int b::l=>(zco l).map (b::·)
 | _=>none
def ziH{bs:List Int}{ds:List D}:∀{xs:List V},Shds cl w xs ds->zco ds=some bs->xs=bs.map V.int:=by
 induction ds generalizing bs with
 | nil=>intro xs r h;cases r;cases h;rfl
 | cons d ds ih =>
  intro xs r e
  cases r with
  | cons h t =>
   cases d with
   | int b =>
    cases h;unfold zco at e
    cases hr:zco ds with
    | none=>rw [hr] at e;cases e
    | some cs=>rw [hr] at e;cases e;rw [ih t hr];rfl
   | _=>cases e
end
end S2
namespace L2
open PySem PySem.Spec PyProof.Rows
section
variable{X:Cx}{e st:Expr}{te ts:TE}{pos p2:Pos}
end
end L2
namespace S2
open PySem PySem.Spec PyProof.Rows L2
noncomputable def zb2(g g':D->D->Option D)(f h k:Fe):Fe:=fun ρ S=>(f ρ S).bind fun a S1=>(h ρ S1).bind fun b S2=>match (g a b).bind isB with
 | some true=>(k ρ S2).bind fun c S3=>Out.of (g' b c) S3
 | some false=>.ok (.bl false) S2
 | none=>.bad
section
variable{X:Cx}{cl:Cf}{E:St->XK}{a b c e:Expr}{f h k:Fe}{pos:Pos}
def zf2{g g':D->D->Option D}{r r':R2}(hr:∀x y H Q,(∃w d e r,w.H=H/\TopV cl w x d/\TopV cl w y e/\g d e=some r/\∀v w',Grow w w'->Shd cl w' v r->Q v w'.H)->r x y H Q)
  (hr':∀x y H Q,(∃w d e r,w.H=H/\TopV cl w x d/\TopV cl w y e/\g' d e=some r/\∀v w',Grow w w'->Shd cl w' v r->Q v w'.H)->r' x y H Q) {σ:St} {H:Hp} {Q:VK} (q:tE cl E (zb2 g g' f h k) σ H Q):zhw r r' (tH cl E f) (tH cl E h) (tH cl E k) σ H Q:=by
 obtain ⟨B,w,ρ,S,rfl,R,q⟩:=q;refine ⟨B,w,ρ,S,rfl,R,?_⟩;unfold zb2 at q
 cases hf:f ρ S with
 | bad=>rwa [hf] at q
 | exc c S1=>rwa [hf] at q
 | ok d S1 =>
  rw [hf] at q;intro v w1 R1 F1 h1;refine ⟨B,w1,ρ,S1,rfl,R1,?_⟩;dsimp only [Out.bind] at q
  cases hh:h ρ S1 with
  | bad=>rwa [hh] at q
  | exc c S2=>rw [hh] at q;exact fun w2 R2 F2=>q w2 R2 (F1.trans F2)
  | ok e S2 =>
   rw [hh] at q;intro y w2 R2 F2 h2;dsimp only at q
   cases hg:g d e with
   | none=>rw [hg] at q;exact q.elim
   | some z =>
    rw [hg] at q;dsimp only [Option.bind] at q
    cases hb:isB z with
    | none=>rw [hb] at q;exact q.elim
    | some bb =>
     rw [hb] at q;rw [zcc hb] at hg;refine hr _ _ _ _ ⟨w2,d,e,_,rfl,(h1.up F2).top R2,h2.top R2,hg,fun v' w3 gr sh=>⟨bb,zeR sh,?_⟩⟩;have R3:=R2.grow gr
     cases bb with
     | false=>exact zli (q _ w3 R3 (F1.trans (F2.trans gr.fut)) (.bl _))
     | true =>
      refine zlh ⟨B,w3,ρ,S2,rfl,R3,?_⟩;dsimp only at q
      cases hk:k ρ S2 with
      | bad=>rwa [hk] at q
      | exc c S3=>rw [hk] at q;exact fun w4 R4 F4=>q w4 R4 (F1.trans (F2.trans (gr.fut.trans F4)))
      | ok c S3 =>
       rw [hk] at q;intro z' w4 R4 F4 h4;dsimp only at q
       cases hg':g' e c with
       | none=>rw [hg'] at q;exact q.elim
       | some r2 =>
        rw [hg'] at q;exact hr' _ _ _ _ ⟨w4,e,c,r2,rfl,(h2.up (gr.fut.trans F4)).top R4,h4.top R4,hg',fun v' w5 gr5 sh5=>q v' w5 (R4.grow gr5) (F1.trans (F2.trans (gr.fut.trans (F4.trans gr5.fut)))) sh5⟩
def zjA{op op':CmpOp}{g g':D->D->Option D}(ho:OpD X cl (compareOp op) g)(ho':OpD X cl (compareOp op') g')(ha:PE X a (tH cl E f))(hb:PE X b (tH cl E h))(hc:PE X c (tH cl E k))(hm:lastMarks [op,op'] [b,c]=false):PE X (.Compare a [op,op'] [b,c] pos) (tE cl E (zb2 g g' f h k)) :=
 PE.imp (zjW ho ho' ha hb hc hm) fun _ _ _ q=>zf2 (fun _ _ _ _ z=>z) (fun _ _ _ _ z=>z) q
def zjw{op op':CmpOp}{g g':D->D->Option D}(ho:OpD X cl (compareOp op) g)(ho':OpD X cl (compareOp op') g')(ha:PE X a (tH cl E f))(hb:PE X b (tH cl E h))(hc:PE X c (tH cl E k))(hm:lastMarks [op,op'] [b,c]=false):PT X (.Compare a [op,op'] [b,c] pos) (tTr cl E (zb2 g g' f h k)) :=
 PT.imp (zjH ho ho' ha hb hc hm) fun _ _ _ q=>zf2 (fun _ _ _ _ z=>z) (fun _ _ _ _ z=>z) (zf1 q)
noncomputable def zdV{α:Type}(l:List α)(lo hi:Option Int):List α:=(l.drop (HT.sIx l.length 0 lo)).take (HT.sIx l.length l.length hi-HT.sIx l.length 0 lo)
noncomputable def slD(d:D)(lo hi:Option Int):Option D:=match d with
 | .lst l=>some (.lst (zdV l lo hi))
 | .tup l=>some (.tup (zdV l lo hi))
 | _=>none
noncomputable def zbR(o:Option Fe)(ρ:Env)(S:Sto):Out (Option Int):=match o with
 | none=>.ok none S
 | some f=>(f ρ S).bind fun d S1=>match d with | .int i=>.ok (some i) S1 | _=>.bad
noncomputable def eSl(f:Fe)(lo hi:Option Fe):Fe:=fun ρ S=>(f ρ S).bind fun d S1=>(zbR lo ρ S1).bind fun l S2=>(zbR hi ρ S2).bind fun u S3=>Out.of (slD d l u) S3
def zfg{w:Wd}{xs:List V}{ds:List D}(r:Shds cl w xs ds)(lo hi:Option Int):Shds cl w (zlr xs lo hi) (zdV ds lo hi):=by
 unfold zlr zdV;rw [r.length];exact (r.drop _).take _
noncomputable def SlD(X:Cx)(cl:Cf):Prop:=SlR X fun x lo hi H Q=>∃w d r,w.H=H/\TopV cl w x d/\slD d lo hi=some r/\∀v w',Grow w w'->Shd cl w' v r->Q v w'.H
def zrj:SlD X cl:=by
 intro pins s σ H x v vl vu lo hi sl Q I rx hs pl pu h;obtain ⟨w,d,r,rfl,hx,hg,q⟩:=h;unfold slD at hg;split at hg
 ·rename_i l;cases hg;obtain ⟨p,xs,rfl,ep,rs⟩:=hx.lstI;exact zlS pins s σ w.H _ v vl vu lo hi sl Q I rx hs pl pu ⟨p,xs,rfl,SqL.of ep,fun p' hp=>q _ (w.add p' _) (zam hp _) (Shd.newL hp (zfg rs lo hi))⟩
 ·rename_i l;cases hg;obtain ⟨p,xs,rfl,ep,kp,rs⟩:=hx.tupI
  by_cases hw:HT.sIx xs.length 0 lo=0/\HT.sIx xs.length xs.length hi=xs.length
  ·refine zgI pins s σ w.H _ v vl vu lo hi sl Q I rx hs pl pu ⟨p,xs,rfl,SqT.of ep,hw.1,hw.2,q _ w (Grow.refl _) (.tup ep kp ?_)⟩
   have:zdV l lo hi=l:=by
    unfold zdV;rw [<-rs.length,hw.1,hw.2,List.drop_zero,Nat.sub_zero,yb7 (by rw [rs.length];exact yaf _)]
   rw [this];exact rs
  ·exact zob pins s σ w.H _ v vl vu lo hi sl Q I rx hs pl pu ⟨p,xs,rfl,SqT.of ep,hw,fun p' hp=>q _ (w.add p' _) (zam hp _) (Shd.newT hp (zfg rs lo hi))⟩
 ·cases hg
noncomputable def zqi(cl:Cf)(E:St->XK)(o:Option Fe):TO:=match o with | none=>zhv | some f=>znO (tH cl E f)
def zok{lo hi:Option Expr}{fl fh:Option Fe}{p2:Pos}(he:PE X e (tH cl E f))(hl:PO X lo (zqi cl E fl))(hu:PO X hi (zqi cl E fh)):PE X (.Subscript e (.Slice lo hi none p2) pos) (tE cl E (eSl f fl fh)):=by
 refine PE.imp (zjO (zrj (cl:=cl)) he hl hu) ?_;rintro σ H Q ⟨B,w,ρ,S,rfl,R,q⟩;refine ⟨B,w,ρ,S,rfl,R,?_⟩;unfold eSl at q
 cases hf:f ρ S with
 | bad=>rwa [hf] at q
 | exc c S1=>rwa [hf] at q
 | ok d S1 =>
  rw [hf] at q;intro v w1 R1 F1 h1;dsimp only [Out.bind] at q
  have last:∀(l u:Option Int) (w3:Wd) (S3:Sto),Rel cl B σ w3 ρ S3->Fut w1 w3->(match Out.of (slD d l u) S3 with
    | .ok d S'=>∀v w',Rel cl B σ w' ρ S'->Fut w w'->Shd cl w' v d->Q v w'.H
    | .exc c S'=>∀w',Rel cl B σ w' ρ S'->Fut w w'->E σ (.ref (cl c)) none w'.H
    | .bad=>False)->∃w d r,w.H=w3.H/\TopV cl w v d/\slD d l u=some r/\∀v w',Grow w w'->Shd cl w' v r->Q v w'.H:=by
   intro l u w3 S3 R3 F3 q3
   cases hg:slD d l u with
   | none=>rw [hg] at q3;exact q3.elim
   | some r =>
    rw [hg] at q3;exact ⟨w3,d,r,rfl,(h1.up F3).top R3,hg,fun v' w' gr sh=>q3 v' w' (R3.grow gr) (F1.trans (F3.trans gr.fut)) sh⟩
  have second:∀(l:Option Int) (w2:Wd) (S2:Sto),Rel cl B σ w2 ρ S2->Fut w1 w2->(match (zbR fh ρ S2).bind fun u S3=>Out.of (slD d l u) S3 with
    | .ok d S'=>∀v w',Rel cl B σ w' ρ S'->Fut w w'->Shd cl w' v d->Q v w'.H
    | .exc c S'=>∀w',Rel cl B σ w' ρ S'->Fut w w'->E σ (.ref (cl c)) none w'.H
    | .bad=>False)->zqi cl E fh σ w2.H fun u H3=>∃w d r,w.H=H3/\TopV cl w v d/\slD d l u=some r/\∀v w',Grow w w'->Shd cl w' v r->Q v w'.H:=by
   intro l w2 S2 R2 F2 q2
   cases fh with
   | none=>exact last l none w2 S2 R2 F2 q2
   | some fh =>
    refine ⟨B,w2,ρ,S2,rfl,R2,?_⟩;unfold zbR at q2;dsimp only at q2
    cases hh:fh ρ S2 with
    | bad=>rwa [hh] at q2
    | exc c S3=>rw [hh] at q2;exact fun w3 R3 F3=>q2 w3 R3 (F1.trans (F2.trans F3))
    | ok dh S3 =>
     rw [hh] at q2;intro y w3 R3 F3 h3;dsimp only [Out.bind] at q2
     cases dh with
     | int i =>
      refine ⟨i,(h3.top R3).intI,?_⟩;exact last l (some i) w3 S3 R3 (F2.trans F3) q2
     | _=>exact q2.elim
  cases fl with
  | none=>exact second none w1 S1 R1 (Fut.refl _) q
  | some fl =>
   refine ⟨B,w1,ρ,S1,rfl,R1,?_⟩;unfold zbR at q;dsimp only at q
   cases hh:fl ρ S1 with
   | bad=>rwa [hh] at q
   | exc c S3=>rw [hh] at q;exact fun w3 R3 F3=>q w3 R3 (F1.trans F3)
   | ok dl S2 =>
    rw [hh] at q;intro y w2 R2 F2 h2;dsimp only [Out.bind] at q
    cases dl with
    | int i =>
     refine ⟨i,(h2.top R2).intI,?_⟩;exact second (some i) w2 S2 R2 F2 q
    | _=>exact q.elim
noncomputable def zdG(T:String)(d:D):Option D :=
 if T = "int" then (match d with | .int _=>some (.bl true) | .bl _=>some (.bl true) | .non=>some (.bl false) | .str _=>some (.bl false) | .tup _=>some (.bl false) | .lst _=>some (.bl false) | _=>none)
 else if T = "bool" then (match d with | .int _=>some (.bl false) | .bl _=>some (.bl true) | .non=>some (.bl false) | .str _=>some (.bl false) | .tup _=>some (.bl false) | .lst _=>some (.bl false) | _=>none)
 else if T = "tuple" then (match d with | .int _=>some (.bl false) | .bl _=>some (.bl false) | .non=>some (.bl false) | .str _=>some (.bl false) | .tup _=>some (.bl true) | .lst _=>some (.bl false) | _=>none)
 else if T = "str" then (match d with | .int _=>some (.bl false) | .bl _=>some (.bl false) | .non=>some (.bl false) | .str _=>some (.bl true) | .tup _=>some (.bl false) | .lst _=>some (.bl false) | _=>none)
 else if T = "list" then (match d with | .int _=>some (.bl false) | .bl _=>some (.bl false) | .non=>some (.bl false) | .str _=>some (.bl false) | .tup _=>some (.bl false) | .lst _=>some (.bl true) | _=>none)
 else none
def zmV{K:PySem.W.Frag}{w:Wd}{v:V}{d r:D}{T:String}(h:TopV cl w v d)(hg:zdG T d=some r):∃t b,TyOf K w.H v t/\PySem.W.kitOne K t (.type T)=some b/\r=.bl b:=by
 unfold zdG at hg;split at hg
 ·rename_i hT;subst hT
  split at hg<;>cases hg
  ·obtain rfl:=h.intI;exact ⟨_,_,.int _,by with_unfolding_all rfl,rfl⟩
  ·obtain rfl:=h.blI;exact ⟨_,_,.bl _,by with_unfolding_all rfl,rfl⟩
  ·obtain rfl:=h.nonI;exact ⟨_,_,.non,by with_unfolding_all rfl,rfl⟩
  ·obtain rfl:=h.strI;exact ⟨_,_,.str _,by with_unfolding_all rfl,rfl⟩
  ·obtain ⟨_,_,rfl,e,_⟩:=h.tupI;exact ⟨_,_,.tup e,by with_unfolding_all rfl,rfl⟩
  ·obtain ⟨_,_,rfl,e,_⟩:=h.lstI;exact ⟨_,_,.lst e,by with_unfolding_all rfl,rfl⟩
 split at hg
 ·rename_i hT;subst hT
  split at hg<;>cases hg
  ·obtain rfl:=h.intI;exact ⟨_,_,.int _,by with_unfolding_all rfl,rfl⟩
  ·obtain rfl:=h.blI;exact ⟨_,_,.bl _,by with_unfolding_all rfl,rfl⟩
  ·obtain rfl:=h.nonI;exact ⟨_,_,.non,by with_unfolding_all rfl,rfl⟩
  ·obtain rfl:=h.strI;exact ⟨_,_,.str _,by with_unfolding_all rfl,rfl⟩
  ·obtain ⟨_,_,rfl,e,_⟩:=h.tupI;exact ⟨_,_,.tup e,by with_unfolding_all rfl,rfl⟩
  ·obtain ⟨_,_,rfl,e,_⟩:=h.lstI;exact ⟨_,_,.lst e,by with_unfolding_all rfl,rfl⟩
 split at hg
 ·rename_i hT;subst hT
  split at hg<;>cases hg
  ·obtain rfl:=h.intI;exact ⟨_,_,.int _,by with_unfolding_all rfl,rfl⟩
  ·obtain rfl:=h.blI;exact ⟨_,_,.bl _,by with_unfolding_all rfl,rfl⟩
  ·obtain rfl:=h.nonI;exact ⟨_,_,.non,by with_unfolding_all rfl,rfl⟩
  ·obtain rfl:=h.strI;exact ⟨_,_,.str _,by with_unfolding_all rfl,rfl⟩
  ·obtain ⟨_,_,rfl,e,_⟩:=h.tupI;exact ⟨_,_,.tup e,by with_unfolding_all rfl,rfl⟩
  ·obtain ⟨_,_,rfl,e,_⟩:=h.lstI;exact ⟨_,_,.lst e,by with_unfolding_all rfl,rfl⟩
 split at hg
 ·rename_i hT;subst hT
  split at hg<;>cases hg
  ·obtain rfl:=h.intI;exact ⟨_,_,.int _,by with_unfolding_all rfl,rfl⟩
  ·obtain rfl:=h.blI;exact ⟨_,_,.bl _,by with_unfolding_all rfl,rfl⟩
  ·obtain rfl:=h.nonI;exact ⟨_,_,.non,by with_unfolding_all rfl,rfl⟩
  ·obtain rfl:=h.strI;exact ⟨_,_,.str _,by with_unfolding_all rfl,rfl⟩
  ·obtain ⟨_,_,rfl,e,_⟩:=h.tupI;exact ⟨_,_,.tup e,by with_unfolding_all rfl,rfl⟩
  ·obtain ⟨_,_,rfl,e,_⟩:=h.lstI;exact ⟨_,_,.lst e,by with_unfolding_all rfl,rfl⟩
 split at hg
 ·rename_i hT;subst hT
  split at hg<;>cases hg
  ·obtain rfl:=h.intI;exact ⟨_,_,.int _,by with_unfolding_all rfl,rfl⟩
  ·obtain rfl:=h.blI;exact ⟨_,_,.bl _,by with_unfolding_all rfl,rfl⟩
  ·obtain rfl:=h.nonI;exact ⟨_,_,.non,by with_unfolding_all rfl,rfl⟩
  ·obtain rfl:=h.strI;exact ⟨_,_,.str _,by with_unfolding_all rfl,rfl⟩
  ·obtain ⟨_,_,rfl,e,_⟩:=h.tupI;exact ⟨_,_,.tup e,by with_unfolding_all rfl,rfl⟩
  ·obtain ⟨_,_,rfl,e,_⟩:=h.lstI;exact ⟨_,_,.lst e,by with_unfolding_all rfl,rfl⟩
 ·cases hg
def zi6:bootBuiltins "isinstance" = some (.builtin "isinstance"):=by decide +kernel
def zl2{T:String}{x:Str}{p p2:Pos}(hg:Gl X "isinstance")(hm:X.mg "isinstance" = none)(hgT:Gl X x)(hmT:X.mg x=none)(hvT:bootBuiltins x=some (.type T))(hn:x ≠ "__name__")(hdb:(x == ("__debug__":Str))=false)(hp:zbe e=true)(he:PE X e (tH cl E f)) :
  PE X (.Call (.Name "isinstance" p) [e,.Name x p2] [] pos) (tE cl E (eUn (zdG T) f)):=by
 refine PE.imp (zdm zfT hg hm zi6 (zbI he (zbI (zmp (v:=.ty T) hgT hmT hvT rfl hn hdb) zdw rfl) (zaP hp)) (he:=zaP hp) (hpl:=rfl)) ?_;rintro σ H Q ⟨B,w,ρ,S,rfl,R,q⟩;refine ⟨B,w,ρ,S,rfl,R,?_⟩;unfold eUn at q
 cases hf:f ρ S with
 | bad=>rwa [hf] at q
 | exc c S1=>rwa [hf] at q
 | ok d S1 =>
  rw [hf] at q;intro v w1 R1 F1 h1;dsimp only [Out.bind] at q
  cases hg:zdG T d with
  | none=>rw [hg] at q;exact q.elim
  | some r =>
   rw [hg] at q;obtain ⟨t,b,h2,h3,rfl⟩:=zmV (K:=X.K) (h1.top R1) hg;exact ⟨v,t,T,b,rfl,h2,h3,q _ w1 R1 F1 (.bl _)⟩
noncomputable def zbs(f:Fe):Fi:=fun ρ S=>(f ρ S).bind fun d S1=>match d with | .lst l=>.ok l S1 | .tup l=>.ok l S1 | _=>.bad
def zoe{tg:Expr}(hK:X.K=cl.K)(he:PE X e (tE cl E f)):PI X tg e (tI cl E (zbs f)):=by
 intro pins s σ H R' I q;obtain ⟨B,w,ρ,S,rfl,R,q⟩:=q;unfold zbs at q
 cases hf:f ρ S with
 | bad=>rw [hf] at q;exact q.elim
 | exc c S1 =>
  refine zhE he pins s σ w.H R' I ⟨B,w,ρ,S,rfl,R,?_⟩;unfold zgq;rw [hf] at q ⊢;exact q
 | ok d S1 =>
  rw [hf] at q;dsimp only [Out.bind] at q
  cases d with
  | lst l =>
   refine zhE he pins s σ w.H R' I ⟨B,w,ρ,S,rfl,R,?_⟩;unfold zgq;rw [hf];exact q
  | tup l =>
   refine zoc he pins s σ w.H R' I ⟨B,w,ρ,S,rfl,R,?_⟩;unfold zfR;rw [hf];exact q
  | _=>exact q.elim
end
end S2
namespace PySem.F
end PySem.F
namespace L2
open PySem PySem.Spec PyProof.Rows
section
variable{prog:Program}{w:World}{A:Around}{E:Z5}{s:Shared}
end
section
variable{X:Cx}{pins:Z3}{σ:St}{H:Hp}{s:Shared}
end
end L2
namespace S2
open PySem PySem.Spec PyProof.Rows L2
section
variable{X:Cx}{cl:Cf}{E:St->XK}{e tg:Expr}{f:Fe}{own:Bool}{pos pos':Pos}
noncomputable def zvj:List D->Option D | [.int i,.int j]=>some (.int (if j<i then j else i)) | _=>none
end
end S2
namespace S2
open PySem PySem.Spec PyProof.Rows L2
section
variable{X:Cx}{cl:Cf}{E:St->XK}{e:Expr}{f:Fe}{pos':Pos}
noncomputable def eMt(g:List D->D->Option D)(i:Nat)(f:Fe):Fe:=fun ρ S=>match ρ[i]? with | some (some (_,.lst l))=>(f ρ S).bind fun d S1=>Out.of (g l d) S1 | _=>.bad
noncomputable def zcU(l:List D)(d:D):Option D:=if d.fit 8&&D.fits 8 l then some (.int ((l.countP (zdU · d):Nat):Int)) else none
noncomputable def zfd(l:List D)(d:D):Option D:=if d.fit 8&&D.fits 8 l&&decide (l.length<=1000000)&&zhe d l then some (.int ((l.findIdx (zdU · d):Nat):Int)) else none
def Rel.lstAny{B:Base}{σ:St}{w:Wd}{ρ:Env}{S:Sto}{i:Nat}{o:Bool}{l:List D}(R:Rel cl B σ w ρ S)(h:ρ[i]?=some (some (o,.lst l))):∃a xs,σ[i]?=some (some (.ref a))/\w.H a=some (.lst xs)/\Shds cl w xs l:=by
 cases o with
 | true=>obtain ⟨a,xs,e1,_,h2,t⟩:=R.list h;exact ⟨a,xs,e1,h2,t⟩
 | false =>
  obtain ⟨v,e1,sh⟩:=R.slots i false _ h
  cases sh with
  | lst ep k r=>exact ⟨_,_,e1,ep,r⟩
noncomputable def MtB(X:Cx)(cl:Cf)(id:String)(g:List D->D->Option D):Prop:=MtM X id fun x vs H Q=>∃(a:Addr) (xs:List V) (l:List D) (w:Wd) (d:D) (v:V) (r:Int),w.H=H/\x=.ref a/\vs=[v]/\w.H a=some (.lst xs)/\Shds cl w xs l/\TopV cl w v d/\g l d=some (.int r)/\Q (.int r) H
theorem zdh{s:Shared}{d:D}:∀{its:List Value} {ds:List D} {as:List Addr},ReadsAll s.heap its (D.pys ds) as->D.fits 8 ds=true->its.countP (fun y=>(SeqAt.readOf s.heap y).eqv d.py)=ds.countP (zdU · d)
 | [],[],_,_,_=>rfl
 | [],_::_,_,h,_=>by cases h
 | _::_,[],_,h,_=>by cases h
 | v::its,e::ds,_,h,f=>by
  simp only [D.fits,yab] at f
  cases h with
  | cons h1 h2 =>
   rw [List.countP_cons,List.countP_cons,zdh h2 f.2,zfH (D.lay f.1).1 h1];rfl
theorem zc4{s:Shared}{d:D}:∀{its:List Value} {ds:List D} {as:List Addr},ReadsAll s.heap its (D.pys ds) as->D.fits 8 ds=true->∀(m:Nat) (hm:m<its.length),∃e,ds[m]?=some e/\(SeqAt.readOf s.heap its[m]).eqv d.py=zdU e d
 | [],_,_,_,_,m,hm=>by simp at hm
 | _::_,[],_,h,_,_,_=>by cases h
 | v::its,e::ds,_,h,f,m,hm=>by
  simp only [D.fits,yab] at f
  cases h with
  | cons h1 h2 =>
   cases m with
   | zero=>exact ⟨e,rfl,by show (SeqAt.readOf s.heap v).eqv d.py=_;rw [zfH (D.lay f.1).1 h1];rfl⟩
   | succ m =>
    obtain ⟨e',h3,h4⟩:=zc4 h2 f.2 m (by simpa using hm);exact ⟨e',by simpa using h3,by simpa using h4⟩
theorem zd0{s:Shared}:∀{its:List Value} {ds:List D} {as:List Addr},ReadsAll s.heap its (D.pys ds) as->its.length=ds.length
 | [],[],_,_=>rfl
 | [],_::_,_,h=>by cases h
 | _::_,[],_,h=>by cases h
 | _::its,_::ds,_,h=>by
  cases h with
  | cons _ h2=>rw [yag,yag,zd0 h2]
def zkf(hK:X.K=cl.K)(hu:X.A.units+64<cLine):MtB X cl "list.count" zcU:=by
 intro pins s σ H x vs v us Q I rx rv h;obtain ⟨a,xs,l,w,d,v',r,rfl,rfl,rfl,hH,sh,tv,hg,q⟩:=h;unfold zcU at hg;split at hg
 ·rename_i hf;cases hg;rw [yab] at hf;cases rx;obtain ⟨u,rfl,ru⟩:=rv.one;obtain ⟨bs,rb⟩:=zeV I hK tv hf.1 ru;obtain ⟨z,its,n,r,hl,e⟩:=I.lstM hH;obtain ⟨as,ra⟩:=zcm I hK sh hf.2 r;refine yca F.slot_list_count ⟨_,e,rfl⟩ F.entry_list_count (F.args_list_count_2 _ _) (SeqAt.list_countAt a _ n none #[] u (fun y=>(SeqAt.readOf s.heap y).eqv d.py)) ⟨e,fun y hy=>zbo hu rb hf.1 ra hf.2 y hy,?_⟩;rw [zdh ra hf.2];exact ⟨.int _,w.H,I.tok _,⟨_,rfl⟩,q⟩
 ·cases hg
def zke(hK:X.K=cl.K)(hu:X.A.units+64<cLine):MtB X cl "list.index" zfd:=by
 intro pins s σ H x vs v us Q I rx rv h;obtain ⟨a,xs,l,w,d,v',r,rfl,rfl,rfl,hH,sh,tv,hg,q⟩:=h;unfold zfd at hg;split at hg
 ·rename_i hf;cases hg;simp only [yab,yaV] at hf;obtain ⟨⟨⟨f1,f2⟩,f3⟩,f4⟩:=hf;cases rx;obtain ⟨u,rfl,ru⟩:=rv.one;obtain ⟨bs,rb⟩:=zeV I hK tv f1 ru;obtain ⟨z,its,n,r,hl,e⟩:=I.lstM hH;obtain ⟨as,ra⟩:=zcm I hK sh f2 r;have hlen:=zd0 ra
  have hlt:l.findIdx (zdU · d)<l.length:=by
   rw [List.findIdx_lt_length];unfold zhe at f4;rwa [List.any_eq_true] at f4
  refine yca F.slot_list_index ⟨_,e,rfl⟩ F.entry_list_index (F.args_list_index_2 _ _) (SeqAt.list_indexAt a _ n none #[] u (fun y=>(SeqAt.readOf s.heap y).eqv d.py) (l.findIdx (zdU · d)) (by rw [yai];omega) (by omega) ?_ ?_) ⟨e,fun y hy=>zbo hu rb f1 ra f2 y hy,?_⟩
  ·obtain ⟨e',h1,h2⟩:=zc4 (d:=d) ra f2 (l.findIdx (zdU · d)) (by omega);simp only [List.getElem_toArray];rw [h2];rw [yad hlt] at h1;cases h1;exact List.findIdx_getElem (w:=hlt)
  ·intro m hm hmj
   have lm:m<its.length:=by rwa [yai] at hm
   obtain ⟨e',h1,h2⟩:=zc4 (d:=d) ra f2 m lm;simp only [List.getElem_toArray];rw [h2];rw [yad (by omega)] at h1;cases h1;exact List.not_of_lt_findIdx hmj
  ·exact ⟨.int _,w.H,I.tok _,⟨_,rfl⟩,q⟩
 ·cases hg
def zon{i:Nat}{x name:Str}{id:String}{g:List D->D->Option D}{ap cp:Pos}(slot:Slot "list" name id)(hty:typeOf (.builtin id)=pure (.type "method_descriptor"))(hm:MtB X cl id g)(hgb:∀l d r,g l d=some r->∃n,r=.int n)
  (hN:X.N[i]?=some x) (hv:Vis X.env.scope x) (hd:(x == ("__debug__":Str))=false) (hcd:(x == ("__classdict__":Str))=false) (he:PE X e (tH cl E f)) (hpl:zbe e=true) (hln:(ap.endLine == cp.line)=true) :
  PE X (.Call (.Attribute (.Name x pos') name ap) [e] [] cp) (tE cl E (eMt g i f)):=by
 refine PE.imp (zoX (es:=[]) PySem.F.plainAttrs_list slot hty hm (zcK hN hv hd hcd) (zhF he zkX (zaP hpl)) (hfew:=zgo (by simp [hpl]) (by simp)) (hline:=hln) (hs:=zaP hpl) (hplain:=rfl)) ?_;rintro σ H Q ⟨B,w,ρ,S,rfl,R,q⟩
 have key:(∃o l,ρ[i]?=some (some (o,.lst l)))\/eMt g i f ρ S=.bad:=by
  unfold eMt;split
  ·rename_i o l hl;exact .inl ⟨o,l,hl⟩
  ·exact .inr rfl
 rcases key with ⟨o,l,hl⟩ | hb
 ·have e':eMt g i f ρ S=(f ρ S).bind fun d S1=>Out.of (g l d) S1:=by unfold eMt;rw [hl]
  rw [e'] at q;obtain ⟨a,xs,e1,h2,t⟩:=R.lstAny hl;refine ⟨_,e1,.inl ⟨rfl,_,SqL.of h2⟩,B,w,ρ,S,rfl,R,?_⟩
  cases hf:f ρ S with
  | bad=>rw [hf] at q;exact q.elim
  | exc c S1 =>
   rw [hf] at q;simp only [zae,hf,Out.bind];exact q
  | ok d S1 =>
   rw [hf] at q;simp only [zae,hf,Out.bind];intro vs w' R' F' sh;dsimp only [Out.bind] at q
   cases hg:g l d with
   | none=>rw [hg] at q;exact q.elim
   | some r =>
    rw [hg] at q;obtain ⟨n,rfl⟩:=hgb l d r hg;obtain ⟨a',xs',e1',h2',t'⟩:=R'.lstAny hl;rw [e1] at e1';cases e1'
    cases sh with
    | cons h1 hn =>
     cases hn;exact ⟨a,xs',l,w',d,_,n,rfl,rfl,rfl,h2',t',h1.top R',hg,q _ w' R' F' (.int _)⟩
 ·rw [hb] at q;exact q.elim
end
end S2
namespace S2
open PySem PySem.Spec PyProof.Rows L2
noncomputable def zvT(g:Str->Str->Option Bool)(C:Str):D->Option D
 | .exc c=>(g c C).map .bl
 | _=>none
noncomputable def zur(cl:Cf)(C:Str):Value:=if C = "ValueError" then .type "ValueError" else .ref (cl C)
section
variable{X:Cx}{cl:Cf}{E:St->XK}{own:Bool}{e:Expr}{f fe:Fe}{pos pos':Pos}
def znE:bootBuiltins "ValueError" = some (.type "ValueError"):=by decide +kernel
noncomputable def OpN(X:Cx)(cl:Cf)(op:Value->Value->Sem Value)(g:D->D->Option D):Prop:=OpR X op fun x y H Q=>∃w d e r,w.H=H/\TopV cl w x d/\TopV cl w y e/\g d e=some r/\∀p o w',Grow w w'->w'.H p=none->Top cl w' o r->Q (.ref p) (upd w'.H p o)
def zu1{a b:Expr}{h:Fe}{gg:D->D->Option D}{r2:R2}(hr:∀x y H Q,(∃w d e r,w.H=H/\TopV cl w x d/\TopV cl w y e/\gg d e=some r/\∀p o w',Grow w w'->w'.H p=none->Top cl w' o r->Q (.ref p) (upd w'.H p o))->r2 x y H Q)(σ:St)(H:Hp)(Q:VK)(q:tN cl E (zaj gg f h) σ H Q):tOp r2 (tH cl E f) (tH cl E h) σ H Q:=by
 obtain ⟨B,w,ρ,S,rfl,R,q⟩:=q;refine ⟨B,w,ρ,S,rfl,R,?_⟩;unfold zaj at q
 cases hf:f ρ S with
 | bad=>rwa [hf] at q
 | exc c S1=>rwa [hf] at q
 | ok d S1 =>
  rw [hf] at q;intro v w1 R1 F1 h1;refine ⟨B,w1,ρ,S1,rfl,R1,?_⟩;dsimp only [Out.bind] at q
  cases hh:h ρ S1 with
  | bad=>rwa [hh] at q
  | exc c S2=>rw [hh] at q;exact fun w2 R2 F2=>q w2 R2 (F1.trans F2)
  | ok e S2 =>
   rw [hh] at q;intro y w2 R2 F2 h2;dsimp only at q
   cases hg:gg d e with
   | none=>rw [hg] at q;exact q.elim
   | some r =>
    rw [hg] at q;exact hr _ _ _ _ ⟨w2,d,e,r,rfl,(h1.up F2).top R2,h2.top R2,hg,fun p o w' gr hp t=>q p o w' (R2.grow gr) (F1.trans (F2.trans gr.fut)) hp t⟩
noncomputable def zgQ:D->D->Option D
 | .lst a,.int j=>if decide (0<=j/\j<=1000/\a.length<=1000) then some (.lst (List.replicate j.toNat a).flatten) else none
 | _,_=>none
def zmu:OpN X cl (binaryOp .Mult) zgQ:=by
 intro pins s σ H x y v u Q I rx ry h;obtain ⟨w,d,e,r,rfl,hx,hy,hg,q⟩:=h;unfold zgQ at hg;split at hg
 ·rename_i a j;split at hg
  ·rename_i hz;cases hg;have hz':=yap hz;obtain ⟨p,xs,rfl,ep,rs⟩:=hx.lstI;obtain rfl:=hy.intI;have hl:=rs.length;refine zk7 pins s σ w.H _ _ v u Q I rx ry ⟨p,j,xs,rfl,rfl,ep,by omega,by omega,?_,fun l hl=>q l _ w (Grow.refl _) hl (.lst (rs.flat _))⟩;refine yal (ybl (show xs.length<=1000 by omega) (show j.toNat<=1000 by omega)) (by decide)
  ·cases hg
 ·cases hg
def zl1{a b:Expr}{h:Fe}(ha:PE X a (tH cl E f))(hb:PE X b (tH cl E h)):PE X (.BinOp a .Mult b pos) (tN cl E (zaj zgQ f h)) :=
 PE.imp (zoR zmu ha hb) (zu1 (a:=a) (b:=b) fun _ _ _ _ z=>z)
noncomputable def zmU:Expr->Bool | .List _ _=>true | _=>false
noncomputable def zpD:Operator->Bool | .Mult=>true | _=>false
end
end S2
namespace PySem.F
end PySem.F
namespace PySem.F
end PySem.F
namespace L2
open PySem PySem.Spec PyProof.Rows
section
variable{prog:Program}{w:World}{A:Around}{E:Z5}{s:Shared}
end
end L2
namespace L2
open PySem PySem.Spec PyProof.Rows
section
variable{X:Cx}
end
end L2
namespace PySem.F
end PySem.F
namespace L2
open PySem PySem.Spec PyProof.Rows
section
variable{prog:Program}{w:World}{A:Around}{E:Z5}{s:Shared}
end
end L2
namespace L2
open PySem PySem.Spec PyProof.Rows
section
variable{X:Cx}
end
end L2
namespace S2
open PySem PySem.Spec PyProof.Rows L2
section
variable{X:Cx}{cl:Cf}{E:St->XK}{e tg:Expr}{f:Fe}{pos pos':Pos}
end
end S2
namespace S2
open PySem PySem.Spec PyProof.Rows L2
section
variable{X:Cx}{cl:Cf}{E:St->XK}{e:Expr}{f:Fe}{pos:Pos}
end
end S2
namespace S2
open PySem PySem.Spec PyProof.Rows L2
noncomputable def zgL(f:Str)(o:Bool)(d:D):List (Str×Bool×D)->List (Str×Bool×D)
 | []=>[(f,o,d)]
 | (g,x)::r=>if g=f then (g,o,d)::r else (g,x)::zgL f o d r
noncomputable def Ob.put(ob:Ob)(f:Str)(o:Bool)(d:D):Ob:=⟨ob.cls,zgL f o d ob.fs⟩
section
variable{cl:Cf}{w:Wd}{n:Nat}
def zci.len{fs:List (Str×V)}{gs:List (Str×Bool×D)}(h:zci cl w n fs gs):fs.length=gs.length:=Paired.length h
def zci.look{fs:List (Str×V)}{gs:List (Str×Bool×D)}(h:zci cl w n fs gs){f:Str}{o:Bool}{d:D}(e:gs.lookup f=some (o,d)):∃v,fs.lookup f=some v/\zfY cl w (.fld n f) o v d:=by
 induction h with
 | nil=>cases e
 | @cons p q l1 l2 h t ih =>
  obtain ⟨h1,h2⟩:=h;obtain ⟨g,v⟩:=p;obtain ⟨g',o',d'⟩:=q;have h1':g=g':=h1;subst h1';rw [yau] at e ⊢
  cases hb:f == g with
  | true =>
   rw [hb] at e;cases e;have:=eq_of_beq hb;subst this;exact ⟨v,rfl,h2⟩
  | false =>
   rw [hb] at e;exact ih e
def zci.miss{fs:List (Str×V)}{gs:List (Str×Bool×D)}(h:zci cl w n fs gs){f:Str}(e:gs.lookup f=none):fs.lookup f=none:=by
 induction h with
 | nil=>rfl
 | @cons p q l1 l2 h t ih =>
  obtain ⟨h1,h2⟩:=h;obtain ⟨g,v⟩:=p;obtain ⟨g',o',d'⟩:=q;have h1':g=g':=h1;subst h1';rw [yau] at e ⊢
  cases hb:f == g with
  | true=>rw [hb] at e;cases e
  | false=>rw [hb] at e;exact ih e
def zci.put{fs:List (Str×V)}{gs:List (Str×Bool×D)}{f:Str}{o:Bool}{d:D}{y:V}(h:zci cl w n fs gs)(hy:zfY cl w (.fld n f) o y d):zci cl w n (zcs f y fs) (zgL f o d gs):=by
 induction h with
 | nil=>exact .cons ⟨rfl,hy⟩ .nil
 | @cons p q l1 l2 h t ih =>
  obtain ⟨h1,h2⟩:=h;obtain ⟨g,v⟩:=p;obtain ⟨g',o',d'⟩:=q;have h1':g=g':=h1;subst h1';show zci cl w n (if g=f then (g,y)::l1 else (g,v)::zcs f y l1) (if g=f then (g,o,d)::l2 else (g,o',d')::zgL f o d l2)
  by_cases hg:g=f
  ·subst hg;rw [if_pos rfl,if_pos rfl];exact .cons ⟨rfl,hy⟩ t
  ·rw [if_neg hg,if_neg hg];exact .cons ⟨rfl,h2⟩ ih
def zci.keepBut{w':Wd}(f:Fut w w'){x:Str}(k:∀a o g,g≠x->w.H a=some o->w.ow a=some (.fld n g)->w'.H a=some o/\w'.ow a=some (.fld n g)){fs:List (Str×V)}{gs:List (Str×Bool×D)}(h:zci cl w n fs gs)(hn:∀q∈gs,q.1=x->q.2.1=false):zci cl w' n fs gs:=by
 induction h with
 | nil=>exact .nil
 | @cons p q l1 l2 h t ih =>
  obtain ⟨h1,h2⟩:=h;refine .cons ⟨h1,?_⟩ (ih fun q hq=>hn q (yas _ hq))
  by_cases hx:q.1=x
  ·have ho:=hn q yaA hx;rw [ho] at h2 ⊢
   rcases h2 with ⟨_,h2⟩ | ⟨e,_⟩
   ·exact .inl ⟨rfl,Shd.up f h2⟩
   ·cases e
  ·exact h2.keep f fun a o ha hr=>k a o q.1 hx ha hr
def zci.keepF{w':Wd}(f:Fut w w')(k:∀a o g,w.H a=some o->w.ow a=some (.fld n g)->w'.H a=some o/\w'.ow a=some (.fld n g)){fs:List (Str×V)}{gs:List (Str×Bool×D)}(h:zci cl w n fs gs):zci cl w' n fs gs:=by
 induction h with
 | nil=>exact .nil
 | @cons p q l1 l2 h t ih=>exact .cons ⟨h.1,h.2.keep f fun a o ha hr=>k a o q.1 ha hr⟩ ih
variable{B:Base}{σ:St}{ρ:Env}{S:Sto}
def World'.atObj(W:World' cl B w S){ob:Ob}(h:S[n]?=some ob){a:Addr}(e:w.mu[n]?=some a):zqd cl w n a ob:=by
 obtain ⟨a',e',x⟩:=W.obj n ob h;rw [e] at e';cases e';exact x
def zfN{S:Sto}{n m:Nat}{ob ob':Ob}(h:(S.set n ob)[m]?=some ob'):(m=n/\ob'=ob)\/(m≠n/\S[m]?=some ob'):=by
 by_cases e:n=m
 ·subst e
  have hlt:n<S.length:=by
   have:=(yaq.mp h).1;rwa [yaB] at this
  rw [yaz hlt] at h;cases h;exact .inl ⟨rfl,rfl⟩
 ·rw [yaJ e] at h;exact .inr ⟨fun z=>e z.symm,h⟩
def Rel.setf{a dx:Addr}{ob:Ob}{fs:List (Str×V)}{f:Str}{y:V}{d:D}(R:Rel cl B σ w ρ S)(hn:S[n]?=some ob)(hmu:w.mu[n]?=some a)(how:w.ow a=some (.obj n))(hH:w.H a=some (.ins (cl ob.cls) dx fs))(hF:zci cl w n fs ob.fs)(hy:Shd cl w y d) :
  Rel cl B σ (w.mut a (.ins (cl ob.cls) dx (zcs f y fs))) ρ (S.set n (ob.put f false d))/\Fut w (w.mut a (.ins (cl ob.cls) dx (zcs f y fs))):=by
 have ff:=zex (w:=w) (p:=a) (o:=.ins (cl ob.cls) dx (zcs f y fs)) (by rw [how];exact yaI _)
 have kp:∀b u,w.H b=some u->w.ow b≠some (.obj n)->(w.mut a (.ins (cl ob.cls) dx (zcs f y fs))).H b=some u/\(w.mut a (.ins (cl ob.cls) dx (zcs f y fs))).ow b=w.ow b:=fun b u hb hne=>⟨by
  show upd w.H a _ b=_
  rw [zaf (fun z=>hne (by rw [z];exact how))];exact hb,rfl⟩
 have hB:B.Fr a=none:=(R.wd.own a _ how).elim (fun z=>by cases z) fun z=>z
 refine ⟨⟨⟨fun b u h=>?_,R.wd.own,by rw [yaB];exact R.wd.len,fun m ob' h=>?_⟩,R.len,fun i o e h=>?_⟩,ff⟩
 ·refine ⟨?_,(R.wd.fr b u h).2⟩;show upd w.H a _ b=_;rw [zaf (fun z=>by rw [z,hB] at h;cases h)];exact (R.wd.fr b u h).1
 ·rcases zfN h with ⟨rfl,rfl⟩ | ⟨hne,h⟩
  ·refine ⟨a,hmu,how,dx,_,zak,?_⟩;exact zci.put (hF.keepF ff fun b u g hb hg=>⟨(kp b u hb (by rw [hg];exact fun z=>by cases z)).1,hg⟩) (.inl ⟨rfl,hy.up ff⟩)
  ·obtain ⟨b,e,x⟩:=R.wd.obj m ob' h;exact ⟨b,e,x.keep ff fun b u hb hm=>kp b u hb fun z=>by rw [z] at hm;exact hne hm.symm⟩
 ·obtain ⟨v,e1,x⟩:=R.slots i o e h;exact ⟨v,e1,x.keep ff fun b u hb hr=>⟨(kp b u hb (by rw [hr];exact fun z=>by cases z)).1,hr⟩⟩
noncomputable def Wd.addF(w:Wd)(p:Addr)(o:HO)(n:Nat)(f:Str):Wd:=⟨upd w.H p o,fun b=>if b=p then some (.fld n f) else w.ow b,w.mu⟩
def Rel.newf{a dx p:Addr}{ob:Ob}{fs:List (Str×V)}{f:Str}(R:Rel cl B σ w ρ S)(hn:S[n]?=some ob)(hmu:w.mu[n]?=some a)(how:w.ow a=some (.obj n))(hH:w.H a=some (.ins (cl ob.cls) dx fs))(hF:zci cl w n fs ob.fs)(hp:w.H p=none) :
  Rel cl B σ ((w.addF p (.ext (DN cl.P cl.wo p [])) n f).mut a (.ins (cl ob.cls) dx (zcs f (.ref p) fs))) ρ (S.set n (ob.put f true (.dic [])))/\Fut w ((w.addF p (.ext (DN cl.P cl.wo p [])) n f).mut a (.ins (cl ob.cls) dx (zcs f (.ref p) fs))):=by
 have hap:a≠p:=zag hH hp
 have kp:∀b u,w.H b=some u->w.ow b≠some (.obj n)->((w.addF p (.ext (DN cl.P cl.wo p [])) n f).mut a (.ins (cl ob.cls) dx (zcs f (.ref p) fs))).H b=some u/\((w.addF p (.ext (DN cl.P cl.wo p [])) n f).mut a (.ins (cl ob.cls) dx (zcs f (.ref p) fs))).ow b=w.ow b:=fun b u hb hne=>by
  have hbp:b≠p:=zag hb hp;refine ⟨?_,?_⟩
  ·show upd (upd w.H p _) a _ b=_;rw [zaf (fun z=>hne (by rw [z];exact how)),zaf hbp];exact hb
  ·show (if b=p then _ else w.ow b)=_;rw [if_neg hbp]
 have ff:Fut w ((w.addF p (.ext (DN cl.P cl.wo p [])) n f).mut a (.ins (cl ob.cls) dx (zcs f (.ref p) fs))):=⟨fun b u hb hk=>by
  have:=kp b u hb (by rw [hk];exact fun z=>by cases z)
  exact ⟨this.1,this.2.trans hk⟩,fun _ _ h=>h⟩
 have hB:B.Fr a=none:=(R.wd.own a _ how).elim (fun z=>by cases z) fun z=>z
 have hBp:B.Fr p=none:=by
  cases z:B.Fr p with
  | none=>rfl
  | some u=>have:=(R.wd.fr p u z).1;rw [hp] at this;cases this
 have Hp:((w.addF p (.ext (DN cl.P cl.wo p [])) n f).mut a (.ins (cl ob.cls) dx (zcs f (.ref p) fs))).H p=some (.ext (DN cl.P cl.wo p [])):=by
  show upd (upd w.H p _) a _ p=_;rw [zaf hap.symm,zak]
 have owp:((w.addF p (.ext (DN cl.P cl.wo p [])) n f).mut a (.ins (cl ob.cls) dx (zcs f (.ref p) fs))).ow p=some (.fld n f):=if_pos rfl
 have owa:((w.addF p (.ext (DN cl.P cl.wo p [])) n f).mut a (.ins (cl ob.cls) dx (zcs f (.ref p) fs))).ow a=some (.obj n):=by
  show (if a=p then _ else w.ow a)=_;rw [if_neg hap];exact how
 refine ⟨⟨⟨fun b u h=>?_,fun b r h=>?_,by rw [yaB];exact R.wd.len,fun m ob' h=>?_⟩,R.len,fun i o e h=>?_⟩,ff⟩
 ·have:=kp b u (R.wd.fr b u h).1 fun z=>by
   rcases R.wd.own b _ z with y | y
   ·cases y
   ·rw [h] at y;cases y
  exact ⟨this.1,this.2.trans (R.wd.fr b u h).2⟩
 ·have h':(if b=p then some (Root.fld n f) else w.ow b)=some r:=h;split at h'
  ·rename_i z;rw [z];exact .inr hBp
  ·exact R.wd.own b r h'
 ·rcases zfN h with ⟨rfl,rfl⟩ | ⟨hne,h⟩
  ·refine ⟨a,hmu,owa,dx,_,zak,?_⟩;refine zci.put (hF.keepF ff fun b u g hb hg=>?_) (.inr ⟨rfl,p,[],[],[],rfl,owp,Hp,.nil,.nil,rfl⟩);have:=kp b u hb (by rw [hg];exact fun z=>by cases z);exact ⟨this.1,this.2.trans hg⟩
  ·obtain ⟨b,e,x⟩:=R.wd.obj m ob' h;exact ⟨b,e,x.keep ff fun b u hb hm=>kp b u hb fun z=>by rw [z] at hm;exact hne hm.symm⟩
 ·obtain ⟨v,e1,x⟩:=R.slots i o e h
  exact ⟨v,e1,x.keep ff fun b u hb hr=>by
   have:=kp b u hb (by rw [hr];exact fun z=>by cases z)
   exact ⟨this.1,this.2.trans hr⟩⟩
noncomputable def zig(ob:Ob):Bool:=decide (ob.fs.map (·.1)).Nodup
def zci.dic{w':Wd}{a:Addr}{f:Str}{d:D}(ff:Fut w w')(k:∀b o g,g≠f->w.H b=some o->w.ow b=some (.fld n g)->w'.H b=some o/\w'.ow b=some (.fld n g))(hy:zfY cl w' (.fld n f) true (.ref a) d):∀{fs:List (Str×V)} {gs:List (Str×Bool×D)},zci cl w n fs gs->(gs.map (·.1)).Nodup->fs.lookup f=some (.ref a)->zci cl w' n fs (zgL f true d gs):=by
 intro fs gs h
 induction h with
 | nil=>intro _ e;cases e
 | @cons p q l1 l2 h t ih =>
  intro nd e;obtain ⟨h1,h2⟩:=h;obtain ⟨g,v⟩:=p;obtain ⟨g',o',d'⟩:=q;have h1':g=g':=h1;subst h1';rw [yay,ybE] at nd;show zci cl w' n ((g,v)::l1) (if g=f then (g,true,d)::l2 else (g,o',d')::zgL f true d l2);rw [yau] at e
  by_cases hg:g=f
  ·subst hg;rw [if_pos rfl];simp only [ybi] at e;cases e;refine .cons ⟨rfl,hy⟩ ?_;have t':zci cl w n l1 l2:=t;exact t'.keepBut ff k fun q hq hx=>absurd (yaE.mpr ⟨q,hq,hx⟩) nd.1
  ·rw [if_neg hg];have hb:(f == g)=false:=yaP.mpr fun z=>hg z.symm
   rw [hb] at e;exact .cons ⟨rfl,h2.keep ff fun b o hb hr=>k b o g hg hb hr⟩ (ih nd.2 e)
def Rel.setd{a dx c:Addr}{ob:Ob}{fs:List (Str×V)}{f:Str}{xs:List (NK×Addr×Value)}{m:List (NK×V)}{ds:List (D×D)}{k:NK}{kb:Addr}{u:Value}{v:V}{d:D}(R:Rel cl B σ w ρ S)(hn:S[n]?=some ob)(hmu:w.mu[n]?=some a)(how:w.ow a=some (.obj n))(hH:w.H a=some (.ins (cl ob.cls) dx fs))(hF:zci cl w n fs ob.fs)
  (hl:fs.lookup f=some (.ref c)) (hc:w.ow c=some (.fld n f)) (hcH:w.H c=some (.ext (DN cl.P cl.wo c xs))) (he:zgC w xs m) (hs:ShdN cl w m ds) (hk:zjq w kb k) (rv:zav v u) (hv:Shd cl w v d) (nd:zig ob=true) :
  Rel cl B σ (w.mut c (.ext (DN cl.P cl.wo c (xs++[(k,kb,u)])))) ρ (S.set n (ob.put f true (.dic (ds++[(nkD k,d)]))))/\Fut w (w.mut c (.ext (DN cl.P cl.wo c (xs++[(k,kb,u)])))):=by
 have ff:=zex (w:=w) (p:=c) (o:=.ext (DN cl.P cl.wo c (xs++[(k,kb,u)]))) (by rw [hc];exact yaI _)
 have kp:∀b o,w.H b=some o->w.ow b≠some (.fld n f)->(w.mut c (.ext (DN cl.P cl.wo c (xs++[(k,kb,u)])))).H b=some o/\(w.mut c (.ext (DN cl.P cl.wo c (xs++[(k,kb,u)])))).ow b=w.ow b:=fun b o hb hne=>⟨by
  show upd w.H c _ b=_
  rw [zaf (fun z=>hne (by rw [z];exact hc))];exact hb,rfl⟩
 have hB:B.Fr c=none:=(R.wd.own c _ hc).elim (fun z=>by cases z) fun z=>z
 refine ⟨⟨⟨fun b o h=>?_,R.wd.own,by rw [yaB];exact R.wd.len,fun m' ob' h=>?_⟩,R.len,fun i o e h=>?_⟩,ff⟩
 ·refine ⟨?_,(R.wd.fr b o h).2⟩;show upd w.H c _ b=_;rw [zaf (fun z=>by rw [z,hB] at h;cases h)];exact (R.wd.fr b o h).1
 ·rcases zfN h with ⟨rfl,rfl⟩ | ⟨hne,h⟩
  ·refine ⟨a,hmu,how,dx,fs,?_,?_⟩
   ·exact (kp a _ hH (by rw [how];exact fun z=>by cases z)).1
   ·refine zci.dic (a:=c) ff (fun b o g hg hb hr=>?_) (.inr ⟨rfl,c,_,m++[(k,v)],ds++[(nkD k,d)],rfl,hc,zak,?_,?_,rfl⟩) hF (yap nd) hl
    ·exact ⟨(kp b o hb (by rw [hr];exact fun z=>hg (by cases z;rfl))).1,hr⟩
    ·exact (he.up ff).snoc ⟨rfl,hk.up ff,rv⟩
    ·exact (hs.up ff).snoc (hv.up ff)
  ·obtain ⟨b,e,x⟩:=R.wd.obj m' ob' h;exact ⟨b,e,x.keep ff fun b o hb hm=>kp b o hb fun z=>by rw [z] at hm;exact hne hm.symm⟩
 ·obtain ⟨v',e1,x⟩:=R.slots i o e h;exact ⟨v',e1,x.keep ff fun b o hb hr=>⟨(kp b o hb (by rw [hr];exact fun z=>by cases z)).1,hr⟩⟩
noncomputable def Wd.addO(w:Wd)(x dx C:Addr)(n:Nat):Wd:=⟨upd (upd w.H dx (.own x)) x (.ins C dx []),fun b=>if b=x then some (.obj n) else if b=dx then none else w.ow b,w.mu++[x]⟩
def Rel.made{x dx:Addr}{c:Str}(R:Rel cl B σ w ρ S)(hx:w.H x=none)(hdx:w.H dx=none)(ne:dx≠x):Rel cl B σ (w.addO x dx (cl c) S.length) ρ (S++[⟨c,[]⟩])/\Fut w (w.addO x dx (cl c) S.length):=by
 have kp:∀b o,w.H b=some o->(w.addO x dx (cl c) S.length).H b=some o/\(w.addO x dx (cl c) S.length).ow b=w.ow b:=fun b o hb=>by
  have n1:b≠x:=zag hb hx;have n2:b≠dx:=zag hb hdx;refine ⟨?_,?_⟩
  ·show upd (upd w.H dx _) x _ b=_;rw [zaf n1,zaf n2];exact hb
  ·show (if b=x then _ else if b=dx then _ else w.ow b)=_;rw [if_neg n1,if_neg n2]
 have ff:Fut w (w.addO x dx (cl c) S.length):=⟨fun b o hb hk=>⟨(kp b o hb).1,(kp b o hb).2.trans hk⟩,fun n a h=>by
  show (w.mu++[x])[n]?=some a
  rw [yaH (yaq.mp h).1];exact h⟩
 have hBx:B.Fr x=none:=by
  cases z:B.Fr x with
  | none=>rfl
  | some u=>have:=(R.wd.fr x u z).1;rw [hx] at this;cases this
 refine ⟨⟨⟨fun b o h=>?_,fun b r h=>?_,by show (w.mu++[x]).length=_;rw [yar,yar,R.wd.len];rfl,fun m ob h=>?_⟩,R.len,fun i o e h=>?_⟩,ff⟩
 ·have:=kp b o (R.wd.fr b o h).1;exact ⟨this.1,this.2.trans (R.wd.fr b o h).2⟩
 ·have h':(if b=x then some (Root.obj S.length) else if b=dx then none else w.ow b)=some r:=h;split at h'
  ·rename_i z;rw [z];exact .inr hBx
  ·split at h'
   ·cases h'
   ·exact R.wd.own b r h'
 ·by_cases hm:m<S.length
  ·rw [yaH hm] at h;obtain ⟨b,e,y⟩:=R.wd.obj m ob h;exact ⟨b,ff.mu _ _ e,y.keep ff fun b o hb _=>kp b o hb⟩
  ·have hm':m=S.length:=by
    have:=(yaq.mp h).1;rw [yar,List.length_singleton] at this;omega
   subst hm';rw [yat (yaf _),ycz] at h;cases h;refine ⟨x,?_,if_pos rfl,dx,[],zak,.nil⟩;show (w.mu++[x])[S.length]?=some x;rw [yat (by rw [R.wd.len];exact yaf _),R.wd.len,ycz];rfl
 ·obtain ⟨v,e1,y⟩:=R.slots i o e h;exact ⟨v,e1,y.keep ff fun b o hb hr=>⟨(kp b o hb).1,(kp b o hb).2.trans hr⟩⟩
end
end S2
namespace S2
open PySem PySem.Spec PyProof.Rows L2
noncomputable def zj0:D->Option (Option Int) | .non=>some none | .int i=>some (some i) | _=>none
noncomputable def zcM:List D->Option (List (Option Int))
 | []=>some []
 | d::r=>(zj0 d).bind fun o=>(zcM r).map (o::·)
noncomputable def zjn:D->Option NK
 | .tup [.int i,.tup l]=>(zcM l).map fun os=>(i,os)
 | _=>none
noncomputable def zcC(k:NK):List (D×D)->Option D
 | []=>none
 | (q,d)::r=>if zjn q=some k then some d else zcC k r
def zic(o:Option Int):zj0 (oDn o)=some o:=by cases o<;>rfl
theorem zd3:∀l:List (Option Int),zcM (l.map oDn)=some l
 | []=>rfl
 | o::l=>by rw [yay];unfold zcM;rw [zic,zd3 l];rfl
def zj7(k:NK):zjn (nkD k)=some k:=by
 show (zcM (k.2.map oDn)).map (fun os=>(k.1,os))=some k;rw [zd3];rfl
section
variable{cl:Cf}{w:Wd}
theorem zib:∀{xs:List V} {ds:List D} {os:Z4},Shds cl w xs ds->zcM ds=some os->xs=os.map oV
 | _,_,os,.nil,h=>by cases h;rfl
 | _,_,os,.cons (v:=v) (d:=d) (ds:=ds) r t,h=>by
  unfold zcM at h
  cases h1:zj0 d with
  | none=>rw [h1] at h;cases h
  | some o =>
   rw [h1] at h
   cases h2:zcM ds with
   | none=>rw [h2] at h;cases h
   | some os' =>
    rw [h2] at h;cases h;rw [yay,<-zib t h2]
    cases d<;>simp [zj0] at h1<;>subst h1<;>cases r<;>rfl
def zlc{v:V}{d:D}{k:NK}(h:Shd cl w v d)(hk:zjn d=some k):∃kb,v=.ref kb/\zjq w kb k:=by
 unfold zjn at hk;split at hk
 ·rename_i i l
  cases ho:zcM l with
  | none=>rw [ho] at hk;cases hk
  | some os =>
   rw [ho] at hk;cases hk
   cases h with
   | tup e o r =>
    cases r with
    | cons r1 t =>
     cases t with
     | cons r2 t =>
      cases t;cases r1
      cases r2 with
      | tup e2 o2 r2=>exact ⟨_,rfl,_,⟨e,o⟩,by rw [<-zib r2 ho];exact e2,o2⟩
 ·cases hk
theorem zkz:∀{m:List (NK×V)} {ds:List (D×D)},ShdN cl w m ds->∀k:NK,(m.lookup k=none/\zcC k ds=none)\/∃v d,m.lookup k=some v/\zcC k ds=some d/\Shd cl w v d
 | _,_,.nil,k=>.inl ⟨rfl,rfl⟩
 | _,_,.cons (k:=k') (v:=v) (d:=d) r t,k=>by
  rw [yau];unfold zcC;rw [zj7]
  by_cases e:k'=k
  ·subst e;rw [if_pos rfl,ybi];exact .inr ⟨v,d,rfl,rfl,r⟩
  ·rw [if_neg (fun z=>e (by cases z;rfl)),yaP.mpr (fun z=>e z.symm)];exact zkz t k
theorem zlp:∀{m:List (NK×V)} {ds:List (D×D)},ShdN cl w m ds->m.length=ds.length
 | _,_,.nil=>rfl
 | _,_,.cons r t=>by rw [yag,yag,zlp t]
end
noncomputable def znA(cn f:Str)(d:D)(S:Sto):Option D:=match d with
 | .ref n=>(match S[n]? with
  | some ob=>if ob.cls=cn then (match ob.fs.lookup f with | some (false,d)=>some d | _=>none) else none
  | none=>none)
 | _=>none
noncomputable def zm8(cn f:Str)(fe:Fe):Fe:=fun ρ S=>(fe ρ S).bind fun d S1=>match znA cn f d S1 with | some r=>.ok r S1 | none=>.bad
noncomputable def zjj(cl:Cf)(cn f:Str):Prop:=Cls cl.K (cl cn)/\zcp cl.K (cl cn) f
noncomputable def zgu(cn f:Str)(d:D)(S:Sto):Option (Nat×Ob×List (D×D)):=match d with
 | .ref n=>(match S[n]? with
  | some ob=>if ob.cls=cn then (match ob.fs.lookup f with | some (true,.dic ds)=>some (n,ob,ds) | _=>none) else none
  | none=>none)
 | _=>none
section
variable{cl:Cf}{cn:Str}{X:Cx}{E:St->XK}{e:Expr}{fe:Fe}{f:Str}{pos:Pos}{B:Base}{σ:St}{w:Wd}{ρ:Env}{S:Sto}
def zfq{v:V}{n:Nat}{ob:Ob}(R:Rel cl B σ w ρ S)(hv:Shd cl w v (.ref n))(hn:S[n]?=some ob):∃a dx fs,v=.ref a/\w.mu[n]?=some a/\w.ow a=some (.obj n)/\w.H a=some (.ins (cl ob.cls) dx fs)/\zci cl w n fs ob.fs:=by
 cases hv with
 | ref e =>
  obtain ⟨h1,dx,fs,h2,h3⟩:=R.wd.atObj hn e;exact ⟨_,dx,fs,rfl,e,h1,h2,h3⟩
def zp6{v:V}{d r:D}(hk:zjj cl cn f)(R:Rel cl B σ w ρ S)(hv:Shd cl w v d)(hd:znA cn f d S=some r):∃a C dx fs y,v=.ref a/\w.H a=some (.ins C dx fs)/\Cls cl.K C/\zcp cl.K C f/\fs.lookup f=some y/\Shd cl w y r:=by
 unfold znA at hd
 cases d with
 | ref n =>
  dsimp only at hd
  cases hS:S[n]? with
  | none=>rw [hS] at hd;cases hd
  | some ob =>
   rw [hS] at hd;dsimp only at hd;split at hd
   ·rename_i hfk;split at hd
    ·rename_i d hl;cases hd;obtain ⟨a,dx,fs,rfl,_,_,hH,hF⟩:=zfq R hv hS;obtain ⟨v,lv,fr⟩:=hF.look hl
     rcases fr with ⟨_,fr⟩ | ⟨z,_⟩
     ·exact ⟨a,_,dx,fs,v,rfl,hH,hfk ▸ hk.1,hfk ▸ hk.2,lv,fr⟩
     ·cases z
    ·cases hd
   ·cases hd
 | _=>cases hd
def zop(hk:zjj cl cn f)(kk:X.K=cl.K)(he:PE X e (tE cl E fe))(hb:attributeBase e f X.env (eval e X.env)=eval e X.env):PE X (.Attribute e f pos) (tE cl E (zm8 cn f fe)):=by
 refine PE.imp (zeZ he hb) ?_;rintro σ H Q ⟨B,w,ρ,S,rfl,R,q⟩;refine ⟨B,w,ρ,S,rfl,R,?_⟩;unfold zm8 at q
 cases hf:fe ρ S with
 | bad=>rwa [hf] at q
 | exc c S1=>rwa [hf] at q
 | ok d S1 =>
  rw [hf] at q;intro v w1 R1 F1 h1;dsimp only [Out.bind] at q
  cases hd:znA cn f d S1 with
  | none=>rw [hd] at q;exact q.elim
  | some r =>
   rw [hd] at q;obtain ⟨a,C,dx,fs,y,rfl,e1,e2,e3,e4,e5⟩:=zp6 hk R1 h1 hd;rw [kk];exact ⟨a,C,dx,fs,y,rfl,e1,e2,e3,e4,q y w1 R1 F1 e5⟩
def zjc{v:V}{d:D}{n:Nat}{ob:Ob}{ds:List (D×D)}(hk:zjj cl cn f)(R:Rel cl B σ w ρ S)(hv:Shd cl w v d)(hd:zgu cn f d S=some (n,ob,ds)) :
  ∃a dx fs c xs m,v=.ref a/\S[n]?=some ob/\w.mu[n]?=some a/\w.ow a=some (.obj n)/\w.H a=some (.ins (cl ob.cls) dx fs)/\zci cl w n fs ob.fs/\Cls cl.K (cl ob.cls)/\zcp cl.K (cl ob.cls) f/\fs.lookup f=some (.ref c)/\w.ow c=some (.fld n f)/\w.H c=some (.ext (DN cl.P cl.wo c xs))/\zgC w xs m/\ShdN cl w m ds:=by
 unfold zgu at hd
 cases d with
 | ref n' =>
  dsimp only at hd
  cases hS:S[n']? with
  | none=>rw [hS] at hd;cases hd
  | some ob' =>
   rw [hS] at hd;dsimp only at hd;split at hd
   ·rename_i hfk;split at hd
    ·rename_i ds' hl;cases hd;obtain ⟨a,dx,fs,rfl,hmu,how,hH,hF⟩:=zfq R hv hS;obtain ⟨v,lv,fr⟩:=hF.look hl
     rcases fr with ⟨z,_⟩ | ⟨_,c,xs,m,ds2,rfl,c1,c2,c3,c4,e⟩
     ·cases z
     ·cases e;exact ⟨a,dx,fs,c,xs,m,rfl,hS,hmu,how,hH,hF,hfk ▸ hk.1,hfk ▸ hk.2,lv,c1,c2,c3,c4⟩
    ·cases hd
   ·cases hd
 | _=>cases hd
end
end S2
namespace L2
open PySem PySem.Spec PyProof.Rows
section
variable{X:Cx}
end
end L2
namespace S2
open PySem PySem.Spec PyProof.Rows L2
noncomputable def zm7(cn f:Str)(fa fo:Fe):Fe:=fun ρ S=>(fa ρ S).bind fun dk S1=>(fo ρ S1).bind fun d S2=>match zjn dk,zgu cn f d S2 with
 | some k,some (_,_,ds)=>.ok (.bl (zcC k ds).isNone) S2
 | _,_=>.bad
noncomputable def zld(ρ:Env)(i:Nat):Option NK:=match ρ[i]? with | some (some (false,dk))=>zjn dk | _=>none
noncomputable def ziU(cn f:Str)(fo:Fe)(i:Nat):Fe:=fun ρ S=>(fo ρ S).bind fun d S1=>match zld ρ i,zgu cn f d S1 with
 | some k,some (_,_,ds)=>(match zcC k ds with | some r=>.ok r S1 | none=>.bad)
 | _,_=>.bad
noncomputable def zhM(cn f:Str)(fo:Fe)(i:Nat)(fe:Fe):Fs:=fun ρ S=>match fe ρ S with
 | .bad=>.bad
 | .exc c S1=>.ex c ρ S1
 | .ok r S1=>(match fo ρ S1 with
  | .bad=>.bad
  | .exc c S2=>.ex c ρ S2
  | .ok d S2=>(match zld ρ i,zgu cn f d S2 with
   | some k,some (n,ob,ds)=>if (zcC k ds).isNone&&decide (ds.length<=1000000)&&zig ob then .nx ρ (S2.set n (ob.put f true (.dic (ds++[(nkD k,r)])))) else .bad
   | _,_=>.bad))
noncomputable def zhP(cn f:Str)(fo fe:Fe):Fs:=fun ρ S=>match fe ρ S with
 | .bad=>.bad
 | .exc c S1=>.ex c ρ S1
 | .ok r S1=>(match fo ρ S1 with
  | .bad=>.bad
  | .exc c S2=>.ex c ρ S2
  | .ok (.ref n) S2=>(match S2[n]? with
   | some ob=>if decide (ob.cls=cn)&&decide (ob.fs.length<1000) then .nx ρ (S2.set n (ob.put f false r)) else .bad
   | none=>.bad)
  | .ok _ _=>.bad)
noncomputable def zl4(cn f:Str)(i:Nat):Fs:=fun ρ S=>match ρ[i]? with
 | some (some (false,.ref n))=>(match S[n]? with
   | some ob=>if decide (ob.cls=cn)&&decide (ob.fs.length<1000) then .nx ρ (S.set n (ob.put f true (.dic []))) else .bad
   | none=>.bad)
 | _=>.bad
noncomputable def zcO(c m:Str)(d:D)(S:Sto):Bool:=match d with
 | .ref n=>(match S[n]? with | some ob=>decide (ob.cls=c)&&(ob.fs.lookup m).isNone | none=>false)
 | _=>false
noncomputable def zff(c m:Str)(G:List D->Sto->Out D)(fo:Fe)(fs:List Fe):Fe:=fun ρ S=>(fo ρ S).bind fun d S1=>if zcO c m d S1 then (zae fs ρ S1).bind fun ds S2=>G (d::ds) S2 else .bad
noncomputable def eMk(c:Str)(dds:List D)(G:List D->Sto->Out D)(fs:List Fe):Fe:=fun ρ S=>(zae fs ρ S).bind fun ds S1=>(G (.ref S1.length::(ds++dds)) (S1++[⟨c,[]⟩])).bind fun r S2=>match r with | .non=>.ok (.ref S1.length) S2 | _=>.bad
structure Same'(cl:Cf)(X:Cx):Prop where
 kk:X.K=cl.K
 pp:X.prog=cl.P
 ww:X.w=cl.wo
section
variable{cl:Cf}{cn:Str}{X:Cx}{E:St->XK}{a o e:Expr}{fa fo fe:Fe}{f:Str}{pos apos:Pos}{own:Bool}
def zpi(sm:Same' cl X)(hk:zjj cl cn f)(σ:St)(H:Hp)(Q:VK)(q:tE cl E (zm7 cn f fa fo) σ H Q) :
  tOp (fun x y H Q=>∃kb a k xs m,x=.ref kb/\y=.ref a/\zfX H kb k/\H a=some (.ext (DN X.prog X.w a xs))/\zkQ H xs m/\Q (.bl (m.lookup k).isNone) H) (tE cl E fa) (zth X.K (tE cl E fo) f) σ H Q:=by
 obtain ⟨B,w,ρ,S,rfl,R,q⟩:=q;refine ⟨B,w,ρ,S,rfl,R,?_⟩;unfold zm7 at q
 cases hf:fa ρ S with
 | bad=>rwa [hf] at q
 | exc c S1=>rwa [hf] at q
 | ok dk S1 =>
  rw [hf] at q;intro v w1 R1 F1 h1;refine ⟨B,w1,ρ,S1,rfl,R1,?_⟩;dsimp only [Out.bind] at q
  cases hh:fo ρ S1 with
  | bad=>rwa [hh] at q
  | exc c S2=>rw [hh] at q;exact fun w2 R2 F2=>q w2 R2 (F1.trans F2)
  | ok d S2 =>
   rw [hh] at q;intro y w2 R2 F2 h2;dsimp only at q
   cases hn:zjn dk with
   | none=>rw [hn] at q;exact q.elim
   | some k =>
    cases hd:zgu cn f d S2 with
    | none=>rw [hn,hd] at q;exact q.elim
    | some t =>
     obtain ⟨n,ob,ds⟩:=t;rw [hn,hd] at q;dsimp only at q;obtain ⟨a,dx,fs,c,xs,m,rfl,_,_,_,hH,_,c1,c2,lv,_,hc,he,hs⟩:=zjc hk R2 h2 hd;obtain ⟨kb,rfl,ks⟩:=zlc (h1.up F2) hn;rw [sm.kk];refine ⟨a,_,dx,fs,_,rfl,hH,c1,c2,lv,kb,c,k,xs,m,rfl,rfl,ks.at,by rw [sm.pp,sm.ww];exact hc,he.ents,?_⟩
     have:(m.lookup k).isNone=(zcC k ds).isNone:=by
      rcases zkz hs k with ⟨e1,e2⟩ | ⟨_,_,e1,e2,_⟩<;>rw [e1,e2]<;>rfl
     rw [this];exact q _ w2 R2 (F1.trans F2) (.bl _)
def zom(hu:X.A.units+16<cLine)(sm:Same' cl X)(hk:zjj cl cn f)(ha:PE X a (tE cl E fa))(ho:PE X o (tE cl E fo))(hb:attributeBase o f X.env (eval o X.env)=eval o X.env)(hm:behindInMarks .NotIn (.Attribute o f apos)=false):PE X (.Compare a [.NotIn] [.Attribute o f apos] pos) (tE cl E (zm7 cn f fa fo)) :=
 PE.imp (zh8 (zk8 hu) ha (zeZ ho hb) hm) (zpi sm hk)
def zn2(hu:X.A.units+16<cLine)(sm:Same' cl X)(hk:zjj cl cn f)(ha:PE X a (tE cl E fa))(ho:PE X o (tE cl E fo))(hb:attributeBase o f X.env (eval o X.env)=eval o X.env)(hm:behindInMarks .NotIn (.Attribute o f apos)=false):PT X (.Compare a [.NotIn] [.Attribute o f apos] pos) (tTr cl E (zm7 cn f fa fo)) :=
 PT.imp (zhV (zk8 hu) ha (zeZ ho hb) hm) fun _ _ _ q=>zpi sm hk _ _ _ (zf1 q)
def ziu{B:Base}{σ:St}{w:Wd}{ρ:Env}{S:Sto}{i:Nat}{k:NK}(R:Rel cl B σ w ρ S)(h:zld ρ i=some k):∃kb,σ[i]?=some (some (.ref kb))/\zjq w kb k:=by
 unfold zld at h;split at h
 ·rename_i dk hi;obtain ⟨v,e,r⟩:=R.slots i false dk hi;obtain ⟨kb,rfl,ks⟩:=zlc r h;exact ⟨kb,e,ks⟩
 ·cases h
def zl3{i:Nat}{x:Str}{p:Pos}(hN:X.N[i]?=some x)(hv:Vis X.env.scope x)(hd:(x == ("__debug__":Str))=false)(hcd:(x == ("__classdict__":Str))=false)(hu:X.A.units+16<cLine)(sm:Same' cl X)(hk:zjj cl cn f)(ho:PE X o (tE cl E fo))(hb:attributeBase o f X.env (eval o X.env)=eval o X.env)(hs:zeD (.Name x p)):PE X (.Subscript (.Attribute o f apos) (.Name x p) pos) (tE cl E (ziU cn f fo i)):=by
 refine PE.imp (zoV (zpC hu) (zeZ ho hb) (zcK hN hv hd hcd) hs) ?_;rintro σ H Q ⟨B,w,ρ,S,rfl,R,q⟩;refine ⟨B,w,ρ,S,rfl,R,?_⟩;unfold ziU at q
 cases hf:fo ρ S with
 | bad=>rwa [hf] at q
 | exc c S1=>rwa [hf] at q
 | ok d S1 =>
  rw [hf] at q;intro v w1 R1 F1 h1;dsimp only [Out.bind] at q
  cases hn:zld ρ i with
  | none=>rw [hn] at q;exact q.elim
  | some k =>
   cases hd:zgu cn f d S1 with
   | none=>rw [hn,hd] at q;exact q.elim
   | some t =>
    obtain ⟨n,ob,ds⟩:=t;rw [hn,hd] at q;dsimp only at q;obtain ⟨a,dx,fs,c,xs,m,rfl,_,_,_,hH,_,c1,c2,lv,_,hc,he,hs⟩:=zjc hk R1 h1 hd;obtain ⟨kb,eσ,ks⟩:=ziu R1 hn
    cases hl:zcC k ds with
    | none=>rw [hl] at q;exact q.elim
    | some r =>
     rw [hl] at q
     rcases zkz hs k with ⟨_,e2⟩ | ⟨y,r',e1,e2,sh⟩
     ·rw [hl] at e2;cases e2
     ·rw [hl] at e2;cases e2;rw [sm.kk];exact ⟨a,_,dx,fs,_,rfl,hH,c1,c2,lv,_,eσ,c,kb,k,xs,m,y,rfl,rfl,ks.at,by rw [sm.pp,sm.ww];exact hc,he.ents,e1,q _ w1 R1 F1 sh⟩
def zlM{i:Nat}{x:Str}{p p3:Pos}(hN:X.N[i]?=some x)(hv:Vis X.env.scope x)(hd:(x == ("__debug__":Str))=false)(hcd:(x == ("__classdict__":Str))=false)(hu:X.A.units+16<cLine)(sm:Same' cl X)(hk:zjj cl cn f)(ho:PE X o (tE cl E fo))(hb:attributeBase o f X.env (eval o X.env)=eval o X.env)(he:PE X e (tE cl E fe))
  (sw1:swapsWithSole [.Subscript (.Attribute o f apos) (.Name x p) p3] e pos.line X.env=pure false) (sw2:swappedStores [.Subscript (.Attribute o f apos) (.Name x p) p3] e X.env=pure none)
  (ha:∀v,assign (.Subscript (.Attribute o f apos) (.Name x p) p3) X.env v=(do
   let ov ← holding [v] (eval (.Attribute o f apos) X.env)
   let iv ← holding [v,ov] (eval (.Name x p) X.env)
   standAt p3
   holding [v,ov,iv] (setItem ov iv v)
   release [v,ov,iv] [])):PS X (.Assign [.Subscript (.Attribute o f apos) (.Name x p) p3] e pos) (tS cl E own (zhM cn f fo i fe)):=by
 refine PS.imp (zk3 he (zoO (zeZ ho hb) (zcK hN hv hd hcd) (zlY hu) ha) sw1 sw2 rfl) ?_;rintro De σ H ⟨B,w,ρ,S,rfl,R,q⟩;refine ⟨B,w,ρ,S,rfl,R,?_⟩;unfold zhM at q
 cases hf:fe ρ S with
 | bad=>rwa [hf] at q
 | exc c S1=>rw [hf] at q;exact fun w' R' F'=>q σ w' R' F'
 | ok r S1 =>
  rw [hf] at q;intro v w1 R1 F1 h1;dsimp only at q;refine ⟨B,w1,ρ,S1,rfl,R1,?_⟩
  cases hfo:fo ρ S1 with
  | bad=>rwa [hfo] at q
  | exc c S2=>rw [hfo] at q;exact fun w' R' F'=>q σ w' R' (F1.trans F')
  | ok d S2 =>
   rw [hfo] at q;intro y w2 R2 F2 h2;dsimp only at q
   cases hn:zld ρ i with
   | none=>rw [hn] at q;exact q.elim
   | some k =>
    cases hd:zgu cn f d S2 with
    | none=>rw [hn,hd] at q;exact q.elim
    | some t =>
     obtain ⟨n,ob,ds⟩:=t;rw [hn,hd] at q;dsimp only at q;split at q
     ·rename_i hc0;rw [yab,yab] at hc0;obtain ⟨⟨z1,z2⟩,z3⟩:=hc0;obtain ⟨a,dx,fs,c,xs,m,rfl,hS,hmu,how,hH,hF,c1,c2,lv,oc,hc,he,hs⟩:=zjc hk R2 h2 hd;obtain ⟨kb,eσ,ks⟩:=ziu R2 hn
      have hno:m.lookup k=none:=by
       rcases zkz hs k with ⟨e1,_⟩ | ⟨_,_,_,e2,_⟩
       ·exact e1
       ·rw [e2] at z1;cases z1
      rw [sm.kk];refine ⟨a,_,dx,fs,_,rfl,hH,c1,c2,lv,_,eσ,c,kb,k,xs,m,rfl,rfl,ks.at,by rw [sm.pp,sm.ww];exact hc,he.ents,hno,by rw [zlp hs];exact yap z2,fun u ru=>?_⟩;obtain ⟨R3,F3⟩:=R2.setd hS hmu how hH hF lv oc hc he hs ks ru (h1.up F2) z3;rw [sm.pp,sm.ww];exact q σ _ R3 (F1.trans (F2.trans F3))
     ·exact q.elim
def zlO(sm:Same' cl X)(hk:zjj cl cn f)(ho:PE X o (tE cl E fo))(he:PE X e (tE cl E fe))(hs:swapsWith e (some (.Attribute o f apos)) pos.line X.env=pure false):PS X (.Assign [.Attribute o f apos] e pos) (tS cl E own (zhP cn f fo fe)):=by
 refine PS.imp (zk2 ho he hs) ?_;rintro De σ H ⟨B,w,ρ,S,rfl,R,q⟩;refine ⟨B,w,ρ,S,rfl,R,?_⟩;unfold zhP at q
 cases hf:fe ρ S with
 | bad=>rwa [hf] at q
 | exc c S1=>rw [hf] at q;exact fun w' R' F'=>q σ w' R' F'
 | ok r S1 =>
  rw [hf] at q;intro v w1 R1 F1 h1;dsimp only at q;refine ⟨B,w1,ρ,S1,rfl,R1,?_⟩
  cases hfo:fo ρ S1 with
  | bad=>rwa [hfo] at q
  | exc c S2=>rw [hfo] at q;exact fun w' R' F'=>q σ w' R' (F1.trans F')
  | ok d S2 =>
   rw [hfo] at q;intro y w2 R2 F2 h2
   cases d with
   | ref n =>
    dsimp only at q
    cases hS:S2[n]? with
    | none=>rw [hS] at q;exact q.elim
    | some ob =>
     rw [hS] at q;dsimp only at q;split at q
     ·rename_i hc0;rw [yab] at hc0;obtain ⟨a,dx,fs,rfl,hmu,how,hH,hF⟩:=zfq R2 h2 hS;rw [sm.kk];refine ⟨a,_,dx,fs,rfl,hH,yap hc0.1 ▸ hk.1,yap hc0.1 ▸ hk.2,by rw [hF.len];exact yap hc0.2,?_⟩;obtain ⟨R3,F3⟩:=R2.setf (f:=f) hS hmu how hH hF (h1.up F2);exact q σ _ R3 (F1.trans (F2.trans F3))
     ·exact q.elim
   | _=>exact q.elim
def zlP{i:Nat}{x:Str}{p p2:Pos}(hN:X.N[i]?=some x)(hv:Vis X.env.scope x)(hd:(x == ("__debug__":Str))=false)(hcd:(x == ("__classdict__":Str))=false)(sm:Same' cl X)(hk:zjj cl cn f)(hs:swapsWith (.Dict [] [] p) (some (.Attribute (.Name x p2) f apos)) pos.line X.env=pure false):PS X (.Assign [.Attribute (.Name x p2) f apos] (.Dict [] [] p) pos) (tS cl E own (zl4 cn f i)):=by
 refine PS.imp (zk2 (zcK hN hv hd hcd) zmo hs) ?_;rintro De σ H ⟨B,w,ρ,S,rfl,R,q⟩;intro pd hpd;unfold zl4 at q;split at q
 ·rename_i n hi;obtain ⟨v,ev,rv⟩:=R.slots i false _ hi
  cases hS:S[n]? with
  | none=>rw [hS] at q;exact q.elim
  | some ob =>
   rw [hS] at q;dsimp only at q;split at q
   ·rename_i hc0;rw [yab] at hc0;obtain ⟨a,dx,fs,rfl,hmu,how,hH,hF⟩:=zfq R rv hS;rw [sm.kk];refine ⟨_,ev,a,_,dx,fs,rfl,?_,yap hc0.1 ▸ hk.1,yap hc0.1 ▸ hk.2,by rw [hF.len];exact yap hc0.2,?_⟩
    ·rw [zaf (zag hH hpd)];exact hH
    ·obtain ⟨R3,F3⟩:=R.newf (f:=f) hS hmu how hH hF hpd;rw [sm.pp,sm.ww];exact q σ _ R3 F3
   ·exact q.elim
 ·exact q.elim
end
noncomputable def zeK(C:Addr)(m:Str)(sp:Sp)(dvs:List V)(E:St->XK)(ta:TE)(t:TA):TE:=fun σ H Q=>ta σ H fun x H1=>∃a dx fs,x=.ref a/\H1 a=some (.ins C dx fs)/\fs.lookup m=none ∧
 t σ H1 fun vs H2=>sp (x::(vs++dvs)) H2 Q (E σ)
noncomputable def zkS(C:Addr)(sp:Sp)(dvs:List V)(E:St->XK)(t:TA):TE:=fun σ H Q=>t σ H fun vs H1=>∀x dx,H1 x=none->H1 dx=none->dx≠x →
 sp (.ref x::(vs++dvs)) (upd (upd H1 dx (.own x)) x (.ins C dx [])) (fun v H2=>v=.non/\Q (.ref x) H2) (E σ)
section
variable{X:Cx}{CX:CXT}{k:Nat}{f C:Addr}{fd:FuncData}{ps:List Str}{sp:Sp}{dvs:List V}{ds:List Value}{E:St->XK}{x m:Str}{p pos apos:Pos}{e o:Expr}{es:List Expr}{ta:TE}{t:TA}
def zjP{pl:Sem Bool}(he:PE X o ta)(c:Cls X.K C)(hm:Meth X.K C m f)(F:FnOk X.prog X.w X.K X.mg X.base CX k f fd ps sp)(hr:Room k X.A)(hb:zck X.K fd ps ds)(hd:Vals dvs ds)(hx:zb7 CX X E)(ha:PA X (e::es) t)
  (hst:starEach (e::es) X.env=(false,eval e X.env)::starEach es X.env) (hpl:(backTo pos (starEach es X.env)).any (·.1)=false)
  (ht:eval (.Call (.Attribute o m apos) (e::es) [] pos) X.env=(do
   let ov ← eval o X.env
   standAt apos.atName
   let (f,first) ← holding [ov] (getMethod ov m pl)
   callWith pos f first (backTo pos (starEach (e::es) X.env)) (backToKw pos (keywordEach [] X.env)))) :
  PE X (.Call (.Attribute o m apos) (e::es) [] pos) (zeK C m sp dvs E ta t):=by
 intro pins s σ H Q I h;refine PySem.W.methodCall_KW (pl:=pl) (thn (he pins s σ H _ I h) fun u s1 ⟨x,H1,I1,rx,a,dx,fs,ex,ea,l,q⟩=>?_) ht;subst ex;obtain rfl:u=Value.ref a:=rx;refine zd5 I1 ea c hm l ?_;refine ycy (first:=[.ref a]) (h₀:=X.base) I.ok.mod.kin hm.kp (thn (ha pos pins s1 σ H1 _ I1 q) fun us s2 ⟨vs,H2,I2,r,q2⟩=>⟨I2.kIn,?_⟩) hst hpl;exact zej (us:=.ref a::us) (vs:=.ref a::vs) F hr hb hd hx I2 (.cons rfl r) q2
def zh7{pl:Sem Bool}(he:PE X o ta)(c:Cls X.K C)(hm:Meth X.K C m f)(F:FnOk X.prog X.w X.K X.mg X.base CX k f fd ps sp)(hr:Room k X.A)(hb:zck X.K fd ps ds)(hd:Vals dvs ds)(hx:zb7 CX X E)
  (ht:eval (.Call (.Attribute o m apos) [] [] pos) X.env=(do
   let ov ← eval o X.env
   standAt apos.atName
   let (f,first) ← holding [ov] (getMethod ov m pl)
   callWith pos f first (backTo pos (starEach [] X.env)) (backToKw pos (keywordEach [] X.env)))) :
  PE X (.Call (.Attribute o m apos) [] [] pos) (zeK C m sp dvs E ta zqj):=by
 intro pins s σ H Q I h;refine PySem.W.methodCall_KW (pl:=pl) (thn (he pins s σ H _ I h) fun u s1 ⟨x,H1,I1,rx,a,dx,fs,ex,ea,l,q⟩=>?_) ht;subst ex;obtain rfl:u=Value.ref a:=rx;refine zd5 I1 ea c hm l ?_;exact PySem.W.callWith_K0 (first:=[.ref a]) I1.kIn hm.kp (zej (us:=[.ref a]) (vs:=[.ref a]) F hr hb hd hx I1 (.cons rfl .nil) q)
def zhR{pins:Z3}{σ:St}{H:Hp}{s:Shared}{Q:VK}{us:List Value}{vs:List V}(M:Mk X.K C f)(F:FnOk X.prog X.w X.K X.mg X.base CX k f fd ps sp)(hr:Room (k+1) X.A)(hb:zck X.K fd ps ds)(hd:Vals dvs ds)
  (hx:zb7 CX X E) (I:Inv X pins σ H s) (r:Vals vs us)
  (h:∀x dx,H x=none->H dx=none->dx≠x->sp (.ref x::(vs++dvs)) (upd (upd H dx (.own x)) x (.ins C dx [])) (fun v H2=>v=.non/\Q (.ref x) H2) (E σ)) :
  wpAny (model X.prog X.w) X.A (call (.ref C) us) (EP X pins σ Q) X.xe s:=by
 have hq:=h (s.heap.objs.size+1) s.heap.objs.size (I.hok.fresh (ybg _)) (I.hok.fresh (yaf _)) (yan (ycf _));have I2:=Inv.made (C:=C) I;have r2:Vals (V.ref (s.heap.objs.size+1)::(vs++dvs)) (Value.ref (s.heap.objs.size+1)::(us++ds)):=.cons rfl (r.append hd)
 have hl:(Value.ref (s.heap.objs.size+1)::us++ds).length=ps.length:=by
  have e:=r2.length;rw [F.len _ _ _ _ hq] at e;exact e.symm
 refine wpAny_call (zkg (f:=f) I.kIn M.makes M.init (yb9.mp M.fn) (ycc (F.run _ X.stack _ _ ⟨Value.ref (s.heap.objs.size+1)::us,[]⟩ (Value.ref (s.heap.objs.size+1)::(us++ds)) _ _ (E σ) (hr.make C us [])
  (I2.env0.make C us []) (hb _ (Value.ref (s.heap.objs.size+1)::us) I2.kIn hl) r2 hq) fun r s' hq'=>?_))
 cases r with
 | error e=>exact hx pins σ _ _ e s' I2 hq'
 | ok fl =>
  cases fl with
  | ret u =>
   obtain ⟨v,H',I3,rv,ev,q3⟩:=I2.after hq';subst ev;exact ⟨rv,⟨V.ref (s.heap.objs.size+1),H',I3,rfl,q3⟩⟩
  | next=>exact False.elim hq'
  | brk=>exact False.elim hq'
  | cont=>exact False.elim hq'
def zga(M:Mk X.K C f)(F:FnOk X.prog X.w X.K X.mg X.base CX k f fd ps sp)(hr:Room (k+1) X.A)(hg:Gl X x)(hm:X.mg x=some (.ref C))(hb:zck X.K fd ps ds)(hd:Vals dvs ds)(hx:zb7 CX X E)
  (ha:PA X (e::es) t) (hdb:(x == ("__debug__":Str))=false) (he:starEach (e::es) X.env=(false,eval e X.env)::starEach es X.env) (hpl:(backTo pos (starEach es X.env)).any (·.1)=false) :
  PE X (.Call (.Name x p) (e::es) [] pos) (zkS C sp dvs E t):=by
 intro pins s σ H Q I h;refine ybC (zdA I hg hm ?_ hdb);refine ycy (h₀:=X.base) I.ok.mod.kin M.kp (thn (ha pos pins s σ H _ I h) fun us s1 ⟨vs,H1,I1,r,q⟩=>⟨I1.kIn,?_⟩) he hpl;exact zhR M F hr hb hd hx I1 r q
end
section
variable{cl:Cf}{E:St->XK}{fs:List Fe}{fo:Fe}{G:List D->Sto->Out D}{σ:St}{H:Hp}{Q:VK}{n:Nat}{c m:Str}{ρ:Env}
theorem zcS:∀{fs:List Fe} {S S1:Sto} {ds:List D},zae fs ρ S=.ok ds S1->ds.length=fs.length
 | [],S,S1,ds,h=>by cases h;rfl
 | f::fs,S,S1,ds,h=>by
  unfold zae at h
  cases h1:f ρ S with
  | bad=>rw [h1] at h;cases h
  | exc c S2=>rw [h1] at h;cases h
  | ok d S2 =>
   rw [h1] at h;dsimp only [Out.bind] at h
   cases h2:zae fs ρ S2 with
   | bad=>rw [h2] at h;cases h
   | exc c S3=>rw [h2] at h;cases h
   | ok es S3=>rw [h2] at h;cases h;rw [yag,yag,zcS h2]
def zil{B:Base}{w:Wd}{S:Sto}{v:V}{d:D}(R:Rel cl B σ w ρ S)(hv:Shd cl w v d)(h:zcO c m d S=true):∃a dx fs,v=.ref a/\w.H a=some (.ins (cl c) dx fs)/\fs.lookup m=none:=by
 unfold zcO at h
 cases d with
 | ref n =>
  dsimp only at h
  cases hS:S[n]? with
  | none=>rw [hS] at h;cases h
  | some ob =>
   rw [hS] at h;dsimp only at h;rw [yab] at h;obtain ⟨a,dx,fs,rfl,_,_,hH,hF⟩:=zfq R hv hS;have e:=yap h.1;subst e;exact ⟨a,dx,fs,rfl,hH,hF.miss (by simpa using h.2)⟩
 | _=>cases h
def zpo(q:tE cl E (zff c m G fo fs) σ H Q)(hn:fs.length+1=n):zeK (cl c) m (zgG cl n false G) [] E (tE cl E fo) (tAs cl E fs) σ H Q:=by
 obtain ⟨B,w,ρ,S,rfl,R,q⟩:=q;refine ⟨B,w,ρ,S,rfl,R,?_⟩;unfold zff at q
 cases hfo:fo ρ S with
 | bad=>rwa [hfo] at q
 | exc c S1=>rwa [hfo] at q
 | ok d S0 =>
 rw [hfo] at q;intro v w0 R0 F0 h0;dsimp only [Out.bind] at q
 cases hok:zcO c m d S0 with
 | false=>rw [hok] at q;exact q.elim
 | true =>
 rw [hok,if_pos rfl] at q;obtain ⟨a,dx,fs',rfl,hH,hm⟩:=zil R0 h0 hok;refine ⟨a,dx,fs',rfl,hH,hm,B,w0,ρ,S0,rfl,R0,?_⟩
 cases hf:zae fs ρ S0 with
 | bad=>rwa [hf] at q
 | exc c S1=>rw [hf] at q;exact fun w1 R1 F1=>q w1 R1 (F0.trans F1)
 | ok ds S1 =>
  rw [hf] at q;intro vs w1 R1 F1 h1;dsimp only at q;refine ⟨?_,w1.base,w1.inn,d::ds,S1,rfl,R1.wd.enter,?_,?_⟩
  ·rw [yaN,yag,h1.length,zcS hf];exact hn
  ·rw [yaN];exact .cons ((h0.up F1).up (zbz w1)) (h1.up (zbz w1))
  cases hg:G (d::ds) S1 with
  | bad=>rwa [hg] at q
  | exc c S2 =>
   rw [hg] at q;intro w2 W2 F2;obtain ⟨R3,F3⟩:=R1.leave W2 F2;exact q (w1.back w2) R3 (F0.trans (F1.trans F3))
  | ok r S2 =>
   rw [hg] at q;intro v w2 W2 F2 r2;obtain ⟨R3,F3⟩:=R1.leave W2 F2;exact q v (w1.back w2) R3 (F0.trans (F1.trans F3)) (Shd.up (zce W2) r2)
def zpn(q:tN cl E (zff c m G fo fs) σ H Q)(hn:fs.length+1=n):zeK (cl c) m (zgG cl n true G) [] E (tE cl E fo) (tAs cl E fs) σ H Q:=by
 obtain ⟨B,w,ρ,S,rfl,R,q⟩:=q;refine ⟨B,w,ρ,S,rfl,R,?_⟩;unfold zff at q
 cases hfo:fo ρ S with
 | bad=>rwa [hfo] at q
 | exc c S1=>rwa [hfo] at q
 | ok d S0 =>
 rw [hfo] at q;intro v w0 R0 F0 h0;dsimp only [Out.bind] at q
 cases hok:zcO c m d S0 with
 | false=>rw [hok] at q;exact q.elim
 | true =>
 rw [hok,if_pos rfl] at q;obtain ⟨a,dx,fs',rfl,hH,hm⟩:=zil R0 h0 hok;refine ⟨a,dx,fs',rfl,hH,hm,B,w0,ρ,S0,rfl,R0,?_⟩
 cases hf:zae fs ρ S0 with
 | bad=>rwa [hf] at q
 | exc c S1=>rw [hf] at q;exact fun w1 R1 F1=>q w1 R1 (F0.trans F1)
 | ok ds S1 =>
  rw [hf] at q;intro vs w1 R1 F1 h1;dsimp only at q;refine ⟨?_,w1.base,w1.inn,d::ds,S1,rfl,R1.wd.enter,?_,?_⟩
  ·rw [yaN,yag,h1.length,zcS hf];exact hn
  ·rw [yaN];exact .cons ((h0.up F1).up (zbz w1)) (h1.up (zbz w1))
  cases hg:G (d::ds) S1 with
  | bad=>rwa [hg] at q
  | exc c S2 =>
   rw [hg] at q;intro w2 W2 F2;obtain ⟨R3,F3⟩:=R1.leave W2 F2;exact q (w1.back w2) R3 (F0.trans (F1.trans F3))
  | ok r S2 =>
   rw [hg] at q;intro v w2 W2 F2 r2;obtain ⟨R3,F3⟩:=R1.leave W2 F2;obtain ⟨a,o,i,rfl,k1,k2,t⟩:=r2;have hfr:w1.base.Fr a=none:=(W2.own a _ k1).elim (fun z=>by cases z) fun z=>z
   have k3:(w1.back w2).ow a=some .far:=by
    show (if (w1.base.Fr a).isSome=true then w1.ow a else Root.out (w2.ow a))=_;rw [hfr,k1];rfl
   have hb:B.Fr a=none:=by
    cases z:B.Fr a with
    | none=>rfl
    | some u=>rw [zcD R1.wd z] at hfr;cases hfr
   have hd:=zfO (w:=w1.back w2) (a:=a) (by rw [k3];exact yaI _);have:=q a o ((w1.back w2).del a) (R3.del k3 hb) (F0.trans (F1.trans (F3.trans hd))) (if_pos rfl) ((t.up (zce W2)).up hd);rwa [zhi (w:=w1.back w2) k2] at this
def ztt{dds:List D}{dvs:List V}(hdv:∀w,Shds cl w dvs dds)(q:tE cl E (eMk c dds G fs) σ H Q)(hn:fs.length+dds.length+1=n):zkS (cl c) (zgG cl n false G) dvs E (tAs cl E fs) σ H Q:=by
 obtain ⟨B,w,ρ,S,rfl,R,q⟩:=q;refine ⟨B,w,ρ,S,rfl,R,?_⟩;unfold eMk at q
 cases hf:zae fs ρ S with
 | bad=>rwa [hf] at q
 | exc c S1=>rwa [hf] at q
 | ok ds S1 =>
  rw [hf] at q;intro vs w1 R1 F1 h1;dsimp only [Out.bind] at q;intro x dx hx hdx ne;obtain ⟨R2,F2⟩:=R1.made (c:=c) hx hdx ne
  have hmu:(w1.addO x dx (cl c) S1.length).mu[S1.length]?=some x:=by
   show (w1.mu++[x])[S1.length]?=some x;rw [yat (by rw [R1.wd.len];exact yaf _),R1.wd.len,ycz];rfl
  refine ⟨?_,(w1.addO x dx (cl c) S1.length).base,(w1.addO x dx (cl c) S1.length).inn,.ref S1.length::(ds++dds),S1++[⟨c,[]⟩],rfl,R2.wd.enter,?_,?_⟩
  ·rw [yag,yar,h1.length,zcS hf,(hdv w1).length];exact hn
  ·exact .cons (.ref hmu) (((h1.up F2).up (zbz _)).append (hdv _))
  cases hg:G (.ref S1.length::(ds++dds)) (S1++[⟨c,[]⟩]) with
  | bad=>rwa [hg] at q
  | exc c S2 =>
   rw [hg] at q;intro w2 W2 F3;obtain ⟨R3,F4⟩:=R2.leave W2 F3;exact q ((w1.addO x dx _ S1.length).back w2) R3 (F1.trans (F2.trans F4))
  | ok r S2 =>
   rw [hg] at q;intro v w2 W2 F3 r2
   cases r with
   | non =>
    obtain ⟨R3,F4⟩:=R2.leave W2 F3;refine ⟨by cases r2;rfl,q (.ref x) ((w1.addO x dx _ S1.length).back w2) R3 (F1.trans (F2.trans F4)) (.ref (F4.mu _ _ hmu))⟩
   | _=>exact q.elim
end
end S2
namespace L2
open PySem PySem.Spec PyProof.Rows
section
variable{X:Cx}
noncomputable def zsh(ns:List Int):Nat:=argBest (fun i j=>decide (ns.getD i 0<ns.getD j 0)) (ns.length-1)
noncomputable def zvi(ns:List Int):Int:=ns.getD (zsh ns) 0
end
end L2
namespace S2
open PySem PySem.Spec PyProof.Rows L2
noncomputable def zqD:Operator->Option (Int->Int->Int) | .Add=>some (·+·) | .Sub=>some (· - ·) | _=>none
noncomputable def zow(i:Nat)(g:Int->Int->Int)(fe:Fe):Fs:=fun ρ S=>match ρ[i]? with
 | some (some (false,.int a))=>(match fe ρ S with
  | .ok (.int b) S1=>.nx (ρ.set i (some (false,.int (g a b)))) S1
  | .ok _ _=>.bad
  | .exc c S1=>.ex c ρ S1
  | .bad=>.bad)
 | _=>.bad
section
variable{cl:Cf}{X:Cx}{E:St->XK}{e:Expr}{fe f:Fe}{pos:Pos}{own:Bool}
def zn8{i:Nat}{x:Str}{op:Operator}{g:Int->Int->Int}{p:Pos}(hop:zqD op=some g)(hN:X.N.Nodup)(hi:X.N[i]?=some x)(hx:Loc X.env.scope x)(he:PE X e (tE cl E fe))(hf:X.fn x=true\/X.env.scope.names.lookup x=some .local):PS X (.AugAssign (.Name x p) op e pos) (tS cl E own (zow i g fe)):=by
 have main:∀ti:TIp,PIp X op ti->(∀a b H Q,Q (.int (g a b)) H->ti (.int a) (.int b) H Q)->PS X (.AugAssign (.Name x p) op e pos) (tS cl E own (zow i g fe)):=by
  intro ti ho hti;refine PS.imp (zoL hN hi hx he ho hf) ?_;rintro De σ H ⟨B,w,ρ,S,rfl,R,q⟩;unfold zow at q;split at q
  ·rename_i a ha;obtain ⟨v,ev,rv⟩:=R.slots i false _ ha;have rv':Shd cl w v (.int a):=rv;cases rv';refine ⟨_,ev,B,w,ρ,S,rfl,R,?_⟩
   cases hfe:fe ρ S with
   | bad=>rwa [hfe] at q
   | exc c S1=>rw [hfe] at q;exact fun w' R' F'=>q σ w' R' F'
   | ok d S1 =>
    rw [hfe] at q;intro y w1 R1 F1 h1
    cases d with
    | int b =>
     cases h1;exact hti a b _ _ (q _ w1 (R1.put (.int _)) F1)
    | _=>exact q.elim
  ·exact q.elim
 cases op<;>simp [zqD] at hop<;>subst hop
 ·exact main ztm zpG fun a b H Q q=>⟨a,b,rfl,rfl,q⟩
 ·exact main ztl zpF fun a b H Q q=>⟨a,b,rfl,rfl,q⟩
def zj1:OpR X (compareOp .Is) (fun x y H Q=>∃i j,x=.bl i/\y=.bl j/\Q (.bl (decide (i=j))) H):=by
 intro pins s σ H x y v u Q I rx ry h;obtain ⟨i,j,rfl,rfl,q⟩:=h;cases rx;cases ry;refine wpAny_is_plain (by rfl) ?_;refine ⟨.bl (decide (i=j)),H,I,?_,q⟩;show _=Value.bool _;congr 1
 cases i<;>cases j<;>rfl
noncomputable def zqw:D->D->Option D | .bl a,.bl b=>some (.bl (decide (a=b))) | _,_=>none
def zpd:OpD X cl (compareOp .Is) zqw:=by
 intro pins s σ H x y v u Q I rx ry h;obtain ⟨w,d,e,r,rfl,hx,hy,hg,q⟩:=h;unfold zqw at hg;split at hg
 ·cases hg;obtain rfl:=hx.blI;obtain rfl:=hy.blI;exact zj1 pins s σ w.H _ _ v u Q I rx ry ⟨_,_,rfl,rfl,q _ w (Grow.refl _) (.bl _)⟩
 ·cases hg
noncomputable def zrD:List D->Option D
 | [.lst l]=>(zco l).bind fun ns=>if ns.isEmpty then none else some (.int (zvi ns))
 | ds=>zvj ds
end
end S2
namespace S2
open PySem PySem.Spec PyProof.Rows L2
noncomputable def zjf:D->Option Key | .int i=>some (.inl i) | .str x=>some (.inr x) | _=>none
noncomputable def zb6:List D->Option (List Key)
 | []=>some []
 | d::l=>(zjf d).bind fun k=>(zb6 l).bind fun ks=>some (k::ks)
noncomputable def zfr:D->Option (List Key) | .tup l=>zb6 l | _=>none
section
variable{cl:Cf}{w:Wd}
def zlW{k:Key}{d:D}{v:V}(e:zjf d=some k)(h:Shd cl w v d):v=kV k:=by
 cases h<;>first | (cases e;done) | (cases e;rfl)
theorem zeP:∀{l:List D} {ks:List Key} {xs:List V},zb6 l=some ks->Shds cl w xs l->xs=ks.map kV
 | [],ks,xs,e,h=>by cases e;cases h;rfl
 | d::l,ks,xs,e,h=>by
  cases h with
  | cons r t =>
   cases e1:zjf d with
   | none=>rw [show zb6 (d::l)=(zjf d).bind _ from rfl,e1] at e;cases e
   | some k =>
    rw [show zb6 (d::l)=(zjf d).bind fun k=>(zb6 l).bind fun ks=>some (k::ks) from rfl,e1] at e
    cases e2:zb6 l with
    | none =>
     rw [show ((some k).bind fun k=>(zb6 l).bind fun ks=>some (k::ks))=(zb6 l).bind fun ks=>some (k::ks) from rfl,e2] at e;cases e
    | some ks' =>
     rw [show ((some k).bind fun k=>(zb6 l).bind fun ks=>some (k::ks))=(zb6 l).bind fun ks=>some (k::ks) from rfl,e2] at e;cases e;rw [zlW e1 r,zeP e2 t];rfl
def zeh{k:List Key}{d:D}{v:V}(e:zfr d=some k)(h:Shd cl w v d):∃b,v=.ref b/\w.H b=some (.tup (k.map kV))/\w.ow b=none:=by
 cases h with
 | tup e1 e2 r=>exact ⟨_,rfl,by rw [e1,zeP e r],e2⟩
 | non=>cases e
 | bl=>cases e
 | int=>cases e
 | str=>cases e
 | lst=>cases e
 | dicK=>cases e
 | dicT=>cases e
 | ref=>cases e
 | scr=>cases e
 | scrK=>cases e
 | exc=>cases e
end
noncomputable def zm9:Fe:=fun _ S=>.ok (zup []) S
section
variable{X:Cx}{cl:Cf}{E:St->XK}{own:Bool}{a b e:Expr}{f g fe fk:Fe}{pos pos':Pos}{i:Nat}{x:Str}{ap cp:Pos}
def zfB:PE X (.Dict [] [] pos) (tN cl E zm9):=PE.imp zjR fun σ H Q ⟨B,w,ρ,S,e,R,q⟩=>by
 subst e;intro p hp;exact q p (.dT []) w R (Fut.refl _) hp (.dicT .nil)
end
end S2
namespace ST
open PySem PySem.Spec PyProof.Rows
noncomputable def zgY:List Int:=[0,1,2,3,4,5,6,7]
noncomputable def zac(ks:List Int):List Int:=zgY.filter fun x=>decide (x∈ks)
def zim{k:Int}:k∈zgY↔0<=k/\k<8:=by
 unfold zgY;simp only [yam,ya0,yck];omega
def zaG{ks:List Int}{k:Int}:k∈zac ks↔(0<=k/\k<8)/\k∈ks:=by
 unfold zac;rw [ycm,zim,decide_eq_true_iff]
def zaY{ks:List Int}:(zac ks).Pairwise (· < ·):=List.Pairwise.filter _ (by unfold zgY;decide)
def zaA{ks:List Int}:(zac ks).length<=8:=by
 have:=ybj (fun x=>decide (x∈ks)) zgY;exact this
def zeN{l:List Int}(h:l.Pairwise (· < ·)):l.Nodup:=List.Pairwise.imp (fun {a b} h=>by omega) h
def zhA{a b:List Int}(ha:a.Pairwise (· < ·))(hb:b.Pairwise (· < ·))(h:∀x,x∈a↔x∈b):a=b:=by
 have p:a.Perm b:=(List.perm_ext_iff_of_nodup (zeN ha) (zeN hb)).mpr h;exact PySem.W.lks_uniq p (List.Pairwise.imp (fun {a b} h=>by omega) ha) (List.Pairwise.imp (fun {a b} h=>by omega) hb)
def zkI{ks:List Int}{k:Int}(h:k∈ks):zac (ks++[k])=zac ks:=by
 refine zhA zaY zaY fun x=>?_
 rw [zaG,zaG,ya8,yaL];constructor
 ·rintro ⟨a,b | rfl⟩
  ·exact ⟨a,b⟩
  ·exact ⟨a,h⟩
 ·rintro ⟨a,b⟩;exact ⟨a,.inl b⟩
def zf0{a b:Int}(ha:0<=a)(hb:0<=b):a.toNat<b.toNat↔a<b:=by omega
def zbW{l:List Int}(h:l.Pairwise (· < ·))(h0:∀x∈l,0<=x):(l.map Int.toNat).Pairwise (· < ·):=by
 rw [ycb];exact List.Pairwise.imp_of_mem (fun {a b} ha hb hab=>(zf0 (h0 a ha) (h0 b hb)).mpr hab) h
def zb4{ks:List Int}:∀x∈zac ks,0<=x:=fun x hx=>(zaG.mp hx).1.1
def zfi{ks:List Int}{k:Int}{c:Nat}(hk:0<=k/\k<8)(hn:k ∉ ks)(hc:Cut ((zac ks).map Int.toNat) k.toNat c):zac (ks++[k])=(zac ks).take c++k::(zac ks).drop c:=by
 have hnc:k ∉ zac ks:=fun z=>hn (zaG.mp z).2
 have hs:((zac ks).take c++k::(zac ks).drop c).Pairwise (· < ·):=by
  have h1:=zlR (zbW zaY zb4) hc (j:=k.toNat) (fun z=>by
   obtain ⟨x,hx,e⟩:=yaE.mp z;have:=zb4 x hx
   exact hnc (by rw [show k=x by omega];exact hx))
  rw [<-List.map_take,<-List.map_drop,<-yay,<-ycr,ycb] at h1;refine List.Pairwise.imp_of_mem (fun {a b} ha hb hab=>?_) h1
  have pos:∀x∈(zac ks).take c++k::(zac ks).drop c,0<=x:=fun x hx=>by
   rcases ya8.mp hx with h | h
   ·exact zb4 x (List.mem_of_mem_take h)
   ·rcases yam.mp h with rfl | h
    ·exact hk.1
    ·exact zb4 x (List.mem_of_mem_drop h)
  exact (zf0 (pos a ha) (pos b hb)).mp hab
 refine zhA zaY hs fun x=>?_
 rw [zmE,zaG,zaG,ya8,yaL];constructor
 ·rintro ⟨a,b | rfl⟩
  ·exact .inr ⟨a,b⟩
  ·exact .inl rfl
 ·rintro (rfl | ⟨a,b⟩)
  ·exact ⟨hk,.inr rfl⟩
  ·exact ⟨a,.inl b⟩
def zd4(prog:Program)(w:World){k:Int}(h:0<=k/\k<8):(intKind prog w).hash k=k:=by
 have:k=0\/k=1\/k=2\/k=3\/k=4\/k=5\/k=6\/k=7:=by omega
 rcases this with rfl | rfl | rfl | rfl | rfl | rfl | rfl | rfl<;>rfl
def zha{k:Int}(h:0<=k/\k<8):SetTable.bits k=k.toNat:=by
 unfold SetTable.bits;rw [Int.emod_eq_of_lt h.1 (by omega)]
structure Els(l:List Int)(es:List (Int×Value)):Prop where
 len:es.length=l.length
 at':∀(i:Nat) (k:Int),l[i]?=some k->∃tk,es[i]?=some (k,Value.int k tk)
def Els.mem{l:List Int}{es:List (Int×Value)}(h:Els l es){e:Int×Value}(he:e∈es):∃k tk,k∈l/\e=(k,Value.int k tk):=by
 obtain ⟨i,hi,rfl⟩:=yci.mp he
 have hl:i<l.length:=by rw [<-h.len];exact hi
 obtain ⟨tk,e⟩:=h.at' i _ (yad hl);rw [yad hi] at e;exact ⟨_,tk,ybh hl,Option.some.inj e⟩
def Els.has{l:List Int}{es:List (Int×Value)}(h:Els l es){k:Int}(hk:k∈l):∃tk,(k,Value.int k tk)∈es:=by
 obtain ⟨i,hi,rfl⟩:=yci.mp hk;obtain ⟨tk,e⟩:=h.at' i _ (yad hi);exact ⟨tk,ya4 e⟩
def Els.ins{l:List Int}{es:List (Int×Value)}(h:Els l es)(c:Nat)(hc:c<=l.length)(k:Int)(tk:Tok):Els (l.take c++k::l.drop c) (es.take c++(k,Value.int k tk)::es.drop c) where
 len:=by simp only [yar,yag,yaG,ybR,h.len]
 at':=fun i x e=>by
  have hl:=h.len
  rcases Nat.lt_trichotomy i c with a | a | a
  ·rw [yaH (by rw [yaG];omega),ycu,if_pos a] at e;obtain ⟨t,z⟩:=h.at' i x e;exact ⟨t,by rw [yaH (by rw [yaG];omega),ycu,if_pos a];exact z⟩
  ·subst a;rw [yat (by rw [yaG];omega),yaG,ybH hc,ycz] at e;cases e;exact ⟨tk,by rw [yat (by rw [yaG];omega),yaG,ybH (by omega),ycz];rfl⟩
  ·rw [yat (by rw [yaG];omega),yaG,ybH hc,show i-c=(i-c-1)+1 by omega,List.getElem?_cons_succ,yba] at e;obtain ⟨t,z⟩:=h.at' _ x e;exact ⟨t,by rw [yat (by rw [yaG];omega),yaG,ybH (by omega),show i-c=(i-c-1)+1 by omega,List.getElem?_cons_succ,yba];exact z⟩
def Els.hashes{l:List Int}{es:List (Int×Value)}(h:Els l es):es.map (·.1)=l:=by
 apply ybq;intro i;rw [yax]
 cases e:l[i]? with
 | none =>
  have:es[i]?=none:=by rw [List.getElem?_eq_none_iff] at e ⊢;rw [h.len];exact e
  rw [this];rfl
 | some k =>
  obtain ⟨tk,z⟩:=h.at' i k e;rw [z];rfl
noncomputable def byT(w:World):Bool:=w.params.followText "set-order"
structure ISet(w:World)(h:Heap)(a:Addr)(ks:List Int):Prop where
 ex:∃o es ep t,h.get? a=some o/\o.ExactSet/\o.data=.set es ep t/\t.place.toList=(zac ks).map Int.toNat/\t.dummies=#[]/\t.plain=true/\t.led=!byT w/\(t.mask=31\/(t.mask=7/\(zac ks).length<=4))/\Els (zac ks) es.toList
section
variable{prog:Program}{w:World}{A:Around}{E:Z5}{s:Shared}
def zcP{es:Array (Int×Value)}{t:SetTable}{l:List Int}(hl:l.length<=8)(h1:t.place.toList=l.map Int.toNat)(h2:t.dummies=#[])(h3:t.mask=31\/(t.mask=7/\l.length<=7))(h4:Els l es.toList):t.fits es.size=true:=by
 have e1:t.place.size=l.length:=by rw [<-yav,h1,yak]
 have e2:es.size=l.length:=by rw [<-yav,h4.len]
 unfold SetTable.fits SetTable.fill;rw [e1,e2,h2];have:(#[]:Array Nat).size=0:=rfl;rw [this];simp only [ybi,Bool.true_and,yaV]
 rcases h3 with z | ⟨z,y⟩<;>rw [z]<;>omega
def zky{es:Array (Int×Value)}{l:List Int}(hs:∀x∈l,0<=x/\x<8)(h:Els l es.toList):ElemsOf (intKind prog w) es.toList:=fun e he=>by
 obtain ⟨k,tk,hk,rfl⟩:=h.mem he;exact ⟨⟨k,intKind_is _ _ _ _,(zd4 prog w (hs k hk)).symm⟩,rfl⟩
def ziQ{t:SetTable}{l:List Int}{k:Int}(hl:l.Pairwise (· < ·))(h0:∀x∈l,0<=x)(hk:0<=k/\k<8)(hn:k ∉ l)(h1:t.place.toList=l.map Int.toNat)(h2:t.dummies=#[])(h3:7<=t.mask):t.freeSlot k=some (k.toNat,false):=by
 have hj:SetTable.bits k % (t.mask+1)=k.toNat:=by
  rw [zha hk];exact Nat.mod_eq_of_lt (by omega)
 have hnp:k.toNat ∉ t.place.toList:=by
  rw [h1];intro z;obtain ⟨x,hx,e⟩:=yaE.mp z;have:=h0 x hx;exact hn (by rw [show k=x by omega];exact hx)
 have es:=zhC (t:=t) (by rw [h1];exact zbW hl h0) h2 hnp;unfold SetTable.freeSlot SetTable.probe
 have e0:10*SetTable.turns t.mask=(10*SetTable.turns t.mask-1)+1:=by unfold SetTable.turns;omega
 rw [e0];unfold SetTable.probe.go;have ep:(t.probeStart k).j=k.toNat:=hj;have ed:(t.probeStart k).dummy=none:=rfl;rw [ep,es,ed];rfl
def zmG{t:SetTable}{es:Array (Int×Value)}{ks:List Int}{k:Int}{tk:Tok}(hk:0<=k/\k<8)(hn:k ∉ ks)(h1:t.place.toList=(zac ks).map Int.toNat)(h2:t.dummies=#[])(h3:t.mask=31\/(t.mask=7/\(zac ks).length<=4))(h4:Els (zac ks) es.toList) :
  ∃es1 t1,layNew t es k (.int k tk)=(es1,t1,false,false)/\t1.place.toList=(zac (ks++[k])).map Int.toNat/\t1.dummies=#[]/\t1.plain=t.plain/\t1.led=t.led/\t1.mask=t.mask/\t1.finger=t.finger/\Els (zac (ks++[k])) es1.toList:=by
 have hnc:k ∉ zac ks:=fun z=>hn (zaG.mp z).2
 have hm:7<=t.mask:=by rcases h3 with z | ⟨z,_⟩<;>rw [z]<;>decide
 have fs:=ziQ zaY zb4 hk hnc h1 h2 hm;obtain ⟨c,hc⟩:=zgw t.place.toList k.toNat (by rw [h1];exact zbW zaY zb4);have eb:SetTable.below t.place k.toNat=c:=zdT hc;rw [h1] at hc
 have hcl:c<=(zac ks).length:=by have:=hc.1;rwa [yak] at this
 have en:=zfi hk hn hc;refine ⟨SetTable.insertAt es c (k,.int k tk),{ t with place:=SetTable.insertAt t.place c k.toNat },?_,?_,h2,rfl,rfl,rfl,rfl,?_⟩
 ·have fit:({ t with place:=SetTable.insertAt t.place c k.toNat }:SetTable).fits (SetTable.insertAt es c (k,.int k tk)).size=true:=by
   refine zcP (l:=zac (ks++[k])) zaA ?_ h2 ?_ ?_
   ·show (SetTable.insertAt t.place c k.toNat).toList=_;rw [zcd,h1,en,<-List.map_take,<-List.map_drop,ycr,yay]
   ·have hl:(zac (ks++[k])).length=(zac ks).length+1:=by
     rw [en];simp only [yar,yag,yaG,ybR];omega
    rcases h3 with z | ⟨z,y⟩
    ·exact .inl z
    ·exact .inr ⟨z,by omega⟩
   ·rw [zcd,en];exact h4.ins c hcl k tk
  unfold layNew;rw [fs];dsimp only;rw [zoG h2];dsimp only;rw [eb];unfold SetTable.orStandIn;rw [fit];rfl
 ·show (SetTable.insertAt t.place c k.toNat).toList=_;rw [zcd,h1,en,<-List.map_take,<-List.map_drop,ycr,yay]
 ·rw [zcd,en];exact h4.ins c hcl k tk
noncomputable def zio(hs:Array Int):Option (List (Nat×Nat)):=(SetTable.layClean 31 hs).map fun owner=>(List.range 32).filterMap fun j=>(owner.getD j none).map (j,·)
noncomputable def zql(b0 b1 b2 b3 b4 b5 b6 b7:Bool):List Int:=(if b0 then [0] else [])++((if b1 then [1] else [])++((if b2 then [2] else [])++((if b3 then [3] else [])++((if b4 then [4] else [])++((if b5 then [5] else [])++((if b6 then [6] else [])++(if b7 then [7] else [])))))))
def zki:∀b0 b1 b2 b3 b4 b5 b6 b7:Bool,(zql b0 b1 b2 b3 b4 b5 b6 b7).length=5->zio (zql b0 b1 b2 b3 b4 b5 b6 b7).toArray=some (((zql b0 b1 b2 b3 b4 b5 b6 b7).map Int.toNat).zip [0,1,2,3,4]):=by decide +kernel
def zi3(ks:List Int):zac ks=zql (decide ((0:Int)∈ks)) (decide ((1:Int)∈ks)) (decide ((2:Int)∈ks)) (decide ((3:Int)∈ks)) (decide ((4:Int)∈ks)) (decide ((5:Int)∈ks)) (decide ((6:Int)∈ks)) (decide ((7:Int)∈ks)):=by
 have fc:∀(p:Int->Bool) (x:Int) (l:List Int),List.filter p (x::l)=(if p x then [x] else [])++List.filter p l:=fun p x l=>by
  rw [ybv];cases p x<;>rfl
 unfold zac zgY;rw [fc,fc,fc,fc,fc,fc,fc,fc,List.filter_nil,yaN];rfl
def zrE{ks:List Int}(hl:(zac ks).length=5)(f mv:Nat)(led pl:Bool):SetTable.laid 31 f mv led pl (zac ks).toArray=some ({ mask:=31,place:=((zac ks).map Int.toNat).toArray,dummies:=#[],finger:=f,led:=led,moves:=mv,plain:=pl },#[0,1,2,3,4]):=by
 have e:zio (zac ks).toArray=some (((zac ks).map Int.toNat).zip [0,1,2,3,4]):=by
  rw [zi3] at hl ⊢;exact zki _ _ _ _ _ _ _ _ hl
 unfold zio at e;unfold SetTable.laid
 cases q:SetTable.layClean 31 (zac ks).toArray with
 | none=>rw [q] at e;cases e
 | some owner =>
  rw [q] at e;have e':(List.range 32).filterMap (fun j=>(owner.getD j none).map (j,·))=((zac ks).map Int.toNat).zip [0,1,2,3,4]:=Option.some.inj e;show some _=some _;rw [e'];have z1:(((zac ks).map Int.toNat).zip [0,1,2,3,4]).map (·.1)=(zac ks).map Int.toNat:=List.map_fst_zip (by rw [yak,hl];exact yaf _);have z2:(((zac ks).map Int.toNat).zip [0,1,2,3,4]).map (·.2)=[0,1,2,3,4]:=List.map_snd_zip (by rw [yak,hl];exact yaf _);rw [z1,z2]
def zv0{α:Type}{es:Array α}(h:es.size=5):(#[0,1,2,3,4]:Array Nat).filterMap (es[·]?)=es:=by
 obtain ⟨l⟩:=es
 match l,h with
 | [a,b,c,d,e],_=>rfl
def zoz{t:SetTable}{es:Array (Int×Value)}{ks:List Int}(hl:(zac ks).length=5)(h4:Els (zac ks) es.toList):∃t2,relayAll t es (SetTable.grown es.size)=(es,t2,false)/\t2.place.toList=(zac ks).map Int.toNat/\t2.dummies=#[]/\t2.plain=t.plain/\t2.led=t.led/\t2.mask=31:=by
 have hz:es.size=5:=by rw [<-yav,h4.len,hl]
 have hh:es.map (·.1)=(zac ks).toArray:=by
  apply Array.ext';rw [Array.toList_map,h4.hashes]
 have hm:SetTable.sizeAbove (SetTable.grown 5)-1=31:=by decide
 have er:t.relaid (es.map (·.1)) (SetTable.grown es.size)=some ({ mask:=31,place:=((zac ks).map Int.toNat).toArray,dummies:=#[],finger:=t.finger,led:=t.led,moves:=t.movedTo 31,plain:=t.plain },#[0,1,2,3,4]):=by
  unfold SetTable.relaid;rw [hz,hm,hh];exact zrE hl _ _ _ _
 refine ⟨{ mask:=31,place:=((zac ks).map Int.toNat).toArray,dummies:=#[],finger:=t.finger,led:=t.led,moves:=t.movedTo 31,plain:=t.plain },?_,rfl,rfl,rfl,rfl,rfl⟩;unfold relayAll;rw [er];dsimp only;rw [zv0 hz];have fit:=zcP (es:=es) (t:={ mask:=31,place:=((zac ks).map Int.toNat).toArray,dummies:=#[],finger:=t.finger,led:=t.led,moves:=t.movedTo 31,plain:=t.plain }) (l:=zac ks) zaA rfl rfl (.inl rfl) h4;rw [fit,hz]
 have cv:coversAll #[0,1,2,3,4] 5=true:=by decide
 rw [cv];rfl
def zkp{a:Addr}{ks:List Int}{k:Int}{tk:Tok}{Q:Bool->Shared->Prop}(S:ISet w s.heap a ks)(hk:0<=k/\k<8)
  (h:∀h' c,Heap.SameBut a s.heap h'->ISet w h' a (ks++[k])->Q c { s with heap:=h',toks:=s.toks+1 }):wpAny (model prog w) A (setAdd a (.int k tk)) Q E s:=by
 unfold setAdd;refine yaT (yaa ((intKind prog w).pyHash (k:=k) (intKind_is _ _ _ _) ?_));obtain ⟨o,es,ep,t,ho,hex,hd,h1,h2,h5,h6,h3,h4⟩:=S.ex;have hsm:∀x∈zac ks,0<=x/\x<8:=fun x hx=>(zaG.mp hx).1
 have hf:t.fits es.size=true:=zcP zaA h1 h2 (h3.imp id fun z=>⟨z.1,by omega⟩) h4;have hel:ElemsOf (intKind prog w) es.toList:=zky hsm h4
 have hz:es.size<=8:=by rw [<-yav,h4.len];exact zaA
 have hb:es.size<scanBound:=by unfold scanBound;omega
 unfold setAddHashed setAddHashedIn;refine yaT (yaa (wpAny_setState_of (s:={ s with toks:=s.toks+1 }) ho hd hf ?_));dsimp only;rw [byScan_of (knd:=intKind prog w) rfl hb hel];simp only [↓reduceIte];unfold setAddByScan;refine yaa ?_;refine yaa (ycC ?_);refine yaa (wpAny_setScan_of (knd:=intKind prog w) (k:=k) (s:={ s with toks:=s.toks+1 }) (intKind_is _ _ _ _) ho hd hf hel ?_)
 cases hr:List.findIdx? (fun e=>(intKind prog w).is k e.2) es.toList with
 | some j =>
  dsimp only;obtain ⟨hj,hpj,_⟩:=List.findIdx?_eq_some_iff_getElem.mp hr;obtain ⟨k',tk',hk',e'⟩:=h4.mem (ybh hj);rw [e'] at hpj;obtain ⟨u,eu⟩:=ycB (k:=k) (v:=Value.int k' tk') hpj
  have:k'=k:=by injection eu
  subst this;have hin:k'∈ks:=(zaG.mp hk').2;refine yac (yac (h s.heap _ (Heap.SameBut.refl a s.heap) ?_));refine ⟨o,es,ep,t,ho,hex,hd,?_⟩;rw [zkI hin];exact ⟨h1,h2,h5,h6,h3,h4⟩
 | none =>
  dsimp only
  have hni:k ∉ ks:=fun z=>by
   obtain ⟨tk',he⟩:=h4.has (zaG.mpr ⟨hk,z⟩);have:=List.findIdx?_eq_none_iff.mp hr _ he;rw [intKind_is] at this;cases this
  obtain ⟨es1,t1,eL,g1,g2,g3,g4,g5,g6,g7⟩:=zmG (tk:=tk) hk hni h1 h2 h3 h4;rw [zd4 prog w hk,eL];dsimp only;refine yaa (ycs (a:=()) rfl ?_)
  have hsz1:es1.size=(zac (ks++[k])).length:=by rw [<-yav,g7.len]
  have hsl:es1.size<=sizeLine:=by rw [hsz1];exact yal zaA (by decide)
  rw [g3,h5];simp only [ybM];refine yaa ?_;rw [hashByValue_scannable 8 (x:=.int k tk) rfl];refine yac ?_;have hpk:plainKind (.int k tk)=true:=rfl;rw [hpk];simp only [ybM];refine yaa (wpAny_storeSet_of (s:={ s with toks:=s.toks+1 }) ho hd ?_ hsl);obtain ⟨o1,w1,x1,d1⟩:=ztn (es':=es1) (t':=t1) ho hex hd;have sb1:Heap.SameBut a s.heap (s.heap.update a (Obj.putSet es1 t1)):=Heap.SameBut.update ..
  have hlen:(zac (ks++[k])).length=(zac ks).length+1:=by
   obtain ⟨c,hc⟩:=zgw ((zac ks).map Int.toNat) k.toNat (zbW zaY zb4);rw [zfi hk hni hc]
   have:c<=(zac ks).length:=by have:=hc.1;rwa [yak] at this
   simp only [yar,yag,yaG,ybR];omega
  have hfill:t1.fill=(zac (ks++[k])).length:=by
   unfold SetTable.fill;rw [g2];show t1.place.size+0=_;rw [<-yav,g1,yak];rfl
  by_cases hfull:(!false&&t1.tooFull)=true
  ·rw [if_pos hfull]
   have h5':(zac (ks++[k])).length=5:=by
    have hf:(zac (ks++[k])).length*5 ≥ t.mask*3:=by
     have:t1.tooFull=true:=by simpa using hfull
     unfold SetTable.tooFull at this;rw [hfill,g5] at this;simpa using this
    have:=zaA (ks:=ks++[k])
    rcases h3 with z | ⟨z,y⟩
    ·rw [z] at hf;omega
    ·rw [z] at hf;omega
   obtain ⟨t2,er,r1,r2,r3,r4,r5⟩:=zoz (t:=t1) h5' g7;rw [er];dsimp only;refine yaa (ycs (a:=()) rfl ?_);refine yaa (wpAny_storeSet_of (s:={ s with heap:=s.heap.update a (Obj.putSet es1 t1),toks:=s.toks+1 }) w1 d1 ?_ hsl);obtain ⟨o2,w2,x2,d2⟩:=ztn (es':=es1) (t':=t2) w1 x1 d1;have sb2:Heap.SameBut a s.heap ((s.heap.update a (Obj.putSet es1 t1)).update a (Obj.putSet es1 t2)):=sb1.trans (Heap.SameBut.update ..);refine yac ?_;dsimp only;refine yac (h _ true sb2 ⟨o2,es1,_,t2,w2,x2,d2,r1,r2,by rw [r3,g3,h5],by rw [r4,g4,h6],.inl r5,g7⟩)
  ·rw [if_neg hfull];refine yac ?_;dsimp only;refine yac (h _ true sb1 ⟨o1,es1,_,t1,w1,x1,d1,g1,g2,by rw [g3,h5],by rw [g4,h6],?_,g7⟩);rw [g5]
   rcases h3 with z | ⟨z,y⟩
   ·exact .inl z
   ·refine .inr ⟨z,?_⟩
    have:t1.tooFull=false:=by cases q:t1.tooFull with
     | false=>rfl
     | true=>rw [q] at hfull;exact absurd rfl hfull
    unfold SetTable.tooFull at this;rw [hfill,g5,z] at this;have:=of_decide_eq_false this;omega
end
end ST
namespace ST
open PySem PySem.Spec PyProof.Rows
def ISet.keep{w:World}{h h':Heap}{a:Addr}{ks:List Int}(x:ISet w h a ks)(e:∀o,h.get? a=some o->h'.get? a=some o):ISet w h' a ks:=by
 obtain ⟨o,es,ep,t,ho,r⟩:=x.ex;exact ⟨o,es,ep,t,e o ho,r⟩
theorem ISet.fresh{w:World}{h:Heap}{a:Addr}(e:h.get? a=some { cls:=.type "set",dict:=none,data:=.set #[] 0 (.fresh 0 0 (!byT w)) }):ISet w h a [] :=
 ⟨_,#[],0,.fresh 0 0 (!byT w),e,⟨rfl,rfl,rfl⟩,rfl,rfl,rfl,rfl,rfl,.inr ⟨rfl,by decide⟩,⟨rfl,fun i k z=>by cases z⟩⟩
section
variable{prog:Program}{w:World}{A:Around}{R:Result->Shared->Prop}{I:Addr}{fp wr:List Addr}{G:Array GenState->Array GenState->Prop}{n:Nat}{P:Nat->Value->Prop}{St:Nat->Shared->Prop}
def ziD(W:WalksS prog w A.in1 I fp wr G n P St)(S:Addr)(hSf:S ∉ fp)(val:Nat->Int)(hval:∀i v,P i v->∃t,v=.int (val i) t)(hs:∀i,i<n->0<=val i/\val i<8) :
  ∀(k i:Nat) (s:Shared),n-i=k->i<=n->St i s->ISet w s.heap S ((List.range i).map val) →
   (∀s',Moved (S::wr) G s s'->ISet w s'.heap S ((List.range n).map val)->R (.ok (.ret .none)) s') →
   codeAny (model prog w) A (.builtin "set.update.loop" ⟨[.ref S,.ref I],[]⟩) R s:=by
 have hSw:S ∉ wr:=fun h=>hSf (W.sub _ h)
 have hsub:∀b∈wr,b∈S::wr:=fun b hb=>yas _ hb
 intro k
 induction k with
 | zero =>
  intro i s hk hi hst hS hR
  have hin:i=n:=by omega
  subst hin;refine ybI ybQ ?_;rw [ybn ybd _];show wpAny _ A.in1 (pyNext (.ref I) >>= _) _ _ s;refine yaa (W.done s _ _ hst fun s' hm=>?_);show wpAny _ A.in1 (ret Value.none) _ _ s';exact yac (hR s' (hm.mono hsub) (hS.keep fun o ho=>hm.heap S _ hSw ho))
 | succ k ih =>
  intro i s hk hi hst hS hR
  have hlt:i<n:=by omega
  refine ybI ybQ ?_;rw [ybn ybd _];show wpAny _ A.in1 (pyNext (.ref I) >>= _) _ _ s;refine yaa (W.item i s _ _ hlt hst fun v s' hP hst' hm=>?_);obtain ⟨t,rfl⟩:=hval i v hP;have hS':ISet w s'.heap S ((List.range i).map val):=hS.keep fun o ho=>hm.heap S _ hSw ho
  show wpAny _ A.in1 (holding [Value.int (val i) t] (setAdd S (.int (val i) t)) >>= _) _ _ s';refine yaa (yaT ?_);refine zkp hS' (hs i hlt) fun h' c hsb hS2=>?_
  have hSi:ISet w h' S ((List.range (i+1)).map val):=by
   rw [ybJ,ycr];exact hS2
  refine yac ⟨ycK ybd _,ih (i+1) _ (by omega) hlt (W.frame _ s' _ _ hst' (ybg _) fun b hb o e=>?_) hSi fun s'' hm'' hS''=>?_⟩
  ·rw [hsb.2 b (fun h:b=S=>hSf (by rw [<-h];exact hb))];exact e
  ·refine hR s'' (Moved.trans W.gtrans ((hm.mono hsub).then_heap (ybg _) fun b o hb e=>?_) hm'') hS'';rw [hsb.2 b (fun h:b=S=>hb (by rw [h];exact yaA))];exact e
end
end ST
namespace PySem
section
variable{prog:Program}{w:World}{A:Around}{E:Z5}{s:Shared}
def zez(a:Value){Q₁:Z5}
  (h:Q₁ (.ref s.heap.objs.size) { s with heap:=s.heap.push { cls:=.type "set",dict:=none,data:=.set #[] 0 (.fresh 0 0 (!ST.byT w)) } }) :
  codeAny (model prog w) A (.call (.builtin "set.__new__") ⟨[.type "set",a],[]⟩) (wants Q₁ E) s:=by
 refine codeAny_of_tree ?_;show wpAny _ A.in1 (do checkBuiltinCall "set.__new__" ⟨[.type "set",a],[]⟩;again (.builtin "set.__new__" ⟨[.type "set",a],[]⟩)) _ _ s;refine yaa (ycs (F.newCall_set_1 a) (yac ⟨ycK F.plain_set_new _,ybI F.entry_set_new ?_⟩));rw [ybn F.plain_set_new _];unfold Builtin.«set.__new__» Builtin.Frozenset.newClass;have hsub:=sub_set_self;obtain ⟨hp,g,d,tk,os⟩:=s;dsimp only
 wp_walk
 refine wpAny_askSetting (yac ?_);dsimp only;simp only [newObj];refine yaa (wpAny_alloc (yac ?_));exact yac h
def zi4{l:Addr}{items:Array Value}{ns:List Int}{Q:Z5}
  (hh:A.handled=none) (hl:s.heap.IsList l items) (hi:PyProof.Rows.IntsAre items.toList ns) (hs:∀k∈ns,0<=k/\k<8)
  (h:∀(h':Heap) (tk:Nat),ST.ISet w h' s.heap.objs.size ns->(∀b o,s.heap.get? b=some o->h'.get? b=some o)->Q (.ref s.heap.objs.size) { s with heap:=h',toks:=tk }) :
  wpAny (model prog w) A (call (.type "set") [.ref l]) Q E s:=by
 have hnl:items.size=ns.length:=by rw [<-yav];exact PyProof.Rows.IntsAre.length hi
 have ern:(List.range items.size).map (fun i=>ns.getD i 0)=ns:=by
  apply ybq;intro i;rw [yax,hnl]
  by_cases hi:i<ns.length
  ·rw [List.getElem?_range hi,yad hi];show some (ns.getD i 0)=_;rw [yaw,yad hi];rfl
  ·rw [ya3 (by rw [List.length_range];omega),ya3 (by omega)];rfl
 obtain ⟨c,tl,hmro⟩:=ybK.mro;have hmade:=ybK.made;have hsub:=ybK.sub;refine wpAny_call (codeAny_of_tree ?_);show wpAny _ _ (callAny (.type "set") _) _ _ _;refine yac ⟨Code.quiet_builtin _ (by decide +kernel),ybI F.entry_type_call ?_⟩;rw [Around.under_plain (weight_type_call_type "set" [.ref l] []) rfl];have h1:=ybK.notType;have h2:=ybK.canCreate;have hct:=F.typeCall_set_1 (.ref l)
 repeat (any_goals (first | assumption | wp_step))
 refine ycc (zez (.ref l) (E:=E) (Q₁:=fun obj s₁=>obj=.ref s.heap.objs.size/\s₁={ s with heap:=s.heap.push { cls:=.type "set",dict:=none,data:=.set #[] 0 (.fresh 0 0 (!ST.byT w)) } }) ⟨rfl,rfl⟩) fun r s₁ hr=>?_
 cases r with
 | error e=>exact hr
 | ok fl =>
  cases fl with
  | ret obj =>
   obtain ⟨rfl,rfl⟩:=hr;generalize hG:s.heap.push { cls:=.type "set",dict:=none,data:=.set #[] 0 (.fresh 0 0 (!ST.byT w)) }=G;have hS:G.get? s.heap.objs.size=some { cls:=.type "set",dict:=none,data:=.set #[] 0 (.fresh 0 0 (!ST.byT w)) }:=hG ▸ yao _ rfl;have upG:∀b o,s.heap.get? b=some o->G.get? b=some o:=fun b o e=>hG ▸ yae _ e
   have hGz:G.objs.size=s.heap.objs.size+1:=by rw [<-hG,yby]
   have hT:Shared.TypeIs { s with heap:=G } (.ref s.heap.objs.size) "set":=⟨_,hS,rfl⟩;have hli:=ybK.init.lookup;have hbi:=ybK.init.bind (.ref s.heap.objs.size)
   repeat (any_goals (first | assumption | wp_step))
   refine ycc (codeAny_call_builtin (R:=wants (fun r s₂=>r=.none/\∃h' tk,s₂={ s with heap:=h',toks:=tk }/\ST.ISet w h' s.heap.objs.size ns ∧
     (∀b o,s.heap.get? b=some o->h'.get? b=some o)) E) ybK.init.plain F.entry_set_init (check_set_init_1 hT ?_)) fun r₂ s₂ hr₂=>?_
   ·obtain ⟨ol,hol,hcl,nl,hdl⟩:=hl;have hol':G.get? l=some ol:=upG l ol hol;obtain ⟨ocls,odict,odata,oslots⟩:=ol;simp only at hcl hdl;subst hcl;subst hdl;have hsls:=F.sub_list_set;have hslf:=F.sub_list_frozenset
    have hne:(Value.type "list" == Value.type "dict")=false:=by decide
    have hl1:G.IsList l items:=⟨_,hol',rfl,nl,rfl⟩;unfold Builtin.«set.__init__» noKeywords Builtin.Frozenset.updateFrom;generalize hPI:pyIter=PI
    wp_walk
    subst hPI;refine yb8 hl1 ?_;refine yaa (wpAny_runValue ?_);have hlS:l<s.heap.objs.size:=yaj hol
    have hh3:A.in1.in1.in1.handled=none:=by simp [hh]
    have hneI:l≠G.objs.size:=by rw [hGz];exact yan (ya6 hlS)
    have hSf:s.heap.objs.size ∉ [G.objs.size,l]:=by
     rw [hGz];simp only [yam,yaL,ya0,yck,not_or];exact ⟨yan (ycf _),ybc hlS⟩
    have hval:∀(i:Nat) (v:Value),items[i]?=some v->∃t,v=.int ((fun i=>ns.getD i 0) i) t:=fun i v hv =>
     PyProof.Rows.IntsAre.int_at hi i v (by rw [ya9];exact hv)
    refine ST.ziD ((Walks.list hh3 _ l hneI items).toS) s.heap.objs.size hSf (fun i=>ns.getD i 0) hval (fun i hi=>?_) (items.size-0) 0 _ (by omega) (yaR _)
     ⟨⟨_,yao _ rfl,rfl,rfl⟩,(hl1.push _)⟩ ?hS0 ?hR
    ·have hlt:i<ns.length:=by omega
     show 0<=ns.getD i 0/\ns.getD i 0<8;rw [yaw,yad hlt];exact hs _ (ybh hlt)
    case hS0=>exact ST.ISet.fresh (yae _ hS)
    case hR =>
     intro s' hm hS';rw [ern] at hS';obtain ⟨h',g',d',tk',os'⟩:=s';have eg:g'=s.gens:=hm.gens;have ed:d'=s.drawn:=hm.drawn;have eo:os'=s.os:=hm.os;subst eg;subst ed;subst eo;show wpAny _ _ _ _ _ _;refine yac ?_;show wpAny _ _ (ret Value.none) _ _ _;refine yac ⟨rfl,h',tk',rfl,hS',fun b o e=>?_⟩;have hb1:b≠s.heap.objs.size:=yan (yaj e)
     have hb2:b≠G.objs.size:=by rw [hGz];exact yan (ya6 (yaj e))
     exact hm.heap b o (by simp only [yam,yaL,ya0,yck,not_or];exact ⟨hb1,hb2⟩) (yae _ (upG b o e))
   ·cases r₂ with
    | error e=>exact hr₂
    | ok fl₂ =>
     cases fl₂ with
     | ret r =>
      obtain ⟨rfl,h',tk,rfl,hS',hk'⟩:=hr₂
      repeat (any_goals (first | assumption | wp_step))
      exact h _ _ hS' hk'
     | _=>exact hr₂.elim
  | _=>exact hr.elim
end
end PySem
namespace ST
open PySem PySem.Spec PyProof.Rows
def zaO:Slot "set_iterator" "__next__" "set_iterator.__next__" :=
 .of (owner:="set_iterator") (n:="__next__") (by rw [typeLookup_type,yce];kernel_rfl) (by decide +kernel) (by decide +kernel) (by decide +kernel)
  (by first | exact .inl (by decide +kernel) | exact .inr (by decide +kernel)) (by rw [isSubtype_type];kernel_rfl)
def zda:Slot "set_iterator" "__iter__" "set_iterator.__iter__" :=
 .of (owner:="set_iterator") (n:="__iter__") (by rw [typeLookup_type,yce];kernel_rfl) (by decide +kernel) (by decide +kernel) (by decide +kernel)
  (by first | exact .inl (by decide +kernel) | exact .inr (by decide +kernel)) (by rw [isSubtype_type];kernel_rfl)
def zcT:entryFor table "set_iterator.__next__" = some Builtin.«set_iterator.__next__»:=entryFor_of_tree (by kernel_rfl)
def zey:entryFor table "set_iterator.__iter__" = some Builtin.«dict_keyiterator.__iter__» :=
 entryFor_alias (id':="dict_keyiterator.__iter__") (by kernel_rfl) rfl (by decide +kernel) (by kernel_rfl)
def zfe:entryFor table "set.__iter__" = some Builtin.«frozenset.__iter__» :=
 entryFor_alias (id':="frozenset.__iter__") (by kernel_rfl) rfl (by decide +kernel) (by kernel_rfl)
def zgb:Manifest.owners.lookup (String.ofList ['r','o','t','a','r','e','t','i','_','t','e','s'].reverse)=some Manifest.sig_set_iterator:=by kernel_rfl
def zdi(a:Value):argsOk "set_iterator.__next__" ⟨[a],[]⟩:=by
 unfold argsOk;rw [signature?_of (id:="set_iterator.__next__") (n:=['_','_','t','x','e','n','_','_']) (o:=['r','o','t','a','r','e','t','i','_','t','e','s']) (by kernel_rfl) zgb];kernel_rfl
def zfs(a:Value):argsOk "set_iterator.__iter__" ⟨[a],[]⟩:=by
 unfold argsOk;rw [signature?_of (id:="set_iterator.__iter__") (n:=['_','_','r','e','t','i','_','_']) (o:=['r','o','t','a','r','e','t','i','_','t','e','s']) (by kernel_rfl) zgb];kernel_rfl
noncomputable def SAt(w:World)(h:Heap)(a:Addr)(ks:List Int)(es:Array (Int×Value))(ep:Nat)(t:SetTable):Prop :=
 (∃o,h.get? a=some o/\o.ExactSet/\o.data=.set es ep t)/\t.place.toList=(zac ks).map Int.toNat/\t.dummies=#[]/\t.plain=true/\t.led=!byT w/\(t.mask=31\/(t.mask=7/\(zac ks).length<=4))/\Els (zac ks) es.toList
def ISet.sat{w:World}{h:Heap}{a:Addr}{ks:List Int}(x:ISet w h a ks):∃es ep t,SAt w h a ks es ep t:=by
 obtain ⟨o,es,ep,t,h1,h2,h3,r⟩:=x.ex;exact ⟨es,ep,t,⟨o,h1,h2,h3⟩,r⟩
def SAt.at{w:World}{h h':Heap}{a:Addr}{ks:List Int}{es:Array (Int×Value)}{ep:Nat}{t:SetTable}(x:SAt w h a ks es ep t)(e:∀o,h.get? a=some o->h'.get? a=some o):SAt w h' a ks es ep t :=
 let ⟨⟨o,h1,r⟩,q⟩:=x;⟨⟨o,e o h1,r⟩,q⟩
noncomputable def zkP(h:Heap)(it a:Addr)(sl i n ep:Nat):Prop:=∃o,h.get? it=some o/\o.cls=.type "set_iterator" /\ o.data=.fields #[.int sl 0,.int i 0,.ref a,.int n 0,.int ep 0]
def zkP.typeIs{s:Shared}{it a:Addr}{sl i n ep:Nat}(x:zkP s.heap it a sl i n ep):s.TypeIs (.ref it) "set_iterator":=let ⟨o,ho,hc,_⟩:=x;⟨o,ho,hc⟩
def zkP.at{h h':Heap}{it a:Addr}{sl i n ep:Nat}(x:zkP h it a sl i n ep)(e:∀o,h.get? it=some o->h'.get? it=some o):zkP h' it a sl i n ep:=let ⟨o,ho,r⟩:=x;⟨o,e o ho,r⟩
noncomputable def zhc(w:World)(a:Addr)(ep:Nat)(es:Array (Int×Value)):Array (Int×Value):=if byT w then pickOrder (w.params.setOrder a ep) es else es
noncomputable def slN(w:World)(l:List Int)(i:Nat):Nat:=if byT w then 0 else if i=0 then 0 else (l.getD (i-1) 0).toNat+1
theorem zd7{α:Type}:∀(l:List α) (i:Nat) (h:i<l.length),([l[i]]++l.eraseIdx i).Perm l
 | x::xs,0,_=>List.Perm.refl _
 | x::xs,i+1,h=>by
  have h':i<xs.length:=by simpa using h
  exact (List.Perm.swap x (xs[i]'h') (xs.eraseIdx i)).trans (List.Perm.cons x (zd7 xs i h'))
theorem zh3{α:Type}{next:Nat->Nat}:∀(fuel k:Nat) (left:List α) (out:Array α),left.length<=fuel->(pickOrder.go next fuel k left out).toList.Perm (out.toList++left)
 | 0,k,left,out,h=>by
  have:left=[]:=ybw (by omega);subst this;unfold pickOrder.go;rw [yaN]
 | fuel+1,k,[],out,h=>by
  unfold pickOrder.go;have:([]:List α)[next k % ([]:List α).length]?=none:=rfl;rw [this,yaN]
 | fuel+1,k,x::xs,out,h=>by
  have hlt:next k % (x::xs).length<(x::xs).length:=Nat.mod_lt _ (by simp);unfold pickOrder.go;rw [yad hlt];dsimp only
  have hl:((x::xs).eraseIdx (next k % (x::xs).length)).length<=fuel:=by
   rw [List.length_eraseIdx_of_lt hlt];simp at h ⊢;exact h
  refine (zh3 fuel (k+1) _ _ hl).trans ?_;rw [Array.toList_push,ycE];refine List.Perm.append_left _ ?_;exact zd7 _ _ hlt
def zh2{α:Type}{next:Nat->Nat}(xs:Array α):(pickOrder next xs).toList.Perm xs.toList:=by
 have:=zh3 (next:=next) xs.size 0 xs.toList #[] (by simp);unfold pickOrder;simpa using this
def zen{w:World}{a:Addr}{ep:Nat}{es:Array (Int×Value)}:(zhc w a ep es).toList.Perm es.toList:=by
 unfold zhc;split
 ·exact zh2 es
 ·exact List.Perm.refl _
def zdn{w:World}{a:Addr}{ep:Nat}{es:Array (Int×Value)}:(zhc w a ep es).size=es.size:=by
 rw [<-yav,zen.length_eq,yav]
section
variable{prog:Program}{w:World}{A:Around}{E:Z5}{s:Shared}{a:Addr}{ks:List Int}{es:Array (Int×Value)}{ep:Nat}{t:SetTable}
theorem SAt.fits{h:Heap}(x:SAt w h a ks es ep t):t.fits es.size=true:=by
 obtain ⟨_,h1,h2,_,_,h3,h4⟩:=x;exact zcP zaA h1 h2 (h3.imp id fun z=>⟨z.1,by omega⟩) h4
def zcE{Q:(Array (Int×Value)×Nat×SetTable)->Shared->Prop}(x:SAt w s.heap a ks es ep t)(h:Q (es,ep,t) s):wpAny (model prog w) A (setState a) Q E s:=by
 obtain ⟨o,ho,_,hd⟩:=x.1;exact wpAny_setState_of ho hd x.fits h
def zhg{Q:Bool->Shared->Prop}(h:Q (byT w) s):wpAny (model prog w) A setsByText Q E s:=by
 unfold setsByText;exact yaa (wpAny_askSetting (yac h))
def zkN{l:List Int}{place:Array Nat}(h1:place.toList=l.map Int.toNat)(hs:l.Pairwise (· < ·))(h0:∀x∈l,0<=x){i:Nat}(hi:i<=l.length):SetTable.below place (if i=0 then 0 else (l.getD (i-1) 0).toNat+1)=i:=by
 refine zdT ?_;have ps:=zbW hs h0;rw [h1];refine ⟨by rw [yak];exact hi,?_,?_⟩
 ·intro k x hk hx;split
  ·omega
  ·rename_i hne;rw [yax] at hx
   have hkl:k<l.length:=by omega
   have hil:i-1<l.length:=by omega
   rw [yad hkl] at hx;cases hx;rw [yaw,yad hil];show l[k].toNat<l[i-1].toNat+1
   rcases Nat.lt_or_ge k (i-1) with z | z
   ·have:=List.pairwise_iff_getElem.mp hs k (i-1) hkl hil z;have:=h0 _ (ybh hkl);omega
   ·have:k=i-1:=by omega
    subst this;omega
 ·intro k x hk hx;split
  ·omega
  ·rename_i hne;rw [yax] at hx
   have hkl:k<l.length:=by
    rcases Nat.lt_or_ge k l.length with z | z
    ·exact z
    ·rw [ya3 z] at hx;cases hx
   have hil:i-1<l.length:=by omega
   rw [yad hkl] at hx;cases hx;rw [yaw,yad hil];show l[i-1].toNat+1<=l[k].toNat;have:=List.pairwise_iff_getElem.mp hs (i-1) k hil hkl (by omega);have:=h0 _ (ybh hil);omega
def zhf{Q:Option (Value×Nat)->Shared->Prop}(x:SAt w s.heap a ks es ep t){i:Nat}(hi:i<=es.size)
  (h:Q ((zhc w a ep es)[i]?.map fun e=>(e.2,slN w (zac ks) (i+1))) s):wpAny (model prog w) A (setNext a (slN w (zac ks) i) i ep) Q E s:=by
 obtain ⟨_,h1,h2,h5,h6,h3,h4⟩:=id x;unfold setNext;refine yaa (zcE x ?_);dsimp only;refine yaa (zhg ?_);unfold zhc slN at h;unfold slN
 cases hb:byT w with
 | true =>
  rw [hb] at h;simp only [ybM] at h ⊢;rw [if_neg (by simp)];refine yaa ?_;unfold setWalk;refine yaa (zcE x ?_);dsimp only;refine yaa (zhg ?_);rw [hb];simp only [ybM];refine yaa (wpAny_askSetting (yac ?_));exact yac h
 | false =>
  rw [hb] at h h6;simp only [yaF,ybm] at h ⊢;obtain ⟨mask,place,dummies,finger,led,moves,plain⟩:=t;simp only at h1 h2 h5 h6 h3;subst h5 h6;refine yb1 (fun z=>absurd z yaW) (fun _=>?_);refine yaa (ycs (a:=()) rfl ?_)
  have hz:es.size=(zac ks).length:=by rw [<-yav,h4.len]
  rw [zkN h1 zaY zb4 (by omega)];refine yac ?_
  rcases Nat.lt_or_ge i es.size with z | z
  ·have hl:i<(zac ks).length:=by omega
   have e1:es[i]?=some es[i]:=ya7 z
   have e2:place[i]?=some ((zac ks)[i]).toNat:=by
    rw [<-ya9,h1,yax,yad hl];rfl
   rw [e1] at h ⊢;rw [e2]
   have e3:(zac ks).getD (i+1-1) 0=(zac ks)[i]:=by
    rw [Nat.add_sub_cancel,yaw,yad hl];rfl
   rwa [if_neg (by omega),e3] at h
  ·have e1:es[i]?=none:=ybz z;rw [e1] at h ⊢;exact h
end
end ST
namespace ST
open PySem PySem.Spec PyProof.Rows
section
variable{prog:Program}{w:World}{A:Around}{E:Z5}{s:Shared}{a it:Addr}{ks:List Int}{es:Array (Int×Value)}{ep:Nat}{t:SetTable}
def zcY{Q:Array (Int×Value)->Shared->Prop}(x:SAt w s.heap a ks es ep t)(h:Q es s):wpAny (model prog w) A (setEntries a) Q E s:=by
 unfold setEntries;exact yaa (zcE x (yac h))
def zhD{Q:Z5}(x:SAt w s.heap a ks es ep t)
  (hQ:Q (.ref s.heap.objs.size) { s with heap:=s.heap.push { cls:=.type "set_iterator",data:=.fields #[.int 0 0,.int 0 0,.ref a,.int es.size 0,.int ep 0] } }):wpAny (model prog w) A (pyIter (.ref a)) Q E s:=by
 obtain ⟨⟨o,ho,hx,hd⟩,_,_,h5,_⟩:=id x;have hT:s.TypeIs (.ref a) "set":=⟨o,ho,hx.1⟩;refine wpAny_pyIter_slot hT PySem.F.slot_set_iter (yaZ PySem.F.slot_set_iter hT zfe ?_ (PySem.F.args_set_iter_1 _));unfold Builtin.«frozenset.__iter__»;refine yaa (ycs (a:=a) rfl ?_);refine yaa ?_;unfold Builtin.Frozenset.sizeOf;refine yaa (zcY x (yac ?_));refine yaa ?_;unfold setDrawn;refine yaa (zcE x ?_);dsimp only;refine yaa (zhg ?_);refine yac ?_;obtain ⟨mask,place,dummies,finger,led,moves,plain⟩:=t;simp only at h5;subst h5
 refine yb1 (fun z=>absurd z (by
  cases byT w
  ·exact yaW
  ·exact yaW)) (fun _=>?_)
 refine yaa (yac ?_);refine yaa ?_;unfold setEpoch;refine yaa (zcE x (yac ?_));refine yaa (yaU (yac ⟨_,rfl,"set_iterator",_,⟨_,yao _ rfl,rfl⟩,zaO.lookup,hQ⟩))
def zlV{Q:Option Value->Shared->Prop}{i:Nat}{e:Int×Value}(hit:zkP s.heap it a (slN w (zac ks) i) i es.size ep)(x:SAt w s.heap a ks es ep t)(hx:(zhc w a ep es)[i]?=some e)
  (hQ:∀h',zkP h' it a (slN w (zac ks) (i+1)) (i+1) es.size ep->Heap.SameBut it s.heap h'->Q (some e.2) { s with heap:=h' }):wpAny (model prog w) A (pyNext (.ref it)) Q E s:=by
 obtain ⟨o,ho,hc,hd⟩:=id hit
 have hlt:i<=es.size:=by
  have:=(Array.getElem?_eq_some_iff.mp hx).1;rw [zdn] at this;omega
 unfold pyNext;refine yaa (wpAny_attempt (ybt (name:=Str.ofString "__next__") hit.typeIs zaO (yaZ zaO hit.typeIs zcT ?_ (zdi _))));unfold Builtin.«set_iterator.__next__»;refine yaa (yac ?_);refine yaa (wpAny_fieldsOf ho hd ?_);dsimp only;refine yaa (zcY x ?_);rw [if_neg (by simp)];refine yaa ?_;rw [ya2,ya2,ya2];refine zhf x hlt ?_;rw [hx];show wpAny _ _ (setField (.ref it) 0 (rawInt (slN w (zac ks) (i+1))) >>= _) _ _ s;refine yaa (wpAny_setField ho hd (by simp) ?_);have ho1:=ycd (Obj.mapFields (·.setIfInBounds 0 (rawInt (slN w (zac ks) (i+1))))) ho (Obj.isFreed_of_fields (ybk hd _));refine yaa (wpAny_setField (s:={ s with heap:=s.heap.update it (Obj.mapFields (·.setIfInBounds 0 (rawInt (slN w (zac ks) (i+1))))) }) ho1 (ybk hd _) (by simp) ?_);have ho2:=ycd (Obj.mapFields (·.setIfInBounds 1 (rawInt ((i:Int)+1)))) ho1 (Obj.isFreed_of_fields (ybk (ybk hd _) _));refine yac ⟨_,rfl,yac (hQ _ ⟨_,ho2,?_,?_⟩ ((Heap.SameBut.update ..).trans (Heap.SameBut.update ..)))⟩
 ·exact (Obj.cls_mapFields ..).trans ((Obj.cls_mapFields ..).trans hc)
 ·rw [ybk (ybk hd _)];simp [rawInt]
def zod{Q:Option Value->Shared->Prop}(hh:A.handled=none)(hit:zkP s.heap it a (slN w (zac ks) es.size) es.size es.size ep)(x:SAt w s.heap a ks es ep t)(hQ:∀h',Heap.ExtBut it s.heap h'->Q none { s with heap:=h' }):wpAny (model prog w) A (pyNext (.ref it)) Q E s:=by
 obtain ⟨o,ho,hc,hd⟩:=id hit;unfold pyNext;refine yaa (wpAny_attempt (ybt (name:=Str.ofString "__next__") hit.typeIs zaO (yaZ zaO hit.typeIs zcT ?_ (zdi _))));unfold Builtin.«set_iterator.__next__»;refine yaa (yac ?_);refine yaa (wpAny_fieldsOf ho hd ?_);dsimp only;refine yaa (zcY x ?_);rw [if_neg (by simp)];refine yaa ?_;rw [ya2,ya2,ya2];refine zhf x (yaf _) ?_;have hn:(zhc w a ep es)[es.size]?=none:=ybz (by rw [zdn];exact yaf _);rw [hn];show wpAny _ _ (setField (.ref it) 2 .none >>= _) _ _ s;refine yaa (wpAny_setField ho hd (by simp) ?_);show wpAny _ _ (newExc (.type "StopIteration") [] >>= _) _ _ _;refine yaa ?_;simp only [newExc,newTuple];refine yaa (yaU ?_ (by size_fits));refine yaa (m:=firstArgMember _ _) (ycs (a:=Value.none) (by first | rfl | (simp only [firstArgMember];rfl)) ?_);refine yaU ?_ (by size_fits);simp only [raiseNew];refine yaa (wpAny_handled ?_);rw [show A.in1.handled=none from hh];refine yaa (yac (wpAny_throw ?_));refine yaa (ych (T:="StopIteration") (b:=true) ⟨_,yao _ rfl,rfl⟩ isSubtype_stop ?_);exact yac (hQ _ (((Heap.SameBut.update ..).extBut.push _).push _))
def zhh(hh:A.handled=none)(I:Addr)(hne:a≠I):Walks prog w A I [I,a] [I] es.size (fun i v=>∃e,(zhc w a ep es)[i]?=some e/\e.2=v) (fun i h=>zkP h I a (slN w (zac ks) i) i es.size ep/\SAt w h a ks es ep t) where
 sub:=fun b hb=>by simp at hb;simp [hb]
 frame:=fun _ _ _ st hk=>⟨st.1.at fun o e=>hk I (by simp) o e,st.2.at fun o e=>hk a (by simp) o e⟩
 item:=fun i s Q E hi st hQ=>by
  obtain ⟨e,hx⟩:∃e,(zhc w a ep es)[i]?=some e:=⟨_,ya7 (by rw [zdn];exact hi)⟩;refine zlV st.1 st.2 hx fun h' hit' hs'=>?_
  exact hQ e.2 h' s.toks ⟨e,hx,rfl⟩ ⟨hit',st.2.at fun o e=>hs'.extBut a o hne e⟩ fun b o hb e=>hs'.extBut b o (fun h=>hb (by simp [h])) e
 done:=fun s Q E st hQ=>zod hh st.1 st.2 fun h' he'=>hQ h' s.toks fun b o hb e=>he' b o (fun h=>hb (by simp [h])) e
 self:=fun i s Q E st hQ=>by
  refine wpAny_pyIter_slot st.1.typeIs zda (yaZ zda st.1.typeIs zey ?_ (zfs _));show wpAny _ _ (ret (.ref I)) _ _ s;exact yac ⟨_,rfl,"set_iterator",_,st.1.typeIs,zaO.lookup,hQ⟩
end
end ST
namespace ST
open PySem PySem.Spec PySem.W PyProof.Rows
section
variable{prog:Program}{w:World}{A:Around}{E:Z5}{s:Shared}{a:Addr}{ks:List Int}{es:Array (Int×Value)}{ep:Nat}{t:SetTable}
def zkr{r:Addr}{Q:Bool->Shared->Prop}(hT:s.TypeIs (.ref r) "set")(h:Q false s):wpAny (model prog w) A (Builtin.List.listLengthHint (.ref r)) Q E s:=by
 unfold Builtin.List.listLengthHint;refine yaa (wpAny_specialOf hT PySem.F.slot_set_len.lookup ?_);generalize hid:("set.__len__":String)=id0
 wp_delta
 rw [show splitId id0=some ("set","__len__") from by subst hid;decide +kernel];subst hid;refine yaa (ych (T:="set") (b:=true) hT (by rw [isSubtype_type];kernel_rfl) ?_);refine yb1 (fun hab=>absurd hab (by decide)) (fun _=>?_);refine yb1 (fun _=>?_) (fun hab=>absurd (by decide +kernel) hab);refine yaa (ybW hT ?_);exact yac h
def SAt.typeIs(x:SAt w s.heap a ks es ep t):s.TypeIs (.ref a) "set":=let ⟨⟨o,ho,hx,_⟩,_⟩:=x;⟨o,ho,hx.1⟩
def SAt.lt{h:Heap}(x:SAt w h a ks es ep t):a<h.objs.size:=let ⟨⟨_,ho,_⟩,_⟩:=x;yaj ho
def zmJ:KdlSrc prog w "set" a a es.size (fun i v=>∃e,(zhc w a ep es)[i]?=some e/\e.2=v) (fun h=>SAt w h a ks es ep t) where
 type:=fun _ x=>x.typeIs
 there:=fun _ x=>⟨x.lt,x.lt⟩
 keep:=fun _ _ x hk=>x.at fun o e=>hk a (.inl rfl) o e
 notList:=by decide
 notTuple:=by decide
 hint:=fun _ _ _ _ x hq=>zkr x.typeIs hq
 iter:=fun A s hh x=>⟨_,_,(fun _ _ hq=>zhD x hq),zhh hh _ (yan x.lt),by
  refine ⟨⟨_,yao _ rfl,rfl,?_⟩,x.at fun o e=>yae _ e⟩
  have:slN w (zac ks) 0=0:=by unfold slN;split<;>rfl
  rw [this];rfl⟩
def zgH{Q:Z5}(hh:A.handled=none)(S:ISet w s.heap a ks)
  (h:∀(hm h':Heap) (tk e:Nat) (vs:List Value),(∀b o,s.heap.get? b=some o->hm.get? b=some o)->(∀b o,hm.get? b=some o->h'.get? b=some o)->h'.get? hm.objs.size=some (seqObj "list" vs.toArray e)->IntsAre vs (zac ks)->Q (.ref hm.objs.size) { s with heap:=h',toks:=tk }) :
  wpAny (model prog w) A (call (.builtin "sorted") [.ref a]) Q E s:=by
 obtain ⟨es,ep,t,x⟩:=S.sat;have h4:=x.2.2.2.2.2.2
 have hz:es.size=(zac ks).length:=by rw [<-yav,h4.len]
 have h8:=zaA (ks:=ks);refine Calls.call_function_entry kind_sorted plain_sorted entry_sorted (args_sorted1 _) ?_;unfold Builtin.«sorted»;refine yaa (m:=checkCount "sorted" 1 1 _) (yac ?_);refine yaa (kdu_collect (A:=A.in1) (zmJ (prog:=prog)) hh x (by rw [hz];exact yal h8 (by decide)) fun h' tk acc hk hacc=>?_)
 have hl:acc.toList.length=es.size:=by rw [yav];exact hacc.1
 refine yaa (wpAny_newList ?_ (by rw [hl,hz];exact yal h8 (by decide)));have hoL:(h'.push (seqObj "list" acc.toList.toArray 0)).get? h'.objs.size=some (seqObj "list" acc.toList.toArray 0):=yao _ rfl
 have hv:acc.toList=(zhc w a ep es).toList.map (·.2):=by
  apply ybq;intro i;rw [yax,ya9,ya9]
  rcases Nat.lt_or_ge i es.size with z | z
  ·have z':i<acc.size:=by rw [hacc.1];exact z
   obtain ⟨e,e1,e2⟩:=hacc.2 i acc[i] (ya7 z');rw [ya7 z',e1];show some acc[i]=some e.2;rw [e2]
  ·rw [ybz (by rw [hacc.1];exact z),ybz (by rw [zdn];exact z)];rfl
 obtain ⟨ns,hns,hp⟩:∃ns,IntsAre acc.toList ns/\ns.Perm (zac ks):=by
  have go:∀l:List (Int×Value),(∀e∈l,∃k tk,e=(k,Value.int k tk))->IntsAre (l.map (·.2)) (l.map (·.1)):=by
   intro l
   induction l with
   | nil=>intro _;exact .nil
   | cons e l ih =>
    intro hm;obtain ⟨k,tk,rfl⟩:=hm e yaA;exact .cons k tk (ih fun e he=>hm e (yas _ he))
  refine ⟨(zhc w a ep es).toList.map (·.1),?_,?_⟩
  ·rw [hv]
   exact go _ fun e he=>by
    obtain ⟨k,tk,_,z⟩:=h4.mem (zen.mem_iff.mp he);exact ⟨k,tk,z⟩
  ·have:=(zen (w:=w) (a:=a) (ep:=ep) (es:=es)).map (·.1);rwa [h4.hashes] at this
 refine yaa (yaT (yaZ slot_list_sort ⟨_,hoL,rfl⟩ entry_list_sort (list_sort_tree (s:={ s with heap:=h'.push (seqObj "list" acc.toList.toArray 0),toks:=tk }) hoL hns (by rw [hl,hz];omega) fun out ns' a1 a2 a3=>⟨_,rfl,?_⟩) (args_list_sort _)));refine yac ⟨_,rfl,?_⟩;obtain ⟨e,he⟩:=sortedHeap_at (out:=out) hoL;have en:ns'=zac ks:=lks_uniq (a2.trans hp) a3 (List.Pairwise.imp (fun {a b} h=>by omega) zaY);refine h h' _ tk e out.toList hk (fun b o hb=>?_) (by simpa using he) (by rw [<-en];exact a1);have hlt:b<h'.objs.size:=yaj hb;rw [sortedHeap_old (yan hlt) (by rw [size_push'];exact ya6 hlt)];exact yae _ hb
end
end ST
namespace L2
open PySem PySem.Spec PyProof.Rows
section
variable{X:Cx}
noncomputable def zgB(w:World)(a:Addr)(ks:List Int)(h:Heap):Prop:=ST.ISet w h a ks
theorem zdf:∀{ns:List Int} {vs:List Value},Vals (ns.map V.int) vs->IntsAre vs ns
 | [],_,r=>by rw [List.map_nil] at r;cases r;exact .nil
 | n::ns,_,r=>by
  rw [yay] at r
  cases r with
  | cons h t =>
   obtain ⟨u,e⟩:=(show ∃t,_=Value.int n t from h);subst e;exact .cons n u (zdf t)
def zeE{ns:List Int}{vs:List Value}(h:IntsAre vs ns):Vals (ns.map V.int) vs:=by
 induction h with
 | nil=>exact .nil
 | cons n t _ ih=>exact .cons ⟨t,rfl⟩ ih
def zeA(hc:X.calm=true):zc9 X (.type "set") (fun xs H Q=>∃(p:Addr) (ns:List Int),xs=[.ref p]/\SqL X.K H p (ns.map V.int)/\(∀k∈ns,0<=k/\k<8)/\∀l,H l=none->Q (.ref l) (upd H l (.ext (zgB X.w l ns)))):=by
 intro pins s σ H xs us Q I r h;obtain ⟨p,ns,rfl,hq,hs,q⟩:=h;obtain ⟨u,rfl,rx⟩:=zeG r;cases rx;obtain ⟨its,rv,pl,hz⟩:=I.list hq;refine zi4 (I.ok.hd hc) pl.isList (by simpa using zdf rv) hs fun h' tk S kp=>?_
 refine ⟨.ref s.heap.objs.size,_,I.laid (t':=tk) (o:=.ext (zgB X.w s.heap.objs.size ns)) kp (yaf _) ?_,rfl,q _ (I.hok.fresh (yaf _))⟩;refine ⟨S,?_,fun h1 h2 x k=>ST.ISet.keep x k⟩;obtain ⟨o,_,_,_,e,_⟩:=S.ex;exact ⟨o,e⟩
def zdR(hc:X.calm=true):zc9 X (.builtin "sorted") (fun xs H Q=>∃(a:Addr) (ns:List Int),xs=[.ref a]/\H a=some (.ext (zgB X.w a ns))/\∀l,H l=none->Q (.ref l) (upd H l (.lst ((ST.zac ns).map V.int)))):=by
 intro pins s σ H xs us Q I r h;obtain ⟨a,ns,rfl,ha,q⟩:=h;obtain ⟨u,rfl,rx⟩:=zeG r;cases rx;obtain ⟨S,_⟩:=I.hok a _ ha;refine ST.zgH (I.ok.hd hc) S fun hm h' tk e vs k1 k2 hg hi=>?_
 have I1:=I.kept k1 (t':=tk);refine ⟨.ref hm.objs.size,_,I1.laid (h':=h') (t':=tk) (o:=.lst ((ST.zac ns).map V.int)) k2 (yaf _) (show zaQ X.prog X.w _ h' _ (.lst _) from ⟨?_,vs,e,zeE hi,hg⟩),rfl,q _ (I1.hok.fresh (yaf _))⟩;rw [yak];exact yal ST.zaA (by decide)
end
end L2
namespace S2
open PySem PySem.Spec PyProof.Rows L2
noncomputable def zfz:D->Option D | .lst l=>(zco l).bind fun ns=>if ns.all (fun k=>decide (0<=k/\k<8)) then some (.lst ((ST.zac ns).map D.int)) else none | _=>none
section
variable{X:Cx}{cl:Cf}{E:St->XK}{e:Expr}{f:Fe}{pos:Pos}
theorem zeQ{w:Wd}:∀{l:List Int},Shds cl w (l.map V.int) (l.map D.int)
 | []=>.nil
 | i::l=>.cons (.int i) (zeQ (l:=l))
def zl0{p p2 pos2:Pos}(hc:X.calm=true)(hK:X.K=cl.K)(hg:Gl X "sorted")(hm:X.mg "sorted" = none)(hg2:Gl X "set")(hm2:X.mg "set" = none)(he:PE X e (tE cl E f))(hs:starEach [e] X.env=[(false,eval e X.env)]) :
  PE X (.Call (.Name "sorted" p) [.Call (.Name "set" p2) [e] [] pos2] [] pos) (tN cl E (eUn zfz f)):=by
 refine PE.imp (zdm (zdR hc) hg hm (by decide +kernel) (zbI (zcL (zeA hc) hg2 hm2 (by decide +kernel) (zbS he zdY hs) (he:=hs) (hpl:=rfl)) zdw)) ?_;rintro σ H Q ⟨B,w,ρ,S,rfl,R,q⟩;refine ⟨B,w,ρ,S,rfl,R,?_⟩;unfold eUn at q
 cases hf:f ρ S with
 | bad=>rw [hf] at q;exact q.elim
 | exc c S1=>rw [hf] at q;simp only [zae,hf,Out.bind];exact q
 | ok d S1 =>
  rw [hf] at q;simp only [zae,hf,Out.bind];intro vs w1 R1 F1 sh;dsimp only [Out.bind] at q
  cases d with
  | lst l =>
   cases hk:zco l with
   | none=>simp [zfz,hk,Out.of] at q
   | some ns =>
    by_cases h8:ns.all (fun k=>decide (0<=k/\k<8))=true
    ·simp only [zfz,hk,Option.bind,h8,ybM] at q
     cases sh with
     | cons h1 hn =>
      cases hn
      cases h1 with
      | lst ep k r =>
       have er:=ziH r hk;subst er;refine ⟨_,ns,rfl,SqL.of ep,fun k hk=>yap (ybS.mp h8 k hk),fun l hl=>⟨l,ns,rfl,zak,fun l2 hl2=>?_⟩⟩;exact q l2 _ (w1.add l (.ext (zgB X.w l ns))) (R1.grow (zam hl _)) (F1.trans (zam hl _).fut) hl2 (.lst zeQ)
    ·rw [Bool.not_eq_true] at h8;simp only [zfz,hk,Option.bind,h8,yaF,ybm] at q;exact q.elim
  | _=>exact q.elim
end
end S2
namespace PySem
open Sem (wp)
namespace F
def ze6:typeLookup (.type "list") "keys" = pure none:=by rw [typeLookup_type,yce];kernel_rfl
end F
section
variable{prog:Program}{w:World}{A:Around}{E:Z5}{s:Shared}{a:Addr}{o:Obj}
def ziq{xs:Array Value}{k:Nat}{sl:Array (Option Value)}{Q:Option Value->Shared->Prop}(hx:s.heap.get? a=some { cls:=.type "list",dict:=none,data:=.seq xs k,slots:=sl })(hA:A.handled=none)
  (h:∀h' tk,(∀b o,s.heap.get? b=some o->h'.get? b=some o)->Q none { s with heap:=h',toks:=tk }) :
  wpAny (model prog w) A (getAttr? (.ref a) "keys") Q E s:=by
 obtain ⟨hp,g,d,tk,os⟩:=s;have hT:∀tk',(⟨hp,g,d,tk',os⟩:Shared).TypeIs (.ref a) "list":=fun _=>⟨_,hx,rfl⟩
 have f1:=sub_AttributeError;have f3:=ybX.lookup;have f4:=ybX.bind (.ref a);have f5:=am_list_getattr_none;unfold getAttr? getAttrBy? getAttrBy
 repeat (any_goals (first | assumption | exact hT _ | ((with_reducible show wpAny _ _ (call (Value.builtin "list.__getattribute__") _ _) _ _ _);refine yca ybX (hT _) am_entry_list_getattribute (F.args_list_getattribute_2 _ _) (meets_getattribute_miss_list a xs k sl "keys" _ F.ze6 (by decide)) ⟨hx,hA,fun h' tk' e hx'=>?_⟩) | wp_step))
 obtain ⟨t',u',he⟩:=hx'.there;show wpAny _ _ (getattributeRaised _ _ _ _ _ _ _) _ _ _;unfold getattributeRaised
 repeat (any_goals (first | assumption | wp_step))
 exact h _ _ fun b o e=>hx'.keeps b o e
end
namespace F
def zaZ:entryFor table "dict.update.loop" = some Builtin.«dict.update.loop»:=entryFor_of_tree (by kernel_rfl)
def zaq:plainId "dict.update.loop" = true:=by decide +kernel
end F
end PySem
namespace ST
open PySem PySem.Spec PyProof.Rows
section
variable{prog:Program}{w:World}{K:Type}[DecidableEq K]{knd:KeyKind prog w K}{A:Around}{R:Result->Shared->Prop}{I:Addr}{fp wr:List Addr}{G:Array GenState->Array GenState->Prop}{n:Nat}{P:Nat->Value->Prop}{St:Nat->Shared->Prop}
noncomputable def zk0(ks:Nat->K)(vf:Nat->Value)(i:Nat):List (K×Value):=(List.range i).foldl (fun acc j=>stored acc (ks j) (vf j)) []
def zdu{ks:Nat->K}{vf:Nat->Value}{i:Nat}:zk0 ks vf (i+1)=stored (zk0 ks vf i) (ks i) (vf i):=by
 unfold zk0;rw [ybJ,List.foldl_append];rfl
theorem zf8{ks:Nat->K}{vf:Nat->Value}:∀{i:Nat},(zk0 ks vf i).length<=i
 | 0=>yaf _
 | i+1=>by
  rw [zdu];refine yal ?_ (Nat.succ_le_succ (zf8 (ks:=ks) (vf:=vf) (i:=i)));unfold stored;split
  ·rw [yak];exact ybg _
  ·rw [yar];exact yaf _
def ziV(W:WalksS prog w A.in1 I fp wr G n P St)(S:Addr)(hSf:S ∉ fp)(T:Nat->Addr)(ks:Nat->K)(kf vf:Nat->Value)(hval:∀i v,P i v->v=.ref (T i))(hk:∀i,i<n->knd.is (ks i) (kf i)=true)(hT:∀i,i<n->T i ∉ S::wr)(hn:n<=sizeLine) :
  ∀(k i:Nat) (tk:Tok) (s:Shared),n-i=k->i<=n->St i s->s.heap.DictOf knd S (zk0 ks vf i)->(∀i,i<n->s.heap.IsTuple (T i) #[kf i,vf i]) →
   (∀s',Moved (S::wr) G s s'->s'.heap.DictOf knd S (zk0 ks vf n)->R (.ok (.ret .none)) s') →
   codeAny (model prog w) A (.builtin "dict.update.loop" ⟨[.ref S,.ref I,.int i tk,.none],[]⟩) R s:=by
 have hSw:S ∉ wr:=fun h=>hSf (W.sub _ h)
 have hsub:∀b∈wr,b∈S::wr:=fun b hb=>yas _ hb
 intro k
 induction k with
 | zero =>
  intro i tk s hk' hi hst hS hTs hR
  have hin:i=n:=by omega
  subst hin;refine ybI PySem.F.zaZ ?_;rw [ybn PySem.F.zaq _];show wpAny _ A.in1 (pyNext (.ref I) >>= _) _ _ s;refine yaa (W.done s _ _ hst fun s' hm=>?_);show wpAny _ A.in1 (Builtin.Dict.addKeywords S [] >>= _) _ _ s';exact yaa (yac (yac (hR s' (hm.mono hsub) (hS.at fun o ho=>hm.heap S _ hSw ho))))
 | succ k ih =>
  intro i tk s hk' hi hst hS hTs hR
  have hlt:i<n:=by omega
  refine ybI PySem.F.zaZ ?_;rw [ybn PySem.F.zaq _];show wpAny _ A.in1 (pyNext (.ref I) >>= _) _ _ s;refine yaa (W.item i s _ _ hlt hst fun v s' hP hst' hm=>?_);obtain rfl:=hval i v hP
  have hTs':∀i,i<n->s'.heap.IsTuple (T i) #[kf i,vf i]:=fun i hi=>by
   obtain ⟨o,ho,r⟩:=hTs i hi;exact ⟨o,hm.heap _ _ (fun z=>hT i hi (hsub _ z)) ho,r⟩
  have hS':=hS.at (h':=s'.heap) fun o ho=>hm.heap S _ hSw ho
  refine yaa (yaT (yaa ?_));refine wpAny_tryCatch ?_;unfold Builtin.Dict.pairItems;obtain ⟨ot,hot,hct,nt,hdt⟩:=hTs' i hlt;have hTy:s'.TypeIs (.ref (T i)) "tuple":=⟨ot,hot,hct⟩;refine yaa (ybW hTy ?_);rw [if_pos (by decide)];refine yaa (wpAny_seqItems hot hdt (yac ?_));show wpAny _ _ (holding [kf i,vf i] (dictSet S (kf i) (vf i))) _ _ _;refine yaT (wpAny_dictSet_pairs (hk i hlt) hS' (fun h' hd hsb=>?_) (yal zf8 (by omega)));rw [<-zdu] at hd;refine yac ⟨ycK PySem.F.zaq _,?_⟩;refine ih (i+1) _ _ (by omega) hlt (W.frame _ s' _ _ hst' (ybg _) fun b hb o e=>?_) hd (fun j hj=>?_) fun s'' hm'' hS''=>?_
  ·rw [hsb.2 b (fun h:b=S=>hSf (by rw [<-h];exact hb))];exact e
  ·obtain ⟨o,ho,r⟩:=hTs' j hj;exact ⟨o,(hsb.2 _ (fun z=>hT j hj (by rw [z];exact yaA))).trans ho,r⟩
  ·refine hR s'' (Moved.trans W.gtrans ((hm.mono hsub).then_heap (ybg _) fun b o hb e=>?_) hm'') hS'';rw [hsb.2 b (fun h:b=S=>hb (by rw [h];exact yaA))];exact e
end
end ST
namespace PySem
section
variable{prog:Program}{w:World}{K:Type}[DecidableEq K]{knd:KeyKind prog w K}{A:Around}{E:Z5}{s:Shared}
def zg7{l:Addr}{items:Array Value}{Q:Z5}(T:Nat->Addr)(ks:Nat->K)(kf vf:Nat->Value)(hh:A.handled=none){kl:Nat}{sl:Array (Option Value)}(hl:s.heap.get? l=some { cls:=.type "list",dict:=none,data:=.seq items kl,slots:=sl })
  (hi:∀(i:Nat) (v:Value),items[i]?=some v->v=.ref (T i)) (hk:∀i,i<items.size->knd.is (ks i) (kf i)=true) (hT:∀i,i<items.size->s.heap.IsTuple (T i) #[kf i,vf i]) (hn:items.size<=sizeLine)
  (h:∀(h':Heap) (tk:Nat),h'.DictOf knd s.heap.objs.size (ST.zk0 ks vf items.size)->(∀b o,s.heap.get? b=some o->h'.get? b=some o)->Q (.ref s.heap.objs.size) { s with heap:=h',toks:=tk }) :
  wpAny (model prog w) A (call (.type "dict") [.ref l]) Q E s:=by
 refine callType_codes (Q₁:=fun obj s₁=>obj=.ref s.heap.objs.size/\s₁={ s with heap:=s.heap.push { cls:=.type "dict",data:=.dict #[] } }) F.kt_called_dict (F.kt_typeCall_dict_1 _) F.entry_dict_init (kt_code_dict_new _ ⟨rfl,rfl⟩) ?_;rintro obj s₁ ⟨rfl,rfl⟩;generalize hG:s.heap.push { cls:=.type "dict",data:=.dict #[] }=G;have hnew:G.DictOf knd s.heap.objs.size []:=hG ▸ Heap.DictOf.new s.heap;have upG:∀b o,s.heap.get? b=some o->G.get? b=some o:=fun b o e=>hG ▸ yae _ e
 have hl':=upG _ _ hl;refine ⟨hnew.typeIs,F.args_dict_init_2 _ _,?_⟩;unfold Builtin.«dict.__init__»;refine yaa ?_;unfold Builtin.Dict.selfAndRest;refine yaa (wpAny_notOrdered_dict hnew.typeIs ?_);show wpAny _ _ (pure (s.heap.objs.size,[Value.ref l])) _ _ _;refine yac ?_;show wpAny _ _ (Builtin.Dict.updateFrom "dict.__init__" s.heap.objs.size (.ref l) [] .none) _ _ _;unfold Builtin.Dict.updateFrom;refine yaa (ybW (T:="list") ⟨_,hl',rfl⟩ ?_);rw [if_pos (by decide)];refine yaa (ziq hl' (by simp [hh]) fun h₁ tk₁ k₁=>?_);refine yaa (ycC ?_);have hl1:h₁.IsList l items:=⟨_,k₁ _ _ hl',rfl,_,rfl⟩;refine yaa (yb8 hl1 ?_);have hlS:l<s.heap.objs.size:=yaj hl
 have hS1:s.heap.objs.size<h₁.objs.size:=by
  obtain ⟨o,_,_,ho,_⟩:=hnew;exact yaj (k₁ _ _ ho)
 have hh3:A.in1.in1.handled=none:=by simp [hh]
 have hneI:l≠h₁.objs.size:=yan (ycx hlS hS1);have kP:∀b o,s.heap.get? b=some o->∀o',(h₁.push o').get? b=some o:=fun b o e o'=>yae _ (k₁ _ _ (upG _ _ e))
 refine yac ⟨ycK F.zaq _,?_⟩;refine ST.ziV ((Walks.list hh3 _ l hneI items).toS) s.heap.objs.size ?_ T ks kf vf hi hk (fun i hi=>?_) hn (items.size-0) 0 _ _ (by omega) (yaR _) ⟨⟨_,yao _ rfl,rfl,rfl⟩,(hl1.push _)⟩ ?_ (fun i hi=>?_) ?_
 ·simp only [yam,yaL,ya0,yck,not_or];exact ⟨yan hS1,ybc hlS⟩
 ·obtain ⟨o,ho,_⟩:=hT i hi;have:=yaj ho;simp only [yam,yaL,ya0,yck,not_or];exact ⟨yan this,yan (ycx this hS1)⟩
 ·exact (hnew.at fun o e=>yae _ (k₁ _ _ e))
 ·obtain ⟨o,ho,r⟩:=hT i hi;exact ⟨o,kP _ _ ho _,r⟩
 ·intro s' hm hS';obtain ⟨h',g',d',tk',os'⟩:=s';have eg:g'=s.gens:=hm.gens;have ed:d'=s.drawn:=hm.drawn;have eo:os'=s.os:=hm.os;subst eg;subst ed;subst eo;refine ⟨rfl,h h' tk' hS' fun b o e=>?_⟩;have hb1:b≠s.heap.objs.size:=yan (yaj e);have hb2:b≠h₁.objs.size:=yan (ycx (yaj e) hS1);exact hm.heap b o (by simp only [yam,yaL,ya0,yck,not_or];exact ⟨hb1,hb2⟩) (kP _ _ e _)
end
end PySem
namespace L2
open PySem PySem.Spec PyProof.Rows
section
variable{κ:Type}[DecidableEq κ]
def KV.val{kvs:List (κ×V)}{vs:List (κ×Value)}(r:KV kvs vs)(k:κ):zfw (zdj kvs k) (valueAt vs k):=by
 unfold KV at r
 induction r with
 | nil=>exact True.intro
 | @cons p q ps qs h t ih =>
  obtain ⟨h1,h2⟩:=h
  by_cases e:p.1=k
  ·have e':q.1=k:=h1.symm.trans e
   have b:valueAt (q::qs) k=some q.2:=by simp [valueAt,ybp,e']
   rw [zaR e,b];exact h2
  ·have e':¬ q.1=k:=fun z=>e (h1.trans z)
   have b:valueAt (q::qs) k=valueAt qs k:=by simp [valueAt,ybp,e']
   rw [zaS e,b];exact ih
theorem KV.any{kvs:List (κ×V)}{vs:List (κ×Value)}(r:KV kvs vs)(k:κ):(kvs.any fun kv=>decide (kv.1=k))=vs.any fun kv=>decide (kv.1=k):=by
 unfold KV at r
 induction r with
 | nil=>rfl
 | cons h t ih=>rw [ycJ,ycJ,ih,h.1]
def KV.repl{kvs:List (κ×V)}{vs:List (κ×Value)}(r:KV kvs vs)(k:κ){y:V}{u:Value}(ry:zav y u) :
  KV (kvs.map fun kv=>if kv.1=k then (kv.1,y) else kv) (vs.map fun kv=>if kv.1=k then (kv.1,u) else kv):=by
 unfold KV at r ⊢
 induction r with
 | nil=>exact .nil
 | @cons p q ps qs h t ih =>
  rw [yay,yay];refine .cons ?_ ih;obtain ⟨h1,h2⟩:=h
  by_cases e:p.1=k
  ·rw [if_pos e,if_pos (h1.symm.trans e)];exact ⟨h1,ry⟩
  ·rw [if_neg e,if_neg (fun z=>e (h1.trans z))];exact ⟨h1,h2⟩
def KV.put{kvs:List (κ×V)}{vs:List (κ×Value)}(r:KV kvs vs)(k:κ){y:V}{u:Value}(ry:zav y u):KV (zd1 kvs k y) (stored vs k u):=by
 unfold zd1 stored;rw [r.any k]
 by_cases e:(vs.any fun kv=>decide (kv.1=k))=true
 ·rw [if_pos e,if_pos e];exact r.repl k ry
 ·rw [if_neg e,if_neg e];exact Paired.snoc r ⟨rfl,ry⟩
end
section
variable{P:Program}{w:World}{H:Hp}{h:Heap}{a:Addr}
def zpS{kvs:List (Key×V)}(ok:HOk P w H h)(e:Rd H a (.dK kvs)):kvs.length<=sizeLine/\(a == sysModules)=false/\∃vs,KV kvs vs/\h.DictOf (zaX P w) a vs :=
 show zaQ P w H h a (.dK kvs) from zoB ok e
end
noncomputable def zhu:List (TE×TE)->St->Hp->(List (V×V)->Hp->Prop)->Prop
 | [],_,H,Q=>Q [] H
 | (tk,tv)::r,σ,H,Q=>tk σ H fun x H1=>tv σ H1 fun y H2=>zhu r σ H2 fun ps H3=>Q ((x,y)::ps) H3
noncomputable abbrev VV:List (V×V)->List (Value×Value)->Prop:=Paired fun p q=>zav p.1 q.1/\zav p.2 q.2
noncomputable def PPs(X:Cx)(pos:Pos)(keys:List (Option Expr))(values:List Expr)(trs:List (TE×TE)):Prop :=
 ∀(pins:Z3) (s:Shared) (σ:St) (H:Hp) (Q:List (V×V)->Hp->Prop),Inv X pins σ H s->zhu trs σ H Q →
  wpAny (model X.prog X.w) X.A (evalPairs (pairTrees keys values X.env pos)) (fun vs s'=>∃ps H',Inv X pins σ H' s'/\VV ps vs/\Q ps H') X.xe s
def zme{X:Cx}{pos:Pos}:PPs X pos [] [] []:=fun pins s σ H Q I h=>pairTrees_nil_walk ⟨[],H,I,.nil,h⟩
def zf9{X:Cx}{pos:Pos}{k v:Expr}{ks:List (Option Expr)}{vs:List Expr}{tk tv:TE}{trs:List (TE×TE)}(hk:PE X k tk)(hv:PE X v tv)(hr:PPs X pos ks vs trs) :
  PPs X pos (some k::ks) (v::vs) ((tk,tv)::trs):=fun pins s σ H Q I h =>
 pairTrees_cons_walk (thn (hk pins s σ H _ I h) fun u s1 ⟨x,H1,I1,rx,q1⟩=>thn (hv pins s1 σ H1 _ I1 q1) fun w2 s2 ⟨y,H2,I2,ry,q2⟩ =>
  thn (hr pins s2 σ H2 _ I2 q2) fun ws s3 ⟨ps,H3,I3,rel,q3⟩=>⟨(x,y)::ps,H3,I3,.cons ⟨rx,ry⟩ rel,q3⟩)
end L2
namespace L2
open PySem PySem.Spec PyProof.Rows
section
variable{X:Cx}
noncomputable def kvL(ps:List (Int×Int)):List (Key×V):=ps.foldl (fun acc p=>zd1 acc (.inl p.1) (.int p.2)) []
noncomputable def zmF(ps:List (Int×Int))(k:Int):Option Int:=ps.foldl (fun acc p=>if k=p.1 then some p.2 else acc) none
theorem zlb(k:Int):∀(ps:List (Int×Int)) (acc:List (Key×V)) (o:Option Int),zdj acc (.inl k)=o.map V.int->zdj (ps.foldl (fun acc p=>zd1 acc (.inl p.1) (.int p.2)) acc) (.inl k)=(ps.foldl (fun acc p=>if k=p.1 then some p.2 else acc) o).map V.int
 | [],_,_,h=>h
 | p::ps,acc,o,h=>by
  rw [yco,yco];refine zlb k ps _ _ ?_;rw [zec]
  by_cases e:k=p.1
  ·rw [if_pos (congrArg Sum.inl e),if_pos e];rfl
  ·rw [if_neg (fun z=>e (Sum.inl.inj z)),if_neg e];exact h
def zmH{ps:List (Int×Int)}{k:Int}:zdj (kvL ps) (.inl k)=(zmF ps k).map V.int:=zlb k ps [] none rfl
def zmI{ps:List (Int×Int)}:(kvL ps).length<=ps.length:=by
 have go:∀(ps:List (Int×Int)) (acc:List (Key×V)),(ps.foldl (fun acc p=>zd1 acc (.inl p.1) (.int p.2)) acc).length<=acc.length+ps.length:=by
  intro ps
  induction ps with
  | nil=>intro acc;exact yaf _
  | cons p ps ih =>
   intro acc;have h1:=ih (zd1 acc (.inl p.1) (.int p.2));have h2:=zct acc (.inl p.1:Key) (.int p.2);rw [yco,yag];omega
 have:=go ps [];rwa [List.length_nil,Nat.zero_add] at this
def zdS(hc:X.calm=true):zc9 X (.type "dict") (fun xs H Q=>∃(p:Addr) (qs:List Addr) (ps:List (Int×Int)),xs=[.ref p]/\SqL X.K H p (qs.map V.ref)/\qs.length=ps.length/\(∀(i:Nat) q c,qs[i]?=some q->ps[i]?=some c->SqT X.K H q [.int c.1,.int c.2])/\∀l,H l=none->Q (.ref l) (upd H l (.dK (kvL ps)))):=by
 intro pins s σ H xs us Q I r h;obtain ⟨p,qs,ps,rfl,hq,hn,ht,q⟩:=h;obtain ⟨u,rfl,rx⟩:=zeG r;cases rx;obtain ⟨its,rv,pl,hz⟩:=I.list hq
 have hl:its.length=ps.length:=by rw [<-rv.length,yak];exact hn
 have hz':ps.length<=sizeLine:=by rwa [yak,hn] at hz
 obtain ⟨o,kl,ho,hc1,hc2,hc3⟩:=pl;obtain ⟨c,dc,dt,sl⟩:=o;simp only at hc1 hc2 hc3;subst hc1 hc2 hc3
 have hch:∀i:Nat,∃kv:Value×Value,i<ps.length->s.heap.IsTuple (qs.getD i 0) #[kv.1,kv.2]/\zav (.int (ps.getD i (0,0)).1) kv.1/\zav (.int (ps.getD i (0,0)).2) kv.2:=by
  intro i
  by_cases hi:i<ps.length
  ·have e1:qs[i]?=some (qs.getD i 0):=by rw [yaw,yad (by omega)];rfl
   have e2:ps[i]?=some (ps.getD i (0,0)):=by rw [yaw,yad hi];rfl
   obtain ⟨ts,rt,pt,_⟩:=I.tuple (ht i _ _ e1 e2)
   cases rt with
   | cons r1 rt =>
    cases rt with
    | cons r2 rt=>cases rt;exact ⟨(_,_),fun _=>⟨pt,r1,r2⟩⟩
  ·exact ⟨(.none,.none),fun z=>absurd z hi⟩
 obtain ⟨kv,hkv⟩:=Classical.axiomOfChoice hch
 have hits:∀(i:Nat) (v:Value),its.toArray[i]?=some v->v=.ref (qs.getD i 0):=by
  intro i v hv;rw [List.getElem?_toArray] at hv;have hi:i<its.length:=(yaq.mp hv).1
  have e1:(qs.map V.ref)[i]?=some (.ref (qs.getD i 0)):=by rw [yax,yaw,yad (by omega)];rfl
  obtain ⟨u,hu,ru⟩:=rv.get e1;rw [hu] at hv;cases hv;exact ru
 have hsz:its.toArray.size=ps.length:=by rw [yai];exact hl
 refine zg7 (knd:=zaX X.prog X.w) (fun i=>qs.getD i 0) (fun i=>(.inl (ps.getD i (0,0)).1:Key)) (fun i=>(kv i).1) (fun i=>(kv i).2) (I.ok.hd hc) ho hits (fun i hi=>zmL (k:=.inl _) (hkv i (hsz ▸ hi)).2.1) (fun i hi=>(hkv i (hsz ▸ hi)).1) (hsz ▸ hz') fun h' tk D k=>?_
 have rel:∀i,i<=ps.length->KV (kvL (ps.take i)) (ST.zk0 (fun i=>(.inl (ps.getD i (0,0)).1:Key)) (fun i=>(kv i).2) i):=by
  intro i
  induction i with
  | zero=>intro _;exact .nil
  | succ i ih =>
   intro hi
   have e2:ps[i]?=some (ps.getD i (0,0)):=by rw [yaw,yad (by omega)];rfl
   rw [ST.zdu,List.take_succ,e2];unfold kvL;rw [List.foldl_append];exact (ih (by omega)).put _ (hkv i (by omega)).2.2
 have rel':=rel ps.length (yaf _);rw [List.take_length] at rel';rw [hsz] at D;refine ⟨.ref s.heap.objs.size,_,I.laid (t':=tk) (o:=.dK (kvL ps)) k (yaf _) ⟨yal zmI hz',?_,_,rel',D⟩,rfl,q _ (I.hok.fresh (yaf _))⟩;exact beq_false_of_ne (ybc I.big)
noncomputable def znS(td ty tx:TE):TE:=fun σ H Q=>td σ H fun x H1=>∃a kvs,x=.ref a/\H1 a=some (.dK kvs)/\ty σ H1 fun y H2=>tx σ H2 fun z H3=>∃k,y=kV k/\H3 a=some (.dK kvs)/\Q ((zdj kvs k).getD z) H3
def zjT{o e f:Expr}{apos cpos:Pos}{td ty tx:TE}(ho:PE X o td)(he:PE X e ty)(hf:PE X f tx)(m:M2 X o "get" apos e f cpos):PE X (.Call (.Attribute o "get" apos) [e,f] [] cpos) (znS td ty tx):=by
 intro pins s σ H Q I h;refine wpAny_Call_method m.base m.few m.line PySem.F.plainAttrs_dict ybG PySem.F.type_dict_get (thn (ho pins s σ H _ I h) fun u s1 ⟨x,H1,I1,rx,a,kvs,ex,d,q1⟩=>?_);subst ex;obtain rfl:u=Value.ref a:=rx;obtain ⟨_,_,vs,_,dd⟩:=zpS I1.hok (.inl d);refine ⟨dd.typeIs,fun b q=>?_,?_⟩
 ·cases q;obtain ⟨ob,_,_,h1,h2,_⟩:=dd;exact ⟨ob,h1,h2.2.1⟩
 rw [m.trees]
 refine yb6 rfl (ybN (ybB (thn (he pins s1 σ H1 _ I1 q1) fun iv s2 ⟨y,H2,I2,ry,q2⟩ =>
  ybB (thn (hf pins s2 σ H2 _ I2 q2) fun fv s3 ⟨z,H3,I3,rz,k,ey,d3,q3⟩=>ycD ?_))))
 subst ey;obtain ⟨z',hd,vs3,rel,dd3⟩:=zpS I3.hok (.inl d3);exact call_meetsIn ybG dd3.typeIs PySem.F.entry_dict_get (PySem.F.args_dict_get_3 _ _ _) (meets_dict_get_default (zaX X.prog X.w) a (zmL ry) hd fv) ⟨_,dd3.mapOf,_,_,I3.tok _,(rel.val k).getD rz,q3⟩
end
end L2
namespace S2
open PySem PySem.Spec PyProof.Rows L2
noncomputable def zk5:List D->Option (List (Int×Int))
 | []=>some []
 | .tup [.int a,.int b]::l=>(zk5 l).map ((a,b)::·)
 | _=>none
noncomputable def zto:D->Option (List (Int×Int)) | .lst l=>zk5 l | _=>none
noncomputable def zr8(f g h:Fe):Fe:=fun ρ S=>(f ρ S).bind fun d S1=>match zto d with
 | some ps=>(g ρ S1).bind fun k S2=>(h ρ S2).bind fun z S3=>(match k with | .int i=>.ok (((zmF ps i).map D.int).getD z) S3 | _=>.bad)
 | none=>.bad
section
variable{X:Cx}{cl:Cf}{E:St->XK}{e a b:Expr}{f g h:Fe}
theorem zd2{w:Wd}:∀{l:List D} {ps:List (Int×Int)} {xs:List V},zk5 l=some ps->Shds cl w xs l->∃qs:List Addr,xs=qs.map V.ref/\qs.length=ps.length/\∀(i:Nat) q c,qs[i]?=some q->ps[i]?=some c->w.H q=some (.tup [.int c.1,.int c.2])
 | [],ps,xs,e,r=>by
  cases e;cases r;exact ⟨[],rfl,rfl,fun i q c z=>by cases z⟩
 | .tup [.int a,.int b]::l,ps,xs,e,r=>by
  cases e1:zk5 l with
  | none=>rw [show zk5 (.tup [.int a,.int b]::l)=(zk5 l).map ((a,b)::·) from rfl,e1] at e;cases e
  | some ps' =>
   rw [show zk5 (.tup [.int a,.int b]::l)=(zk5 l).map ((a,b)::·) from rfl,e1] at e;cases e
   cases r with
   | cons r1 r2 =>
    obtain ⟨qs,rfl,hn,hp⟩:=zd2 e1 r2
    cases r1 with
    | tup ep k rt =>
     cases rt with
     | cons t1 t2 =>
      cases t2 with
      | cons t2 t3 =>
       cases t3;cases t1;cases t2;refine ⟨_::qs,rfl,congrArg Nat.succ hn,fun i q c h1 h2=>?_⟩
       cases i with
       | zero=>cases h1;cases h2;exact ep
       | succ i=>exact hp i q c h1 h2
def zoq{p2 pos2 ap cp:Pos}(hc:X.calm=true)(hg2:Gl X "dict")(hm2:X.mg "dict" = none)(he:PE X e (tE cl E f))(ha:PE X a (tE cl E g))(hb:PE X b (tE cl E h))(hs:starEach [e] X.env=[(false,eval e X.env)])
  (m:M2 X (.Call (.Name "dict" p2) [e] [] pos2) "get" ap a b cp) :
  PE X (.Call (.Attribute (.Call (.Name "dict" p2) [e] [] pos2) "get" ap) [a,b] [] cp) (tE cl E (zr8 f g h)):=by
 refine PE.imp (zjT (zcL (zdS hc) hg2 hm2 (by decide +kernel) (zbS he zdY hs) (he:=hs) (hpl:=rfl)) ha hb m) ?_;rintro σ H Q ⟨B,w,ρ,S,rfl,R,q⟩;refine ⟨B,w,ρ,S,rfl,R,?_⟩;unfold zr8 at q
 cases hf:f ρ S with
 | bad=>rw [hf] at q;exact q.elim
 | exc c S1=>rw [hf] at q;simp only [zae,hf,Out.bind];exact q
 | ok d S1 =>
  rw [hf] at q;simp only [zae,hf,Out.bind];intro vs w1 R1 F1 sh;dsimp only [Out.bind] at q
  cases hk:zto d with
  | none=>rw [hk] at q;exact q.elim
  | some ps =>
   rw [hk] at q;dsimp only at q
   cases d with
   | lst l =>
    cases sh with
    | cons h1 hn =>
     cases hn
     cases h1 with
     | lst ep k r =>
      obtain ⟨qs,rfl,hn,hp⟩:=zd2 hk r;refine ⟨_,qs,ps,rfl,SqL.of ep,hn,fun i q c e1 e2=>SqT.of (hp i q c e1 e2),fun l2 hl2=>⟨l2,_,rfl,zak,?_⟩⟩;have gr:=zam (w:=w1) hl2 (.dK (kvL ps));have R2:=R1.grow gr;refine ⟨B,w1.add l2 (.dK (kvL ps)),ρ,S1,rfl,R2,?_⟩;have ha0:(w1.add l2 (.dK (kvL ps))).H l2=some (.dK (kvL ps)):=zak;have ow0:(w1.add l2 (.dK (kvL ps))).ow l2=none:=if_pos rfl
      cases hgv:g ρ S1 with
      | bad=>rw [hgv] at q;exact q.elim
      | exc c S2=>rw [hgv] at q;exact fun w2 Rw F2=>q w2 Rw (F1.trans (gr.fut.trans F2))
      | ok kd S2 =>
       rw [hgv] at q;dsimp only at q;intro y w2 Rw2 F2 sy;refine ⟨B,w2,ρ,S2,rfl,Rw2,?_⟩
       cases hhv:h ρ S2 with
       | bad=>rw [hhv] at q;exact q.elim
       | exc c S3=>rw [hhv] at q;exact fun w3 Rw F3=>q w3 Rw (F1.trans (gr.fut.trans (F2.trans F3)))
       | ok zd S3 =>
        rw [hhv] at q;dsimp only at q;intro z w3 Rw3 F3 sz
        cases kd with
        | int i =>
         cases sy;dsimp only at q;refine ⟨.inl i,rfl,((F2.trans F3).keep _ _ ha0 ow0).1,?_⟩;rw [zmH]
         cases hk2:zmF ps i with
         | none=>rw [hk2] at q;exact q z w3 Rw3 (F1.trans (gr.fut.trans (F2.trans F3))) sz
         | some n=>rw [hk2] at q;exact q (.int n) w3 Rw3 (F1.trans (gr.fut.trans (F2.trans F3))) (.int n)
        | _=>exact q.elim
   | _=>cases hk
end
end S2
namespace L2
open PySem PySem.Spec PyProof.Rows
section
variable{X:Cx}{pins:Z3}{σ:St}{s:Shared}{a b:Addr}{E:Z5}
def zkE{H:Hp}{kvs:List (List Key×V)}{k:List Key}{v:V}{r:Value}{Q:Unit->Shared->Prop}(hu:X.A.units+1<cLine)(I:Inv X pins σ H s)(e:H a=some (.dT kvs))(eb:H b=some (.tup (k.map kV)))(rv:zav v r)(l:kvs.length<sizeLine)
  (h:∀s',Inv X pins σ (upd H a (.dT (zd1 kvs k v))) s'->Q () s'):wpAny (model X.prog X.w) X.A (dictSet a (.ref b) r) Q E s:=by
 obtain ⟨z,hd,xs,rel,dd⟩:=zr9 I.hok e
 have hz:xs.length<=sizeLine:=by rw [<-Paired.length rel];exact z
 have hl:(zd1 kvs k v).length<=sizeLine:=by have:=zct kvs k v;omega
 refine wpAny_dictSet_heap (hsz:=hz) (show X.A.units<cLine by omega) (zir I.hok eb) dd fun h' dd' hs=>h _ ?_
 obtain ⟨q,es,ep,hq,h2,h3,h4,_,h5⟩:=dd';refine znd I (by rw [e];exact True.intro) hs ⟨q,hq⟩ ⟨hl,hd,_,(rel.put k eb rv).keeps fun c ys ec=>?_,q,es,ep,hq,h2,h3,h4,h5⟩;rw [zaf (zpl ec e (fun z=>nomatch z))];exact ec
noncomputable def zbQ(acc:List (List Key×V))(ps:List (List Key×Addr×V)):List (List Key×V):=ps.foldl (fun acc x=>zd1 acc x.1 x.2.2) acc
theorem zkU(hu:X.A.units+1<cLine){Q:PUnit->Shared->Prop}:∀(ps:List (List Key×Addr×V)) (us:List (Value×Value)) (acc:List (List Key×V)) (H:Hp) (s:Shared),Inv X pins σ H s->H a=some (.dT acc)->(∀x∈ps,H x.2.1=some (.tup (x.1.map kV)))->VV (ps.map fun x=>(.ref x.2.1,x.2.2)) us->acc.length+ps.length<=1000 →
  (∀s',Inv X pins σ (upd H a (.dT (zbQ acc ps))) s'->Q PUnit.unit s')->wpAny (model X.prog X.w) X.A (storeAll a us) Q E s
 | [],us,acc,H,s,I,e,_,rv,_,h=>by
  cases rv
  have eu:upd H a (.dT (zbQ acc []))=H:=by
   funext b;unfold upd
   by_cases hb:b=a
   ·subst hb;rw [if_pos rfl,e];rfl
   ·rw [if_neg hb]
  rw [eu] at h;exact yac (h s I)
 | x::ps,us,acc,H,s,I,e,hk,rv,hl,h=>by
  rw [yay] at rv;rw [yag] at hl
  cases rv with
  | @cons p q ps' us' r1 r2 =>
   obtain ⟨u1,u2⟩:=q;obtain ⟨ra,rb⟩:=r1;cases (show u1=Value.ref x.2.1 from ra);unfold storeAll;rw [List.forIn_cons];refine yaa (yaa (zkE hu I e (hk x (.head _)) rb (by rw [ybT];omega) fun s' I'=>yac ?_));refine zkU hu ps us' (zd1 acc x.1 x.2.2) _ s' I' zak (fun y hy=>?_) r2 (by have:=zct acc x.1 x.2.2;omega) fun s'' I''=>h s'' ?_
   ·rw [zaf (zpl (hk y (.tail _ hy)) e (fun z=>nomatch z))];exact hk y (.tail _ hy)
   ·have eu:upd (upd H a (.dT (zd1 acc x.1 x.2.2))) a (.dT (zbQ (zd1 acc x.1 x.2.2) ps))=upd H a (.dT (zbQ acc (x::ps))):=by
     funext b;unfold upd
     by_cases hb:b=a
     ·rw [if_pos hb,if_pos hb];rfl
     ·rw [if_neg hb,if_neg hb,if_neg hb]
    rw [eu] at I'';exact I''
noncomputable def znQ(trs:List (TE×TE)):TE:=fun σ H Q=>∀p,H p=none->zhu trs σ (upd H p (.dT [])) fun ps H2=>H2 p=some (.dT [])/\∃kvs:List (List Key×Addr×V),ps=kvs.map (fun x=>(.ref x.2.1,x.2.2))/\(∀x∈kvs,H2 x.2.1=some (.tup (x.1.map kV)))/\kvs.length<=15/\Q (.ref p) (upd H2 p (.dT (zbQ [] kvs)))
def zjS{pos:Pos}{keys:List (Option Expr)}{values:List Expr}{trs:List (TE×TE)}(hu:X.A.units+1<cLine)(h:PPs X pos keys values trs)(hall:keys.all (·.isSome)=true)(hl:keys.length=values.length)(h0:keys≠[])(h15:keys.length<=15):PE X (.Dict keys values pos) (znQ trs):=by
 intro pins s σ H Q I q;have hn:=I.hok.fresh (yaf s.heap.objs.size);have I1:=I.laid (a:=s.heap.objs.size) (o:=.dT []) (h':=s.heap.push { cls:=.type "dict",data:=.dict #[] }) (t':=s.toks) (fun _ _ q=>yae _ q) (yaf _) (zgr s.heap I.big);refine wpAny_Dict_any hall hl h0 h15 (thn (h pins _ σ _ _ I1 (q _ hn)) fun ws s2 ⟨ps,H2,I2,rel,e,kvs,ep,hk,lk,q2⟩=>?_);subst ep;exact zkU hu kvs ws [] H2 s2 I2 e hk rel (by rw [List.length_nil];omega) fun s' I'=>⟨.ref s.heap.objs.size,_,I',rfl,q2⟩
end
end L2
namespace S2
open PySem PySem.Spec PyProof.Rows L2
noncomputable def zcl(i:Nat)(ρ:Env):Option D:=match ρ[i]? with | some (some (false,d))=>some d | _=>none
def zcH{i:Nat}{ρ:Env}{d:D}(h:zcl i ρ=some d):ρ[i]?=some (some (false,d)):=by
 unfold zcl at h;split at h
 ·rename_i e;cases h;exact e
 ·cases h
noncomputable def dnO(i1 j1 i2 j2:Nat)(ρ:Env):Option (List Key×D×List Key×D):=(zcl i1 ρ).bind fun a=>(zfr a).bind fun ka=>(zcl j1 ρ).bind fun c=>(zcl i2 ρ).bind fun b=>(zfr b).bind fun kb=>(zcl j2 ρ).bind fun d=>some (ka,c,kb,d)
noncomputable def znC(i1 j1 i2 j2:Nat)(fk fz:Fe):Fe:=fun ρ S=>match dnO i1 j1 i2 j2 ρ with
 | some x=>(fk ρ S).bind fun k S2=>(fz ρ S2).bind fun z S3=>(match zfr k with | some kk=>.ok (if kk=x.2.2.1 then x.2.2.2 else if kk=x.1 then x.2.1 else z) S3 | none=>.bad)
 | none=>.bad
def obs{α β:Type}{o:Option α}{f:α->Option β}{b:β}(h:o.bind f=some b):∃a,o=some a/\f a=some b:=by
 cases o with
 | none=>cases h
 | some a=>exact ⟨a,rfl,h⟩
section
variable{X:Cx}{cl:Cf}{E:St->XK}{ek ez:Expr}{fk fz:Fe}
def zpp{ka kb kk:List Key}{a b:Addr}{v1 v2:V}:zdj (zbQ [] [(ka,a,v1),(kb,b,v2)]) kk=if kk=kb then some v2 else if kk=ka then some v1 else none:=by
 show zdj (zd1 (zd1 [] ka v1) kb v2) kk=_;rw [zec,zec];rfl
def zor{i1 j1 i2 j2:Nat}{x y x2 y2:Str}{p1 p2 p3 p4 dp ap cp:Pos}(hu:X.A.units+1<cLine)
  (h1:PE X (.Name x p1) (znv i1)) (h2:PE X (.Name y p2) (znv j1)) (h3:PE X (.Name x2 p3) (znv i2)) (h4:PE X (.Name y2 p4) (znv j2)) (hk:PE X ek (tE cl E fk)) (hz:PE X ez (tE cl E fz))
  (m:M2 X (.Dict [some (.Name x p1),some (.Name x2 p3)] [.Name y p2,.Name y2 p4] dp) "get" ap ek ez cp) :
  PE X (.Call (.Attribute (.Dict [some (.Name x p1),some (.Name x2 p3)] [.Name y p2,.Name y2 p4] dp) "get" ap) [ek,ez] [] cp) (tE cl E (znC i1 j1 i2 j2 fk fz)):=by
 refine PE.imp (zjU hu (zjS hu (zf9 h1 h2 (zf9 h3 h4 zme)) rfl rfl (fun z=>by cases z) (by show (2:Nat)<=15;decide)) hk hz m) ?_;rintro σ H Q ⟨B,w,ρ,S,rfl,R,q⟩;unfold znC at q
 cases hd:dnO i1 j1 i2 j2 ρ with
 | none=>rw [hd] at q;exact q.elim
 | some xx =>
  rw [hd] at q;unfold dnO at hd;obtain ⟨a,ea,hd⟩:=obs hd;obtain ⟨ka,eka,hd⟩:=obs hd;obtain ⟨c,ec,hd⟩:=obs hd;obtain ⟨b,eb,hd⟩:=obs hd;obtain ⟨kb,ekb,hd⟩:=obs hd;obtain ⟨d,ed,hd⟩:=obs hd;cases hd;dsimp only at q;obtain ⟨va,sa,ra⟩:=R.slots i1 _ _ (zcH ea);obtain ⟨vc,sc,rc⟩:=R.slots j1 _ _ (zcH ec);obtain ⟨vb,sb,rb⟩:=R.slots i2 _ _ (zcH eb);obtain ⟨vd,sd,rd⟩:=R.slots j2 _ _ (zcH ed);have ra:Shd cl w va a:=ra;have rc:Shd cl w vc c:=rc;have rb:Shd cl w vb b:=rb;have rd:Shd cl w vd d:=rd;obtain ⟨qa,rfl,ha1,ha2⟩:=zeh eka ra;obtain ⟨qb,rfl,hb1,hb2⟩:=zeh ekb rb;intro p hp;have na:qa≠p:=zag ha1 hp;have nb:qb≠p:=zag hb1 hp;refine ⟨_,sa,_,sc,_,sb,_,sd,zak,[(ka,qa,vc),(kb,qb,vd)],rfl,?_,by show (2:Nat)<=15;decide,?_⟩
  ·intro z hz;simp only [yam,ya0,yck] at hz
   rcases hz with rfl | rfl
   ·rw [zaf na];exact ha1
   ·rw [zaf nb];exact hb1
  ·have eH:upd (upd w.H p (.dT [])) p (.dT (zbQ [] [(ka,qa,vc),(kb,qb,vd)]))=(w.add p (.dT (zbQ [] [(ka,qa,vc),(kb,qb,vd)]))).H:=by
    funext b;show upd (upd w.H p _) p _ b=upd w.H p _ b;unfold upd
    by_cases hb:b=p
    ·rw [if_pos hb,if_pos hb]
    ·rw [if_neg hb,if_neg hb,if_neg hb]
   rw [eH];have gr:=zam (w:=w) hp (.dT (zbQ [] [(ka,qa,vc),(kb,qb,vd)]));have hp0:(w.add p (.dT (zbQ [] [(ka,qa,vc),(kb,qb,vd)]))).H p=some (.dT (zbQ [] [(ka,qa,vc),(kb,qb,vd)])):=zak;have ow0:(w.add p (.dT (zbQ [] [(ka,qa,vc),(kb,qb,vd)]))).ow p=none:=if_pos rfl;refine ⟨p,rfl,⟨_,.inl hp0⟩,B,_,ρ,S,rfl,R.grow gr,?_⟩
   cases hfv:fk ρ S with
   | bad=>rwa [hfv] at q
   | exc cc S1=>rw [hfv] at q;exact fun w2 R2 F2=>q w2 R2 (gr.fut.trans F2)
   | ok k S1 =>
    rw [hfv] at q;intro yv w2 R2 F2 sy;refine ⟨B,w2,ρ,S1,rfl,R2,?_⟩;dsimp only [Out.bind] at q
    cases hgv:fz ρ S1 with
    | bad=>rwa [hgv] at q
    | exc cc S2=>rw [hgv] at q;exact fun w3 R3 F3=>q w3 R3 (gr.fut.trans (F2.trans F3))
    | ok z S2 =>
     rw [hgv] at q;dsimp only at q;intro zv w3 R3 F3 sz
     cases hkk:zfr k with
     | none=>rw [hkk] at q;exact q.elim
     | some kk =>
      rw [hkk] at q;dsimp only at q;obtain ⟨bb,rfl,hb1',hb2'⟩:=zeh hkk (sy.up F3);refine ⟨_,zqe.t ((F2.trans F3).keep _ _ hp0 ow0).1 hb1',?_⟩;have FF:=gr.fut.trans (F2.trans F3);rw [zpp]
      by_cases e1:kk=kb
      ·rw [if_pos e1] at q ⊢;exact q vd w3 R3 FF (rd.up FF)
      ·rw [if_neg e1] at q ⊢
       by_cases e2:kk=ka
       ·rw [if_pos e2] at q ⊢;exact q vc w3 R3 FF (rc.up FF)
       ·rw [if_neg e2] at q ⊢;exact q zv w3 R3 FF sz
end
end S2
namespace ST
open PySem PySem.Spec PySem.W PyProof.Rows
section
variable{prog:Program}{w:World}{A:Around}{E:Z5}{s:Shared}
theorem zb8{h h':Heap}(k:∀b o,h.get? b=some o->o.cls=.type "tuple" -> h'.get? b=some o):∀{vs fs:List Value},KatTups h vs fs->KatTups h' vs fs
 | [],[],_=>trivial
 | _::_,_::_,t=>by
  obtain ⟨⟨a,o,xs,n,e,ho,hc,hd,hf⟩,t⟩:=t;exact ⟨⟨a,o,xs,n,e,k a o ho hc,hc,hd,hf⟩,zb8 k t⟩
def zhB{a:Addr}{vs fs:List Value}{n:Nat}{p:Array Nat}{P:PySem.Fin->Shared->Prop}(ho:s.heap.get? a=some (seqObj "list" vs.toArray n))(h2:2<=vs.length)(h64:vs.length<64)(t:KatTups s.heap vs fs)(hn:0<fs.length)(hf:∀v∈fs,∃i t,v=.int i t)
  (h:∀(s':Shared) (G:Array Nat->Shared->Prop),(∀b o,s.heap.get? b=some o->o.cls=.type "tuple" -> s'.heap.get? b=some o)->G p s'->(kas_sort vs.length).kasWp (kas_ask prog w A (tuples' true) vs) G s')
  (hP:P (.done (.ret .none)) { s with heap:=sortedHeap s.heap a vs (List.toArray (p.toList.map fun i=>vs.getD i Value.none)) }) :
  wpAny (model prog w) A (Builtin.«list.sort» ⟨[.ref a],[]⟩) P E s:=by
 rw [list_sort_plain];have ha:a<s.heap.objs.size:=yaj ho;refine yaa (listItems_at ho rfl ?_);refine yaa (listUpdate_at ho rfl ?_ (by rw [yai,ybT];omega) (yaR _));obtain ⟨e1,ho1⟩:∃e1,(s.heap.update a (Obj.mapSeq fun _=>#[])).get? a=some (seqObj "list" #[] e1):=⟨_,get?_update_seq ho (fun _=>#[])⟩;refine yaa (seqEpoch_at ho1 rfl ?_);refine yaa (wpAny_newTuple ?_ (by show vs.length<=_;rw [ybT];omega));refine yaa (wpAny_newList ?_ (yaR _));refine yaT ?_;have ho6:(((s.heap.update a (Obj.mapSeq fun _=>#[])).push (seqObj "tuple" vs.toArray 0)).push (seqObj "list" #[] 0)).get? a=some (seqObj "list" #[] e1):=yae _ (yae _ ho1)
 have kp:∀b o,s.heap.get? b=some o->o.cls=.type "tuple" -> (((s.heap.update a (Obj.mapSeq fun _=>#[])).push (seqObj "tuple" vs.toArray 0)).push (seqObj "list" #[] 0)).get? b=some o:=by
  intro b o hb hc
  have hne:b≠a:=fun z=>by
   subst z;rw [ho] at hb;cases hb;exact absurd (Value.type.inj hc) (by decide)
  exact yae _ (yae _ ((Heap.SameBut.update s.heap a _).2 b hne |>.trans hb))
 show wpAny (model prog w) A _ P E { s with heap:=((s.heap.update a (Obj.mapSeq fun _=>#[])).push (seqObj "tuple" vs.toArray 0)).push (seqObj "list" #[] 0) };dsimp only
 have hn2:¬ vs.toArray.size<2:=by rw [yai];omega
 rw [if_neg hn2,if_neg hn2];refine yaa (kat_kind (fs:=fs) (T:=.type "int") (zb8 kp t) hn (fun v hv=>?_) (by decide) ?_)
 ·obtain ⟨i,tk,rfl⟩:=hf v hv;exact .now
 refine yaa (ybe (kat_run (Q:=fun st' s'=>s'={ s with heap:=((s.heap.update a (Obj.mapSeq fun _=>#[])).push (seqObj "tuple" vs.toArray 0)).push (seqObj "list" #[] 0) }/\p.size=vs.length/\arrOf st'=p.map (kas_item (vs.toArray.zip vs.toArray))/\failedOf st'=none)
  (G:=fun q s'=>q=p/\s'={ s with heap:=((s.heap.update a (Obj.mapSeq fun _=>#[])).push (seqObj "tuple" vs.toArray 0)).push (seqObj "list" #[] 0) }) rfl h2 h64 (fun p' st' s' a1 a2 a3 a4=>?_) (h _ _ kp ⟨rfl,rfl⟩)) ?_ fun _ _ e=>e)
 ·obtain ⟨rfl,rfl⟩:=a4;exact ⟨rfl,a1,a2,a3⟩
 rintro ⟨⟨⟩,st'⟩ s' ⟨rfl,hp,har,hfl⟩;dsimp only;have hout:=kat_snds rfl har
 have hsz:(List.toArray (p.toList.map fun i=>vs.getD i Value.none)).size=vs.length:=by rw [yai,yak,yav,hp]
 rw [hout];refine yaa (seqEpoch_at ho6 rfl ?_);refine yaa (listUpdate_at ho6 rfl ?_ (yaR _) (yal (Nat.le_of_eq hsz) (by rw [ybT];omega)));rw [hfl];simp only [bne_self_eq_false,yaF,ybm];exact yac hP
noncomputable def lxL(a1 a2 b1 b2:Int):Bool:=decide (a1<b1\/(a1=b1/\a2<b2))
def zkO{vs:List Value}{i j:Nat}{x y:Addr}{a1 a2 b1 b2:Int}{t1 t2 u1 u2:Tok}{C:Bool->Shared->Prop}(hi:vs.getD i Value.none=.ref x)(hj:vs.getD j Value.none=.ref y)(hx:s.heap.IsTuple x #[.int a1 t1,.int a2 t2])(hy:s.heap.IsTuple y #[.int b1 u1,.int b2 u2])
  (h:C (lxL a1 a2 b1 b2) s):kas_ask prog w A (tuples' true) vs i j C s:=by
 unfold kas_ask;rw [hi,hj];obtain ⟨ox,ex,_,nx,dx⟩:=hx;obtain ⟨oy,ey,_,ny,dy⟩:=hy;refine kat_lt ex dx ey dy ?_;refine kat_cons (wpAny_eqBool_int ?_)
 by_cases e1:a1=b1
 ·subst e1;rw [ybi];refine kat_yes (kat_cons (wpAny_eqBool_int ?_))
  by_cases e2:a2=b2
  ·subst e2;rw [ybi];refine kat_yes (kat_nil ?_)
   have:lxL a1 a2 a1 a2=decide ((#[Value.int a1 t1,Value.int a2 t2]:Array Value).size<(#[Value.int a1 u1,Value.int a2 u2]:Array Value).size):=by simp [lxL]
   rw [<-this];exact h
  ·rw [beq_false_of_ne e2];refine kat_no (kat_one _ _ (lt_int ?_))
   have:lxL a1 a2 a1 b2=decide (a2<b2):=by simp [lxL]
   rwa [this] at h
 ·rw [beq_false_of_ne e1];refine kat_no (oneLt_int ?_)
  have:lxL a1 a2 b1 b2=decide (a1<b1):=by simp [lxL,e1]
  rwa [this] at h
def zmK:∃k,kas_sort 2=.ask 1 0 k/\k true=.ret #[1,0]/\k false=.ret #[0,1]:=⟨_,rfl,rfl,rfl⟩
def zfA{l:Addr}{vs fs:List Value}{p:Array Nat}{Q:Z5}(hl:s.heap.IsList l vs.toArray)(h2:2<=vs.length)(h64:vs.length<64)(t:KatTups s.heap vs fs)(hn:0<fs.length)(hf:∀v∈fs,∃i t,v=.int i t)
  (h:∀(s':Shared) (G:Array Nat->Shared->Prop),(∀b o,s.heap.get? b=some o->o.cls=.type "tuple" -> s'.heap.get? b=some o)->G p s'->(kas_sort vs.length).kasWp (kas_ask prog w A.in1.in1 (tuples' true) vs) G s')
  (hQ:∀(h':Heap) (e:Nat),(∀b o,s.heap.get? b=some o->h'.get? b=some o)->h'.get? (s.heap.objs.size+1)=some (seqObj "list" (List.toArray (p.toList.map fun i=>vs.getD i Value.none)) e)->Q (.ref (s.heap.objs.size+1)) { s with heap:=h' }) :
  wpAny (model prog w) A (call (.builtin "sorted") [.ref l]) Q E s:=by
 refine Calls.call_function_entry kind_sorted plain_sorted entry_sorted (args_sorted1 _) ?_;unfold Builtin.«sorted»;refine yaa (m:=checkCount "sorted" 1 1 _) (yac ?_);refine yaa (collect_list hl ?_ (by rw [ybT];omega));refine yaa (wpAny_newList ?_ (by rw [ybT];omega))
 have hsz:((s.heap.push (seqObj "list" #[] 0)).update s.heap.objs.size (Obj.mapSeq (·++vs.toArray))).objs.size=s.heap.objs.size+1:=by
  rw [Heap.size_update,size_push']
 have hoL:(((s.heap.push (seqObj "list" #[] 0)).update s.heap.objs.size (Obj.mapSeq (·++vs.toArray))).push (seqObj "list" vs.toArray 0)).get? (s.heap.objs.size+1)=some (seqObj "list" vs.toArray 0):=by
  rw [<-hsz];exact yao _ rfl
 have keep:∀b o,s.heap.get? b=some o->(((s.heap.push (seqObj "list" #[] 0)).update s.heap.objs.size (Obj.mapSeq (·++vs.toArray))).push (seqObj "list" vs.toArray 0)).get? b=some o:=fun b o q=>by
  have hlt:b<s.heap.objs.size:=yaj q;rw [Heap.get?_push_ne _ _ _ (by rw [hsz];exact yan (ya6 hlt)),Heap.get?_update_ne _ _ _ _ (yan hlt),Heap.get?_push_ne _ _ _ (yan hlt)];exact q
 have hgs:(((s.heap.push (seqObj "list" #[] 0)).update s.heap.objs.size (Obj.mapSeq (·++vs.toArray))).push (seqObj "list" vs.toArray 0)).objs.size=s.heap.objs.size+2:=by rw [size_push',hsz]
 rw [hsz];generalize ((s.heap.push (seqObj "list" #[] 0)).update s.heap.objs.size (Obj.mapSeq (·++vs.toArray))).push (seqObj "list" vs.toArray 0)=g at *;refine yaa (yaT (yaZ slot_list_sort ⟨_,hoL,rfl⟩ entry_list_sort (zhB (s:={ s with heap:=g }) (fs:=fs) (p:=p) hoL h2 h64 (zb8 (fun b o e _=>keep b o e) t) hn hf (fun s' G k hg=>h s' G (fun b o e c=>k b o (keep b o e) c) hg) ⟨_,rfl,?_⟩) (args_list_sort _)));refine yac ⟨_,rfl,?_⟩;obtain ⟨e,he⟩:=sortedHeap_at (out:=List.toArray (p.toList.map fun i=>vs.getD i Value.none)) hoL;refine hQ _ e (fun b o hb=>?_) he;have hlt:b<s.heap.objs.size:=yaj hb;rw [sortedHeap_old (yan (ya6 hlt)) (by rw [hgs];exact ya6 (ya6 hlt))];exact keep b o hb
end
end ST
namespace L2
open PySem PySem.Spec PySem.W PyProof.Rows ST
section
variable{X:Cx}
def zfj(hc:X.calm=true):zc9 X (.builtin "sorted") (fun xs H Q=>∃(p q1 q2:Addr) (a1 a2 b1 b2:Int),xs=[.ref p]/\SqL X.K H p [.ref q1,.ref q2]/\SqT X.K H q1 [.int a1,.int a2]/\SqT X.K H q2 [.int b1,.int b2] ∧
  ∀l,H l=none->Q (.ref l) (upd H l (.lst (if lxL b1 b2 a1 a2 then [.ref q2,.ref q1] else [.ref q1,.ref q2])))):=by
 intro pins s σ H xs us Q I r h;obtain ⟨p,q1,q2,a1,a2,b1,b2,rfl,hq,h1,h2,q⟩:=h;obtain ⟨u,rfl,rx⟩:=zeG r;cases rx;obtain ⟨its,rv,pl,hz⟩:=I.list hq
 cases rv with
 | cons r1 rv =>
  cases rv with
  | cons r2 rv =>
   cases rv;cases r1;cases r2;obtain ⟨ts,rt,pt,_⟩:=I.tuple h1;obtain ⟨us,ru,pu,_⟩:=I.tuple h2
   cases rt with
   | cons c1 rt =>
    cases rt with
    | cons c2 rt =>
     cases rt
     cases ru with
     | cons d1 ru =>
      cases ru with
      | cons d2 ru =>
       cases ru;obtain ⟨t1,rfl⟩:=c1;obtain ⟨t2,rfl⟩:=c2;obtain ⟨u1,rfl⟩:=d1;obtain ⟨u2,rfl⟩:=d2;have pt':s.heap.IsTuple q1 #[.int a1 t1,.int a2 t2]:=pt;have pu':s.heap.IsTuple q2 #[.int b1 u1,.int b2 u2]:=pu;refine zfA (vs:=[.ref q1,.ref q2]) (fs:=[.int a1 t1,.int b1 u1]) (p:=if lxL b1 b2 a1 a2 then #[1,0] else #[0,1]) pl.isList (yaf _) (by show (2:Nat)<64;decide) ?_ (by show (0:Nat)<2;decide) ?_ ?_ ?_
       ·obtain ⟨o,e,c,n,d⟩:=pt';obtain ⟨o',e',c',n',d'⟩:=pu';exact KatTups.cons e c d rfl (KatTups.cons e' c' d' rfl KatTups.nil)
       ·intro v hv;simp only [yam,ya0,yck] at hv
        rcases hv with rfl | rfl
        ·exact ⟨_,_,rfl⟩
        ·exact ⟨_,_,rfl⟩
       ·intro s' G k hg;obtain ⟨kk,ek,k1,k2⟩:=zmK;show (kas_sort 2).kasWp _ _ _;rw [ek];show kas_ask _ _ _ _ _ 1 0 _ _;have up:∀{x:Addr} {xs:Array Value},s.heap.IsTuple x xs->s'.heap.IsTuple x xs:=fun ⟨o,e,c,r⟩=>⟨o,k _ _ e c,c,r⟩
        refine zkO (x:=q2) (y:=q1) rfl rfl (up pu') (up pt') ?_
        cases hb:lxL b1 b2 a1 a2 with
        | true=>rw [hb] at hg;show (kk true).kasWp _ _ _;rw [k1];exact hg
        | false=>rw [hb] at hg;show (kk false).kasWp _ _ _;rw [k2];exact hg
       ·intro h' e k hg;have fr:H (s.heap.objs.size+1)=none:=I.hok.fresh (ybg _);refine ⟨.ref (s.heap.objs.size+1),_,I.laid (h':=h') (t':=s.toks) (o:=.lst (if lxL b1 b2 a1 a2 then [.ref q2,.ref q1] else [.ref q1,.ref q2])) k (ybg _) ?_,rfl,q _ fr⟩
        cases hb:lxL b1 b2 a1 a2 with
        | true=>rw [hb] at hg;exact ⟨by show (2:Nat)<=_;decide,[.ref q2,.ref q1],e,.cons rfl (.cons rfl .nil),hg⟩
        | false=>rw [hb] at hg;exact ⟨by show (2:Nat)<=_;decide,[.ref q1,.ref q2],e,.cons rfl (.cons rfl .nil),hg⟩
end
end L2
namespace S2
open PySem PySem.Spec PyProof.Rows L2 ST
noncomputable def zgN:D->Option (Int×Int) | .tup [.int a,.int b]=>some (a,b) | _=>none
noncomputable def zrb:List D->Option (List D) | [x,y]=>(zgN x).bind fun a=>(zgN y).bind fun b=>some (if lxL b.1 b.2 a.1 a.2 then [y,x] else [x,y]) | _=>none
noncomputable def znB(f g:Fe):Fe:=fun ρ S=>(zae [f,g] ρ S).bind fun ds S1=>match zrb ds with | some l=>.ok (.lst l) S1 | none=>.bad
section
variable{X:Cx}{cl:Cf}{E:St->XK}{a b:Expr}{f g:Fe}
def ze0{w:Wd}{v:V}{d:D}{x:Int×Int}(h:Shd cl w v d)(e:zgN d=some x):∃q,v=.ref q/\w.H q=some (.tup [.int x.1,.int x.2]):=by
 unfold zgN at e;split at e
 ·cases e
  cases h with
  | tup ep k r =>
   cases r with
   | cons r1 r2 =>
    cases r2 with
    | cons r2 r3=>cases r3;cases r1;cases r2;exact ⟨_,rfl,ep⟩
 ·cases e
def zoj{p lp pos:Pos}(hc:X.calm=true)(hg:Gl X "sorted")(hm:X.mg "sorted" = none)(ha:PA X [a,b] (tAs cl E [f,g])) :
  PE X (.Call (.Name "sorted" p) [.List [a,b] lp] [] pos) (tN cl E (znB f g)):=by
 refine PE.imp (zdm (zfj hc) hg hm (by decide +kernel) (zbI (zk6 ha) zdw)) ?_;rintro σ H Q ⟨B,w,ρ,S,rfl,R,q⟩;refine ⟨B,w,ρ,S,rfl,R,?_⟩;unfold znB at q
 cases hf:zae [f,g] ρ S with
 | bad=>rw [hf] at q;exact q.elim
 | exc c S1=>rwa [hf] at q
 | ok ds S1 =>
  rw [hf] at q;dsimp only [Out.bind] at q;intro vs w1 R1 F1 sh
  cases hs:zrb ds with
  | none=>rw [hs] at q;exact q.elim
  | some l =>
   rw [hs] at q;dsimp only at q;unfold zrb at hs;split at hs
   ·rename_i x y
    cases h1:zgN x with
    | none=>rw [h1] at hs;cases hs
    | some pa =>
     rw [h1] at hs
     cases h2:zgN y with
     | none=>dsimp only [Option.bind] at hs;rw [h2] at hs;cases hs
     | some pb =>
      dsimp only [Option.bind] at hs;rw [h2] at hs;cases hs
      cases sh with
      | cons s1 sh =>
       cases sh with
       | cons s2 sh =>
        cases sh;obtain ⟨q1,rfl,e1⟩:=ze0 s1 h1;obtain ⟨q2,rfl,e2⟩:=ze0 s2 h2;refine ⟨by show (2:Nat)<=_;decide,fun p hp=>⟨p,q1,q2,pa.1,pa.2,pb.1,pb.2,rfl,SqL.of zak,SqT.of (by rw [zaf (zag e1 hp)];exact e1),SqT.of (by rw [zaf (zag e2 hp)];exact e2),fun l hl=>?_⟩⟩;have gr:=zam (w:=w1) hp (.lst [V.ref q1,V.ref q2]);refine q l _ (w1.add p (.lst [V.ref q1,V.ref q2])) (R1.grow gr) (F1.trans gr.fut) hl (.lst ?_)
        cases lxL pb.1 pb.2 pa.1 pa.2 with
        | true=>exact .cons (s2.up gr.fut) (.cons (s1.up gr.fut) .nil)
        | false=>exact .cons (s1.up gr.fut) (.cons (s2.up gr.fut) .nil)
   ·cases hs
end
end S2
namespace S2
open PySem PySem.Spec PyProof.Rows L2
structure FnI where
 ar:Nat
 own:Bool
 run:List D->Sto->Out D
structure ObE where
 cur:Str
 fk:Str->Str->Bool
 df:Str->Bool
 mt:Str->Option (Str×FnI)
 mks:Str->Option (List D×FnI)
structure Genv where
 con:Str->Option D
 fn:Str->Option FnI
 blt:Str->Bool
 exc:Str->Bool
 und:Str->Str->Bool
 isx:Str->Str->Option Bool
 ob:ObE
 ds:Str->Bool
abbrev bmV:List Value:=[.type "ValueError",.type "Exception",.type "BaseException",.type "object"]
structure GOk(cl:Cf)(G:Genv)(P:Program)(wo:PySem.World)(K:PySem.W.Frag)(mg:Z6)(base:Heap)(k:Nat):Prop where
 con:∀x d,G.con x=some d->∃v u,mg x=some u/\zav v u/\∀w,Shd cl w v d
 fn:∀x fi,G.fn x=some fi->∃f fd ps,mg x=some (.ref f)/\PySem.W.keepIn K (.ref f)=true/\zck K fd ps []/\FnOk P wo K mg base (CXE P wo) k f fd ps (zgG cl fi.ar fi.own fi.run)
 blt:∀x,G.blt x=true->mg x=none
 exc:∀c,G.exc c=true->mg c=some (.ref (cl c))/\PySem.W.excIn K (cl c) bmV "ValueError.__new__" = true
 und:∀c C,G.und c C=true->L2.zns K (cl c) (cl C)
 isx:∀c C b,G.isx c C=some b->PySem.W.ExcCls K (cl c)/\PySem.W.kitOne K (.ref (cl c)) (zur cl C)=some b
 fk:∀c f,G.ob.fk c f=true->zjj cl c f
 mt:∀m c fi,G.ob.mt m=some (c,fi)->∃f fd ps,Cls K (cl c)/\Meth K (cl c) m f/\zck K fd ps []/\FnOk P wo K mg base (CXE P wo) k f fd ps (zgG cl fi.ar fi.own fi.run)
 mks:∀c dds fi,G.ob.mks c=some (dds,fi)->∃f fd ps dvs ds k',k'+1<=k/\mg c=some (.ref (cl c))/\Mk K (cl c) f/\zck K fd ps []/\zck K fd ps ds/\Vals dvs ds/\(∀w,Shds cl w dvs dds)/\FnOk P wo K mg base (CXE P wo) k' f fd ps (zgG cl fi.ar false fi.run)
noncomputable abbrev Names:=List (Str×NameKind)
structure Gx(cl:Cf)(G:Genv)(k:Nat)(X:Cx)(nm:Names)(N:List Str)(E:St->XK):Prop where
 gok:GOk cl G X.prog X.w X.K X.mg X.base k
 room:Room k X.A
 calm:X.calm=true
 pass:zb7 (CXE X.prog X.w) X E
 eN:X.N=N
 kk:X.K=cl.K
 pp:X.prog=cl.P
 ww:X.w=cl.wo
 nd:N.Nodup
 vis:∀x kd,nm.lookup x=some kd->∃kd',X.env.scope.names.lookup x=some kd'/\(kd'=kd\/(kd=.free/\kd'=.cell))
 fnx:∀x,nm.lookup x=some .local->X.env.scope.names.lookup x=some .local
noncomputable def idx:List Str->Str->Option Nat
 | [],_=>none
 | y::l,x=>if y=x then some 0 else (idx l x).map (·+1)
theorem zew:∀{N:List Str} {x:Str} {i:Nat},idx N x=some i->N[i]?=some x
 | y::l,x,i,h=>by
  unfold idx at h;split at h
  ·rename_i e;cases h;rw [e];rfl
  ·cases hr:idx l x with
   | none=>rw [hr] at h;cases h
   | some j=>rw [hr] at h;cases h;simpa using zew hr
noncomputable def zgd(x:Str):Bool:=!(x == ("__debug__":Str))&&!(x == ("__classdict__":Str))&&!decide (x = "__name__")
def ze2{x:Str}(h:zgd x=true):(x == ("__debug__":Str))=false/\(x == ("__classdict__":Str))=false/\x ≠ "__name__":=by
 unfold zgd at h;simp only [yab,ybr,ybu] at h;exact ⟨h.1.1,h.1.2,h.2⟩
noncomputable def zrU:Option NameKind->Bool | some .local=>true | some .cell=>true | some .free=>true | _=>false
noncomputable def zbd(nm:Names)(N:List Str)(x:Str):Option Nat:=if zrU (nm.lookup x)&&zgd x then idx N x else none
noncomputable def zbF(nm:Names)(x:Str):Bool:=decide (nm.lookup x=some .globalImplicit)&&zgd x
section
variable{cl:Cf}{G:Genv}{k:Nat}{X:Cx}{nm:Names}{N:List Str}{E:St->XK}
def Gx.slot(g:Gx cl G k X nm N E){x:Str}{i:Nat}(h:zbd nm N x=some i):X.N[i]?=some x/\Vis X.env.scope x/\(x == ("__debug__":Str))=false/\(x == ("__classdict__":Str))=false:=by
 unfold zbd at h;split at h
 ·rename_i hv;rw [yab] at hv;obtain ⟨h1,h2,_⟩:=ze2 hv.2;refine ⟨by rw [g.eN];exact zew h,?_,h1,h2⟩
  cases hk:nm.lookup x with
  | none=>rw [hk] at hv;exact absurd hv.1 (by decide)
  | some kd =>
   obtain ⟨kd',e,z⟩:=g.vis x kd hk;rw [hk] at hv;unfold Vis;rw [e]
   rcases z with rfl | ⟨_,rfl⟩
   ·cases kd'<;>first | exact .inl rfl | exact .inr (.inl rfl) | exact .inr (.inr rfl) | exact absurd hv.1 (by decide)
   ·exact .inr (.inl rfl)
 ·cases h
def Gx.glob(g:Gx cl G k X nm N E){x:Str}(h:zbF nm x=true):Gl X x/\(x == ("__debug__":Str))=false/\x ≠ "__name__":=by
 unfold zbF at h;rw [yab] at h;obtain ⟨h1,_,h3⟩:=ze2 h.2;obtain ⟨kd',e,z⟩:=g.vis x _ (yap h.1)
 rcases z with rfl | ⟨z,_⟩
 ·exact ⟨e,h1,h3⟩
 ·cases z
end
noncomputable abbrev Rec:=Names->List Str->Expr->Option (Bool×Fe)
noncomputable def okE:Expr->Bool | .Starred _ _=>false | .Set _ _ _=>false | _=>true
def zad{e:Expr}(h:okE e=true):zbe e=true:=by cases e<;>first | rfl | cases h
def zdx{e:Expr}{op:CmpOp}(h:okE e=true):behindInMarks op e=false:=by cases e<;>first | rfl | cases h
def zeo{e:Expr}{env:PySem.Env}(h:okE e=true)(v:Value):foldedSetIterable e env v=pure v:=by cases e<;>first | rfl | cases h
noncomputable def zbf:Expr->Bool | .IfExp _ _ _ _=>false | _=>true
noncomputable def zaE(cl:Cf)(G:Genv)(k:Nat)(rc:Rec):Prop:=∀(X:Cx) (nm:Names) (N:List Str) (E:St->XK),Gx cl G k X nm N E->∀(e:Expr) (o:Bool) (f:Fe),rc nm N e=some (o,f) →
 (o=true->PE X e (tN cl E f))/\PE X e (tE cl E f)/\(zbf e=true->PT X e (tTr cl E f))/\okE e=true
noncomputable def shE(rc:Rec)(nm:Names)(N:List Str)(e:Expr):Option Fe:=(rc nm N e).map (·.2)
noncomputable def opE(rc:Rec)(nm:Names)(N:List Str)(e:Expr):Option Fe:=match e with
 | .Name x _=>(match zbd nm N x with | some i=>some (zan i) | none=>shE rc nm N e)
 | _=>shE rc nm N e
noncomputable def shL(rc:Rec)(nm:Names)(N:List Str):List Expr->Option (List Fe)
 | []=>some []
 | e::es=>(shE rc nm N e).bind fun f=>(shL rc nm N es).bind fun fs=>some (f::fs)
noncomputable def opL(rc:Rec)(nm:Names)(N:List Str):List Expr->Option (List Fe)
 | []=>some []
 | e::es=>(opE rc nm N e).bind fun f=>(opL rc nm N es).bind fun fs=>some (f::fs)
section
variable{cl:Cf}{G:Genv}{k:Nat}{rc:Rec}{X:Cx}{nm:Names}{N:List Str}{E:St->XK}
def zar(hs:zaE cl G k rc)(g:Gx cl G k X nm N E){e:Expr}{f:Fe}(h:shE rc nm N e=some f):PE X e (tE cl E f)/\(zbf e=true->PT X e (tTr cl E f))/\okE e=true:=by
 unfold shE at h
 cases hr:rc nm N e with
 | none=>rw [hr] at h;cases h
 | some p =>
  obtain ⟨o,f'⟩:=p;rw [hr] at h;cases h;obtain ⟨_,h2,h3,h4⟩:=hs X nm N E g e o _ hr;exact ⟨h2,h3,h4⟩
def zbE(hs:zaE cl G k rc)(g:Gx cl G k X nm N E){e:Expr}{f:Fe}(h:opE rc nm N e=some f):PE X e (tH cl E f)/\okE e=true:=by
 unfold opE at h;split at h
 ·rename_i x pos;split at h
  ·rename_i i hi;cases h;obtain ⟨h1,h2,h3,h4⟩:=g.slot hi;exact ⟨zot h1 h2 h3 h4,rfl⟩
  ·obtain ⟨h1,_,h3⟩:=zar hs g h;exact ⟨zhJ h1,h3⟩
 ·obtain ⟨h1,_,h3⟩:=zar hs g h;exact ⟨zhJ h1,h3⟩
theorem zdr(hs:zaE cl G k rc)(g:Gx cl G k X nm N E):∀{es:List Expr} {fs:List Fe},shL rc nm N es=some fs->PA X es (tAs cl E fs)/\es.all zbe=true/\fs.length=es.length
 | [],fs,h=>by cases h;exact ⟨zdY,rfl,rfl⟩
 | e::es,fs,h=>by
  unfold shL at h
  cases h1:shE rc nm N e with
  | none=>rw [h1] at h;cases h
  | some f =>
   rw [h1] at h
   cases h2:shL rc nm N es with
   | none=>rw [h2] at h;cases h
   | some fs' =>
    rw [h2] at h;cases h;obtain ⟨a1,_,a3⟩:=zar hs g h1;obtain ⟨b1,b2,b3⟩:=zdr hs g h2;exact ⟨zbS a1 b1 (zaP (zad a3)),by rw [ybb,zad a3,b2];rfl,by rw [yag,yag,b3]⟩
theorem zk9(hs:zaE cl G k rc)(g:Gx cl G k X nm N E):∀{es:List Expr} {fs:List Fe},opL rc nm N es=some fs->PA X es (tHs cl E fs)/\es.all zbe=true/\fs.length=es.length
 | [],fs,h=>by cases h;exact ⟨zkX,rfl,rfl⟩
 | e::es,fs,h=>by
  unfold opL at h
  cases h1:opE rc nm N e with
  | none=>rw [h1] at h;cases h
  | some f =>
   rw [h1] at h
   cases h2:opL rc nm N es with
   | none=>rw [h2] at h;cases h
   | some fs' =>
    rw [h2] at h;cases h;obtain ⟨a1,a3⟩:=zbE hs g h1;obtain ⟨b1,b2,b3⟩:=zk9 hs g h2;exact ⟨zhF a1 b1 (zaP (zad a3)),by rw [ybb,zad a3,b2];rfl,by rw [yag,yag,b3]⟩
end
noncomputable def zuq:Const->Option D
 | .int i=>some (.int i)
 | .bool b=>some (.bl b)
 | .none=>some .non
 | .str x=>some (.str x)
 | _=>none
noncomputable def zsg:Operator->Option (D->D->Option D)
 | .Add=>some zch | .Sub=>some zqk | .Mult=>some zhd | .Mod=>some zkb | .FloorDiv=>some zpT | _=>none
noncomputable def ziE:Expr->Bool | .Constant .none _ _=>true | _=>false
noncomputable def ziF:Expr->Bool | .Constant (.bool _) _ _=>true | _=>false
noncomputable def ltD:=znD fun i j=>decide (i<j)
noncomputable def leD:=znD fun i j=>decide (i<=j)
noncomputable def gtD:=znD fun i j=>decide (j<i)
noncomputable def geD:=znD fun i j=>decide (j<=i)
noncomputable def zpY:CmpOp->Expr->Option (D->D->Option D)
 | .Eq,_=>some eqD | .NotEq,_=>some neD | .Lt,_=>some ltD | .LtE,_=>some leD | .Gt,_=>some gtD | .GtE,_=>some geD | .In,_=>some inD | .NotIn,_=>some zmz
 | .Is,b=>if ziE b then some zqv else if ziF b then some zqw else none
 | .IsNot,b=>if ziE b then some zgP else if ziF b then some zj5 else none
noncomputable def zg8(rc:Rec)(nm:Names)(N:List Str)(op:BoolOp):List Expr->Option Fe
 | []=>none
 | [a]=>if zbf a then shE rc nm N a else none
 | a::b::r=>if zbf a then (shE rc nm N a).bind fun f=>(zg8 rc nm N op (b::r)).bind fun h=>some (match op with | .And=>zg1 f h | .Or=>eOr f h) else none
structure BI where
 g:List D->Option D
 nw:Bool
noncomputable def zi9(x:Str):Option BI :=
 if x = "len" then some ⟨ze7,false⟩
 else if x = "all" then some ⟨zss,false⟩
 else if x = "tuple" then some ⟨zcF,false⟩
 else none
noncomputable def znK(x:Str):Option String:=if x = "int" then some "int" else if x = "bool" then some "bool" else if x = "tuple" then some "tuple" else if x = "str" then some "str" else if x = "list" then some "list" else none
noncomputable def znk(G:Genv)(rc:Rec)(nm:Names)(N:List Str)(x:Str)(args:List Expr):Option (Bool×Fe) :=
 if zbF nm x then
  match G.fn x with
  | some fi=>if args.length=fi.ar then (shL rc nm N args).bind fun fs=>some (fi.own,eFn fi.run fs) else none
  | none=>if G.blt x then
    (if x = "isinstance" then (match args with
     | [a,.Name t _]=>if zbF nm t&&G.blt t&&(znK t).isSome then (znK t).bind fun T=>(opE rc nm N a).bind fun f=>some (false,eUn (zdG T) f)
      else none
     | _=>none)
    else match args with
     | []=>none
     | _::_=>(zi9 x).bind fun bi=>(opL rc nm N args).bind fun fs=>some (bi.nw,za5 bi.g fs)) else none
 else none
noncomputable def zun:Expr->Bool | .Tuple _ _ _=>true | _=>false
noncomputable def zgV(G:Genv)(rc:Rec)(nm:Names)(N:List Str)(tg e:Expr):Option Fi:=match e with
 | .Call (.Name x p) args [] pos=>if x = "range" then (if zbF nm x&&G.blt x then (match args with
   | [a]=>(shE rc nm N a).bind fun f=>some (zdN f)
   | [a,b]=>(shE rc nm N a).bind fun f=>(shE rc nm N b).bind fun h=>some (ziT f h)
   | _=>none) else none)
  else (shE rc nm N e).map zbs
 | _=>(shE rc nm N e).map zbs
noncomputable def zre:Expr->Option (Str×Expr×Pos×Pos) | .Call (.Name y p) [a] [] q=>some (y,a,p,q) | _=>none
noncomputable def spA:List Expr->Option (Str×Expr×Pos×Pos) | [e]=>zre e | _=>none
def zkW{args:List Expr}{c:Str×Expr×Pos×Pos}(h:spA args=some c):args=[.Call (.Name c.1 c.2.2.1) [c.2.1] [] c.2.2.2]:=by
 match args,h with
 | [e],h =>
  have h':zre e=some c:=h;unfold zre at h';split at h'
  ·cases h';rfl
  ·cases h'
noncomputable def spG(G:Genv)(rc:Rec)(nm:Names)(N:List Str)(x:Str)(args:List Expr):Option (Bool×Fe):=(spA args).bind fun c =>
 if decide (x = "sorted")&&decide (c.1 = "set")&&zbF nm "sorted" && G.blt "sorted" && zbF nm "set" && G.blt "set" then (shE rc nm N c.2.1).map fun f=>(true,eUn zfz f)
 else none
section
variable{cl:Cf}{G:Genv}{k:Nat}{rc:Rec}{X:Cx}{nm:Names}{N:List Str}{E:St->XK}
theorem Gx.units(g:Gx cl G k X nm N E):X.A.units+64<cLine:=g.room.units
def zlv{op:Operator}{gg:D->D->Option D}(h:zsg op=some gg):OpD X cl (binaryOp op) gg:=by
 cases op<;>simp [zsg] at h<;>subst h
 ·exact zpf
 ·exact zo8
 ·exact zpa
 ·exact zpb
 ·exact zpe
def zea(g:Gx cl G k X nm N E){op:CmpOp}{b:Expr}{gg:D->D->Option D}(h:zpY op b=some gg):OpD X cl (compareOp op) gg:=by
 cases op<;>simp only [zpY] at h
 ·cases h;exact zrA g.kk g.units
 ·cases h;exact zry g.kk g.units
 ·cases h;exact zep zru
 ·cases h;exact zep zrv
 ·cases h;exact zep zrw
 ·cases h;exact zep zrx
 ·split at h
  ·cases h;exact zpc
  ·split at h
   ·cases h;exact zpd
   ·cases h
 ·split at h
  ·cases h;exact zmx
  ·split at h
   ·cases h;exact zmy
   ·cases h
 ·cases h;exact zrz g.kk g.units
 ·cases h;exact zo9 g.kk g.units
theorem zi8(hs:zaE cl G k rc)(g:Gx cl G k X nm N E){op:BoolOp}{pos:Pos}:∀{es:List Expr} {f:Fe},zg8 rc nm N op es=some f->PE X (.BoolOp op es pos) (tE cl E f)/\PW X (.BoolOp op es pos) (tTr cl E f)
 | [],f,h=>by cases h
 | [a],f,h=>by
  unfold zg8 at h;split at h
  ·rename_i ht;obtain ⟨h1,h2,_⟩:=zar hs g h;refine ⟨zoS h1,?_⟩
   cases op with
   | And=>exact zma (h2 ht)
   | Or=>exact zoE (h2 ht)
  ·cases h
 | a::b::r,f,h=>by
  unfold zg8 at h;split at h
  ·rename_i ht
   cases h1:shE rc nm N a with
   | none=>rw [h1] at h;cases h
   | some fa =>
    rw [h1] at h
    cases h2:zg8 rc nm N op (b::r) with
    | none=>rw [h2] at h;cases h
    | some fb =>
     rw [h2] at h;obtain ⟨a1,a2,_⟩:=zar hs g h1;obtain ⟨b1,b2⟩:=zi8 hs g (pos:=pos) h2
     cases op with
     | And=>cases h;exact ⟨zou a1 b1,znY (a2 ht) b2⟩
     | Or=>cases h;exact ⟨zrg a1 b1,zq6 (a2 ht) b2⟩
  ·cases h
def zkL:bootBuiltins "all" = some (.builtin "all"):=by decide +kernel
def zeb:bootBuiltins "tuple" = some (.type "tuple"):=by decide +kernel
def zi5:bootBuiltins "list" = some (.type "list"):=by decide +kernel
def zkK:bootBuiltins "int" = some (.type "int"):=by decide +kernel
def zi7:bootBuiltins "bool" = some (.type "bool"):=by decide +kernel
def zqB:bootBuiltins "max" = some (.builtin "max"):=by decide +kernel
def zqA:bootBuiltins "min" = some (.builtin "min"):=by decide +kernel
def zqC:bootBuiltins "abs" = some (.builtin "abs"):=by decide +kernel
def zkJ:bootBuiltins "str" = some (.type "str"):=by decide +kernel
def zp5(g:Gx cl G k X nm N E){x:Str}{bi:BI}{e:Expr}{es:List Expr}{fs:List Fe}{p pos:Pos}(h:zi9 x=some bi)(hg:zbF nm x=true)(hb:G.blt x=true)(ha:PA X (e::es) (tHs cl E fs))(hp:(e::es).all zbe=true) :
  (bi.nw=true->PE X (.Call (.Name x p) (e::es) [] pos) (tN cl E (za5 bi.g fs)))/\PE X (.Call (.Name x p) (e::es) [] pos) (tE cl E (za5 bi.g fs)):=by
 obtain ⟨g1,g2,g3⟩:=g.glob hg;have m:=g.gok.blt x hb;rw [ybb,yab] at hp;have st:=zaP (es:=es) (env:=X.env) hp.1;have pl:=za8 (pos:=pos) (env:=X.env) hp.2
 have D1:∀{id:String} {gg:List D->Option D},zjk X cl (.builtin id) gg->bootBuiltins x=some (.builtin id)->PE X (.Call (.Name x p) (e::es) [] pos) (tE cl E (za5 gg fs)):=fun hc hv =>
  PE.imp (zdm hc g1 m hv ha g3 g2 st pl) fun _ _ _ q=>znU (fun _ _ _ z=>z) q
 have D2:∀{T:String} {gg:List D->Option D},zjk X cl (.type T) gg->bootBuiltins x=some (.type T)->PE X (.Call (.Name x p) (e::es) [] pos) (tE cl E (za5 gg fs)):=fun hc hv =>
  PE.imp (zcL hc g1 m hv ha g3 g2 st pl) fun _ _ _ q=>znU (fun _ _ _ z=>z) q
 have N2:∀{T:String} {gg:List D->Option D},zsu X cl (.type T) gg->bootBuiltins x=some (.type T)->PE X (.Call (.Name x p) (e::es) [] pos) (tN cl E (za5 gg fs)):=fun hc hv =>
  PE.imp (zcL hc g1 m hv ha g3 g2 st pl) fun _ _ _ q=>zq4 (fun _ _ _ z=>z) q
 unfold zi9 at h;split at h
 ·rename_i e';cases h;exact ⟨(fun z=>absurd z (by decide)),D1 (zp0 g.kk) (by rw [e'];exact PySem.boot_len)⟩
 split at h
 ·rename_i e';cases h;exact ⟨(fun z=>absurd z (by decide)),D1 (zp1 g.calm) (by rw [e'];exact zkL)⟩
 split at h
 ·rename_i e';cases h;exact ⟨(fun z=>absurd z (by decide)),D2 zkH (by rw [e'];exact zeb)⟩
 ·cases h
def zqT{t:Str}{T:String}(h:znK t=some T):bootBuiltins t=some (.type T):=by
 unfold znK at h;split at h
 ·rename_i e;cases h;rw [e];exact zkK
 split at h
 ·rename_i e;cases h;rw [e];exact zi7
 split at h
 ·rename_i e;cases h;rw [e];exact zeb
 split at h
 ·rename_i e;cases h;rw [e];exact zkJ
 split at h
 ·rename_i e;cases h;rw [e];exact zi5
 ·cases h
def znj(hs:zaE cl G k rc)(g:Gx cl G k X nm N E){x:Str}{args:List Expr}{o:Bool}{f:Fe}{p pos:Pos}(h:znk G rc nm N x args=some (o,f)) :
  (o=true->PE X (.Call (.Name x p) args [] pos) (tN cl E f))/\PE X (.Call (.Name x p) args [] pos) (tE cl E f):=by
 unfold znk at h;split at h
 ·rename_i hg;obtain ⟨g1,g2,g3⟩:=g.glob hg;split at h
  ·rename_i fi hfi;split at h
   ·rename_i hl;obtain ⟨fa,fd,ps,m1,m2,m3,m4⟩:=g.gok.fn x fi hfi
    cases h1:shL rc nm N args with
    | none=>rw [h1] at h;cases h
    | some fs =>
     rw [h1] at h;cases h;obtain ⟨a1,a2,a3⟩:=zdr hs g h1;have hlen:fs.length=fi.ar:=a3.trans hl
     have main:PE X (.Call (.Name x p) args [] pos) (zeL (zgG cl fi.ar fi.own fi.run) [] E (tAs cl E fs)):=by
      cases args with
      | nil =>
       cases h1;refine PE.imp (zh9 m4 g.room g1 m1 m2 m3 .nil g.pass g2) ?_;rintro σ H Q ⟨B,w,ρ,S,rfl,R,q⟩;exact q [] w R (Fut.refl _) .nil
      | cons e es =>
       rw [ybb,yab] at a2;exact zjX m4 g.room g1 m1 m2 m3 .nil g.pass a1 g2 (zaP a2.1) (za8 a2.2)
     cases ho:fi.own with
     | false =>
      rw [ho] at main;exact ⟨(fun z=>by cases z),PE.imp main fun _ _ _ q=>zp4 q hlen⟩
     | true =>
      rw [ho] at main;have n:PE X (.Call (.Name x p) args [] pos) (tN cl E (eFn fi.run fs)):=PE.imp main fun _ _ _ q=>zp3 q hlen
      exact ⟨fun _=>n,zbP n⟩
   ·cases h
  ·split at h
   ·rename_i hb;split at h
    ·rename_i hx;subst hx;split at h
     ·rename_i a t p2;split at h
      ·rename_i ht;rw [yab,yab] at ht;replace ht:=ht.1
       cases hT:znK t with
       | none=>rw [hT] at h;cases h
       | some T =>
        rw [hT] at h
        cases h1:opE rc nm N a with
        | none=>rw [h1] at h;cases h
        | some fa =>
         rw [h1] at h;cases h;obtain ⟨t1,t2,t3⟩:=g.glob ht.1;obtain ⟨a1,a2⟩:=zbE hs g h1;exact ⟨(fun z=>by cases z),zl2 g1 (g.gok.blt _ hb) t1 (g.gok.blt _ ht.2) (zqT hT) t3 t2 (zad a2) a1⟩
      ·cases h
     ·cases h
    ·split at h
     ·cases h
     ·rename_i e es
      cases h2:zi9 x with
      | none=>rw [h2] at h;cases h
      | some bi =>
       rw [h2] at h
       cases h1:opL rc nm N (e::es) with
       | none=>rw [h1] at h;cases h
       | some fs =>
        rw [h1] at h;cases h;obtain ⟨a1,a2,_⟩:=zk9 hs g h1;exact zp5 g h2 hg hb a1 a2
   ·cases h
 ·cases h
def ziB(hs:zaE cl G k rc)(g:Gx cl G k X nm N E){e tg:Expr}{fi:Fi}(h:zgV G rc nm N tg e=some fi):PI X tg e (tI cl E fi)/\okE e=true:=by
 have gen:∀{e:Expr},(shE rc nm N e).map zbs=some fi->PI X tg e (tI cl E fi)/\okE e=true:=fun {e} h=>by
  cases h1:shE rc nm N e with
  | none=>rw [h1] at h;cases h
  | some f =>
   rw [h1] at h;cases h;obtain ⟨a1,_,a3⟩:=zar hs g h1;exact ⟨zoe g.kk a1,a3⟩
 unfold zgV at h;split at h
 ·rename_i x p args pos;split at h
  ·rename_i hx;subst hx;split at h
   ·rename_i hb;rw [yab] at hb;obtain ⟨g1,_,_⟩:=g.glob hb.1;have m:=g.gok.blt _ hb.2;split at h
    ·rename_i a
     cases h1:shE rc nm N a with
     | none=>rw [h1] at h;cases h
     | some f =>
      rw [h1] at h;cases h;obtain ⟨a1,_,a3⟩:=zar hs g h1;exact ⟨zlU g1 m (zbS a1 zdY (zaP (zad a3))) (zaP (zad a3)),rfl⟩
    ·rename_i a b
     cases h1:shE rc nm N a with
     | none=>rw [h1] at h;cases h
     | some f =>
      rw [h1] at h
      cases h2:shE rc nm N b with
      | none=>rw [h2] at h;cases h
      | some f2 =>
       rw [h2] at h;cases h;obtain ⟨a1,_,a3⟩:=zar hs g h1;obtain ⟨b1,_,b3⟩:=zar hs g h2;have s1:=zaP (es:=[b]) (env:=X.env) (zad a3);have s2:=zaP (es:=[]) (env:=X.env) (zad b3);exact ⟨zlT g1 m (zbS a1 (zbS b1 zdY s2) s1) (by rw [s1,s2];rfl) s2,rfl⟩
    ·cases h
   ·cases h
  ·exact gen h
 ·exact gen h
def zrd(hs:zaE cl G k rc)(g:Gx cl G k X nm N E){x:Str}{args:List Expr}{p pos:Pos}{o:Bool}{f:Fe}(h:spG G rc nm N x args=some (o,f)):(o=true->PE X (.Call (.Name x p) args [] pos) (tN cl E f))/\PE X (.Call (.Name x p) args [] pos) (tE cl E f):=by
 unfold spG at h
 cases hc:spA args with
 | none=>rw [hc] at h;cases h
 | some c =>
 rw [hc] at h;obtain rfl:=zkW hc;obtain ⟨y,a,p2,pos2⟩:=c;dsimp only [Option.bind] at h ⊢;clear hc;split at h
 ·rename_i hb;simp only [yab,yaV] at hb;obtain ⟨⟨⟨⟨⟨rfl,rfl⟩,b1⟩,b2⟩,b3⟩,b4⟩:=hb;obtain ⟨g1,_,_⟩:=g.glob b1;obtain ⟨g2,_,_⟩:=g.glob b3
  cases h1:shE rc nm N a with
  | none=>rw [h1] at h;cases h
  | some fa =>
   rw [h1] at h;cases h;obtain ⟨a1,_,a3⟩:=zar hs g h1;have n:=zl0 (p:=p) (p2:=p2) (pos:=pos) (pos2:=pos2) g.calm g.kk g1 (g.gok.blt _ b2) g2 (g.gok.blt _ b4) a1 (zaP (zad a3));exact ⟨fun _=>n,zbP n⟩
 ·cases h
noncomputable def zsb(G:Genv)(rc:Rec)(nm:Names)(N:List Str)(o:Expr)(m:Str)(ap cp:Pos)(args:List Expr)(kws:List Keyword):Option (Bool×Fe):=(spA [o]).bind fun c=>match args,kws with
 | [a,b],[]=>if decide (c.1 = "dict")&&decide (m = "get")&&(ap.endLine == cp.line)&&zbF nm "dict" && G.blt "dict" then (shE rc nm N c.2.1).bind fun f=>(shE rc nm N a).bind fun g=>(shE rc nm N b).bind fun h=>some (false,zr8 f g h) else none
 | _,_=>none
noncomputable def nm1:Expr->Option (Str×Pos) | .Name x p=>some (x,p) | _=>none
def zgi{e:Expr}{x:Str×Pos}(h:nm1 e=some x):e=.Name x.1 x.2:=by cases e<;>first | (cases h;done) | (cases h;rfl)
noncomputable def dn4:Expr->Option (Expr×Expr×Expr×Expr×Pos) | .Dict [some a,some b] [c,d] p=>some (a,b,c,d,p) | _=>none
def zpR{e:Expr}{x:Expr×Expr×Expr×Expr×Pos}(h:dn4 e=some x):e=.Dict [some x.1,some x.2.1] [x.2.2.1,x.2.2.2.1] x.2.2.2.2:=by
 unfold dn4 at h;split at h
 ·cases h;rfl
 ·cases h
noncomputable def dnG(rc:Rec)(nm:Names)(N:List Str)(o:Expr)(m:Str)(ap cp:Pos)(args:List Expr)(kws:List Keyword):Option (Bool×Fe):=(dn4 o).bind fun t=>match args,kws with
 | [a,b],[]=>if decide (m = "get")&&(ap.endLine == cp.line) then (nm1 t.1).bind fun x1=>(nm1 t.2.1).bind fun x2=>(nm1 t.2.2.1).bind fun y1=>(nm1 t.2.2.2.1).bind fun y2=>(zbd nm N x1.1).bind fun i1=>(zbd nm N y1.1).bind fun j1=>(zbd nm N x2.1).bind fun i2=>(zbd nm N y2.1).bind fun j2=>(shE rc nm N a).bind fun f=>(shE rc nm N b).bind fun h=>some (false,znC i1 j1 i2 j2 f h) else none
 | _,_=>none
noncomputable def dpG(G:Genv)(rc:Rec)(nm:Names)(N:List Str)(o:Expr)(m:Str)(ap cp:Pos)(args:List Expr)(kws:List Keyword):Option (Bool×Fe):=match zsb G rc nm N o m ap cp args kws with | some p=>some p | none=>dnG rc nm N o m ap cp args kws
def zsc(hs:zaE cl G k rc)(g:Gx cl G k X nm N E){o:Expr}{m:Str}{ap cp:Pos}{args:List Expr}{kws:List Keyword}{ob:Bool}{f:Fe}(h:dnG rc nm N o m ap cp args kws=some (ob,f)):ob=false/\PE X (.Call (.Attribute o m ap) args kws cp) (tE cl E f):=by
 unfold dnG at h;obtain ⟨t,e0,hz⟩:=obs h;clear h;rw [zpR e0];split at hz
 ·split at hz
  ·rename_i hb;rw [yab,yaV] at hb;obtain ⟨rfl,hln⟩:=hb;obtain ⟨x1,n1,h⟩:=obs hz;obtain ⟨x2,n2,h⟩:=obs h;obtain ⟨y1,n3,h⟩:=obs h;obtain ⟨y2,n4,h⟩:=obs h;obtain ⟨i1,s1,h⟩:=obs h;obtain ⟨j1,s2,h⟩:=obs h;obtain ⟨i2,s3,h⟩:=obs h;obtain ⟨j2,s4,h⟩:=obs h;obtain ⟨f2,h2,h⟩:=obs h;obtain ⟨f3,h3,h⟩:=obs h;cases h;rw [zgi n1,zgi n2,zgi n3,zgi n4];obtain ⟨c1,_,c3⟩:=zar hs g h2;obtain ⟨d1,_,d3⟩:=zar hs g h3
   have v:∀{x:Str} {i:Nat} {p:Pos},zbd nm N x=some i->PE X (.Name x p) (znv i):=fun e=>by
    obtain ⟨q1,q2,q3,q4⟩:=g.slot e;exact zcK q1 q2 q3 q4
   exact ⟨rfl,zor (by have:=g.units;omega) (v s1) (v s2) (v s3) (v s4) c1 d1 ⟨rfl,zgo (by simp [zad c3,zad d3]) (by simp),hln,by rw [zaP (zad c3),zaP (zad d3)];rfl⟩⟩
  ·cases hz
 ·cases hz
def zpP(hs:zaE cl G k rc)(g:Gx cl G k X nm N E){o:Expr}{m:Str}{ap cp:Pos}{args:List Expr}{kws:List Keyword}{ob:Bool}{f:Fe}(h:zsb G rc nm N o m ap cp args kws=some (ob,f)):ob=false/\PE X (.Call (.Attribute o m ap) args kws cp) (tE cl E f):=by
 unfold zsb at h
 cases hc:spA [o] with
 | none=>rw [hc] at h;cases h
 | some c =>
 rw [hc] at h;have e0:=zkW hc;obtain ⟨y,a,p2,pos2⟩:=c;obtain rfl:o=_:=(List.cons.inj e0).1;dsimp only [Option.bind] at h ⊢;clear hc e0;split at h
 ·rename_i ea eb;split at h
  ·rename_i hb;simp only [yab,yaV] at hb;obtain ⟨⟨⟨⟨rfl,rfl⟩,hln⟩,b1⟩,b2⟩:=hb;obtain ⟨g1,_,_⟩:=g.glob b1
   cases h1:shE rc nm N a with
   | none=>rw [h1] at h;cases h
   | some f1 =>
    rw [h1] at h
    cases h2:shE rc nm N ea with
    | none=>dsimp only at h;rw [h2] at h;cases h
    | some f2 =>
     dsimp only at h;rw [h2] at h
     cases h3:shE rc nm N eb with
     | none=>dsimp only at h;rw [h3] at h;cases h
     | some f3 =>
      dsimp only at h;rw [h3] at h;cases h;obtain ⟨a1,_,a3⟩:=zar hs g h1;obtain ⟨c1,_,c3⟩:=zar hs g h2;obtain ⟨d1,_,d3⟩:=zar hs g h3;exact ⟨rfl,zoq g.calm g1 (g.gok.blt _ b2) a1 c1 d1 (zaP (zad a3)) ⟨rfl,zgo (by simp [zad c3,zad d3]) (by simp),hln,by rw [zaP (zad c3),zaP (zad d3)];rfl⟩⟩
  ·cases h
 ·cases h
def zsa(hs:zaE cl G k rc)(g:Gx cl G k X nm N E){o:Expr}{m:Str}{ap cp:Pos}{args:List Expr}{kws:List Keyword}{ob:Bool}{f:Fe}(h:dpG G rc nm N o m ap cp args kws=some (ob,f)):ob=false/\PE X (.Call (.Attribute o m ap) args kws cp) (tE cl E f):=by
 unfold dpG at h;split at h
 ·rename_i e;cases h;exact zpP hs g e
 ·exact zsc hs g h
noncomputable def l2F:List Expr->Option (Expr×Expr×Pos) | [.List [a,b] p]=>some (a,b,p) | _=>none
def zps{args:List Expr}{x:Expr×Expr×Pos}(h:l2F args=some x):args=[.List [x.1,x.2.1] x.2.2]:=by
 unfold l2F at h;split at h
 ·cases h;rfl
 ·cases h
noncomputable def srG(G:Genv)(rc:Rec)(nm:Names)(N:List Str)(x:Str)(args:List Expr):Option (Bool×Fe):=(l2F args).bind fun c=>if decide (x = "sorted")&&zbF nm "sorted" && G.blt "sorted" then (shE rc nm N c.1).bind fun f=>(shE rc nm N c.2.1).bind fun h=>some (true,znB f h) else none
def zrc(hs:zaE cl G k rc)(g:Gx cl G k X nm N E){x:Str}{args:List Expr}{p pos:Pos}{o:Bool}{f:Fe}(h:srG G rc nm N x args=some (o,f)):(o=true->PE X (.Call (.Name x p) args [] pos) (tN cl E f))/\PE X (.Call (.Name x p) args [] pos) (tE cl E f):=by
 unfold srG at h;obtain ⟨c,e0,hz⟩:=obs h;clear h;rw [zps e0];split at hz
 ·rename_i hb;simp only [yab,yaV] at hb;obtain ⟨⟨rfl,b1⟩,b2⟩:=hb;obtain ⟨g1,_,_⟩:=g.glob b1;obtain ⟨f1,h1,h⟩:=obs hz;obtain ⟨f2,h2,h⟩:=obs h;cases h;obtain ⟨a1,_,a3⟩:=zar hs g h1;obtain ⟨d1,_,d3⟩:=zar hs g h2;have s1:=zaP (es:=[c.2.1]) (env:=X.env) (zad a3);have s2:=zaP (es:=[]) (env:=X.env) (zad d3);have n:=zoj (p:=p) (lp:=c.2.2) (pos:=pos) g.calm g1 (g.gok.blt _ b2) (zbS a1 (zbS d1 zdY s2) s1);exact ⟨fun _=>n,zbP n⟩
 ·cases hz
end
section
variable{cl:Cf}{G:Genv}{k:Nat}{rc:Rec}{X:Cx}{nm:Names}{N:List Str}{E:St->XK}
noncomputable def zkZ:Expr->Bool | .Name _ _=>true | .Call (.Name _ _) (_::_) _ _=>true | .Attribute (.Name _ _) _ _=>true | _=>false
noncomputable def zmD(G:Genv)(rc:Rec)(nm:Names)(N:List Str)(o:Expr)(m:Str)(ap cp:Pos)(args:List Expr)(kws:List Keyword):Option (Bool×Fe) :=
 if kws.isEmpty&&zkZ o&&(ap.endLine == cp.line)&&decide (args.length<30) then (G.ob.mt m).bind fun c=>if args.length+1=c.2.ar then (shE rc nm N o).bind fun fo=>(shL rc nm N args).bind fun fs=>some (c.2.own,zff c.1 m c.2.run fo fs) else none else none
noncomputable def mkG(G:Genv)(rc:Rec)(nm:Names)(N:List Str)(x:Str)(args:List Expr):Option (Bool×Fe) :=
 if zbF nm x&&!args.isEmpty then (G.ob.mks x).bind fun c=>(shL rc nm N args).bind fun fs =>
  if args.length+1=c.2.ar then some (false,eMk x [] c.2.run fs) else if args.length+c.1.length+1=c.2.ar then some (false,eMk x c.1 c.2.run fs) else none
 else none
noncomputable def zet:Expr->Bool | .Name _ _=>true | _=>false
noncomputable def zr4(G:Genv)(rc:Rec)(nm:Names)(N:List Str)(o:Expr)(f:Str):Option (Bool×Fe):=if zet o&&!G.ob.df f&&G.ob.fk G.ob.cur f then (shE rc nm N o).map fun fo=>(false,zm8 G.ob.cur f fo) else none
noncomputable def zsi:Expr->Option (Expr×Str×Pos) | .Attribute o m p=>some (o,m,p) | _=>none
def zjb{e:Expr}{x:Expr×Str×Pos}(h:zsi e=some x):e=.Attribute x.1 x.2.1 x.2.2:=by cases e<;>first | (cases h;done) | (cases h;rfl)
noncomputable def nmF:Expr->Option (Str×Pos) | .Name x p=>some (x,p) | _=>none
def zgh{e:Expr}{x:Str×Pos}(h:nmF e=some x):e=.Name x.1 x.2:=by cases e<;>first | (cases h;done) | (cases h;rfl)
noncomputable def zlj:List CmpOp->Bool | [.NotIn]=>true | _=>false
noncomputable def ztq:List Expr->Option Expr | [a]=>some a | _=>none
noncomputable def zrB(G:Genv)(rc:Rec)(nm:Names)(N:List Str)(a:Expr)(ops:List CmpOp)(bs:List Expr):Option (Bool×Fe) :=
 if zlj ops then (ztq bs).bind fun b=>(zsi b).bind fun t=>if zet t.1&&G.ob.df t.2.1&&G.ob.fk G.ob.cur t.2.1 then (shE rc nm N a).bind fun fa=>(shE rc nm N t.1).bind fun fo=>some (false,zm7 G.ob.cur t.2.1 fa fo) else none else none
noncomputable def zr0(G:Genv)(rc:Rec)(nm:Names)(N:List Str)(a i:Expr):Option (Bool×Fe) :=
 (zsi a).bind fun t=>if zet t.1&&G.ob.df t.2.1&&G.ob.fk G.ob.cur t.2.1 then (nmF i).bind fun x=>(zbd nm N x.1).bind fun j=>(shE rc nm N t.1).bind fun fo=>some (false,ziU G.ob.cur t.2.1 fo j) else none
def Gx.same(g:Gx cl G k X nm N E):Same' cl X:=⟨g.kk,g.pp,g.ww⟩
def Gx.u16(g:Gx cl G k X nm N E):X.A.units+16<cLine:=Nat.lt_of_le_of_lt (Nat.add_le_add_left (by decide) _) g.units
def zap{α β:Type}{o:Option α}{f:α->Option β}{b:β}(h:o.bind f=some b):∃a,o=some a/\f a=some b:=by
 cases o with
 | none=>cases h
 | some a=>exact ⟨a,rfl,h⟩
def zpK(hs:zaE cl G k rc)(g:Gx cl G k X nm N E){o:Expr}{f:Str}{pos:Pos}{w:Bool}{fe:Fe}(h:zr4 G rc nm N o f=some (w,fe)):w=false/\PE X (.Attribute o f pos) (tE cl E fe):=by
 unfold zr4 at h;split at h
 ·rename_i hc;rw [yab,yab] at hc
  cases h1:shE rc nm N o with
  | none=>rw [h1] at h;cases h
  | some fo =>
   rw [h1] at h;cases h;refine ⟨rfl,zop (g.gok.fk _ _ hc.2) g.kk (zar hs g h1).1 ?_⟩
   cases o<;>first | rfl | cases hc.1.1
 ·cases h
def zph(hs:zaE cl G k rc)(g:Gx cl G k X nm N E){a:Expr}{ops:List CmpOp}{bs:List Expr}{pos:Pos}{w:Bool}{fe:Fe}(h:zrB G rc nm N a ops bs=some (w,fe)):w=false/\PE X (.Compare a ops bs pos) (tE cl E fe)/\PT X (.Compare a ops bs pos) (tTr cl E fe):=by
 unfold zrB at h;split at h
 ·rename_i hn
  have eo:ops=[.NotIn]:=by
   unfold zlj at hn;split at hn
   ·rfl
   ·cases hn
  subst eo;obtain ⟨b,h1,hz⟩:=zap h;obtain ⟨t,h2,hy⟩:=zap hz
  have eb:bs=[b]:=by
   unfold ztq at h1;split at h1
   ·cases h1;rfl
   ·cases h1
  have e2:=zjb h2;clear h hz h1 h2;subst eb;subst e2;obtain ⟨o,f,ap⟩:=t;dsimp only at hy ⊢;split at hy
  ·rename_i hc;rw [yab,yab] at hc;obtain ⟨fa,h3,hy⟩:=zap hy;obtain ⟨fo,h4,hy⟩:=zap hy;cases hy
   have hb:attributeBase o f X.env (eval o X.env)=eval o X.env:=by cases o<;>first | rfl | cases hc.1.1
   exact ⟨rfl,zom g.u16 g.same (g.gok.fk _ _ hc.2) (zar hs g h3).1 (zar hs g h4).1 hb rfl,zn2 g.u16 g.same (g.gok.fk _ _ hc.2) (zar hs g h3).1 (zar hs g h4).1 hb rfl⟩
  ·cases hy
 ·cases h
def zpI(hs:zaE cl G k rc)(g:Gx cl G k X nm N E){a i:Expr}{pos:Pos}{w:Bool}{fe:Fe}(h:zr0 G rc nm N a i=some (w,fe)):w=false/\PE X (.Subscript a i pos) (tE cl E fe):=by
 unfold zr0 at h;obtain ⟨t,h2,hz⟩:=zap h;have e2:=zjb h2;clear h h2;subst e2;obtain ⟨o,f,ap⟩:=t;dsimp only at hz ⊢;split at hz
 ·rename_i hc;rw [yab,yab] at hc;obtain ⟨x,h3,hz⟩:=zap hz;obtain ⟨j,h4,hz⟩:=zap hz;obtain ⟨fo,h5,hz⟩:=zap hz;cases hz;have e3:=zgh h3;clear h3;subst e3;obtain ⟨s1,s2,s3,s4⟩:=g.slot h4;refine ⟨rfl,zl3 s1 s2 s3 s4 g.u16 g.same (g.gok.fk _ _ hc.2) (zar hs g h5).1 ?_ (fun _ _=>rfl)⟩
  cases o<;>first | rfl | cases hc.1.1
 ·cases hz
def zv1{pos:Pos}{env:PySem.Env}{args:List Expr}(hp:args.all zbe=true)(hl:args.length<30):methodCallForm (args.length+0) (backTo pos (starEach args env)) (backToKw pos (keywordEach [] env))=true:=by
 have h:=za8 (pos:=pos) (env:=env) hp;unfold methodCallForm
 have h1:(backTo pos (starEach args env)).all (!·.1)=true:=by
  rw [List.all_eq_not_any_not];simpa using h
 rw [h1];show (true&&true&&decide (args.length+0+0<30))=true;rw [yaS (by omega)];rfl
def zik{o:Expr}{m:Str}{ap pos:Pos}{env:PySem.Env}{args:List Expr}(hb:attributeBase o m env (eval o env)=eval o env)(hf:methodCallForm (args.length+0) (backTo pos (starEach args env)) (backToKw pos (keywordEach [] env))=true)(hp:(ap.endLine == pos.line)=true) :
  eval (.Call (.Attribute o m ap) args [] pos) env=(do
   let ov ← eval o env
   standAt ap.atName
   let (f,first) ← holding [ov] (getMethod ov m (do return (← importBound o env).getD true))
   callWith pos f first (backTo pos (starEach args env)) (backToKw pos (keywordEach [] env))):=by
 show (do
  let ov ← attributeBase o m env (eval o env)
  standAt ap.atName
  methodCall o m ap pos env ov (args.length+0) (backTo pos (starEach args env)) (backToKw pos (keywordEach [] env)))=_
 rw [hb]
 have e:∀ov,methodCall o m ap pos env ov (args.length+0) (backTo pos (starEach args env)) (backToKw pos (keywordEach [] env))=(do
   let (f,first) ← holding [ov] (getMethod ov m (do return (← importBound o env).getD true))
   callWith pos f first (backTo pos (starEach args env)) (backToKw pos (keywordEach [] env))):=fun ov=>by
  unfold methodCall calleeOf methodCallPos;rw [hf,hp];rfl
 simp only [e]
def zmC(hs:zaE cl G k rc)(g:Gx cl G k X nm N E){o:Expr}{m:Str}{args:List Expr}{kws:List Keyword}{ap pos:Pos}{w:Bool}{fe:Fe}(h:zmD G rc nm N o m ap pos args kws=some (w,fe)):(w=true->PE X (.Call (.Attribute o m ap) args kws pos) (tN cl E fe))/\PE X (.Call (.Attribute o m ap) args kws pos) (tE cl E fe):=by
 unfold zmD at h;split at h
 ·rename_i hc;simp only [yab,yaV] at hc;obtain ⟨⟨⟨z1,z2⟩,z3⟩,z4⟩:=hc;obtain rfl:=ybx.mp z1;obtain ⟨⟨c,fi⟩,h1,h⟩:=zap h;dsimp only at h;split at h
  ·rename_i hl;obtain ⟨fo,h2,h⟩:=zap h;obtain ⟨fs,h3,h⟩:=zap h;cases h;obtain ⟨f,fd,ps,c1,c2,c3,c4⟩:=g.gok.mt m c fi h1;obtain ⟨a1,a2,a3⟩:=zdr hs g h3
   have hlen:fs.length+1=fi.ar:=by rw [a3];exact hl
   have hb:attributeBase o m X.env (eval o X.env)=eval o X.env:=by
    unfold zkZ at z2
    split at z2<;>first | rfl | cases z2
   have ht:=zik (ap:=ap) hb (zv1 (pos:=pos) a2 z4) z3
   have main:PE X (.Call (.Attribute o m ap) args [] pos) (zeK (cl c) m (zgG cl fi.ar fi.own fi.run) [] E (tE cl E fo) (tAs cl E fs)):=by
    cases args with
    | nil =>
     cases h3;refine PE.imp (zh7 (zar hs g h2).1 c1 c2 c4 g.room c3 .nil g.pass ht) ?_;rintro σ H Q ⟨B,w,ρ,S,rfl,R,q⟩;refine ⟨B,w,ρ,S,rfl,R,?_⟩
     cases hfo:fo ρ S with
     | bad=>rwa [hfo] at q
     | exc c S1=>rwa [hfo] at q
     | ok d S1 =>
      rw [hfo] at q;intro v w1 R1 F1 sh;obtain ⟨a,dx,fs,e1,e2,e3,B',w',ρ',S',e4,R',q⟩:=q v w1 R1 F1 sh;refine ⟨a,dx,fs,e1,e2,e3,?_⟩;have:=q [] w' R' (Fut.refl _) .nil;rwa [e4] at this
    | cons e es =>
     rw [ybb,yab] at a2;exact zjP (zar hs g h2).1 c1 c2 c4 g.room c3 .nil g.pass a1 (zaP a2.1) (za8 a2.2) ht
   cases ho:fi.own with
   | false =>
    rw [ho] at main;exact ⟨(fun z=>by cases z),PE.imp main fun _ _ _ q=>zpo q hlen⟩
   | true =>
    rw [ho] at main;have n:=PE.imp main fun _ _ _ q=>zpn q hlen
    exact ⟨fun _=>n,zbP n⟩
  ·cases h
 ·cases h
def zrC(hs:zaE cl G k rc)(g:Gx cl G k X nm N E){x:Str}{args:List Expr}{p pos:Pos}{w:Bool}{fe:Fe}(h:mkG G rc nm N x args=some (w,fe)):w=false/\PE X (.Call (.Name x p) args [] pos) (tE cl E fe):=by
 unfold mkG at h;split at h
 ·rename_i hc;rw [yab] at hc;obtain ⟨⟨dds,fi⟩,h1,h⟩:=zap h;obtain ⟨fs,h2,h⟩:=zap h;dsimp only at h;obtain ⟨f,fd,ps,dvs,ds,k',hk,mC,M,B0,BD,vd,sd,F⟩:=g.gok.mks x dds fi h1;obtain ⟨a1,a2,a3⟩:=zdr hs g h2;obtain ⟨g1,g2,g3⟩:=g.glob hc.1
  cases args with
  | nil=>cases hc.2
  | cons e es =>
   rw [ybb,yab] at a2;have hr:Room (k'+1) X.A:=g.room.mono hk;split at h
   ·rename_i hl;cases h;exact ⟨rfl,PE.imp (zga M F hr g1 mC B0 .nil g.pass a1 g2 (zaP a2.1) (za8 a2.2)) fun _ _ _ q=>ztt (dds:=[]) (fun _=>.nil) q (by rw [a3];exact hl)⟩
   ·split at h
    ·rename_i hl;cases h;exact ⟨rfl,PE.imp (zga M F hr g1 mC BD vd g.pass a1 g2 (zaP a2.1) (za8 a2.2)) fun _ _ _ q=>ztt sd q (by rw [a3];exact hl)⟩
    ·cases h
 ·cases h
end
end S2
namespace S2
open PySem PySem.Spec PyProof.Rows L2
noncomputable def zpm:Expr->Option Str | .Name x _=>some x | _=>none
noncomputable def zrV(df:Bool):Option NameKind->Bool | some .local=>true | some .cell=>df | _=>false
noncomputable def tgI(df:Bool)(nm:Names)(N:List Str)(n:Nat)(x:Str):Option Nat:=if zrV df (nm.lookup x) then (idx N x).bind fun i=>if i<n then some i else none else none
noncomputable def znu(df:Bool)(nm:Names)(N:List Str)(n:Nat):List Expr->Option (List Nat)
 | []=>some []
 | .Name x _::es=>(tgI df nm N n x).bind fun i=>(znu df nm N n es).bind fun is=>some (i::is)
 | _::_=>none
noncomputable def tgG(df:Bool)(nm:Names)(N:List Str)(n:Nat):Expr->Option Tg
 | .Name x _=>(tgI df nm N n x).map .one
 | .Tuple es _ _=>(znu df nm N n es).map .tup
 | _=>none
structure Sto'(X:Cx)(nm:Names)(df:Bool):Prop where
 fn:df=true->∀x,nm.lookup x=some .cell->X.fn x=true
section
variable{cl:Cf}{G:Genv}{k:Nat}{X:Cx}{nm:Names}{N:List Str}{E:St->XK}{df:Bool}{n:Nat}
def zdq(g:Gx cl G k X nm N E)(sd:Sto' X nm df){x:Str}{i:Nat}(h:tgI df nm N n x=some i):i<n/\X.N.Nodup/\X.N[i]?=some x/\Loc X.env.scope x/\(X.fn x=true\/X.env.scope.names.lookup x=some .local):=by
 unfold tgI at h;split at h
 ·rename_i hl
  cases hi:idx N x with
  | none=>rw [hi] at h;cases h
  | some j =>
   rw [hi] at h;dsimp only [Option.bind] at h;split at h
   ·rename_i hn;cases h;refine ⟨hn,by rw [g.eN];exact g.nd,by rw [g.eN];exact zew hi,?_,?_⟩
    ·cases hk:nm.lookup x with
     | none=>rw [hk] at hl;cases hl
     | some kd =>
      obtain ⟨kd',e,z⟩:=g.vis x kd hk;rw [hk] at hl;unfold L2.Loc;rw [e]
      rcases z with rfl | ⟨rfl,_⟩
      ·cases kd'<;>first | exact .inl rfl | exact .inr rfl | cases hl
      ·cases hl
    ·cases hk:nm.lookup x with
     | none=>rw [hk] at hl;cases hl
     | some kd =>
      rw [hk] at hl
      cases kd<;>first | exact .inr (g.fnx x hk) | exact .inl (sd.fn hl x hk) | cases hl
   ·cases h
 ·cases h
theorem zhl(g:Gx cl G k X nm N E)(sd:Sto' X nm df):∀{es:List Expr} {is:List Nat},znu df nm N n es=some is->PGs X es (tGs cl n is)/\(assignEach es X.env).length=is.length/\(assignEach es X.env).findIdx? (·.1)=none
 | [],is,h=>by cases h;exact ⟨zlX,rfl,rfl⟩
 | e::es,is,h=>by
  cases e with
  | Name x pos =>
   unfold znu at h
   cases h1:tgI df nm N n x with
   | none=>rw [h1] at h;cases h
   | some i =>
    rw [h1] at h
    cases h2:znu df nm N n es with
    | none=>rw [h2] at h;cases h
    | some is' =>
     rw [h2] at h;cases h;obtain ⟨a1,a2,a3,a4,a5⟩:=zdq g sd h1;obtain ⟨b1,b2,b3⟩:=zhl g sd h2;refine ⟨zjz a1 a2 a3 a4 a5 b1,?_,?_⟩
     ·show (assignEach es X.env).length+1=_;rw [b2];rfl
     ·show ((false,assign (.Name x pos) X.env)::assignEach es X.env).findIdx? (·.1)=none;rw [List.findIdx?_cons];simp [b3]
  | _=>cases h
def zlC(g:Gx cl G k X nm N E)(sd:Sto' X nm df){tg:Expr}{t:Tg}(h:tgG df nm N n tg=some t):PG X tg (tG cl n t):=by
 unfold tgG at h;split at h
 ·rename_i x pos
  cases h1:tgI df nm N n x with
  | none=>rw [h1] at h;cases h
  | some i =>
   rw [h1] at h;cases h;obtain ⟨a1,a2,a3,a4,a5⟩:=zdq g sd h1;exact zog a1 a2 a3 a4 a5
 ·rename_i es kk pos
  cases h1:znu df nm N n es with
  | none=>rw [h1] at h;cases h
  | some is =>
   rw [h1] at h;cases h;obtain ⟨b1,b2,b3⟩:=zhl g sd h1;exact zof g.calm b1 b2 b3
 ·cases h
end
noncomputable def zaC:Expr->List Str
 | .Name x _=>[x]
 | .Tuple es _ _=>es.filterMap zpm
 | _=>[]
noncomputable def zaH(names:Names)(N:List Str):List (Str×Nat):=names.filterMap fun p=>if p.2=.free then (idx N p.1).map fun i=>(p.1,i) else none
noncomputable def zvU:Option NameKind->Bool | some .cell=>true | some .free=>true | _=>false
noncomputable def zi0(nm:Names)(scope:Scope)(xs:List Str)(caps:List (Str×Nat)):Bool :=
 decide (scope.kind=.function)&&decide ((scope.names.map (·.1)).Nodup)&&scope.names.all (fun y=>!decide (y.2=.local)||decide (scope.names.lookup y.1=some .local))
 && scope.names.all (fun y=>!decide (y.2=.free)||zvU (nm.lookup y.1))&&caps.all (fun p=>scope.names.all fun z=>!decide (z.1=p.1)||decide (z.2=.free))&&decide ((xs++caps.map (·.1)).Nodup)
noncomputable def zkF(rc:Rec)(nm:Names)(N:List Str):List Expr->Option Fe
 | []=>some zjo
 | [c]=>if zbf c then shE rc nm N c else none
 | _=>none
noncomputable def zg4(G:Genv)(rc:Rec)(nm:Names)(N:List Str)(elt:Expr)(g:Comprehension)(scope:Scope):Option Fe :=
 if decide (g.is_async=0)&&zi0 nm scope (zaC g.target) (zaH scope.names N) then
  (zgV G rc nm N g.target g.iter).bind fun it =>
  (tgG true scope.names (zaC g.target++(zaH scope.names N).map (·.1)) (zaC g.target).length g.target).bind fun t =>
  (zkF rc scope.names (zaC g.target++(zaH scope.names N).map (·.1)) g.ifs).bind fun c =>
  (shE rc scope.names (zaC g.target++(zaH scope.names N).map (·.1)) elt).bind fun el =>
  some (zdO (zaC g.target).length t it c el ((zaH scope.names N).map (·.2)))
 else none
theorem zcq{scope:Scope}{env:PySem.Env}:∀{names:Names} {x:Str} {kd:NameKind},names.lookup x=some kd →
  ∃kd',(names.map fun (n,k)=>if (k == NameKind.free&&env.scope.kind == .function&&env.kindOf n == some .cell) then (n,NameKind.cell) else (n,k)).lookup x=some kd'/\(kd'=kd\/(kd=.free/\kd'=.cell))
 | [],_,_,h=>by cases h
 | (n,k0)::r,x,kd,h=>by
  rw [yau] at h;rw [yay];dsimp only
  by_cases hc:(k0 == NameKind.free&&env.scope.kind == .function&&env.kindOf n == some .cell)=true
  ·rw [if_pos hc,yau]
   cases hx:x == n with
   | true =>
    rw [hx] at h;cases h;simp only [yab,yb9] at hc;exact ⟨_,rfl,.inr ⟨hc.1.1,rfl⟩⟩
   | false=>rw [hx] at h;exact zcq (scope:=scope) h
  ·rw [if_neg hc,yau]
   cases hx:x == n with
   | true=>rw [hx] at h;cases h;exact ⟨_,rfl,.inl rfl⟩
   | false=>rw [hx] at h;exact zcq (scope:=scope) h
section
variable{cl:Cf}{G:Genv}{k:Nat}{rc:Rec}{X:Cx}{nm:Names}{N:List Str}{E:St->XK}
def zg3(g:Gx cl G k X nm N E){scope:Scope}{xs:List Str}(h:zi0 nm scope xs (zaH scope.names N)=true):CompScopeG X.env.scope scope X.N xs (zaH scope.names N)/\(xs++(zaH scope.names N).map (·.1)).Nodup:=by
 unfold zi0 at h;simp only [yab,ybS,yaV,yb2,ybr,ybu] at h;obtain ⟨⟨⟨⟨⟨h1,h2⟩,h3⟩,h4⟩,h5⟩,h6⟩:=h
 have fr:∀y∈scope.names,y.2=.free->X.env.scope.names.lookup y.1=some .cell\/X.env.scope.names.lookup y.1=some .free:=fun y hy hf=>by
  rcases h4 y hy with z | z
  ·exact absurd hf z
  ·cases hk:nm.lookup y.1 with
   | none=>rw [hk] at z;cases z
   | some kd =>
    obtain ⟨kd',e,zz⟩:=g.vis y.1 kd hk;rw [hk] at z;rw [e]
    rcases zz with rfl | ⟨_,rfl⟩
    ·cases kd'<;>first | exact .inl rfl | exact .inr rfl | cases z
    ·exact .inl rfl
 refine ⟨⟨h2,h1,fun y hy hl=>(h3 y hy).elim (fun z=>absurd hl z) fun z=>z,fr,fun p hp=>?_,fun p hp z hz e=>(h5 p hp z hz).elim (fun w=>absurd e w) fun w=>w⟩,h6⟩;unfold zaH at hp;obtain ⟨q,hq,e⟩:=ybA.mp hp;split at e
 ·rename_i hf
  cases hi:idx N q.1 with
  | none=>rw [hi] at e;cases e
  | some i =>
   rw [hi] at e;have e':(q.1,i)=p:=Option.some.inj e;subst e';refine ⟨by rw [g.eN];exact zew hi,by rw [<-hf];exact hq,?_⟩
   rcases fr q hq hf with z | z<;>rw [z]<;>exact fun w=>by cases w
 ·cases e
def zev(g:Gx cl G k X nm N E){scope:Scope}{xs:List Str}(hn:(xs++(zaH scope.names N).map (·.1)).Nodup)(cl':List (Str×Addr))(C:Addr)(s:Shared)(H:Hp)(fp:List Addr) :
  Gx cl G k (zaD X xs (zaH scope.names N) scope cl' C s H fp) scope.names (xs++(zaH scope.names N).map (·.1)) noE where
 gok:=g.gok
 room:=g.room
 calm:=g.calm
 pass:=fun pins σ H s e s' I q=>by
  obtain ⟨a,cls,a0,H',B,_,_,_,_,_,_,_,_,_,z⟩:=q;exact z.elim
 eN:=rfl
 kk:=g.kk
 pp:=g.pp
 ww:=g.ww
 nd:=hn
 vis:=fun x kd h=>zcq (scope:=scope) h
 fnx:=fun x h=>lookup_relabel_local h
def znf(hs:zaE cl G k rc)(g:Gx cl G k X nm N noE){ifs:List Expr}{c:Fe}(h:zkF rc nm N ifs=some c):PIf X ifs (tTr cl noE c):=by
 unfold zkF at h;split at h
 ·cases h;intro pins s σ H Q I q;obtain ⟨B,w,ρ,S,rfl,R,q⟩:=q;exact zmk pins s σ w.H Q I (q w R (Fut.refl _))
 ·split at h
  ·rename_i c ht;obtain ⟨_,a2,_⟩:=zar hs g h;exact zmj (a2 ht)
  ·cases h
 ·cases h
def zd9(hs:zaE cl G k rc)(g:Gx cl G k X nm N E){elt:Expr}{gg:Comprehension}{scope:Scope}{f:Fe}(h:zg4 G rc nm N elt gg scope=some f) :
  ∃it t c el,f=zdO (zaC gg.target).length t it c el ((zaH scope.names N).map (·.2))/\gg=⟨gg.target,gg.iter,gg.ifs,0⟩/\CompScopeG X.env.scope scope X.N (zaC gg.target) (zaH scope.names N)/\PI X gg.target gg.iter (tI cl E it)/\okE gg.iter=true ∧
   (∀cl' C s H fp,PG (zaD X (zaC gg.target) (zaH scope.names N) scope cl' C s H fp) gg.target (tG cl (zaC gg.target).length t)) ∧
   (∀cl' C s H fp,PIf (zaD X (zaC gg.target) (zaH scope.names N) scope cl' C s H fp) gg.ifs (tTr cl noE c)) ∧
   ∀cl' C s H fp,PE (zaD X (zaC gg.target) (zaH scope.names N) scope cl' C s H fp) elt (tE cl noE el):=by
 unfold zg4 at h;split at h
 ·rename_i hc;rw [yab] at hc;obtain ⟨S,hn⟩:=zg3 g hc.2
  cases h1:zgV G rc nm N gg.target gg.iter with
  | none=>rw [h1] at h;cases h
  | some it =>
   rw [h1] at h;dsimp only [Option.bind] at h
   cases h2:tgG true scope.names (zaC gg.target++(zaH scope.names N).map (·.1)) (zaC gg.target).length gg.target with
   | none=>rw [h2] at h;cases h
   | some t =>
    rw [h2] at h;dsimp only at h
    cases h3:zkF rc scope.names (zaC gg.target++(zaH scope.names N).map (·.1)) gg.ifs with
    | none=>rw [h3] at h;cases h
    | some c =>
     rw [h3] at h;dsimp only at h
     cases h4:shE rc scope.names (zaC gg.target++(zaH scope.names N).map (·.1)) elt with
     | none=>rw [h4] at h;cases h
     | some el =>
      rw [h4] at h;cases h;obtain ⟨i1,i2⟩:=ziB hs g (tg:=gg.target) h1;refine ⟨it,t,c,el,rfl,?_,S,i1,i2,fun cl' C s H fp=>zlC (zev g hn cl' C s H fp) ⟨fun _ x hx=>yaS hx⟩ h2,fun cl' C s H fp=>znf hs (zev g hn cl' C s H fp) h3,fun cl' C s H fp=>(zar hs (zev g hn cl' C s H fp) h4).1⟩;have:=yap hc.1;cases gg;simp only at this;rw [this]
 ·cases h
def ziY(hs:zaE cl G k rc)(g:Gx cl G k X nm N E){elt:Expr}{gg:Comprehension}{scope:Scope}{f:Fe}{pos:Pos}(h:zg4 G rc nm N elt gg scope=some f):PE X (.ListComp elt [gg] scope pos) (tN cl E f):=by
 obtain ⟨it,t,c,el,rfl,eg,S,i1,i2,i3,i4,i5⟩:=zd9 hs g h;rw [eg];exact PE.imp (zjV g.calm S i1 i3 i4 i5 (zeo i2)) fun _ _ _ q=>zls q
end
noncomputable def zum:Expr->Bool | .Slice _ _ _ _=>false | _=>true
noncomputable def zqm(rc:Rec)(nm:Names)(N:List Str):Option Expr->Option (Option Fe)
 | none=>some none
 | some e=>(opE rc nm N e).map some
noncomputable def zts(m:Str):Option (List D->D->Option D):=if m = "count" then some zcU else if m = "index" then some zfd else none
def ziX:∀(l:List D) (d r:D),zcU l d=some r->∃n,r=.int n:=by
 intro l d r h;unfold zcU at h;split at h
 ·cases h;exact ⟨_,rfl⟩
 ·cases h
def ziK:∀(l:List D) (d r:D),zfd l d=some r->∃n,r=.int n:=by
 intro l d r h;unfold zfd at h;split at h
 ·cases h;exact ⟨_,rfl⟩
 ·cases h
noncomputable def unG(rc:Rec)(nm:Names)(N:List Str)(a:Expr):UnaryOp->Option (Bool×Fe)
 | .Not=>if zbf a then (shE rc nm N a).map fun f=>(false,eUn zfv f) else none
 | .USub=>(opE rc nm N a).map fun f=>(false,eUn znz f)
 | _=>none
noncomputable def zpX(rc:Rec)(nm:Names)(N:List Str)(a:Expr):List CmpOp->List Expr->Option (Bool×Fe)
 | [op],[b]=>(zpY op b).bind fun g=>(opE rc nm N a).bind fun f=>(opE rc nm N b).bind fun h=>some (false,zaj g f h)
 | [op,op'],[b,c]=>(zpY op b).bind fun g=>(zpY op' c).bind fun g'=>(opE rc nm N a).bind fun f=>(opE rc nm N b).bind fun h=>(opE rc nm N c).bind fun k=>some (false,zb2 g g' f h k)
 | _,_=>none
noncomputable def ztj(rc:Rec)(nm:Names)(N:List Str)(a:Expr):Expr->Option (Bool×Fe)
 | .Slice lo hi none _=>(opE rc nm N a).bind fun f=>(zqm rc nm N lo).bind fun l=>(zqm rc nm N hi).bind fun u=>some (false,eSl f l u)
 | i=>if zum i then (opE rc nm N a).bind fun f=>(opE rc nm N i).bind fun h=>some (false,zaj ixD f h) else none
noncomputable def zus(rc:Rec)(nm:Names)(N:List Str)(x m:Str)(ap cp:Pos):List Expr->List Keyword->Option (Bool×Fe)
 | [a],[]=>if ap.endLine == cp.line then (zbd nm N x).bind fun i=>(opE rc nm N a).bind fun f=>(zts m).bind fun g=>some (false,eMt g i f) else none
 | _,_=>none
noncomputable def zlu(G:Genv)(rc:Rec)(nm:Names)(N:List Str)(args:List Expr)(kws:List Keyword)(cp:Pos):Expr->Option (Bool×Fe)
 | .Attribute o m ap=>(match (nmF o).bind fun x=>zus rc nm N x.1 m ap cp args kws with | some p=>some p | none=>(match dpG G rc nm N o m ap cp args kws with | some p=>some p | none=>zmD G rc nm N o m ap cp args kws))
 | .Name x _=>if kws.isEmpty then (match mkG G rc nm N x args with | some p=>some p | none=>(match spG G rc nm N x args with | some p=>some p | none=>(match srG G rc nm N x args with | some p=>some p | none=>znk G rc nm N x args))) else none
 | _=>none
noncomputable def lcG(G:Genv)(rc:Rec)(nm:Names)(N:List Str)(elt:Expr)(scope:Scope):List Comprehension->Option (Bool×Fe)
 | [g]=>(zg4 G rc nm N elt g scope).map fun f=>(true,f)
 | _=>none
noncomputable def zfS(G:Genv)(rc:Rec):Rec:=fun nm N e=>match e with
 | .Constant c _ _=>(zuq c).map fun d=>(false,zao d)
 | .Name x _=>(match zbd nm N x with
  | some i=>some (false,zah i)
  | none=>if zbF nm x then (G.con x).map fun d=>(false,zao d) else none)
 | .Tuple es _ _=>(shL rc nm N es).map fun fs=>(false,zgZ fs)
 | .List es _=>(shL rc nm N es).map fun fs=>(true,zg0 fs)
 | .BinOp a op b _=>if zmU a&&zpD op then (opE rc nm N a).bind fun f=>(opE rc nm N b).bind fun h=>some (true,zaj zgQ f h) else (zsg op).bind fun g=>(opE rc nm N a).bind fun f=>(opE rc nm N b).bind fun h=>some (false,zaj g f h)
 | .UnaryOp op a _=>unG rc nm N a op
 | .BoolOp op es _=>(zg8 rc nm N op es).map fun f=>(false,f)
 | .Compare a ops bs _=>(match zrB G rc nm N a ops bs with | some p=>some p | none=>zpX rc nm N a ops bs)
 | .IfExp c a b _=>if zbf c then (shE rc nm N c).bind fun g=>(shE rc nm N a).bind fun f=>(shE rc nm N b).bind fun h=>some (false,eIf g f h) else none
 | .Subscript a i _=>(match zr0 G rc nm N a i with | some p=>some p | none=>ztj rc nm N a i)
 | .Attribute o f _=>zr4 G rc nm N o f
 | .Call f args kws cp=>zlu G rc nm N args kws cp f
 | .ListComp elt gs scope _=>lcG G rc nm N elt scope gs
 | .Dict [] [] _=>some (true,zm9)
 | _=>none
noncomputable def zsd(G:Genv):Nat->Rec
 | 0=>fun _ _ _=>none
 | n+1=>zfS G (zsd G n)
section
variable{cl:Cf}{G:Genv}{k:Nat}{rc:Rec}
def zko{i:Expr}(h:zum i=true):zeD i:=by
 intro o j
 cases i<;>first | rfl | cases h
def zaa{α β:Type}{o:Option α}{f:α->Option β}{b:β}(h:o.bind f=some b):∃a,o=some a/\f a=some b:=by
 cases o with
 | none=>cases h
 | some a=>exact ⟨a,rfl,h⟩
def map_some{α β:Type}{o:Option α}{f:α->β}{b:β}(h:o.map f=some b):∃a,o=some a/\f a=b:=by
 cases o with
 | none=>cases h
 | some a=>exact ⟨a,rfl,Option.some.inj h⟩
def zgc{X:Cx}{nm:Names}{N:List Str}{E:St->XK}(hs:zaE cl G k rc)(g:Gx cl G k X nm N E){o:Option Expr}{f:Option Fe}(h:zqm rc nm N o=some f):PO X o (zqi cl E f):=by
 unfold zqm at h;split at h
 ·cases h;exact zmg
 ·obtain ⟨a,h1,rfl⟩:=map_some h;exact zmf (zbE hs g h1).1
def zkC(hs:zaE cl G k rc):zaE cl G k (zfS G rc):=by
 intro X nm N E g e o f h;unfold zfS at h;split at h
 ·obtain ⟨d,h1,h2⟩:=map_some h;cases h2;rename_i c kk pos
  have p:PE X (.Constant c kk pos) (tE cl E (zao d)):=by
   cases c<;>simp [zuq] at h1<;>subst h1
   ·exact zhI zoU fun w=>.non
   ·exact zhI zrs fun w=>.bl _
   ·exact zhI zoW fun w=>.int _
   ·exact zhI zoQ fun w=>.str _
  exact ⟨(fun z=>by cases z),p,fun _=>zaF p (fun _=>rfl),rfl⟩
 ·rename_i x pos;split at h
  ·rename_i i hi;cases h;obtain ⟨h1,h2,h3,h4⟩:=g.slot hi;have p:PE X (.Name x pos) (tE cl E (zah i)):=zoh h1 h2 h3 h4;exact ⟨(fun z=>by cases z),p,fun _=>zaF p (fun _=>rfl),rfl⟩
  ·split at h
   ·rename_i hg;obtain ⟨d,h1,h2⟩:=map_some h;cases h2;obtain ⟨g1,g2,g3⟩:=g.glob hg;obtain ⟨v,u,m,r,sh⟩:=g.gok.con x d h1;have p:PE X (.Name x pos) (tE cl E (zao d)):=zhI (zmn g1 m r g2) sh;exact ⟨(fun z=>by cases z),p,fun _=>zaF p (fun _=>rfl),rfl⟩
   ·cases h
 ·obtain ⟨fs,h1,h2⟩:=map_some h;cases h2;rename_i es kk pos;have p:PE X (.Tuple es kk pos) (tE cl E (zgZ fs)):=zoi (zdr hs g h1).1;exact ⟨(fun z=>by cases z),p,fun _=>zaF p (fun _=>rfl),rfl⟩
 ·obtain ⟨fs,h1,h2⟩:=map_some h;cases h2;rename_i es pos;have p:PE X (.List es pos) (tN cl E (zg0 fs)):=zoo (zdr hs g h1).1;exact ⟨fun _=>p,zbP p,fun _=>zaF (zbP p) (fun _=>rfl),rfl⟩
 ·split at h
  ·rename_i a op b pos hm;obtain ⟨fa,h2,h⟩:=zaa h;obtain ⟨fb,h3,h⟩:=zaa h;cases h;rw [yab] at hm
   have ho:op=.Mult:=by cases op<;>first | rfl | cases hm.2
   subst ho;have p:PE X (.BinOp a .Mult b pos) (tN cl E (zaj zgQ fa fb)):=zl1 (zbE hs g h2).1 (zbE hs g h3).1;exact ⟨fun _=>p,zbP p,fun _=>zaF (zbP p) (fun _=>rfl),rfl⟩
  obtain ⟨gg,h1,h⟩:=zaa h;obtain ⟨fa,h2,h⟩:=zaa h;obtain ⟨fb,h3,h⟩:=zaa h;cases h;exact ⟨(fun z=>by cases z),zkY (zlv h1) (zbE hs g h2).1 (zbE hs g h3).1,fun _=>zaF (zkY (zlv h1) (zbE hs g h2).1 (zbE hs g h3).1) (fun _=>rfl),rfl⟩
 ·rename_i op a pos;unfold unG at h;split at h
  ·split at h
   ·rename_i ht;obtain ⟨fa,h1,h2⟩:=map_some h;cases h2;obtain ⟨a1,a2,_⟩:=zar hs g h1;exact ⟨(fun z=>by cases z),zol a1,fun _=>zn1 (a2 ht),rfl⟩
   ·cases h
  ·obtain ⟨fa,h1,h2⟩:=map_some h;cases h2;have p:PE X (.UnaryOp .USub a pos) (tE cl E (eUn znz fa)):=zrf znI (zbE hs g h1).1;exact ⟨(fun z=>by cases z),p,fun _=>zaF p (fun _=>rfl),rfl⟩
  ·cases h
 ·obtain ⟨fa,h1,h2⟩:=map_some h;cases h2;rename_i op es pos;obtain ⟨b1,b2⟩:=zi8 hs g (pos:=pos) h1;exact ⟨(fun z=>by cases z),b1,fun _=>b2.pt,rfl⟩
 ·rename_i a ops bs pos;split at h
  ·rename_i p hp;obtain ⟨w,fe⟩:=p;cases h;obtain ⟨rfl,n1,n2⟩:=zph hs g (pos:=pos) hp;exact ⟨(fun z=>by cases z),n1,fun _=>n2,rfl⟩
  unfold zpX at h;split at h
  ·obtain ⟨gg,h1,h⟩:=zaa h;obtain ⟨fa,h2,h⟩:=zaa h;obtain ⟨fb,h3,h⟩:=zaa h;cases h;obtain ⟨a1,_⟩:=zbE hs g h2;obtain ⟨b1,b2⟩:=zbE hs g h3;exact ⟨(fun z=>by cases z),zos (zea g h1) a1 b1 (zdx b2),fun _=>zn3 (zea g h1) a1 b1 (zdx b2),rfl⟩
  ·obtain ⟨gg,h1,h⟩:=zaa h;obtain ⟨gg',h1',h⟩:=zaa h;obtain ⟨fa,h2,h⟩:=zaa h;obtain ⟨fb,h3,h⟩:=zaa h;obtain ⟨fc,h4,h⟩:=zaa h;cases h;obtain ⟨a1,_⟩:=zbE hs g h2;obtain ⟨b1,_⟩:=zbE hs g h3;obtain ⟨c1,c2⟩:=zbE hs g h4;have hm:∀{op op':CmpOp} {b c:Expr},okE c=true->lastMarks [op,op'] [b,c]=false:=fun h=>zdx h
   exact ⟨(fun z=>by cases z),zjA (zea g h1) (zea g h1') a1 b1 c1 (hm c2),fun _=>zjw (zea g h1) (zea g h1') a1 b1 c1 (hm c2),rfl⟩
  ·cases h
 ·split at h
  ·rename_i c a b pos ht;obtain ⟨fc,h1,h⟩:=zaa h;obtain ⟨fa,h2,h⟩:=zaa h;obtain ⟨fb,h3,h⟩:=zaa h;cases h;obtain ⟨_,c2,_⟩:=zar hs g h1;exact ⟨(fun z=>by cases z),zri (c2 ht) (zar hs g h2).1 (zar hs g h3).1,(fun z=>by cases z),rfl⟩
  ·cases h
 ·rename_i a i pos;split at h
  ·rename_i p hp;obtain ⟨w,fe⟩:=p;cases h;obtain ⟨rfl,n1⟩:=zpI hs g (pos:=pos) hp;exact ⟨(fun z=>by cases z),n1,fun _=>zaF n1 (fun _=>rfl),rfl⟩
  unfold ztj at h;split at h
  ·obtain ⟨fa,h1,h⟩:=zaa h;obtain ⟨fl,h2,h⟩:=zaa h;obtain ⟨fu,h3,h⟩:=zaa h;cases h;exact ⟨(fun z=>by cases z),zok (zbE hs g h1).1 (zgc hs g h2) (zgc hs g h3),fun _=>zaF (zok (zbE hs g h1).1 (zgc hs g h2) (zgc hs g h3)) (fun _=>rfl),rfl⟩
  ·split at h
   ·rename_i hix;obtain ⟨fa,h1,h⟩:=zaa h;obtain ⟨fb,h2,h⟩:=zaa h;cases h;have p:PE X (.Subscript a _ pos) (tE cl E (zaj ixD fa fb)):=zrh (zrW g.kk) (zbE hs g h1).1 (zbE hs g h2).1 (zko hix);exact ⟨(fun z=>by cases z),p,fun _=>zaF p (fun _=>rfl),rfl⟩
   ·cases h
 ·rename_i o fl pos;obtain ⟨rfl,n1⟩:=zpK hs g (pos:=pos) h;exact ⟨(fun z=>by cases z),n1,fun _=>zaF n1 (fun _=>rfl),rfl⟩
 ·rename_i fn args kws cp;unfold zlu at h;split at h
  ·rename_i o m ap;split at h
   rotate_left
   ·split at h
    ·rename_i hdp;cases h;obtain ⟨rfl,n1⟩:=zsa hs g hdp;exact ⟨(fun z=>by cases z),n1,fun _=>zaF n1 (fun _=>rfl),rfl⟩
    ·obtain ⟨a1,a2⟩:=zmC hs g (ap:=ap) (pos:=cp) h;exact ⟨a1,a2,fun _=>zaF a2 (fun _=>rfl),rfl⟩
   rename_i pp hpp;obtain ⟨⟨x,p⟩,e1,h2⟩:=zaa hpp;have e2:=zgh e1;have h3:=h;cases h3;clear hpp e1;subst e2;replace h:=h2;clear h2;dsimp only at h ⊢;unfold zus at h;split at h
   ·rename_i a;split at h
    ·rename_i hln;obtain ⟨i,h1,h⟩:=zaa h;obtain ⟨fa,h2,h⟩:=zaa h;obtain ⟨gg,h3,h⟩:=zaa h;cases h;obtain ⟨n1,n2,n3,n4⟩:=g.slot h1;obtain ⟨a1,a2⟩:=zbE hs g h2
     have p:PE X (.Call (.Attribute (.Name x p) m ap) [a] [] cp) (tE cl E (eMt gg i fa)):=by
      unfold zts at h3;split at h3
      ·rename_i em;cases h3;subst em;exact zon PySem.F.slot_list_count PySem.F.type_list_count (zkf g.kk g.units) ziX n1 n2 n3 n4 a1 (zad a2) hln
      ·split at h3
       ·rename_i em;cases h3;subst em;exact zon PySem.F.slot_list_index PySem.F.type_list_index (zke g.kk g.units) ziK n1 n2 n3 n4 a1 (zad a2) hln
       ·cases h3
     exact ⟨(fun z=>by cases z),p,fun _=>zaF p (fun _=>rfl),rfl⟩
    ·cases h
   ·cases h
  ·rename_i x p;split at h
   ·rename_i hk
    have hk':kws=[]:=by simpa using hk
    subst hk';split at h
    ·rename_i pm hmk;obtain ⟨w,fe⟩:=pm;cases h;obtain ⟨rfl,n1⟩:=zrC hs g (p:=p) (pos:=cp) hmk;exact ⟨(fun z=>by cases z),n1,fun _=>zaF n1 (fun _=>rfl),rfl⟩
    split at h
    ·rename_i hsp;cases h;obtain ⟨a1,a2⟩:=zrd hs g (p:=p) (pos:=cp) hsp;exact ⟨a1,a2,fun _=>zaF a2 (fun _=>rfl),rfl⟩
    split at h
    ·rename_i hsp;cases h;obtain ⟨a1,a2⟩:=zrc hs g (p:=p) (pos:=cp) hsp;exact ⟨a1,a2,fun _=>zaF a2 (fun _=>rfl),rfl⟩
    ·obtain ⟨a1,a2⟩:=znj hs g (p:=p) (pos:=cp) h;exact ⟨a1,a2,fun _=>zaF a2 (fun _=>rfl),rfl⟩
   ·cases h
  ·cases h
 ·rename_i elt gs scope pos;unfold lcG at h;split at h
  ·obtain ⟨fa,h1,h2⟩:=map_some h;cases h2;rename_i gg;have p:PE X (.ListComp elt [gg] scope pos) (tN cl E f):=ziY hs g h1;exact ⟨fun _=>p,zbP p,fun _=>zaF (zbP p) (fun _=>rfl),rfl⟩
  ·cases h
 ·rename_i pos;cases h;exact ⟨fun _=>zfB,zbP zfB,fun _=>zaF (zbP zfB) (fun _=>rfl),rfl⟩
 ·cases h
theorem zlq:∀n,zaE cl G k (zsd G n)
 | 0=>fun _ _ _ _ _ _ _ _ h=>by cases h
 | n+1=>zkC (zlq n)
end
end S2
namespace S2
open PySem PySem.Spec PyProof.Rows L2
noncomputable def zji(X:Cx)(E:St->XK):Prop:=∀(C:Addr) (pins:Z3) (σ:St) (H:Hp) (s:Shared) (e:Addr) (h':Heap) (vs:List Value),Inv X pins σ H s->Heap.MadeExcOf s.heap h' e (.ref C) vs->E σ (.ref C) none H->X.xe (.ref e) { s with heap:=h' }
noncomputable def zlG(C:Addr)(E:St->XK)(t:TA):TS:=fun _ σ H=>t σ H fun vs H1=>vs.length<=sizeLine/\E σ (.ref C) none H1
def zhX{X:Cx}{x:Str}{C:Addr}{E:St->XK}{np cpos pos:Pos}{e:Expr}{es:List Expr}{t:TA}(hr:zji X E)(hc:X.calm=true)(hg:Gl X x)(hm:X.mg x=some (.ref C))
  (z:PySem.W.excIn X.K C bmV "ValueError.__new__" = true) (ha:PA X (e::es) t)
  (he:starEach (e::es) X.env=(false,eval e X.env)::starEach es X.env) (hpl:(backTo cpos (starEach es X.env)).any (·.1)=false) (hdb:(x == ("__debug__":Str))=false) :
  PS X (.Raise (some (.Call (.Name x np) (e::es) [] cpos)) none pos) (zlG C E t):=by
 intro pins s σ H D I h;obtain ⟨bm,N,nm,qn,bs,hd,sn,sub,ab,col,dd,c0,c1,c2,c3,c5,mN,o1,o2,o3,o4⟩:=zm5 I.mod.kin z
 refine wpAny_Raise_call_subU (C:=C) (nm:=nm) (q:=qn) (N:=N) (bs:=bs) (bm:=bm) (hdct:=hd) (sn:=sn) (sub:=sub) (ab:=ab) (col:=col) (dd:=dd) (k0:=c0) (k1:=c1) (k2:=c2) (k3:=c3) (k5:=c5)
  ybL (by decide +kernel) ybL (mN:=mN) (o4.hasType ybL.hasBase) (I.ok.hd hc) (by rw [he];show (false||(backTo cpos (starEach es X.env)).any (·.1))=false;rw [hpl];rfl) o3 (zdA I hg hm ⟨rfl,?_⟩ hdb)
 have go:=ha cpos pins s σ H _ I h;rw [he] at go ⊢;exact ybN (thn go fun us s2 ⟨vs,H2,I2,r2,q1,q2⟩=>⟨rfl,by rw [<-r2.length];exact q1,I2.bk _ _ o1,o2.keeps I2.bk,o4.keeps I2.bk,fun h' a mk=>hr C pins σ H2 s2 a h' us I2 mk q2⟩)
noncomputable def sRz(c:Str)(fs:List Fe):Fs:=fun ρ S=>match zae fs ρ S with | .ok ds S'=>if zaT ds.length then .ex c ρ S' else .bad | .exc x S'=>.ex x ρ S' | .bad=>.bad
noncomputable def zwe(X:Cx)(pins:Z3)(E:St->XK):Cx:={ X with pn:=X.pn++pins,xe:=fun e s'=>∃σ H1 s1,Inv X pins σ H1 s1/\CXE X.prog X.w X.stack H1 s1 (E σ) e s' }
section
variable{X:Cx}{pins:Z3}{σ:St}{H:Hp}{s:Shared}{E:St->XK}
end
noncomputable def zwf(K:PySem.W.Frag)(C:Addr)(i:Nat)(th:TS)(De:Ends):St->XK:=fun σ cls _ H'=>∃C',cls=.ref C'/\zns K C' C/\∀a ob,H' a=none->ob.cls=.ref C'->th (De.goes i) (σ.set i (some (.ref a))) (upd H' a (.frz ob (.own a)))
section
variable{X:Cx}{cl:Cf}{E:St->XK}{own:Bool}
end
end S2
namespace S2
open PySem PySem.Spec PyProof.Rows L2
noncomputable def Base.hold(B:Base)(p:Addr)(o:HO):Base:=⟨fun a=>if a=p then some o else B.Fr a,fun a=>if a=p then some .far else B.fw a⟩
noncomputable def Wd.claim(w:Wd)(p:Addr)(r:Root):Wd:=⟨w.H,fun a=>if a=p then some r else if w.ow a=some r then some .far else w.ow a,w.mu⟩
section
variable{cl:Cf}{B:Base}{σ:St}{w:Wd}{ρ:Env}{S:Sto}
theorem Rel.hold{p:Addr}{o:HO}(R:Rel cl B σ w ρ S)(hp:w.H p=none):Rel cl (B.hold p o) σ (w.addAs p o .far) ρ S:=by
 have ff:=zbp (w:=w) (p:=p) (o:=o) (r:=.far) hp
 have kp:∀a u,w.H a=some u->(w.addAs p o .far).H a=some u/\(w.addAs p o .far).ow a=w.ow a:=fun a u ha=>by
  have n:a≠p:=zag ha hp;refine ⟨?_,?_⟩
  ·show upd w.H p o a=_;rw [zaf n];exact ha
  ·show (if a=p then _ else if w.ow a=some Root.far then some Root.far else w.ow a)=_;rw [if_neg n];split
   ·rename_i e;exact e.symm
   ·rfl
 refine ⟨⟨fun a u h=>?_,fun a r h=>?_,R.wd.len,fun n ob h=>?_⟩,R.len,fun j b e hj=>?_⟩
 ·by_cases ha:a=p
  ·subst ha;have h':(if a=a then some o else B.Fr a)=some u:=h;rw [if_pos rfl] at h';cases h';exact ⟨zak,by show (if a=a then some Root.far else _)=(if a=a then some Root.far else _);rw [if_pos rfl,if_pos rfl]⟩
  ·have h':(if a=p then some o else B.Fr a)=some u:=h;rw [if_neg ha] at h';have:=kp a u (R.wd.fr a u h').1;refine ⟨this.1,this.2.trans ?_⟩;show _=(if a=p then some Root.far else B.fw a);rw [if_neg ha];exact (R.wd.fr a u h').2
 ·by_cases ha:a=p
  ·have h':(if a=p then some Root.far else if w.ow a=some Root.far then some Root.far else w.ow a)=some r:=h;rw [if_pos ha] at h';cases h';exact .inl rfl
  ·have h':(if a=p then some Root.far else if w.ow a=some Root.far then some Root.far else w.ow a)=some r:=h;rw [if_neg ha] at h';split at h'
   ·cases h';exact .inl rfl
   ·rcases R.wd.own a r h' with z | z
    ·exact .inl z
    ·refine .inr ?_;show (if a=p then some o else B.Fr a)=none;rw [if_neg ha];exact z
 ·obtain ⟨a,e,x⟩:=R.wd.obj n ob h;exact ⟨a,e,x.keep ff fun b u hb _=>kp b u hb⟩
 ·obtain ⟨v,e1,x⟩:=R.slots j b e hj;exact ⟨v,e1,x.keep ff fun a u ha hr=>⟨(kp a u ha).1,(kp a u ha).2.trans hr⟩⟩
def Rel.unhold{p:Addr}{o:HO}(R:Rel cl (B.hold p o) σ w ρ S)(hB:B.Fr p=none):Rel cl B σ w ρ S:=by
 refine ⟨⟨fun a u h=>?_,fun a r h=>?_,R.wd.len,R.wd.obj⟩,R.len,R.slots⟩
 ·have na:a≠p:=fun z=>by rw [z,hB] at h;cases h
  have h2:=R.wd.fr a u (show (if a=p then some o else B.Fr a)=some u by rw [if_neg na];exact h);exact ⟨h2.1,h2.2.trans (show (if a=p then some Root.far else B.fw a)=_ from if_neg na)⟩
 ·rcases R.wd.own a r h with z | z
  ·exact .inl z
  ·have z':(if a=p then some o else B.Fr a)=none:=z;split at z'
   ·cases z'
   ·exact .inr z'
def zdH{p:Addr}{r:Root}(h:w.ow p≠none):Fut w (w.claim p r) where
 keep:=fun a u ha hk=>by
  have n:a≠p:=fun z=>h (by rw [<-z];exact hk)
  refine ⟨ha,?_⟩;show (if a=p then some r else if w.ow a=some r then some Root.far else w.ow a)=none;rw [if_neg n,if_neg (by rw [hk];exact fun z=>by cases z)];exact hk
 mu:=fun _ _ h=>h
theorem Rel.claim{i:Nat}{p:Addr}{o:HO}{d:D}(R:Rel cl (B.hold p o) σ w ρ S)(hB:B.Fr p=none)(t:Top cl w o d):Rel cl B (σ.set i (some (.ref p))) (w.claim p (.slot i)) (ρ.set i (some (true,d))) S:=by
 have hp:=R.wd.fr p o (show (if p=p then some o else B.Fr p)=some o from if_pos rfl);have hfar:w.ow p=some .far:=hp.2.trans (show (if p=p then some Root.far else B.fw p)=_ from if_pos rfl);have ff:=zdH (w:=w) (p:=p) (r:=.slot i) (by rw [hfar];exact yaI _)
 have kp:∀a u,w.H a=some u->w.ow a≠some .far->w.ow a≠some (.slot i)->(w.claim p (.slot i)).H a=some u/\(w.claim p (.slot i)).ow a=w.ow a:=fun a u ha hk hk2=>by
  have n:a≠p:=fun z=>hk (by rw [z];exact hfar)
  refine ⟨ha,?_⟩;show (if a=p then _ else if w.ow a=some (Root.slot i) then some Root.far else w.ow a)=_;rw [if_neg n,if_neg hk2]
 refine ⟨⟨fun a u h=>?_,fun a r h=>?_,R.wd.len,fun n ob h=>?_⟩,by rw [yaB,yaB];exact R.len,fun j b e hj=>?_⟩
 ·have na:a≠p:=fun z=>by rw [z,hB] at h;cases h
  have h2:=R.wd.fr a u (show (if a=p then some o else B.Fr a)=some u by rw [if_neg na];exact h);have h3:w.ow a=B.fw a:=h2.2.trans (show (if a=p then some Root.far else B.fw a)=_ from if_neg na)
  have hne:w.ow a≠some (.slot i):=fun z=>by
   rcases R.wd.own a _ z with y | y
   ·cases y
   ·have y':(if a=p then some o else B.Fr a)=none:=y;rw [if_neg na,h] at y';cases y'
  refine ⟨h2.1,?_⟩;show (if a=p then some (Root.slot i) else if w.ow a=some (Root.slot i) then some Root.far else w.ow a)=_;rw [if_neg na,if_neg hne];exact h3
 ·have h':(if a=p then some (Root.slot i) else if w.ow a=some (Root.slot i) then some Root.far else w.ow a)=some r:=h;split at h'
  ·rename_i e;rw [e];exact .inr hB
  ·rename_i na;split at h'
   ·cases h';exact .inl rfl
   ·rcases R.wd.own a r h' with z | z
    ·exact .inl z
    ·have z':(if a=p then some o else B.Fr a)=none:=z;rw [if_neg na] at z';exact .inr z'
 ·obtain ⟨a,e,x⟩:=R.wd.obj n ob h;exact ⟨a,e,x.keep ff fun b u hb hn=>kp b u hb (fun z=>by rwa [z] at hn) (fun z=>by rwa [z] at hn)⟩
 ·by_cases hij:i=j
  ·subst hij
   have hlt:i<ρ.length:=by
    have:=(yaq.mp hj).1;rwa [yaB] at this
   rw [yaz hlt] at hj;cases hj;exact ⟨.ref p,by rw [yaz (by rw [R.len];exact hlt)],p,o,rfl,if_pos rfl,hp.1,t.up ff⟩
  ·rw [yaJ hij] at hj ⊢;obtain ⟨v,e1,x⟩:=R.slots j b e hj;refine ⟨v,e1,x.keep ff fun a u ha hr=>?_⟩;have:=kp a u ha (by rw [hr];exact fun z=>by cases z) (by rw [hr];exact fun z=>hij (by cases z;rfl));exact ⟨this.1,this.2.trans hr⟩
end
noncomputable def tO(cl:Cf)(E:St->XK):Bool->Fe->TE | true,f=>tN cl E f | false,f=>tE cl E f
noncomputable def znx(i j:Nat)(o1:Bool)(f1:Fe)(o2:Bool)(f2:Fe):Fs:=fun ρ S=>match f1 ρ S with
 | .ok d1 S1=>(match f2 ρ S1 with
  | .ok d2 S2=>.nx ((ρ.set i (some (o1,d1))).set j (some (o2,d2))) S2
  | .exc c S'=>.ex c ρ S'
  | .bad=>.bad)
 | .exc c S'=>.ex c ρ S'
 | .bad=>.bad
section
variable{X:Cx}{cl:Cf}{E:St->XK}{own:Bool}
def zjY{i j:Nat}{o1 o2:Bool}{f1 f2:Fe}{De:Ends}{σ:St}{H:Hp}(q:tS cl E own (znx i j o1 f1 o2 f2) De σ H):ztf i j (zlH (tO cl E o1 f1) (zlH (tO cl E o2 f2) zqj)) De σ H:=by
 obtain ⟨B,w,ρ,S,rfl,R,q⟩:=q;unfold znx at q
 cases o1 with
 | false =>
  refine ⟨B,w,ρ,S,rfl,R,?_⟩
  cases h1:f1 ρ S with
  | bad=>rwa [h1] at q
  | exc c S1=>rw [h1] at q;exact fun w' R' F'=>q σ w' R' F'
  | ok d1 S1 =>
   rw [h1] at q;dsimp only at q;intro v w1 R1 F1 sh1
   cases o2 with
   | false =>
    refine ⟨B,w1,ρ,S1,rfl,R1,?_⟩
    cases h2:f2 ρ S1 with
    | bad=>rwa [h2] at q
    | exc c S2=>rw [h2] at q;exact fun w' R' F'=>q σ w' R' (F1.trans F')
    | ok d2 S2 =>
     rw [h2] at q;intro v2 w2 R2 F2 sh2;exact ⟨v,v2,rfl,q _ w2 ((R2.put (sh1.up F2)).put sh2) (F1.trans F2)⟩
   | true =>
    refine ⟨B,w1,ρ,S1,rfl,R1,?_⟩
    cases h2:f2 ρ S1 with
    | bad=>rwa [h2] at q
    | exc c S2=>rw [h2] at q;exact fun w' R' F'=>q σ w' R' (F1.trans F')
    | ok d2 S2 =>
     rw [h2] at q;intro p2 u2 w2 R2 F2 hp2 t2;exact ⟨v,.ref p2,rfl,q _ (w2.addAs p2 u2 (.slot j)) ((R2.put (sh1.up F2)).own hp2 t2) (F1.trans (F2.trans (zbp hp2)))⟩
 | true =>
  refine ⟨B,w,ρ,S,rfl,R,?_⟩
  cases h1:f1 ρ S with
  | bad=>rwa [h1] at q
  | exc c S1=>rw [h1] at q;exact fun w' R' F'=>q σ w' R' F'
  | ok d1 S1 =>
   rw [h1] at q;dsimp only at q;intro p u w1 R1 F1 hp t1;have Rh:=R1.hold (o:=u) hp;have fa:=zbp (w:=w1) (p:=p) (o:=u) (r:=.far) hp
   have hB:B.Fr p=none:=by
    cases z:B.Fr p with
    | none=>rfl
    | some x=>have:=(R1.wd.fr p x z).1;rw [hp] at this;cases this
   cases o2 with
   | false =>
    refine ⟨B.hold p u,w1.addAs p u .far,ρ,S1,rfl,Rh,?_⟩
    cases h2:f2 ρ S1 with
    | bad=>rwa [h2] at q
    | exc c S2=>rw [h2] at q;exact fun w' R' F'=>q σ w' (R'.unhold hB) (F1.trans (fa.trans F'))
    | ok d2 S2 =>
     rw [h2] at q;intro v2 w2 R2 F2 sh2;have hpp:=R2.wd.fr p u (show (if p=p then some u else B.Fr p)=some u from if_pos rfl)
     have hfar:w2.ow p≠none:=by rw [hpp.2,show (B.hold p u).fw p=some Root.far from if_pos rfl];exact yaI _
     have fc:=zdH (w:=w2) (p:=p) (r:=.slot i) hfar;exact ⟨.ref p,v2,rfl,q _ (w2.claim p (.slot i)) ((R2.claim hB (t1.up (fa.trans F2))).put (sh2.up fc)) (F1.trans (fa.trans (F2.trans fc)))⟩
   | true =>
    refine ⟨B.hold p u,w1.addAs p u .far,ρ,S1,rfl,Rh,?_⟩
    cases h2:f2 ρ S1 with
    | bad=>rwa [h2] at q
    | exc c S2=>rw [h2] at q;exact fun w' R' F'=>q σ w' (R'.unhold hB) (F1.trans (fa.trans F'))
    | ok d2 S2 =>
     rw [h2] at q;intro p2 u2 w2 R2 F2 hp2 t2;have hpp:=R2.wd.fr p u (show (if p=p then some u else B.Fr p)=some u from if_pos rfl)
     have hfar:w2.ow p≠none:=by rw [hpp.2,show (B.hold p u).fw p=some Root.far from if_pos rfl];exact yaI _
     have fc:=zdH (w:=w2) (p:=p) (r:=.slot i) hfar;exact ⟨.ref p,.ref p2,rfl,q _ ((w2.claim p (.slot i)).addAs p2 u2 (.slot j)) ((R2.claim hB (t1.up (fa.trans F2))).own (w:=w2.claim p (.slot i)) hp2 (t2.up fc)) (F1.trans (fa.trans (F2.trans (fc.trans (zbp (w:=w2.claim p (.slot i)) hp2)))))⟩
end
noncomputable def zfc:Expr->Bool | .ListComp _ _ _ _=>true | .SetComp _ _ _ _=>true | .DictComp _ _ _ _ _=>true | _=>false
def zee{e:Expr}{t:Option Expr}{l:Nat}{env:PySem.Env}(h:zfc e=false):swapsWith e t l env=pure false:=by
 cases e<;>first | rfl | cases h
structure Gd(cl:Cf)(G:Genv)(k:Nat)(X:Cx)(nm:Names)(N:List Str)(E:St->XK)(full:Bool):Prop where
 gx:Gx cl G k X nm N E
 fn:∀x,X.fn x=true
 kind:X.env.scope.kind=.function
 sc:X.env.scope.names=nm
 own:full=true->PassesOwn (model X.prog X.w) X.A X.env X.xe
 raises:full=true->zji X E
 stk:X.stack=X.env::X.outer
 frm:X.env.frame=some X.env.locals
noncomputable def zbH:Nat->Names->List Str->Expr->List Nat
 | 0,_,_,_=>[]
 | n+1,nm,N,e =>
  let rc:=zbH n nm N
  let op:=fun (e:Expr)=>match e with | .Name _ _=>[] | e=>rc e
  match e with
  | .Name x _=>(zbd nm N x).toList
  | .Tuple es _ _=>es.flatMap rc
  | .List es _=>es.flatMap rc
  | .BinOp a _ b _=>op a++op b
  | .UnaryOp _ a _=>rc a
  | .BoolOp _ es _=>es.flatMap rc
  | .Compare a _ bs _=>op a++bs.flatMap op
  | .IfExp c a b _=>rc c++rc a++rc b
  | .Subscript a (.Slice lo hi _ _) _=>op a++lo.toList.flatMap op++hi.toList.flatMap op
  | .Subscript a i _=>op a++op i
  | .Call (.Name f _) args [] _=>if (zi9 f).isSome||decide (f = "isinstance") then args.flatMap op else args.flatMap rc
  | .Call (.Attribute o _ _) args [] _=>op o++args.flatMap rc
  | .Dict _ _ _=>[]
  | .Attribute o _ _=>op o
  | .ListComp _ [g] scope _=>rc g.iter++(zaH scope.names N).map (·.2)
  | _=>[]
noncomputable def zfC(t:Tg)(f:Fe):Fs:=fun ρ S=>match f ρ S with
 | .ok d S'=>(match t.put ρ d with | some ρ'=>.nx ρ' S' | none=>.bad)
 | .exc c S'=>.ex c ρ S'
 | .bad=>.bad
noncomputable def zjZ(nm:Names)(x y:Str)(px py:Pos)(a b:Expr):Bool :=
 decide (nm.lookup x=some .local)&&decide (nm.lookup y=some .local)&&decide (px.line=py.line)&&!decide (x=y)&&zbe a&&zbe b&&!([a,b].all (foldedForSure 8))&&!([a,b].all (constantsAlone 8))
noncomputable def znh(nm:Names)(x y:Str)(a b:Expr):Bool:=zbe a&&zbe b&&(!decide (nm.lookup x=some .local)||!decide (nm.lookup y=some .local))
noncomputable def zlk:Expr->Bool | .Constant _ _ _=>true | _=>false
noncomputable def znc:Expr->Option (List (Option Expr)×List Expr×Pos) | .Dict ks vs p=>some (ks,vs,p) | _=>none
def zkA{e:Expr}{x:List (Option Expr)×List Expr×Pos}(h:znc e=some x):e=.Dict x.1 x.2.1 x.2.2:=by cases e<;>first | (cases h;done) | (cases h;rfl)
noncomputable def zfM(e:Expr):Bool:=match znc e with | some x=>x.1.isEmpty&&x.2.1.isEmpty | none=>false
def zkB{e:Expr}(h:zfM e=true):∃p,e=.Dict [] [] p:=by
 unfold zfM at h
 cases h1:znc e with
 | none=>rw [h1] at h;cases h
 | some x =>
  rw [h1] at h;dsimp only at h;rw [yab,ybx,ybx] at h;exact ⟨_,by rw [zkA h1,h.1,h.2]⟩
noncomputable def zo6{α:Type}:List α->Option α | [a]=>some a | _=>none
def zie{α:Type}{l:List α}{a:α}(h:zo6 l=some a):l=[a]:=by
 cases l with
 | nil=>cases h
 | cons b t=>cases t with
  | nil=>cases h;rfl
  | cons _ _=>cases h
noncomputable def zer:Expr->Option (Str×Pos) | .Name x p=>some (x,p) | _=>none
def zca{e:Expr}{x:Str×Pos}(h:zer e=some x):e=.Name x.1 x.2:=by cases e<;>first | (cases h;done) | (cases h;rfl)
noncomputable def znl:Expr->Option (Expr×List Expr×List Keyword×Pos) | .Call f a k p=>some (f,a,k,p) | _=>none
def zgy{e:Expr}{x:Expr×List Expr×List Keyword×Pos}(h:znl e=some x):e=.Call x.1 x.2.1 x.2.2.1 x.2.2.2:=by cases e<;>first | (cases h;done) | (cases h;rfl)
noncomputable def znF:Expr->Option (Expr×Str×Pos) | .Attribute o m p=>some (o,m,p) | _=>none
def zfW{e:Expr}{x:Expr×Str×Pos}(h:znF e=some x):e=.Attribute x.1 x.2.1 x.2.2:=by cases e<;>first | (cases h;done) | (cases h;rfl)
noncomputable def zv5:Stmt->Option (List Expr×Expr×Pos) | .Assign t e p=>some (t,e,p) | _=>none
def zso{e:Stmt}{x:List Expr×Expr×Pos}(h:zv5 e=some x):e=.Assign x.1 x.2.1 x.2.2:=by cases e<;>first | (cases h;done) | (cases h;rfl)
noncomputable def znt:Expr->Option (List Expr×Nat×Pos) | .Tuple es k p=>some (es,k,p) | _=>none
def zhk{e:Expr}{x:List Expr×Nat×Pos}(h:znt e=some x):e=.Tuple x.1 x.2.1 x.2.2:=by cases e<;>first | (cases h;done) | (cases h;rfl)
noncomputable def ztk:Expr->Option (Expr×Expr×Pos) | .Subscript a i p=>some (a,i,p) | _=>none
def zlI{e:Expr}{x:Expr×Expr×Pos}(h:ztk e=some x):e=.Subscript x.1 x.2.1 x.2.2:=by cases e<;>first | (cases h;done) | (cases h;rfl)
noncomputable def lcE:Expr->Option (Expr×List Comprehension×Scope×Pos) | .ListComp elt gs scope p=>some (elt,gs,scope,p) | _=>none
def zpq{e:Expr}{x:Expr×List Comprehension×Scope×Pos}(h:lcE e=some x):e=.ListComp x.1 x.2.1 x.2.2.1 x.2.2.2:=by cases e<;>first | (cases h;done) | (cases h;rfl)
noncomputable def zqU{α:Type}:List α->Option (α×α) | [a,b]=>some (a,b) | _=>none
def zkR{α:Type}{l:List α}{a:α×α}(h:zqU l=some a):l=[a.1,a.2]:=by
 cases l with
 | nil=>cases h
 | cons b t=>cases t with
  | nil=>cases h
  | cons c t=>cases t with
   | nil=>cases h;rfl
   | cons _ _=>cases h
noncomputable def zsp(G:Genv)(rc:Rec)(nm:Names)(N:List Str)(x:Str)(e:Expr):Option Fs :=
 (tgI true nm N N.length x).bind fun i=>match lcE e with
  | some c=>(zo6 c.2.1).bind fun g=>(zg4 G rc nm N c.1 g c.2.2.1).bind fun f=>some (zcj i true f)
  | none=>if zfc e then none else (rc nm N e).bind fun p=>some (zcj i p.1 p.2)
noncomputable def zsn(rc:Rec)(nm:Names)(N:List Str)(t:List Expr×Nat×Pos)(e:Expr):Option Fs:=match znt e with
 | some v=>(zqU t.1).bind fun xy=>(zer xy.1).bind fun x=>(zer xy.2).bind fun y=>(zqU v.1).bind fun ab =>
  if zjZ nm x.1 y.1 x.2 y.2 ab.1 ab.2 then (tgI true nm N N.length x.1).bind fun i=>(tgI true nm N N.length y.1).bind fun j=>if i=j then none else (rc nm N ab.1).bind fun p=>(rc nm N ab.2).bind fun q=>some (znx i j p.1 p.2 q.1 q.2)
  else if (zlk ab.1&&zlk ab.2)||znh nm x.1 y.1 ab.1 ab.2 then (tgG true nm N N.length (.Tuple t.1 t.2.1 t.2.2)).bind fun t=>(shE rc nm N e).bind fun f=>some (zfC t f) else none
 | none=>(tgG true nm N N.length (.Tuple t.1 t.2.1 t.2.2)).bind fun t=>(shE rc nm N e).bind fun f=>some (zfC t f)
noncomputable def zsr(G:Genv)(rc:Rec)(nm:Names)(N:List Str)(o:Expr)(f:Str)(e:Expr):Option Fs :=
 (nmF o).bind fun x=>if zfM e then (if G.ob.df f&&G.ob.fk G.ob.cur f then (zbd nm N x.1).map fun i=>zl4 G.ob.cur f i else none) else (if G.ob.df f||!G.ob.fk G.ob.cur f then none else (shE rc nm N o).bind fun fo=>(shE rc nm N e).bind fun fe=>some (zhP G.ob.cur f fo fe))
noncomputable def zsq(G:Genv)(rc:Rec)(nm:Names)(N:List Str)(o:Expr)(f:Str)(ix e:Expr):Option Fs :=
 if zet o&&G.ob.df f&&!zfc e&&G.ob.fk G.ob.cur f then (nmF ix).bind fun x=>(zbd nm N x.1).bind fun i=>(shE rc nm N o).bind fun fo=>(shE rc nm N e).bind fun fe=>some (zhM G.ob.cur f fo i fe) else none
noncomputable def zqa(G:Genv)(rc:Rec)(nm:Names)(N:List Str)(q:Expr×Expr×Pos)(e:Expr):Option Fs:=match znF q.1 with
 | some a=>zsq G rc nm N a.1 a.2.1 q.2.1 e
 | none=>none
noncomputable def zqF(G:Genv)(rc:Rec)(nm:Names)(N:List Str)(tg e:Expr):Option Fs:=match zer tg with
 | some x=>zsp G rc nm N x.1 e
 | none=>match znt tg with
  | some t=>zsn rc nm N t e
  | none=>match znF tg with
   | some a=>zsr G rc nm N a.1 a.2.1 e
   | none=>(ztk tg).bind fun q=>zqa G rc nm N q e
structure Mc where
 x:Str
 px:Pos
 m:Str
 ap:Pos
 a:Expr
 cp:Pos
noncomputable def zkd(e:Expr):Option Mc:=(znl e).bind fun c=>if c.2.2.1.isEmpty then (znF c.1).bind fun t=>(zer t.1).bind fun x=>(zo6 c.2.1).bind fun a=>some ⟨x.1,x.2,t.2.1,t.2.2,a,c.2.2.2⟩ else none
noncomputable def zm4(G:Genv)(rc:Rec)(nm:Names)(N:List Str)(e:Expr):Option Fs:=match zkd e with
 | some c=>if decide (c.m = "append")&&(c.ap.endLine == c.cp.line) then (zbd nm N c.x).bind fun i=>(shE rc nm N c.a).bind fun f=>some (zjC i f)
  else if zfc e then none else (shE rc nm N e).map zny
 | none=>if zfc e then none else (shE rc nm N e).map zny
noncomputable def zrl(rc:Rec)(nm:Names)(N:List Str)(own:Bool)(e:Expr):Option Fs:=match own with
 | true=>(match e with
  | .Name x _=>(zbd nm N x).map zhL
  | e=>(rc nm N e).bind fun p=>if p.1 then some (zbT p.2) else none)
 | false=>(shE rc nm N e).map zbT
noncomputable def rzG(G:Genv)(rc:Rec)(nm:Names)(N:List Str)(full:Bool)(a b:Option Expr):Option Fs:=if b.isNone then a.bind fun e=>(znl e).bind fun c=>(zer c.1).bind fun x=>if c.2.2.1.isEmpty&&!c.2.1.isEmpty&&full&&zbF nm x.1&&G.exc x.1 then (shL rc nm N c.2.1).bind fun fs=>some (sRz x.1 fs) else none else none
noncomputable def stG(G:Genv)(rc:Rec)(rs:Bool->List Stmt->Option Fs)(nm:Names)(N:List Str)(own full:Bool)(st:Stmt):Option Fs:=match st with
 | .Pass _=>some sNx
 | .Break _=>some sBk
 | .Assign ts e _=>(zo6 ts).bind fun tg=>zqF G rc nm N tg e
 | .Expr e _=>zm4 G rc nm N e
 | .AugAssign tg op e _=>(zer tg).bind fun x=>(zqD op).bind fun gg=>(tgI true nm N N.length x.1).bind fun i=>(shE rc nm N e).bind fun f=>some (zow i gg f)
 | .Return o _=>(match o with | some e=>zrl rc nm N own e | none=>if own then none else some zjB)
 | .If c a b _=>if zbf c then (shE rc nm N c).bind fun f=>(rs full a).bind fun g=>(rs full b).bind fun h=>some (sIf f g h) else none
 | .For tg it body el _=>if full&&el.isEmpty then (zgV G rc nm N tg it).bind fun i=>(tgG true nm N N.length tg).bind fun t=>(rs full body).bind fun b=>some (zhO t i b) else none
 | .Raise a b _=>rzG G rc nm N full a b
 | _=>none
end S2
namespace S2
open PySem PySem.Spec PyProof.Rows L2
noncomputable def zmi(n:Nat)(own:Bool)(nm:Names)(N:List Str):Stmt->List Nat
 | .Assign [_] e _=>zbH n nm N e
 | .Expr (.Call (.Attribute _ _ _) args [] _) _=>args.flatMap (zbH n nm N)
 | .Expr e _=>zbH n nm N e
 | .Return (some (.Name x p)) _=>if own then [] else zbH n nm N (.Name x p)
 | .Return (some e) _=>zbH n nm N e
 | .If c _ _ _=>zbH n nm N c
 | .For _ it _ _ _=>zbH n nm N it
 | .While c _ _ _=>zbH n nm N c
 | _=>[]
noncomputable def blk(ds:Stmt->Option Fs):List Stmt->Option Fs
 | []=>some sNx
 | s::r=>(ds s).bind fun f=>(blk ds r).bind fun g=>some (zas f g)
noncomputable def zkD(G:Genv)(own:Bool):Nat->Bool->Names->List Str->Stmt->Option Fs
 | 0,_,_,_,_=>none
 | n+1,full,nm,N,st=>(stG G (zsd G n) (fun fl b=>blk (zkD G own n fl nm N) b) nm N own full st).map (sFz (zmi n own nm N st))
section
variable{cl:Cf}{G:Genv}{k:Nat}{rc:Rec}{X:Cx}{nm:Names}{N:List Str}{E:St->XK}{own full:Bool}
def Gd.sto(g:Gd cl G k X nm N E full):Sto' X nm true:=⟨fun _ x _=>g.fn x⟩
def zgF{elt:Expr}{gs:List Comprehension}{scope:Scope}{p px:Pos}{x:Str}{l:Nat}{env:PySem.Env}:∃b,swapsWith (.ListComp elt gs scope p) (some (.Name x px)) l env=pure b:=⟨_,rfl⟩
def zje{n:Nat}{t:Tg}{f:Fe}{De:Ends}{σ:St}{H:Hp}(q:tS cl E own (zfC t f) De σ H):znw (tE cl E f) (tG cl n t) De σ H:=by
 obtain ⟨B,w,ρ,S,rfl,R,q⟩:=q;refine ⟨B,w,ρ,S,rfl,R,?_⟩;unfold zfC at q
 cases hf:f ρ S with
 | bad=>rwa [hf] at q
 | exc c S1=>rw [hf] at q;exact fun w' R' F'=>q σ w' R' F'
 | ok d S1 =>
  rw [hf] at q;intro v w' R' F' h';dsimp only at q
  cases hp:t.put ρ d with
  | none=>rw [hp] at q;exact q.elim
  | some ρ'=>rw [hp] at q;exact ⟨B,w',ρ,S1,d,ρ',rfl,R',h',hp,fun σ' _ _ R2=>q σ' w' R2 F'⟩
def zoZ{x y:Str}{px py pt pt2:Pos}{kt k2:Nat}{a b:Expr}(hk:X.env.scope.kind=.function)(hs:X.env.scope.names=nm)(h:zjZ nm x y px py a b=true) :
  swappedStores [.Tuple [.Name x px,.Name y py] kt pt] (.Tuple [a,b] k2 pt2) X.env=pure (some [x,y]):=by
 unfold zjZ at h;simp only [yab,yaV,ybr,ybu] at h;obtain ⟨⟨⟨⟨⟨⟨⟨h1,h2⟩,h3⟩,h4⟩,h5⟩,h6⟩,h7⟩,h8⟩:=h
 have hb:X.env.blockKind=.function:=by unfold Env.blockKind;rw [hk];rfl
 have k1:X.env.kindOf x=some .local:=by unfold Env.kindOf;rw [hs];exact h1
 have k2':X.env.kindOf y=some .local:=by unfold Env.kindOf;rw [hs];exact h2
 have st:([a,b].any fun | .Starred ..=>true | _=>false)=false:=by
  cases a<;>first | (cases h5;done) | (cases b<;>first | rfl | cases h6)
 have ed:[x,y].eraseDups.length=2:=by
  have:(y == x)=false:=by rw [yaP];exact fun z=>h4 z.symm
  simp [List.eraseDups_cons,this]
 unfold swappedStores;simp only [hb,st];simp [k1,k2',h3,h7,h8,ed,Expr.pos];intro z;exfalso
 rcases z with z | z
 ·cases a<;>first | (cases h5;done) | cases z
 ·cases b<;>first | (cases h6;done) | cases z
def zpZ{x y:Str}{px py pt pt2:Pos}{kt k2:Nat}{a b:Expr}(hs:X.env.scope.names=nm)(h:znh nm x y a b=true) :
  swappedStores [.Tuple [.Name x px,.Name y py] kt pt] (.Tuple [a,b] k2 pt2) X.env=pure none:=by
 unfold znh at h;simp only [yab,yb2,ybr,ybu] at h;obtain ⟨⟨h5,h6⟩,h⟩:=h
 have st:([a,b].any fun | .Starred ..=>true | _=>false)=false:=by
  cases a<;>first | (cases h5;done) | (cases b<;>first | rfl | cases h6)
 unfold swappedStores;simp only [st]
 by_cases hb:X.env.blockKind=.function
 ·rcases h with h | h
  ·have k1:¬ X.env.kindOf x=some .local:=by unfold Env.kindOf;rw [hs];exact h
   by_cases c:X.env.kindOf y=some .local/\py.line=px.line<;>simp [k1,c,hb,Expr.pos,ybf]
  ·have k1:¬ X.env.kindOf y=some .local:=by unfold Env.kindOf;rw [hs];exact h
   by_cases c:X.env.kindOf x=some .local<;>simp [k1,c,hb,Expr.pos,ybf]
 ·simp [hb]
def zkG(hs:zaE cl G k rc)(g:Gd cl G k X nm N E full){elt:Expr}{gg:Comprehension}{scope:Scope}{x:Str}{i:Nat}{f:Fe}{p px pos:Pos}(hi:tgI true nm N N.length x=some i)(h:zg4 G rc nm N elt gg scope=some f) :
  PS X (.Assign [.Name x px] (.ListComp elt [gg] scope p) pos) (tS cl E own (zcj i true f)):=by
 obtain ⟨a1,a2,a3,a4,a5⟩:=zdq g.gx g.sto hi;obtain ⟨b,hb⟩:=zgF (elt:=elt) (gs:=[gg]) (scope:=scope) (p:=p) (px:=px) (x:=x) (l:=pos.line) (env:=X.env)
 cases b with
 | false=>exact zhz a2 a3 a4 (ziY hs g.gx h) hb a5
 | true =>
  obtain ⟨it,t,c,el,rfl,eg,S,i1,i2,i3,i4,i5⟩:=zd9 hs g.gx h;rw [eg] at hb ⊢;refine PS.imp (zjJ g.gx.calm S a2 a3 a4 i1 i3 i4 i5 hb a5 (zeo i2)) ?_;intro De σ H q;exact zls (zp9 q)
def zpW{x y:Str}{px py pt pt2 p1 p2:Pos}{kt k2:Nat}{a b:Const}{ka kb:Nat}{env:PySem.Env}:swappedStores [.Tuple [.Name x px,.Name y py] kt pt] (.Tuple [.Constant a ka p1,.Constant b kb p2] k2 pt2) env=pure none:=by
 have hf:∀(c:Const) (k:Nat) (p:Pos),foldedForSure 8 (.Constant c k p)=true:=fun _ _ _=>rfl
 unfold swappedStores;simp only [ybb,List.all_nil,hf,Bool.and_self,ybM]
 split<;>first | rfl | (split<;>first | rfl | (split<;>rfl))
def znX{a i e:Expr}{p:Pos}{l:Nat}{env:PySem.Env}:swapsWithSole [.Subscript a i p] e l env=pure false:=by cases e<;>rfl
def zn0{a i e:Expr}{p:Pos}{env:PySem.Env}:swappedStores [.Subscript a i p] e env=pure none:=by cases e<;>rfl
def znW{es:List Expr}{kk l:Nat}{p:Pos}{e:Expr}{env:PySem.Env}:swapsWithSole [.Tuple es kk p] e l env=pure false:=by cases e<;>rfl
def znZ{es:List Expr}{kk:Nat}{p:Pos}{e:Expr}{env:PySem.Env}(h:znt e=none):swappedStores [.Tuple es kk p] e env=pure none:=by cases e<;>first | rfl | cases h
def zkT{o e:Expr}{f:Str}{p:Pos}{l:Nat}{env:PySem.Env}:swapsWith e (some (.Attribute o f p)) l env=pure false:=by cases e<;>rfl
def zno(hs:zaE cl G k rc)(g:Gd cl G k X nm N E full){e:Expr}{x:Str}{px:Pos}{f:Fs}{pos:Pos}(h:zsp G rc nm N x e=some f):PS X (.Assign [.Name x px] e pos) (tS cl E own f):=by
 unfold zsp at h;obtain ⟨i,h1,h⟩:=zaa h
 cases hl:lcE e with
 | some c =>
  rw [hl] at h;obtain ⟨gg,h2,h⟩:=zaa h;obtain ⟨fe,h3,h⟩:=zaa h;cases h;rw [zpq hl,zie h2];exact zkG hs g h1 h3
 | none =>
  rw [hl] at h;dsimp only at h;split at h
  ·cases h
  ·rename_i hc;obtain ⟨⟨o,fe⟩,h2,h⟩:=zaa h;cases h;obtain ⟨a1,a2,a3,a4,a5⟩:=zdq g.gx g.sto h1;obtain ⟨b1,b2,_,_⟩:=hs X nm N E g.gx _ o fe h2;have sw:=zee (t:=some (.Name x px)) (l:=pos.line) (env:=X.env) (by simpa using hc)
   cases o with
   | false=>exact zn9 a2 a3 a4 b2 sw a5
   | true=>exact zhz a2 a3 a4 (b1 rfl) sw a5
def znn(hs:zaE cl G k rc)(g:Gd cl G k X nm N E full){e:Expr}{t:List Expr×Nat×Pos}{f:Fs}{pos:Pos}(h:zsn rc nm N t e=some f):PS X (.Assign [.Tuple t.1 t.2.1 t.2.2] e pos) (tS cl E own f):=by
 have tupCase:swappedStores [.Tuple t.1 t.2.1 t.2.2] e X.env=pure none->((tgG true nm N N.length (.Tuple t.1 t.2.1 t.2.2)).bind fun t=>(shE rc nm N e).bind fun f=>some (zfC t f))=some f->PS X (.Assign [.Tuple t.1 t.2.1 t.2.2] e pos) (tS cl E own f):=by
  intro sw2 h;obtain ⟨t',h1,h⟩:=zaa h;obtain ⟨fe,h2,h⟩:=zaa h;cases h;exact PS.imp (zk3 (zar hs g.gx h2).1 (zlC g.gx g.sto h1) znW sw2 rfl) fun _ _ _ q=>zje q
 unfold zsn at h
 cases hv:znt e with
 | none =>
  rw [hv] at h;exact tupCase (znZ hv) h
 | some v =>
  rw [hv] at h;obtain ⟨xy,h1,h⟩:=zaa h;obtain ⟨x,h2,h⟩:=zaa h;obtain ⟨y,h3,h⟩:=zaa h;obtain ⟨ab,h4,h⟩:=zaa h;have ev:=zhk hv
  have et:t.1=[.Name x.1 x.2,.Name y.1 y.2]:=by rw [zkR h1,zca h2,zca h3]
  rw [zkR h4] at ev;obtain ⟨a,b⟩:=ab;dsimp only at h ev;split at h
  ·rename_i hp;obtain ⟨i,h1,h⟩:=zaa h;obtain ⟨j,h2,h⟩:=zaa h;split at h
   ·cases h
   ·rename_i hij;obtain ⟨⟨o1,f1⟩,h3,h⟩:=zaa h;obtain ⟨⟨o2,f2⟩,h4,h⟩:=zaa h;cases h;obtain ⟨_,a2,a3,_,_⟩:=zdq g.gx g.sto h1;obtain ⟨_,_,b3,_,_⟩:=zdq g.gx g.sto h2;obtain ⟨p1,p2,_,p4⟩:=hs X nm N E g.gx a o1 f1 h3;obtain ⟨q1,q2,_,q4⟩:=hs X nm N E g.gx b o2 f2 h4
    have hx:X.env.scope.names.lookup x.1=some .local/\X.env.scope.names.lookup y.1=some .local:=by
     unfold zjZ at hp;simp only [yab,yaV] at hp;rw [g.sc];exact ⟨hp.1.1.1.1.1.1.1,hp.1.1.1.1.1.1.2⟩
    have P1:PE X a (tO cl E o1 f1):=by cases o1 with | false=>exact p2 | true=>exact p1 rfl
    have P2:PE X b (tO cl E o2 f2):=by cases o2 with | false=>exact q2 | true=>exact q1 rfl
    rw [et,ev];exact PS.imp (zoJ g.gx.calm a2 a3 b3 hij hx.1 hx.2 (zbI P1 (zbI P2 zdw (zaP (zad q4))) (zaP (zad p4))) (zoZ g.kind g.sc hp) rfl) fun _ _ _ q=>zjY q
  ·split at h
   ·rename_i hc;refine tupCase ?_ h;rw [et,ev];rw [yb2] at hc
    rcases hc with hc | hc
    rotate_left
    ·exact zpZ g.sc hc
    rw [yab] at hc
    cases a<;>first | (cases hc.1;done) | (cases b<;>first | (cases hc.2;done) | exact zpW)
   ·cases h
def znq(hs:zaE cl G k rc)(g:Gd cl G k X nm N E full){o e:Expr}{fl:Str}{ap:Pos}{f:Fs}{pos:Pos}(h:zsr G rc nm N o fl e=some f):PS X (.Assign [.Attribute o fl ap] e pos) (tS cl E own f):=by
 unfold zsr at h;obtain ⟨x,h1,hz⟩:=zaa h;have e1:=zgh h1;clear h h1;subst e1;split at hz
 ·rename_i hd;split at hz
  ·rename_i hf;rw [yab] at hf;obtain ⟨i,h1,hz⟩:=map_some hz;subst hz;obtain ⟨s1,s2,s3,s4⟩:=g.gx.slot h1;obtain ⟨p,rfl⟩:=zkB hd;exact zlP s1 s2 s3 s4 g.gx.same (g.gx.gok.fk _ _ hf.2) zkT
  ·cases hz
 ·split at hz
  ·cases hz
  ·rename_i hf;rw [Bool.not_eq_true,Bool.or_eq_false_iff,Bool.not_eq_false'] at hf;obtain ⟨fo,h2,hz⟩:=zaa hz;obtain ⟨fe,h3,hz⟩:=zaa hz;cases hz;exact zlO g.gx.same (g.gx.gok.fk _ _ hf.2) (zar hs g.gx h2).1 (zar hs g.gx h3).1 zkT
def znp(hs:zaE cl G k rc)(g:Gd cl G k X nm N E full){o ix e:Expr}{fl:Str}{ap p3:Pos}{f:Fs}{pos:Pos}(h:zsq G rc nm N o fl ix e=some f):PS X (.Assign [.Subscript (.Attribute o fl ap) ix p3] e pos) (tS cl E own f):=by
 unfold zsq at h;split at h
 ·rename_i hc;rw [yab,yab,yab,ybr] at hc;obtain ⟨x,h1,hz⟩:=zaa h;have e1:=zgh h1;clear h h1;subst e1;obtain ⟨i,h1,hz⟩:=zaa hz;obtain ⟨fo,h2,hz⟩:=zaa hz;obtain ⟨fe,h3,hz⟩:=zaa hz;cases hz;obtain ⟨s1,s2,s3,s4⟩:=g.gx.slot h1;refine zlM s1 s2 s3 s4 g.gx.u16 g.gx.same (g.gx.gok.fk _ _ hc.2) (zar hs g.gx h2).1 ?_ (zar hs g.gx h3).1 znX zn0 ?_
  ·cases o<;>first | rfl | cases hc.1.1.1
  ·intro _;rfl
 ·cases h
def zp8(hs:zaE cl G k rc)(g:Gd cl G k X nm N E full){tg e:Expr}{f:Fs}{pos:Pos}(h:zqF G rc nm N tg e=some f):PS X (.Assign [tg] e pos) (tS cl E own f):=by
 unfold zqF at h
 cases h1:zer tg with
 | some x=>rw [h1] at h;rw [zca h1];exact zno hs g h
 | none =>
  rw [h1] at h
  cases h2:znt tg with
  | some t=>rw [h2] at h;rw [zhk h2];exact znn hs g h
  | none =>
   rw [h2] at h
   cases h3:znF tg with
   | some a=>rw [h3] at h;rw [zfW h3];exact znq hs g h
   | none =>
    rw [h3] at h;obtain ⟨q,h4,h⟩:=zaa h;rw [zlI h4];unfold zqa at h
    cases h5:znF q.1 with
    | some a=>rw [h5] at h;rw [zfW h5];exact znp hs g h
    | none =>
     rw [h5] at h;cases h
def zkc{e:Expr}{c:Mc}(h:zkd e=some c):e=.Call (.Attribute (.Name c.x c.px) c.m c.ap) [c.a] [] c.cp:=by
 unfold zkd at h;obtain ⟨c1,h1,h⟩:=zaa h;split at h
 ·rename_i hk;obtain ⟨t,h2,h⟩:=zaa h;obtain ⟨x,h3,h⟩:=zaa h;obtain ⟨a,h4,h⟩:=zaa h;cases h;rw [zgy h1,zfW h2,zca h3,zie h4,ybx.mp hk]
 ·cases h
def zm3(hs:zaE cl G k rc)(g:Gd cl G k X nm N E full){e:Expr}{f:Fs}{pos:Pos}(h:zm4 G rc nm N e=some f):PS X (.Expr e pos) (tS cl E own f):=by
 unfold zm4 at h
 cases hc:zkd e with
 | some c =>
  obtain ⟨x,px,m,ap,a,cp⟩:=c;obtain rfl:=zkc hc;rw [hc] at h;dsimp only at h;split at h
  ·rename_i hm;rw [yab] at hm;have em:=yap hm.1;subst em;obtain ⟨i,h1,h⟩:=zaa h;obtain ⟨fe,h2,h⟩:=zaa h;cases h;obtain ⟨s1,s2,s3,s4⟩:=g.gx.slot h1;obtain ⟨a1,_,a3⟩:=zar hs g.gx h2;exact zoa s1 s2 s3 s4 a1 (zad a3) hm.2
  split at h
  ·cases h
  ·rename_i hc;obtain ⟨fe,h2,h⟩:=map_some h;subst h;exact zkV (zar hs g.gx h2).1 (zee (by simpa using hc))
 | none =>
  rw [hc] at h;dsimp only at h;split at h
  ·cases h
  ·rename_i hc;obtain ⟨fe,h2,h⟩:=map_some h;subst h;exact zkV (zar hs g.gx h2).1 (zee (by simpa using hc))
def zoy(hs:zaE cl G k rc)(g:Gd cl G k X nm N E full){e:Expr}{f:Fs}{pos:Pos}(h:zrl rc nm N own e=some f):PS X (.Return (some e) pos) (tS cl E own f):=by
 unfold zrl at h;split at h
 ·split at h
  ·obtain ⟨i,h1,h⟩:=map_some h;subst h;obtain ⟨s1,s2,s3,s4⟩:=g.gx.slot h1;exact zlJ s1 s2 s3 s4
  ·obtain ⟨⟨o,fe⟩,h1,h⟩:=zaa h;dsimp only at h;split at h
   ·rename_i ho;cases h;exact zlK ((hs X nm N E g.gx _ o fe h1).1 ho)
   ·cases h
 ·obtain ⟨fe,h2,h⟩:=map_some h;subst h;exact zn4 (zar hs g.gx h2).1
def zq7(hs:zaE cl G k rc){rs:Bool->List Stmt->Option Fs}(hr:∀(fl:Bool) (X:Cx) (E:St->XK),Gd cl G k X nm N E fl->∀b f,rs fl b=some f->PSs X b (tS cl E own f))(g:Gd cl G k X nm N E full){st:Stmt}{f:Fs}(h:stG G rc rs nm N own full st=some f):PS X st (tS cl E own f):=by
 cases st with
 | Pass p=>cases h;exact zlN
 | Break p=>cases h;exact zn7
 | Assign ts e p =>
  obtain ⟨tg,h1,h⟩:=zaa (show ((zo6 ts).bind fun tg=>zqF G rc nm N tg e)=some f from h);obtain rfl:=zie h1;exact zp8 hs g h
 | Expr e p=>exact zm3 hs g h
 | AugAssign tg op e p =>
  obtain ⟨x,h1,hz⟩:=zaa (show ((zer tg).bind fun x=>(zqD op).bind fun gg=>(tgI true nm N N.length x.1).bind fun i=>(shE rc nm N e).bind fun f=>some (zow i gg f))=some f from h);obtain ⟨gg,h2,hz⟩:=zaa hz;obtain ⟨i,h3,hz⟩:=zaa hz;obtain ⟨fe,h4,hz⟩:=zaa hz;cases hz;rw [zca h1];obtain ⟨_,a2,a3,a4,a5⟩:=zdq g.gx g.sto h3;exact zn8 h2 a2 a3 a4 (zar hs g.gx h4).1 a5
 | Return o p =>
  cases o with
  | some e=>exact zoy hs g h
  | none =>
   have h':(if own then none else some zjB)=some f:=h;split at h'
   ·cases h'
   ·rename_i ho;cases h'
    have:own=false:=by simpa using ho
    subst this;exact zlL
 | If c a b p =>
  have h':(if zbf c then (shE rc nm N c).bind fun f=>(rs full a).bind fun g=>(rs full b).bind fun h=>some (sIf f g h) else none)=some f:=h;split at h'
  ·rename_i ht;obtain ⟨fc,h1,h⟩:=zaa h';obtain ⟨fa,h2,h⟩:=zaa h;obtain ⟨fb,h3,h⟩:=zaa h;cases h;exact zq8 ((zar hs g.gx h1).2.1 ht) (hr full X E g a fa h2) (hr full X E g b fb h3)
  ·cases h'
 | For tg it body el p =>
  have h':(if full&&el.isEmpty then (zgV G rc nm N tg it).bind fun i=>(tgG true nm N N.length tg).bind fun t=>(rs full body).bind fun b=>some (zhO t i b) else none)=some f:=h;split at h'
  ·rename_i hf;rw [yab] at hf;obtain rfl:=ybx.mp hf.2;obtain ⟨it,h1,h⟩:=zaa h';obtain ⟨t,h2,h⟩:=zaa h;obtain ⟨fb,h3,h⟩:=zaa h;cases h;obtain ⟨i1,i2⟩:=ziB hs g.gx (tg:=_) h1;exact zn6 (g.own hf.1) g.gx.calm i1 (zlC g.gx g.sto h2) (hr full X E g _ fb h3) (zeo i2)
  ·cases h'
 | Raise ea eb p =>
  have h':rzG G rc nm N full ea eb=some f:=h;unfold rzG at h';split at h'
  ·rename_i hb;obtain rfl:=Option.isNone_iff_eq_none.mp hb;obtain ⟨e0,e1,hz⟩:=zaa h';obtain ⟨c0,h1,hy⟩:=zaa hz;obtain ⟨⟨c,p⟩,h2,hx⟩:=zaa hy;have e2:=zgy h1;obtain ⟨fn,args,kws,cp⟩:=c0;have e3:fn=.Name c p:=zca h2;clear h h' hz hy h1 h2;subst e1;subst e2;subst e3;dsimp only at hx ⊢;split at hx
   ·rename_i hf;simp only [yab] at hf;obtain ⟨⟨⟨⟨k0,a0⟩,f0⟩,g0⟩,x0⟩:=hf;obtain rfl:=ybx.mp k0
    cases args with
    | nil=>cases a0
    | cons e es =>
    obtain ⟨fs,h1,h⟩:=zaa hx;cases h;obtain ⟨g1,g2,_⟩:=g.gx.glob g0;obtain ⟨m,z⟩:=g.gx.gok.exc c x0;obtain ⟨a1,a2,_⟩:=zdr hs g.gx h1;rw [ybb,yab] at a2;refine PS.imp (zhX (g.raises f0) g.gx.calm g1 m z a1 (zaP a2.1) (za8 a2.2) g2) ?_;rintro De σ H ⟨B,w,ρ,S,rfl,R,q⟩;refine ⟨B,w,ρ,S,rfl,R,?_⟩;unfold sRz at q
    cases hv:zae fs ρ S with
    | bad=>rwa [hv] at q
    | exc c S1=>rw [hv] at q;exact fun w' R' F'=>q σ w' R' F'
    | ok ds S1 =>
     rw [hv] at q;dsimp only at q
     cases hz:zaT ds.length with
     | false=>rw [hz,if_neg (by decide)] at q;exact q.elim
     | true =>
      rw [hz,if_pos rfl] at q;exact fun vs w' R' F' sh=>⟨by rw [sh.length];exact zaN hz,q σ w' R' F'⟩
   ·cases hx
  ·cases h'
 | _=>cases h
theorem zja{ds:Stmt->Option Fs}(hd:∀st f,ds st=some f->PS X st (tS cl E own f)):∀{b:List Stmt} {f:Fs},blk ds b=some f->PSs X b (tS cl E own f)
 | [],f,h=>by cases h;exact zn5
 | s::r,f,h=>by
  unfold blk at h;obtain ⟨f1,h1,h⟩:=zaa h;obtain ⟨f2,h2,h⟩:=zaa h;cases h;exact zlQ (hd s f1 h1) (zja hd h2)
theorem zgv:∀(n:Nat) (fl:Bool) (X:Cx) (E:St->XK),Gd cl G k X nm N E fl->∀st f,zkD G own n fl nm N st=some f->PS X st (tS cl E own f)
 | 0,_,_,_,_,_,_,h=>by cases h
 | n+1,fl,X,E,g,st,f,h=>by
  unfold zkD at h;obtain ⟨f1,h1,h⟩:=map_some h;subst h;exact zq9 _ (zq7 (zlq n) (fun fl X E g b f hb=>zja (fun st f hst=>zgv n fl X E g st f hst) hb) g h1)
end
noncomputable def zdb(nN:Nat)(own:Bool)(fs:Fs)(ds:List D)(S:Sto):Out D:=match fs (ds.map (fun d=>some (false,d))++List.replicate (nN-ds.length) none) S with
 | .rt d S'=>.ok d S'
 | .nx _ S'=>if own then .bad else .ok .non S'
 | .ex c _ S'=>.exc c S'
 | _=>.bad
noncomputable def zaz(G:Genv)(own:Bool)(N:List Str)(st:Stmt):Option Fs:=blk (zkD G own 40 true (zab st).names N) (zbt st)
def zpJ{P:Program}{wo:PySem.World}{K:PySem.W.Frag}{mg:Z6}{base:Heap}{cl:Cf}{G:Genv}{k:Nat}{x qual:Str}{st:Stmt}{f:Addr}{fd:FuncData}{N ps:List Str}{own:Bool}{fs:Fs}(F:Fun K x qual st f fd)(S:FnScope N ps (zab st))(hG:GOk cl G P wo K mg base k)
  (hk:K=cl.K) (hP:P=cl.P) (hW:wo=cl.wo) (hd:zaz G own N st=some fs):FnOk P wo K mg base (CXE P wo) (k+1) f fd ps (zgG cl ps.length own (zdb N.length own fs)):=by
 obtain ⟨oc,od,kV,doc,pm,an,cdv,ct,osl,rfl,lk,hcd⟩:=F.ex;refine zr2 lk hcd S (fun vs H Q E h=>h.1) fun A outer s H vs Q E hr hsp=>?_
 refine ⟨tS cl (fun _=>E) own fs,?_,?_⟩
 ·have g:Gd cl G k (zjp (CXE P wo) P wo K mg base N qual (zab st) f cdv A outer s H E) (zab st).names N (fun _=>E) true :=
   ⟨⟨hG,hr,rfl,fun pins σ H1 s1 e s' I q=>zrt pins σ H1 s1 e s' I q,rfl,hk,hP,hW,S.nd,fun x kd h=>⟨kd,h,.inl rfl⟩,fun x h=>h⟩,fun _=>rfl,S.kind,rfl,fun _=>PassesOwn.leaving,fun _ C pins σ H1 s1 e h' vs I mk q=>zl7 C pins σ H1 s1 e h' vs I mk q,rfl,rfl⟩
  exact zja (fun st f hst=>zgv 40 true _ _ g st f hst) hd
 ·obtain ⟨hl,B,w,ds,S0,rfl,W,sh,q⟩:=hsp;have hdl:ds.length=vs.length:=sh.length.symm;refine ⟨B,w,ds.map (fun d=>some (false,d))++List.replicate (N.length-ds.length) none,S0,rfl,⟨W,?_,fun i o d hi=>?_⟩,?_⟩
  ·unfold L2.zef;rw [yar,yar,yak,yak,yaK,yaK,hdl]
  ·by_cases hlt:i<ds.length
   ·rw [yaH (by rw [yak];exact hlt),yax] at hi
    cases hdi:ds[i]? with
    | none=>rw [hdi] at hi;cases hi
    | some d' =>
     rw [hdi] at hi;cases hi;obtain ⟨v,e1,e2⟩:=sh.at hdi;refine ⟨v,?_,e2⟩;unfold L2.zef;rw [yaH (by rw [yak];omega),yax,e1];rfl
   ·rw [yat (by rw [yak];omega),ybs] at hi
    split at hi<;>cases hi
  ·unfold zdb at q
   cases hf:fs (ds.map (fun d=>some (false,d))++List.replicate (N.length-ds.length) none) S0 with
   | bad=>rwa [hf] at q
   | bk _ _=>rw [hf] at q;exact q.elim
   | ct _ _=>rw [hf] at q;exact q.elim
   | rt d S'=>rwa [hf] at q
   | ex c ρ' S'=>rw [hf] at q;exact fun σ' w' R' F'=>q w' R'.wd F'
   | nx ρ' S' =>
    rw [hf] at q;dsimp only at q
    cases own with
    | true=>exact q.elim
    | false=>exact fun σ' w' R' F'=>q .non w' R'.wd F' .non
end S2
namespace S2
open PySem PySem.Spec PyProof.Rows L2
structure Tab where
 con:List (Str×D)
 blt:List Str
 exc:List Str
 und:List (Str×Str)
 rz:List Str
 fk:List (Str×Str)
 df:List Str
 ds:List Str
noncomputable def zrT(rz exc:List Str)(c C:Str):Option Bool:=if rz.contains c then (if C = "ValueError" then some true else if exc.contains C then some (decide (C=c)||decide (C = "FloorError")) else none) else none
noncomputable def zte(l:List (Str×Str))(c C:Str):Bool:=l.contains (c,C)
structure Fn3 where
 cur:Str
 fs:List (Str×FnI)
 ms:List (Str×Str×FnI)
 ks:List (Str×List D×FnI)
noncomputable def Gn(T:Tab)(F:Fn3):Genv:=⟨fun x=>T.con.lookup x,fun x=>F.fs.lookup x,fun x=>T.blt.contains x,fun x=>T.exc.contains x,zte T.und,zrT T.rz T.exc,⟨F.cur,zte T.fk,fun f=>T.df.contains f,fun m=>F.ms.lookup m,fun c=>F.ks.lookup c⟩,fun x=>T.ds.contains x⟩
noncomputable def Fn3.fn(F:Fn3)(x:Str)(fi:FnI):Fn3:=⟨F.cur,(x,fi)::F.fs,F.ms,F.ks⟩
section
variable{cl:Cf}{T:Tab}{P:Program}{wo:PySem.World}{K:PySem.W.Frag}{mg:Z6}{base:Heap}{k:Nat}{fs:Fn3}
def zde{α:Type}{x y:Str}{a:α}{l:List (Str×α)}{b:α}(h:((x,a)::l).lookup y=some b):(y=x/\b=a)\/l.lookup y=some b:=by
 rw [yau] at h
 cases e:y == x with
 | true=>rw [e] at h;cases h;exact .inl ⟨eq_of_beq e,rfl⟩
 | false=>rw [e] at h;exact .inr h
def zd6{α:Type}{p:α->Prop}:∀x∈([]:List α),p x:=fun _ h=>nomatch h
def zba{α:Type}{p:α->Prop}{a:α}{l:List α}(h:p a)(t:∀x∈l,p x):∀x∈a::l,p x:=fun x hx=>(yam.mp hx).elim (fun e=>e ▸ h) (t x)
theorem ze5{α:Type}{x:Str}{a:α}:∀{l:List (Str×α)},l.lookup x=some a->(x,a)∈l
 | [],h=>by cases h
 | (y,b)::l,h=>by
  rcases zde h with ⟨rfl,rfl⟩ | h
  ·exact yaA
  ·exact yas _ (ze5 h)
noncomputable def zst(K:PySem.W.Frag)(cl:Cf)(exc:List Str)(c:Str):Prop:=PySem.W.ExcCls K (cl c)/\PySem.W.kitOne K (.ref (cl c)) (.type "ValueError")=some true/\∀C∈exc,PySem.W.kitOne K (.ref (cl c)) (.ref (cl C))=some (decide (C=c)||decide (C = "FloorError"))
def zvW(hc:∀p∈T.con,∃v u,mg p.1=some u/\zav v u/\∀w,Shd cl w v p.2)(hb:∀x∈T.blt,mg x=none)(he:∀c∈T.exc,mg c=some (.ref (cl c))/\PySem.W.excIn K (cl c) bmV "ValueError.__new__" = true)(hu:∀p∈T.und,L2.zns K (cl p.1) (cl p.2))(hx:∀c∈T.rz,zst K cl T.exc c)(hfk:∀p∈T.fk,Cls cl.K (cl p.1)/\zcp cl.K (cl p.1) p.2):GOk cl (Gn T ⟨"",[],[],[]⟩) P wo K mg base 0 where
 fk:=fun c f h=>hfk (c,f) (by simpa using (show T.fk.contains (c,f)=true from h))
 mt:=fun m c fi h=>by cases h
 mks:=fun c dds fi h=>by cases h
 con:=fun x d h=>hc (x,d) (ze5 h)
 fn:=fun x fi h=>by cases h
 blt:=fun x h=>hb x (by simpa using (show T.blt.contains x=true from h))
 exc:=fun c h=>he c (by simpa using (show T.exc.contains c=true from h))
 und:=fun c C h=>hu (c,C) (by simpa using (show T.und.contains (c,C)=true from h))
 isx:=fun c C b h=>by
  have h':zrT T.rz T.exc c C=some b:=h;unfold zrT at h';split at h'
  ·rename_i hc;obtain ⟨x1,x2,x3⟩:=hx c (by simpa using hc);refine ⟨x1,?_⟩;unfold zur;split at h'
   ·rename_i hC;cases h';rw [if_pos hC];exact x2
   ·rename_i hC;rw [if_neg hC];split at h'
    ·rename_i hm;cases h';exact x3 C (by simpa using hm)
    ·cases h'
  ·cases h'
def GOk.add{x:Str}{fi:FnI}{f:Addr}{fd:FuncData}{ps:List Str}(g:GOk cl (Gn T fs) P wo K mg base k)(m:mg x=some (.ref f))(kp:PySem.W.keepIn K (.ref f)=true)(b:zck K fd ps [])(F:FnOk P wo K mg base (CXE P wo) (k+1) f fd ps (zgG cl fi.ar fi.own fi.run)) :
  GOk cl (Gn T (fs.fn x fi)) P wo K mg base (k+1) where
 con:=g.con
 fn:=fun y fj h=>by
  rcases zde h with ⟨rfl,rfl⟩ | h
  ·exact ⟨f,fd,ps,m,kp,b,F⟩
  ·obtain ⟨f',fd',ps',h1,h2,h3,h4⟩:=g.fn y fj h;exact ⟨f',fd',ps',h1,h2,h3,h4.mono (ybg _)⟩
 blt:=g.blt
 exc:=g.exc
 und:=g.und
 isx:=g.isx
 fk:=g.fk
 mt:=fun m c fi h=>by
  obtain ⟨f',fd',ps',h1,h2,h3,h4⟩:=g.mt m c fi h;exact ⟨f',fd',ps',h1,h2,h3,h4.mono (ybg _)⟩
 mks:=fun c dds fi h=>by
  obtain ⟨f',fd',ps',dvs,ds,k',hk,z⟩:=g.mks c dds fi h;exact ⟨f',fd',ps',dvs,ds,k',Nat.le_succ_of_le hk,z⟩
end
noncomputable def zjx(K:PySem.W.Frag):Sp:=fun vs H Q _=>∃(a:Addr) (ns:List Int),vs=[.ref a]/\ns.length<=63/\zqG H/\SqL K H a (ns.map V.int)/\∀H',Q (.bl true) H'
def zpr{cl:Cf}{run:List D->Sto->Out D}(hr:∀l:List Int,l.length<=63->∃S,run [.scr l] []=.ok (.bl true) S):∀vs H Q E,zjx cl.K vs H Q E->zgG cl 1 false run vs H Q E:=by
 rintro vs H Q E ⟨a,ns,rfl,hl,hO,hS,q⟩;refine ⟨rfl,⟨fun _=>none,fun _=>none⟩,⟨H,fun _=>none,[]⟩,[.scr ns],[],rfl,⟨(fun a o h=>by cases h),(fun a r h=>by cases h),rfl,(fun n ob h=>by simp at h)⟩,.cons ?_ .nil,?_⟩
 ·rcases hS with (hS | ⟨o,hS⟩) | hS
  ·rcases hO a with z | ⟨o,xs,z⟩
   ·rw [hS] at z;cases z
   ·rw [hS] at z;cases z
  ·exact .scr hS rfl
  ·exact .scrK fun H=>.inr hS
 ·obtain ⟨S',e⟩:=hr ns hl;rw [e];intro v w' _ _ r;have r':Shd cl w' v (.bl true):=r;cases r';exact q _
end S2
namespace S2
open PySem PySem.Spec PyProof.Rows L2
section
variable{cl:Cf}{T:Tab}{P:Program}{wo:PySem.World}{K:PySem.W.Frag}{mg:Z6}{base:Heap}{k:Nat}{fs:Fn3}
end
end S2
namespace S2
open PySem PySem.Spec PyProof.Rows L2
structure FnT(K:PySem.W.Frag)(x q:Str)(st:Stmt)(f:Addr):Prop where
 ex:∃(oc:Value) (od:Option Addr) (kV dc pm:Value) (an:Option Addr) (cd ct:Value) (sl:Array (Option Value)),K.lookup f=some ⟨oc,od,.func (PySem.W.fnOf x q (zbA st) (zbt st) (zab st) .none kV dc pm an cd ct),sl⟩/\PySem.W.codeIn K cd q=true/\PySem.W.keepIn K (.ref f)=true/\PySem.W.isFn K (.ref f)=true
structure GFn(K:PySem.W.Frag)(x:Str)(st:Stmt):Prop where
 ex:∃f,PySem.W.nsIn K mainGlobals x=some (some (.ref f))/\FnT K x x st f
structure MFn(K:PySem.W.Frag)(C:Addr)(m q:Str)(st:Stmt):Prop where
 ex:∃f,PySem.W.findIn K (.ref C) m=some (some (.ref f))/\FnT K m q st f
noncomputable def BB(x q:Str)(st:Stmt)(ps:List Str):Prop:=∀(kV doc pm:Value) (an:Option Addr) (cdv ct:Value) (us:List Value),us.length=ps.length->bindArgs (PySem.W.fnOf x q (zbA st) (zbt st) (zab st) .none kV doc pm an cdv ct) ⟨us,[]⟩=pure (ps.zip us)
def bb0{p:List Value->Prop}(h:p []):∀us:List Value,us.length=0->p us:=fun us e=>by rw [ybw e];exact h
def bbS{n:Nat}{p:List Value->Prop}(h:∀a:Value,∀us:List Value,us.length=n->p (a::us)):∀us:List Value,us.length=n+1->p us:=fun us e=>by
 cases us with
 | nil=>cases e
 | cons a us=>exact h a us (Nat.succ.inj e)
def bb1{p:List Value->Prop}(h:∀a0:Value,p [a0]):∀us:List Value,us.length=1->p us:=bbS fun a0=>bb0 (h a0)
def bb2{p:List Value->Prop}(h:∀a0 a1:Value,p [a0,a1]):∀us:List Value,us.length=2->p us:=bbS fun a0=>bbS fun a1=>bb0 (h a0 a1)
def bb3{p:List Value->Prop}(h:∀a0 a1 a2:Value,p [a0,a1,a2]):∀us:List Value,us.length=3->p us:=bbS fun a0=>bbS fun a1=>bbS fun a2=>bb0 (h a0 a1 a2)
def bb4{p:List Value->Prop}(h:∀a0 a1 a2 a3:Value,p [a0,a1,a2,a3]):∀us:List Value,us.length=4->p us:=bbS fun a0=>bbS fun a1=>bbS fun a2=>bbS fun a3=>bb0 (h a0 a1 a2 a3)
def bb6{p:List Value->Prop}(h:∀a0 a1 a2 a3 a4 a5:Value,p [a0,a1,a2,a3,a4,a5]):∀us:List Value,us.length=6->p us:=bbS fun a0=>bbS fun a1=>bbS fun a2=>bbS fun a3=>bbS fun a4=>bbS fun a5=>bb0 (h a0 a1 a2 a3 a4 a5)
section
variable{cl:Cf}{T:Tab}{P:Program}{wo:PySem.World}{K:PySem.W.Frag}{mg:Z6}{base:Heap}{k:Nat}{fs:Fn3}
def FnT.un{x q:Str}{st:Stmt}{f:Addr}{ps:List Str}(p:FnT K x q st f)(b:BB x q st ps):∃fd,Fun K x q st f fd/\zck K fd ps []/\PySem.W.keepIn K (.ref f)=true/\PySem.W.isFn K (.ref f)=true:=by
 obtain ⟨oc,od,kV,dc,pm,an,cd,ct,sl,l,c,kp,i⟩:=p.ex;have U:=zll (st:=st) l c kp;exact ⟨_,U,U.binds b,kp,i⟩
def GOk.addG{x:Str}{st:Stmt}{N ps:List Str}{own:Bool}{f_:Fs}{h:Heap}(g:GOk cl (Gn T fs) P wo K mg base k)(X:K.In h)(G:h.Ns mainGlobals mg)(p:GFn K x st)(S:FnScope N ps (zab st))(hK:K=cl.K)(hP:P=cl.P)(hW:wo=cl.wo)(b:BB x x st ps)(hd:zaz (Gn T fs) own N st=some f_) :
  GOk cl (Gn T (fs.fn x ⟨ps.length,own,zdb N.length own f_⟩)) P wo K mg base (k+1):=by
 obtain ⟨f,a,p⟩:=p.ex;obtain ⟨fd,U,B,kp,_⟩:=p.un b;exact GOk.add g (ycL X G a) kp B (zpJ U S g hK hP hW hd)
end
end S2
namespace S2
open PySem
open L2 hiding D
noncomputable def zbi:Fs :=
  (zas (sFz [] (zbT (zg1 (eUn (zdG "tuple") (zan 0)) (zb2 leD leD (zan 1) (za5 ze7 [(zan 0)]) (zan 2)))))
  sNx)
noncomputable def zat:List S2.D->Sto->Out S2.D:=zdb 3 false zbi
noncomputable def zdL:Fs :=
  (zas (sFz [] (zcj 1 false (eIf (zaj gtD (za5 ze7 [(zan 0)]) (zao (.int 0))) (za5 ze7 [(zaj ixD (zan 0) (zao (.int 0)))]) (zao (.int 0)))))
  (zas (sFz [1] (zbT (zgZ [(za5 ze7 [(zan 0)]),(zah 1)])))
  sNx))
noncomputable def zbD:List S2.D->Sto->Out S2.D:=zdb 2 false zdL
noncomputable def zbk:Fs :=
  (zas (sFz [3,4] (zjC 2 (zgZ [(zah 3),(zah 4)]))) sNx)
noncomputable def zbM:Fs :=
  (zas (sFz [] (zhO (.one 4) (zdN (zaj ixD (zan 1) (zao (.int 1)))) zbk)) sNx)
noncomputable def zcv:Fs :=
  (zas (sFz [0] (zcj 1 false (eFn zbD [(zah 0)])))
  (zas (sFz [] (zcj 2 true (zg0 [])))
  (zas (sFz [] (zhO (.one 3) (zdN (zaj ixD (zan 1) (zao (.int 0)))) zbM))
  (zas (sFz [] (zhL 2))
  sNx))))
noncomputable def za1:List S2.D->Sto->Out S2.D:=zdb 5 true zcv
noncomputable def zcw:Fs :=
  (zas (sFz [] (zbT (zaj ixD (zaj ixD (zan 0) (zaj ixD (zan 1) (zao (.int 0)))) (zaj ixD (zan 1) (zao (.int 1))))))
  sNx)
noncomputable def zal:List S2.D->Sto->Out S2.D:=zdb 2 false zcw
noncomputable def zbK:Fs :=
  (zas (sFz [0,0] (zbT (zdO 1 (.one 0) (zbs (eFn za1 [(zah 0)])) (zaj zgP (eFn zal [(zah 1),(zah 0)]) (zao .non)) (zah 0) [0])))
  sNx)
noncomputable def zbh:List S2.D->Sto->Out S2.D:=zdb 1 true zbK
noncomputable def zbr:Fs :=
  (zas (sFz [] (sIf (zaj ltD (zan 1) (za5 ze7 [(zan 0)])) (zas (sFz [] (zbT (zaj ixD (zan 0) (zan 1)))) sNx) sNx))
  (zas (sFz [] (sIf (zaj eqD (zan 0) (zg0 [])) (zas (sFz [] (zbT (zao (.int 0)))) sNx) sNx))
  (zas (sFz [] (zbT (zaj zch (zaj zhd (zaj ixD (zan 0) (zaj zkb (zan 1) (za5 ze7 [(zan 0)]))) (zao (.int 31))) (zan 1))))
  sNx)))
noncomputable def za3:List S2.D->Sto->Out S2.D:=zdb 2 false zbr
noncomputable def zcA:Fs :=
  (zas (sFz [0,1] (zcj 3 false (zaj zkb (zaj zhd (zaj zch (eFn za3 [(zah 0),(zah 1)]) (zaj zhd (zao (.int 6151)) (zaj zch (zan 1) (zao (.int 1))))) (zao (.int 40692))) (zao (.int 2147483399)))))
  (zas (sFz [] (zbT (zaj zkb (zaj zkb (zaj zch (zaj zhd (zan 3) (zan 3)) (zaj zpT (zan 3) (zao (.int 31)))) (zao (.int 2147483629))) (zan 2))))
  sNx))
noncomputable def zai:List S2.D->Sto->Out S2.D:=zdb 4 false zcA
noncomputable def zaI:Fs :=
  (zas (sFz [1,3,5,0] (zcj 6 false (za5 zcF [(zdO 1 (.one 0) (zdN (zao (.int 4))) zjo (eFn zai [(zah 4),(zaj zch (zaj zch (zaj zch (zan 1) (zaj zhd (zao (.int 4)) (zan 3))) (zao (.int 2))) (zan 0)),(zah 2)]) [1,3,5,0])]))) (zas (sFz [0] (sIf (zaj eqD (eFn zai [(zah 0),(zaj zch (zaj zch (zan 1) (zao (.int 60))) (zan 5)),(zao (.int 3))]) (zao (.int 0))) (zas (sFz [] (zcj 6 false (zgZ [(zaj ixD (zan 6) (zao (.int 0))),(zaj ixD (zan 6) (zao (.int 1))),(zaj ixD (zan 6) (zao (.int 0))),(zaj ixD (zan 6) (zao (.int 1)))]))) sNx) sNx)) (zas (sFz [] (sIf (zaj zmz (zan 6) (zan 4)) (zas (sFz [6] (zjC 4 (zah 6))) sNx) sNx)) sNx)))
noncomputable def zb0:Fs :=
  (zas (sFz [0,1] (zcj 3 false (zaj zch (zao (.int 2)) (eFn zai [(zah 0),(zah 1),(zao (.int 2))]))))
  (zas (sFz [] (zcj 4 true (zg0 [])))
  (zas (sFz [0,2] (zhO (.one 5) (zdN (zaj zch (zao (.int 1)) (eFn zai [(zah 0),(zaj zch (zan 1) (zao (.int 1))),(zah 2)]))) zaI))
  (zas (sFz [] (zbT (za5 zcF [(zan 4)])))
  sNx))))
noncomputable def zbw:List S2.D->Sto->Out S2.D:=zdb 7 false zb0
noncomputable def zaJ:Fs :=
  (zas (sFz [0] (zcj 10 false (eFn zai [(zah 0),(zaj zch (zaj zch (zan 1) (zaj zhd (zao (.int 7)) (zan 7))) (zan 9)),(zaj zhd (za5 ze7 [(zan 2)]) (zan 5))]))) (zas (sFz [10] (zjC 8 (eIf (zaj ltD (zan 10) (za5 ze7 [(zan 2)])) (zah 10) (zao .non)))) sNx))
noncomputable def zbB:Fs :=
  (zas (sFz [] (zcj 8 true (zg0 []))) (zas (sFz [4] (zhO (.one 9) (zdN (zah 4)) zaJ)) (zas (sFz [] (zjC 6 (za5 zcF [(zan 8)]))) sNx)))
noncomputable def zb1:Fs :=
  (zas (sFz [] (zcj 6 true (zg0 [])))
  (zas (sFz [3] (zhO (.one 7) (zdN (zah 3)) zbB))
  (zas (sFz [] (zbT (za5 zcF [(zan 6)])))
  sNx)))
noncomputable def za7:List S2.D->Sto->Out S2.D:=zdb 11 false zb1
noncomputable def zbq:Fs :=
  (zas (sFz [0,1,0] (znx 3 4 false (zaj zch (zao (.int 1)) (eFn zai [(zah 0),(zah 1),(zao (.int 4))])) false (zaj zch (zao (.int 1)) (eFn zai [(zah 0),(zaj zch (zan 1) (zao (.int 1))),(zao (.int 4))]))))
  (zas (sFz [0,2,3,4,0] (zbT (eFn za7 [(zah 0),(zaj zch (zan 1) (zao (.int 2))),(zah 2),(zah 3),(zah 4),(zaj ixD (zg0 [(zao (.int 1)),(zao (.int 2)),(zao (.int 3))]) (eFn zai [(zah 0),(zaj zch (zan 1) (zao (.int 50))),(zao (.int 3))]))])))
  sNx))
noncomputable def zax:List S2.D->Sto->Out S2.D:=zdb 5 false zbq
noncomputable def zc7:Fs :=
  (zas (sFz [] (zbT (zg1 (eUn (zdG "int") (zan 0)) (eUn zfv (eUn (zdG "bool") (zan 0))))))
  sNx)
noncomputable def za2:List S2.D->Sto->Out S2.D:=zdb 1 false zc7
noncomputable def zcx:Fs :=
  (zas (sFz [1] (sIf (eOr (eUn zfv (eFn zat [(zah 1),(zao (.int 2)),(zao (.int 2))])) (eOr (eUn zfv (eFn za2 [(zaj ixD (zan 1) (zao (.int 0)))])) (eUn zfv (eFn za2 [(zaj ixD (zan 1) (zao (.int 1)))])))) (zas (sFz [] (zbT (zao (.bl false)))) sNx) sNx))
  (zas (sFz [0] (zcj 2 false (eFn zbD [(zah 0)])))
  (zas (sFz [] (zbT (zg1 (zb2 leD ltD (zao (.int 0)) (zaj ixD (zan 1) (zao (.int 0))) (zaj ixD (zan 2) (zao (.int 0)))) (zb2 leD ltD (zao (.int 0)) (zaj ixD (zan 1) (zao (.int 1))) (zaj ixD (zan 2) (zao (.int 1)))))))
  sNx)))
noncomputable def zbm:List S2.D->Sto->Out S2.D:=zdb 3 false zcx
noncomputable def zcB:Fs :=
  (zas (sFz [] (zbT (eIf (zaj eqD (zaj zkb (zan 1) (zaj ixD (zm8 "Ways" "size" (zah 0)) (zao (.int 1)))) (zao (.int 0))) (zaj ixD (zan 3) (zao (.int 3))) (zaj ixD (zan 2) (eUn znz (zao (.int 1)))))))
  sNx)
noncomputable def zcr:List S2.D->Sto->Out S2.D:=zdb 4 false zcB
noncomputable def zbb:Fs :=
  (zas (sFz [0,1] (sIf (eUn zfv (eFn zbm [(zah 0),(zah 1)])) (zas (sFz [] (sRz "NoPlace" [(zao (.str "there is no such place"))])) sNx) sNx))
  sNx)
noncomputable def zaK:List S2.D->Sto->Out S2.D:=zdb 2 false zbb
noncomputable def zbJ:Fs :=
  (zas (sFz [] (zcj 3 false (zaj ixD (zan 0) (zaj ixD (zan 1) (zao (.int 0))))))
  (zas (sFz [2] (zcj 4 false (zaj zch (zaj zch (eSl (zan 3) none (some (zaj ixD (zan 1) (zao (.int 1))))) (zgZ [(zah 2)])) (eSl (zan 3) (some (zaj zch (zaj ixD (zan 1) (zao (.int 1))) (zao (.int 1)))) none))))
  (zas (sFz [4] (zbT (zaj zch (zaj zch (eSl (zan 0) none (some (zaj ixD (zan 1) (zao (.int 0))))) (zgZ [(zah 4)])) (eSl (zan 0) (some (zaj zch (zaj ixD (zan 1) (zao (.int 0))) (zao (.int 1)))) none))))
  sNx)))
noncomputable def zaV:List S2.D->Sto->Out S2.D:=zdb 5 false zbJ
noncomputable def zcz:Fs :=
  (zas (sFz [0,0,1] (zbT (zdO 1 (.one 0) (zbs (eFn za1 [(zah 0)])) (zaj neD (eFn zal [(zah 1),(zah 0)]) (eFn zal [(zah 2),(zah 0)])) (zah 0) [0,1])))
  sNx)
noncomputable def zbG:List S2.D->Sto->Out S2.D:=zdb 2 true zcz
noncomputable def zdK:Fs :=
  (zas (sFz [0,1] (zny (eFn zaK [(zah 0),(zah 1)])))
  (zas (sFz [0,1] (zbT (eFn zal [(zah 0),(zah 1)])))
  sNx))
noncomputable def zaW:List S2.D->Sto->Out S2.D:=zdb 2 false zdK
end S2
namespace S2
open PySem
open L2 hiding D
noncomputable def Fo.seq(b:Fs):Fo->Fo | .nx ρ' S'=>b ρ' S' | o=>o
noncomputable def zqt(a b:Fs)(ρ:Env):Out D->Fo | .ok d S'=>(match isB d with | some true=>a ρ S' | some false=>b ρ S' | none=>.bad) | .exc x S'=>.ex x ρ S' | .bad=>.bad
noncomputable def zrR(i:Nat)(o:Bool)(ρ:Env):Out D->Fo | .ok d S'=>.nx (ρ.set i (some (o,d))) S' | .exc c S'=>.ex c ρ S' | .bad=>.bad
noncomputable def zrP(ρ:Env):Out D->Fo | .ok _ S'=>.nx ρ S' | .exc c S'=>.ex c ρ S' | .bad=>.bad
noncomputable def zrN(ρ:Env):Out D->Fo | .ok d S'=>.rt d S' | .exc c S'=>.ex c ρ S' | .bad=>.bad
noncomputable def zpz(S:Sto):Option (Option (Bool×D))->Fo | some (some (true,d))=>.rt d S | _=>.bad
noncomputable def zkn(i:Nat)(ρ:Env)(l:List D):Out D->Fo
 | .ok d S'=>if zaT l.length then .nx (ρ.set i (some (true,.lst (l++[d])))) S' else .bad
 | .exc c S'=>.ex c ρ S' | .bad=>.bad
noncomputable def zul(i:Nat)(f:Fe)(ρ:Env)(S:Sto):Option (Option (Bool×D))->Fo | some (some (true,.lst l))=>zkn i ρ l (f ρ S) | _=>.bad
noncomputable def zmN(i j:Nat)(o1 o2:Bool)(d1:D)(ρ:Env):Out D->Fo | .ok d2 S2=>.nx ((ρ.set i (some (o1,d1))).set j (some (o2,d2))) S2 | .exc c S'=>.ex c ρ S' | .bad=>.bad
noncomputable def zuc(i j:Nat)(o1 o2:Bool)(g:Fe)(ρ:Env):Out D->Fo | .ok d1 S1=>zmN i j o1 o2 d1 ρ (g ρ S1) | .exc c S'=>.ex c ρ S' | .bad=>.bad
noncomputable def zrO(S:Sto):Option Env->Fo | some ρ'=>.nx ρ' S | none=>.bad
noncomputable def zmS(t:Tg)(ρ:Env):Out D->Fo | .ok d S'=>zrO S' (t.put ρ d) | .exc c S'=>.ex c ρ S' | .bad=>.bad
noncomputable def zuh(t:Tg)(a:Fs)(ρ:Env):Out (List D)->Fo | .ok ds S'=>zgX t a ds ρ S' | .exc c S'=>.ex c ρ S' | .bad=>.bad
noncomputable def zt9(S:Sto):Option (Option (Bool×D))->Out D | some (some (false,d))=>.ok d S | _=>.bad
noncomputable def zuk(S:Sto):Option (Option (Bool×D))->Out D | some (some (_,d))=>.ok d S | _=>.bad
noncomputable def kUn(u:D->Option D):Out D->Out D | .ok a S=>Out.of (u a) S | .exc c S=>.exc c S | .bad=>.bad
noncomputable def ziz(u:D->D->Option D)(a:D):Out D->Out D | .ok b S=>Out.of (u a b) S | .exc c S=>.exc c S | .bad=>.bad
noncomputable def zrQ(u:D->D->Option D)(g:Fe)(ρ:Env):Out D->Out D | .ok a S=>ziz u a (g ρ S) | .exc c S=>.exc c S | .bad=>.bad
noncomputable def kIf(f g:Fe)(ρ:Env):Out D->Out D | .ok d S1=>(match isB d with | some true=>f ρ S1 | some false=>g ρ S1 | none=>.bad) | .exc c S=>.exc c S | .bad=>.bad
noncomputable def zrS(g:Fe)(ρ:Env):Out D->Out D | .ok d S1=>(match isB d with | some true=>g ρ S1 | some false=>.ok (.bl false) S1 | none=>.bad) | .exc c S=>.exc c S | .bad=>.bad
noncomputable def kOr(g:Fe)(ρ:Env):Out D->Out D | .ok d S1=>(match isB d with | some true=>.ok (.bl true) S1 | some false=>g ρ S1 | none=>.bad) | .exc c S=>.exc c S | .bad=>.bad
noncomputable def ze9(d:D):Out (List D)->Out (List D) | .ok ds S=>.ok (d::ds) S | .exc c S=>.exc c S | .bad=>.bad
noncomputable def zmP(fs:List Fe)(ρ:Env):Out D->Out (List D) | .ok d S=>ze9 d (zae fs ρ S) | .exc c S=>.exc c S | .bad=>.bad
noncomputable def zua:Out (List D)->Out D | .ok ds S=>if zaT ds.length then .ok (.tup ds) S else .bad | .exc c S=>.exc c S | .bad=>.bad
noncomputable def zue:Out (List D)->Out D | .ok ds S=>if zaT ds.length then .ok (.lst ds) S else .bad | .exc c S=>.exc c S | .bad=>.bad
noncomputable def zmR(u:List D->Option D):Out (List D)->Out D | .ok ds S=>Out.of (u ds) S | .exc c S=>.exc c S | .bad=>.bad
noncomputable def kFn(r:List D->Sto->Out D):Out (List D)->Out D | .ok ds S=>r ds S | .exc c S=>.exc c S | .bad=>.bad
noncomputable def zdD(v:D->D->Option D)(b:D):Out D->Out D | .ok c S=>Out.of (v b c) S | .exc c S=>.exc c S | .bad=>.bad
noncomputable def zdC(v:D->D->Option D)(h:Fe)(ρ:Env)(b:D)(S:Sto):Option D->Out D | some d=>(match isB d with | some true=>zdD v b (h ρ S) | some false=>.ok (.bl false) S | none=>.bad) | none=>.bad
noncomputable def zes(u v:D->D->Option D)(h:Fe)(ρ:Env)(a:D):Out D->Out D | .ok b S=>zdC v h ρ b S (u a b) | .exc c S=>.exc c S | .bad=>.bad
noncomputable def zle(u v:D->D->Option D)(g h:Fe)(ρ:Env):Out D->Out D | .ok a S=>zes u v h ρ a (g ρ S) | .exc c S=>.exc c S | .bad=>.bad
noncomputable def zuf:Out D->Out (Option Int) | .ok (.int i) S=>.ok (some i) S | .ok _ _=>.bad | .exc c S=>.exc c S | .bad=>.bad
noncomputable def zqo(d:D)(l:Option Int):Out (Option Int)->Out D | .ok u S=>Out.of (slD d l u) S | .exc c S=>.exc c S | .bad=>.bad
noncomputable def zqp(d:D)(u:Option Fe)(ρ:Env):Out (Option Int)->Out D | .ok l S=>zqo d l (zbR u ρ S) | .exc c S=>.exc c S | .bad=>.bad
noncomputable def kSl(l u:Option Fe)(ρ:Env):Out D->Out D | .ok d S=>zqp d u ρ (zbR l ρ S) | .exc c S=>.exc c S | .bad=>.bad
noncomputable def ziw:Out D->Out (List D) | .ok (.lst l) S=>.ok l S | .ok (.tup l) S=>.ok l S | .ok _ _=>.bad | .exc c S=>.exc c S | .bad=>.bad
noncomputable def zpy:Out (List D)->Out (List D) | .ok ds S1=>(match ds with | [.int j]=>if -1000000<=j/\j<=1000000 then .ok (zaw 0 j) S1 else .bad | _=>.bad) | .exc c S=>.exc c S | .bad=>.bad
noncomputable def zpx:Out (List D)->Out (List D) | .ok ds S1=>(match ds with | [.int i,.int j]=>if (-1000000<=i/\i<=1000000)/\-1000000<=j/\j<=1000000 then .ok (zaw i j) S1 else .bad | _=>.bad) | .exc c S=>.exc c S | .bad=>.bad
noncomputable def ziy:Out (List D)->Out D | .ok ys S2=>if zaT ys.length then .ok (.lst ys) S2 else .bad | _=>.bad
noncomputable def zmQ(tg:Tg)(c elt:Fe)(ρ0:Env):Out (List D)->Out D | .ok ds S1=>ziy (zb3 tg c elt ρ0 ds S1) | .exc c S=>.exc c S | .bad=>.bad
noncomputable def zuj:Option (Option (Bool×D))->Option (Bool×D) | some (some (false,d))=>some (false,d) | _=>none
noncomputable def zqu(ρ:Env)(i:Nat):Option (Option (Bool×D))->Env | some (some (true,d))=>ρ.set i (some (false,d)) | _=>ρ
noncomputable def zqq(own:Bool):Fo->Out D | .rt d S'=>.ok d S' | .nx _ S'=>if own then .bad else .ok .non S' | .ex c _ S'=>.exc c S' | _=>.bad
noncomputable def kRz(c:Str)(ρ:Env):Out (List D)->Fo | .ok ds S'=>if zaT ds.length then .ex c ρ S' else .bad | .exc x S'=>.ex x ρ S' | .bad=>.bad
noncomputable def zqr(u:List D->D->Option D)(l:List D):Out D->Out D | .ok d S=>Out.of (u l d) S | .exc c S=>.exc c S | .bad=>.bad
noncomputable def kMt(u:List D->D->Option D)(f:Fe)(ρ:Env)(S:Sto):Option (Option (Bool×D))->Out D | some (some (_,.lst l))=>zqr u l (f ρ S) | _=>.bad
section
variable{ρ:Env}{S:Sto}{f g h k c:Fe}{a b:Fs}
@[simp] def zuW{u:List D->D->Option D}{i:Nat}:eMt u i f ρ S=kMt u f ρ S ρ[i]?:=by
 show (match ρ[i]? with | some (some (_,.lst l))=>(f ρ S).bind fun d S1=>Out.of (u l d) S1 | _=>.bad)=_
 cases ρ[i]? with
 | none=>rfl
 | some o=>cases o with
  | none=>rfl
  | some p =>
   obtain ⟨b,d⟩:=p
   cases d with
   | lst l=>show ((f ρ S).bind fun d S1=>Out.of (u l d) S1)=zqr u l (f ρ S);cases f ρ S<;>rfl
   | _=>rfl
@[simp] def zwi{u:List D->D->Option D}{o:Bool}{l:List D}:kMt u f ρ S (some (some (o,.lst l)))=zqr u l (f ρ S):=(rfl)
@[simp] def zvy{u:List D->D->Option D}{l:List D}{d:D}:zqr u l (.ok d S)=Out.of (u l d) S:=(rfl)
@[simp] def zsy:zas a b ρ S=(a ρ S).seq b:=by
 show (match a ρ S with | .nx ρ' S'=>b ρ' S' | o=>o)=_
 cases a ρ S<;>rfl
@[simp] def ztB:(Fo.nx ρ S).seq b=b ρ S:=(rfl)
@[simp] def ztA{d:D}:(Fo.rt d S).seq b=.rt d S:=(rfl)
@[simp] def ztz:(Fo.bk ρ S).seq b=.bk ρ S:=(rfl)
@[simp] def zty:(Fo.ct ρ S).seq b=.ct ρ S:=(rfl)
@[simp] def ztx{x:Str}:(Fo.ex x ρ S).seq b=.ex x ρ S:=(rfl)
@[simp] def ztw:Fo.bad.seq b=.bad:=(rfl)
@[simp] def zqR:zm9 ρ S=.ok (zup []) S:=(rfl)
@[simp] def zuD{is:List Nat}:sFz is a ρ S=a (frz is ρ) S:=(rfl)
@[simp] def zsY:frz [] ρ=ρ:=(rfl)
@[simp] def zsX{i:Nat}{is:List Nat}:frz (i::is) ρ=frz is (frz1 ρ i):=(rfl)
@[simp] def zuR(i:Nat):frz1 ρ i=zqu ρ i ρ[i]?:=(rfl)
@[simp] def ztT{i:Nat}{d:D}:zqu ρ i (some (some (true,d)))=ρ.set i (some (false,d)):=(rfl)
@[simp] def ztS{i:Nat}{d:D}:zqu ρ i (some (some (false,d)))=ρ:=(rfl)
@[simp] def ztR{i:Nat}:zqu ρ i (some none)=ρ:=(rfl)
@[simp] def zuB:sNx ρ S=.nx ρ S:=(rfl)
@[simp] def zuE:sBk ρ S=.bk ρ S:=(rfl)
@[simp] def zsD{i:Nat}{o:Bool}:zcj i o f ρ S=zrR i o ρ (f ρ S):=(rfl)
@[simp] def zt4{i:Nat}{o:Bool}{d:D}:zrR i o ρ (.ok d S)=.nx (ρ.set i (some (o,d))) S:=(rfl)
@[simp] def zt3{i:Nat}{o:Bool}{x:Str}:zrR i o ρ (.exc x S)=.ex x ρ S:=(rfl)
@[simp] def zsC:zny f ρ S=zrP ρ (f ρ S):=(rfl)
@[simp] def ztW{d:D}:zrP ρ (.ok d S)=.nx ρ S:=(rfl)
@[simp] def ztV{x:Str}:zrP ρ (.exc x S)=.ex x ρ S:=(rfl)
@[simp] def zsz:zbT f ρ S=zrN ρ (f ρ S):=(rfl)
@[simp] def ztJ{d:D}:zrN ρ (.ok d S)=.rt d S:=(rfl)
@[simp] def ztI{x:Str}:zrN ρ (.exc x S)=.ex x ρ S:=(rfl)
@[simp] def zqJ:zjB ρ S=.rt .non S:=(rfl)
@[simp] def zqI{i:Nat}:zhL i ρ S=zpz S ρ[i]?:=(rfl)
@[simp] def ztH{d:D}:zpz S (some (some (true,d)))=.rt d S:=(rfl)
@[simp] def zuC:sIf c a b ρ S=zqt a b ρ (c ρ S):=(rfl)
@[simp] def ztQ:zqt a b ρ (.ok (.bl true) S)=a ρ S:=(rfl)
@[simp] def ztP:zqt a b ρ (.ok (.bl false) S)=b ρ S:=(rfl)
@[simp] def ztO{x:Str}:zqt a b ρ (.exc x S)=.ex x ρ S:=(rfl)
@[simp] def zsE{i:Nat}:zjC i f ρ S=zul i f ρ S ρ[i]?:=(rfl)
@[simp] def zvS{i:Nat}{l:List D}:zul i f ρ S (some (some (true,.lst l)))=zkn i ρ l (f ρ S):=(rfl)
@[simp] def zt6{i:Nat}{l:List D}{d:D}:zkn i ρ l (.ok d S)=if zaT l.length then .nx (ρ.set i (some (true,.lst (l++[d])))) S else .bad:=(rfl)
@[simp] def zt5{i:Nat}{l:List D}{x:Str}:zkn i ρ l (.exc x S)=.ex x ρ S:=(rfl)
@[simp] def zsA{i j:Nat}{o1 o2:Bool}:znx i j o1 f o2 g ρ S=zuc i j o1 o2 g ρ (f ρ S):=(rfl)
@[simp] def zvu{i j:Nat}{o1 o2:Bool}{d:D}:zuc i j o1 o2 g ρ (.ok d S)=zmN i j o1 o2 d ρ (g ρ S):=(rfl)
@[simp] def ztL{i j:Nat}{o1 o2:Bool}{d e:D}:zmN i j o1 o2 d ρ (.ok e S)=.nx ((ρ.set i (some (o1,d))).set j (some (o2,e))) S:=(rfl)
@[simp] def zqM{t:Tg}:zfC t f ρ S=zmS t ρ (f ρ S):=by
 unfold zfC zmS
 cases f ρ S with
 | ok d S'=>dsimp only;cases t.put ρ d<;>rfl
 | exc c S'=>rfl
 | bad=>rfl
@[simp] def zt2{t:Tg}{d:D}:zmS t ρ (.ok d S)=zrO S (t.put ρ d):=(rfl)
@[simp] def zvt{ρ':Env}:zrO S (some ρ')=.nx ρ' S:=(rfl)
@[simp] def zsB{t:Tg}{it:Fi}:zhO t it a ρ S=zuh t a ρ (it ρ S):=(rfl)
@[simp] def zvH{t:Tg}{ds:List D}:zuh t a ρ (.ok ds S)=zgX t a ds ρ S:=(rfl)
@[simp] def zuA{x:Str}{fs:List Fe}:sRz x fs ρ S=kRz x ρ (zae fs ρ S):=(rfl)
@[simp] def zwh{x:Str}{ds:List D}:kRz x ρ (.ok ds S)=if zaT ds.length then .ex x ρ S else .bad:=(rfl)
@[simp] def zsK{i:Nat}{d:D}:(Tg.one i).put ρ d=some (ρ.set i (some (false,d))):=(rfl)
@[simp] def zsH{is:List Nat}{ds:List D}:(Tg.tup is).put ρ (.tup ds)=zdd is ds ρ:=(rfl)
@[simp] def zsJ{i:Nat}{is:List Nat}{d:D}{ds:List D}:zdd (i::is) (d::ds) ρ=zdd is ds (ρ.set i (some (false,d))):=(rfl)
@[simp] def zsI:zdd [] [] ρ=some ρ:=(rfl)
@[simp] def zsZ{i:Nat}:zah i ρ S=zt9 S ρ[i]?:=(rfl)
@[simp] def zvn{d:D}:zt9 S (some (some (false,d)))=.ok d S:=(rfl)
@[simp] def zs6{i:Nat}:zan i ρ S=zuk S ρ[i]?:=(rfl)
@[simp] def zvR{o:Bool}{d:D}:zuk S (some (some (o,d)))=.ok d S:=(rfl)
@[simp] def zs5{d:D}:zao d ρ S=.ok d S:=(rfl)
@[simp] def zuT{u:D->Option D}:eUn u f ρ S=kUn u (f ρ S):=by
 unfold eUn;cases f ρ S<;>rfl
@[simp] def zvp{u:D->Option D}{d:D}:kUn u (.ok d S)=Out.of (u d) S:=(rfl)
@[simp] def zvo{u:D->Option D}{x:Str}:kUn u (.exc x S)=.exc x S:=(rfl)
@[simp] def zs7{u:D->D->Option D}:zaj u f g ρ S=zrQ u g ρ (f ρ S):=by
 unfold zaj
 cases f ρ S with
 | ok a S1=>show ((g ρ S1).bind fun b S2=>Out.of (u a b) S2)=ziz u a (g ρ S1);cases g ρ S1<;>rfl
 | exc c S=>rfl
 | bad=>rfl
@[simp] def zt1{u:D->D->Option D}{d:D}:zrQ u g ρ (.ok d S)=ziz u d (g ρ S):=(rfl)
@[simp] def zt0{u:D->D->Option D}{x:Str}:zrQ u g ρ (.exc x S)=.exc x S:=(rfl)
@[simp] def ztZ{u:D->D->Option D}{d e:D}:ziz u d (.ok e S)=Out.of (u d e) S:=(rfl)
@[simp] def ztY{u:D->D->Option D}{d:D}{x:Str}:ziz u d (.exc x S)=.exc x S:=(rfl)
@[simp] def zuY:eIf c f g ρ S=kIf f g ρ (c ρ S):=by
 unfold eIf;cases c ρ S<;>rfl
@[simp] def zvF:kIf f g ρ (.ok (.bl true) S)=f ρ S:=(rfl)
@[simp] def zvE:kIf f g ρ (.ok (.bl false) S)=g ρ S:=(rfl)
@[simp] def zs8:zg1 f g ρ S=zrS g ρ (f ρ S):=by
 unfold zg1;cases f ρ S<;>rfl
@[simp] def zt8:zrS g ρ (.ok (.bl true) S)=g ρ S:=(rfl)
@[simp] def zt7:zrS g ρ (.ok (.bl false) S)=.ok (.bl false) S:=(rfl)
@[simp] def zuV:eOr f g ρ S=kOr g ρ (f ρ S):=by
 unfold eOr;cases f ρ S<;>rfl
@[simp] def zvw:kOr g ρ (.ok (.bl true) S)=.ok (.bl true) S:=(rfl)
@[simp] def zvv:kOr g ρ (.ok (.bl false) S)=g ρ S:=(rfl)
@[simp] def zqO:zae [] ρ S=.ok [] S:=(rfl)
@[simp] def zqP{fs:List Fe}:zae (f::fs) ρ S=zmP fs ρ (f ρ S):=by
 show ((f ρ S).bind fun d S1=>(zae fs ρ S1).bind fun ds S2=>.ok (d::ds) S2)=_
 cases f ρ S with
 | ok a S1=>show ((zae fs ρ S1).bind fun ds S2=>.ok (a::ds) S2)=ze9 a (zae fs ρ S1);cases zae fs ρ S1<;>rfl
 | exc c S=>rfl
 | bad=>rfl
@[simp] def zrJ{fs:List Fe}{d:D}:zmP fs ρ (.ok d S)=ze9 d (zae fs ρ S):=(rfl)
@[simp] def zrI{fs:List Fe}{x:Str}:zmP fs ρ (.exc x S)=.exc x S:=(rfl)
@[simp] def zrH{d:D}{ds:List D}:ze9 d (.ok ds S)=.ok (d::ds) S:=(rfl)
@[simp] def zrG{d:D}{x:Str}:ze9 d (.exc x S)=.exc x S:=(rfl)
@[simp] def zs0{fs:List Fe}:zgZ fs ρ S=zua (zae fs ρ S):=by
 unfold zgZ;cases zae fs ρ S<;>rfl
@[simp] def zvq{ds:List D}:zua (.ok ds S)=if zaT ds.length then .ok (.tup ds) S else .bad:=(rfl)
@[simp] def zs2{fs:List Fe}:zg0 fs ρ S=zue (zae fs ρ S):=by
 unfold zg0;cases zae fs ρ S<;>rfl
@[simp] def zvA{ds:List D}:zue (.ok ds S)=if zaT ds.length then .ok (.lst ds) S else .bad:=(rfl)
@[simp] def zqS{u:List D->Option D}{fs:List Fe}:za5 u fs ρ S=zmR u (zae fs ρ S):=by
 unfold za5;cases zae fs ρ S<;>rfl
@[simp] def zrM{u:List D->Option D}{ds:List D}:zmR u (.ok ds S)=Out.of (u ds) S:=(rfl)
@[simp] def zrL{u:List D->Option D}{x:Str}:zmR u (.exc x S)=.exc x S:=(rfl)
@[simp] def zuZ{r:List D->Sto->Out D}{fs:List Fe}:eFn r fs ρ S=kFn r (zae fs ρ S):=by
 unfold eFn;cases zae fs ρ S<;>rfl
@[simp] def zvJ{r:List D->Sto->Out D}{ds:List D}:kFn r (.ok ds S)=r ds S:=(rfl)
@[simp] def zvI{r:List D->Sto->Out D}{x:Str}:kFn r (.exc x S)=.exc x S:=(rfl)
@[simp] def zqh{u v:D->D->Option D}:zb2 u v f g h ρ S=zle u v g h ρ (f ρ S):=by
 show ((f ρ S).bind fun a S1=>(g ρ S1).bind fun b S2=>match (u a b).bind isB with
  | some true=>(h ρ S2).bind fun c S3=>Out.of (v b c) S3
  | some false=>.ok (.bl false) S2
  | none=>.bad)=_
 cases f ρ S with
 | ok a S1 =>
  show ((g ρ S1).bind fun b S2=>match (u a b).bind isB with
   | some true=>(h ρ S2).bind fun c S3=>Out.of (v b c) S3
   | some false=>.ok (.bl false) S2
   | none=>.bad)=zes u v h ρ a (g ρ S1)
  cases g ρ S1 with
  | ok b S2 =>
   show (match (u a b).bind isB with
    | some true=>(h ρ S2).bind fun c S3=>Out.of (v b c) S3
    | some false=>.ok (.bl false) S2
    | none=>.bad)=zdC v h ρ b S2 (u a b)
   cases hu:u a b with
   | none=>rfl
   | some d =>
    show (match isB d with
     | some true=>(h ρ S2).bind fun c S3=>Out.of (v b c) S3
     | some false=>.ok (.bl false) S2
     | none=>.bad)=(match isB d with | some true=>zdD v b (h ρ S2) | some false=>.ok (.bl false) S2 | none=>.bad)
    cases hb:isB d with
    | none=>rfl
    | some x=>cases x with
     | true=>show ((h ρ S2).bind fun c S3=>Out.of (v b c) S3)=zdD v b (h ρ S2);cases h ρ S2<;>rfl
     | false=>rfl
  | exc c S=>rfl
  | bad=>rfl
 | exc c S=>rfl
 | bad=>rfl
@[simp] def zvP{u v:D->D->Option D}{d:D}:zle u v g h ρ (.ok d S)=zes u v h ρ d (g ρ S):=(rfl)
@[simp] def zvO{u v:D->D->Option D}{d e:D}:zes u v h ρ d (.ok e S)=zdC v h ρ e S (u d e):=(rfl)
@[simp] def zvN{v:D->D->Option D}{e:D}:zdC v h ρ e S (some (.bl true))=zdD v e (h ρ S):=(rfl)
@[simp] def zvM{v:D->D->Option D}{e:D}:zdC v h ρ e S (some (.bl false))=.ok (.bl false) S:=(rfl)
@[simp] def zvL{v:D->D->Option D}{d e:D}:zdD v e (.ok d S)=Out.of (v e d) S:=(rfl)
@[simp] def zqg:zbR none ρ S=.ok none S:=(rfl)
@[simp] def zqf:zbR (some f) ρ S=zuf (f ρ S):=by
 show ((f ρ S).bind fun d S1=>match d with | .int i=>.ok (some i) S1 | _=>.bad)=_
 cases f ρ S with
 | ok d S'=>cases d<;>rfl
 | exc c S'=>rfl
 | bad=>rfl
@[simp] def zvD{i:Int}:zuf (.ok (.int i) S)=.ok (some i) S:=(rfl)
@[simp] def zuU{l u:Option Fe}:eSl f l u ρ S=kSl l u ρ (f ρ S):=by
 unfold eSl
 cases f ρ S with
 | ok d S1 =>
  show ((zbR l ρ S1).bind fun l S2=>(zbR u ρ S2).bind fun u S3=>Out.of (slD d l u) S3)=zqp d u ρ (zbR l ρ S1)
  cases zbR l ρ S1 with
  | ok l S2=>show ((zbR u ρ S2).bind fun u S3=>Out.of (slD d l u) S3)=zqo d l (zbR u ρ S2);cases zbR u ρ S2<;>rfl
  | exc c S=>rfl
  | bad=>rfl
 | exc c S=>rfl
 | bad=>rfl
@[simp] def zwg{l u:Option Fe}{d:D}:kSl l u ρ (.ok d S)=zqp d u ρ (zbR l ρ S):=(rfl)
@[simp] def zvs{u:Option Fe}{d:D}{l:Option Int}:zqp d u ρ (.ok l S)=zqo d l (zbR u ρ S):=(rfl)
@[simp] def zvr{d:D}{l u:Option Int}:zqo d l (.ok u S)=Out.of (slD d l u) S:=(rfl)
@[simp] def zqN:zbs f ρ S=ziw (f ρ S):=by
 show ((f ρ S).bind fun d S1=>match d with | .lst l=>.ok l S1 | .tup l=>.ok l S1 | _=>.bad)=_
 cases f ρ S with
 | ok d S'=>cases d<;>rfl
 | exc c S'=>rfl
 | bad=>rfl
@[simp] def zvC{l:List D}:ziw (.ok (.lst l) S)=.ok l S:=(rfl)
@[simp] def zvB{l:List D}:ziw (.ok (.tup l) S)=.ok l S:=(rfl)
@[simp] def zsG:zdN f ρ S=zpy (zae [f] ρ S):=by
 unfold zdN;cases zae [f] ρ S<;>rfl
@[simp] def ztG{j:Int}:zpy (.ok [.int j] S)=if -1000000<=j/\j<=1000000 then .ok (zaw 0 j) S else .bad:=(rfl)
@[simp] def zsF:ziT f g ρ S=zpx (zae [f,g] ρ S):=by
 unfold ziT;cases zae [f,g] ρ S<;>rfl
@[simp] def ztF{i j:Int}:zpx (.ok [.int i,.int j] S)=if (-1000000<=i/\i<=1000000)/\-1000000<=j/\j<=1000000 then .ok (zaw i j) S else .bad:=(rfl)
@[simp] def zs9{n:Nat}{t:Tg}{it:Fi}{caps:List Nat}:zdO n t it c f caps ρ S=zmQ t c f (zbc n caps ρ) (it ρ S):=by
 unfold zdO
 cases it ρ S with
 | ok ds S' =>
  simp only [Out.bind,zmQ]
  cases zb3 t c f (zbc n caps ρ) ds S'<;>rfl
 | exc c S'=>rfl
 | bad=>rfl
@[simp] def ztX{t:Tg}{ρ0:Env}{ds:List D}:zmQ t c f ρ0 (.ok ds S)=ziy (zb3 t c f ρ0 ds S):=(rfl)
@[simp] def zrK{ys:List D}:ziy (.ok ys S)=if zaT ys.length then .ok (.lst ys) S else .bad:=(rfl)
@[simp] def zuw:zjo ρ S=.ok (.bl true) S:=(rfl)
@[simp] def znG{n:Nat}{caps:List Nat}:zbc n caps ρ=List.replicate n none++caps.map (zp2 ρ):=(rfl)
@[simp] def zta{i:Nat}:zp2 ρ i=zuj ρ[i]?:=(rfl)
@[simp] def zvQ{d:D}:zuj (some (some (false,d)))=some (false,d):=(rfl)
def za6{n:Nat}{own:Bool}{fs:Fs}{ds:List D}:zdb n own fs ds S=zqq own (fs (ds.map (fun d=>some (false,d))++List.replicate (n-ds.length) none) S):=(rfl)
@[simp] def ztE{own:Bool}{d:D}:zqq own (.rt d S)=.ok d S:=(rfl)
@[simp] def ztD:zqq false (.nx ρ S)=.ok .non S:=(rfl)
@[simp] def ztC{own:Bool}{x:Str}:zqq own (.ex x ρ S)=.exc x S:=(rfl)
@[simp] def zuQ{b:Bool}:isB (.bl b)=some b:=(rfl)
@[simp] def zuF{b:Bool}:zfv (.bl b)=some (.bl (!b)):=(rfl)
@[simp] def zuG{i:Int}:znz (.int i)=some (.int (-i)):=(rfl)
@[simp] def ztd{i j:Int}:zch (.int i) (.int j)=some (.int (i+j)):=(rfl)
@[simp] def ztb{x y:List D}:zch (.tup x) (.tup y)=if zaT (x.length+y.length) then some (.tup (x++y)) else none:=(rfl)
@[simp] def ztc{x y:List D}:zch (.lst x) (.lst y)=if zaT (x.length+y.length) then some (.lst (x++y)) else none:=(rfl)
@[simp] def zux{i j:Int}:zqk (.int i) (.int j)=some (.int (i-j)):=(rfl)
@[simp] def zuI{i j:Int}:zhd (.int i) (.int j)=if zbx i||zbx j then some (.int (i*j)) else none:=(rfl)
@[simp] def zuJ{i j:Int}:zkb (.int i) (.int j)=if 0<j then some (.int (i % j)) else none:=(rfl)
@[simp] def zu0{i j:Int}:zpT (.int i) (.int j)=if 0<j/\j<1073741824 then some (.int (i / j)) else none:=(rfl)
@[simp] def zwa{i j:Int}:ltD (.int i) (.int j)=some (.bl (decide (i<j))):=(rfl)
@[simp] def zwb{i j:Int}:leD (.int i) (.int j)=some (.bl (decide (i<=j))):=(rfl)
@[simp] def zwc{i j:Int}:gtD (.int i) (.int j)=some (.bl (decide (j<i))):=(rfl)
@[simp] def zwd{i j:Int}:geD (.int i) (.int j)=some (.bl (decide (j<=i))):=(rfl)
@[simp] def zuM{l:List D}{i:Int}:ixD (.lst l) (.int i)=atI l i:=(rfl)
@[simp] def zuK{l:List D}{i:Int}:ixD (.tup l) (.int i)=atI l i:=(rfl)
@[simp] def zuL{l:List Int}{i:Int}:ixD (.scr l) (.int i)=(atI l i).map D.int:=(rfl)
@[simp] def zsW{l:List D}:ze7 [.lst l]=some (.int l.length):=(rfl)
@[simp] def zsU{l:List D}:ze7 [.tup l]=some (.int l.length):=(rfl)
@[simp] def zsV{l:List Int}:ze7 [.scr l]=some (.int l.length):=(rfl)
@[simp] def zsx{l:List D}:zcF [.lst l]=some (.tup l):=(rfl)
@[simp] def zsw{l:List D}:zcF [.tup l]=some (.tup l):=(rfl)
@[simp] def zuO{d:D}:zqv d .non=some (.bl (zbY d)):=(rfl)
@[simp] def zsL{d:D}:zgP d .non=some (.bl (!zbY d)):=(rfl)
@[simp] def zsR:zbY .non=true:=(rfl)
@[simp] def zsQ{i:Int}:zbY (.int i)=false:=(rfl)
@[simp] def zsP{l:List D}:zbY (.tup l)=false:=(rfl)
@[simp] def zuy{l:List D}{x y:Option Int}:slD (.tup l) x y=some (.tup (zdV l x y)):=(rfl)
@[simp] def zuz{l:List D}{x y:Option Int}:slD (.lst l) x y=some (.lst (zdV l x y)):=(rfl)
@[simp] def zsM{x y:Bool}:zj5 (.bl x) (.bl y)=some (.bl (!decide (x=y))):=(rfl)
@[simp] def zsT{i j:Int}:zrD [.int i,.int j]=some (.int (if j<i then j else i)):=(rfl)
@[simp] def zqH{n:Nat}:zaT n=decide (n<=100000):=(rfl)
def zbN{α:Type}(xs:List α)(j:Nat):atI xs (j:Int)=xs[j]?:=by
 unfold atI ixN
 by_cases h:j<xs.length
 ·simp [h]
 ·simp [h]
@[simp] def zqE{α:Type}(xs:List α):atI xs 0=xs[0]?:=zbN xs 0
@[simp] def zsl{α:Type}(xs:List α):atI xs 1=xs[1]?:=zbN xs 1
@[simp] def zsk{α:Type}(xs:List α):atI xs 2=xs[2]?:=zbN xs 2
@[simp] def zp7{α:Type}(xs:List α):atI xs 3=xs[3]?:=zbN xs 3
def zeC{α:Type}{xs:List α}{i:Int}(h:0<=i):atI xs i=xs[i.toNat]?:=by
 obtain ⟨n,rfl⟩:=yb3 h;exact zbN xs n
end
def zcf{tg:Tg}{body:Fs}{ds:List D}{S:Sto}(Iv:Nat->Env->Prop)(step:∀k d ρ,ds[k]?=some d->Iv k ρ->∃ρ1 ρ2,tg.put ρ d=some ρ1/\body ρ1 S=.nx ρ2 S/\Iv (k+1) ρ2){ρ:Env}(h0:Iv 0 ρ):∃ρ',zgX tg body ds ρ S=.nx ρ' S/\Iv ds.length ρ':=by
 have go:∀(n:Nat) (es:List D) (k:Nat) (ρ:Env),es.length=n->ds.drop k=es->k+n=ds.length->Iv k ρ->∃ρ',zgX tg body es ρ S=.nx ρ' S/\Iv ds.length ρ':=by
  intro n
  induction n with
  | zero =>
   intro es k ρ hl he hk hi;obtain rfl:es=[]:=ybw hl;exact ⟨ρ,rfl,by rw [show ds.length=k by omega];exact hi⟩
  | succ n ih =>
   intro es k ρ hl he hk hi
   cases es with
   | nil=>cases hl
   | cons d es =>
    have hd:ds[k]?=some d:=by
     have:=congrArg (fun l=>l[0]?) he;rw [yba] at this;simpa using this
    obtain ⟨ρ1,ρ2,e1,e2,hi2⟩:=step k d ρ hd hi;obtain ⟨ρ',e3,e4⟩:=ih es (k+1) ρ2 (by simpa using hl) (by rw [<-List.drop_drop,he];rfl) (by omega) hi2;refine ⟨ρ',?_,e4⟩;unfold zgX;rw [e1];dsimp only;rw [e2];exact e3
 exact go ds.length ds 0 ρ rfl (by simp) (by omega) h0
theorem zcV{tg:Tg}{c elt:Fe}{ρ0:Env}{S:Sto}{g:D->D}{p:D->Bool}:∀{ds:List D},(∀d∈ds,∃ρ1,tg.put ρ0 d=some ρ1/\c ρ1 S=.ok (.bl (p d)) S/\(p d=true->elt ρ1 S=.ok (g d) S))->zb3 tg c elt ρ0 ds S=.ok ((ds.filter p).map g) S
 | [],_=>rfl
 | d::ds,h=>by
  obtain ⟨ρ1,e1,e2,e3⟩:=h d yaA;have ih:=zcV (ds:=ds) fun x hx=>h x (yas _ hx)
  unfold zb3;rw [e1];dsimp only;rw [e2]
  cases hp:p d with
  | true=>simp [e3 hp,ih,hp]
  | false=>simp [ih,hp]
def zdQ{tg:Tg}{elt:Fe}{ρ0:Env}{S:Sto}{g:D->D}{ds:List D}(h:∀d∈ds,∃ρ1,tg.put ρ0 d=some ρ1/\elt ρ1 S=.ok (g d) S):zb3 tg zjo elt ρ0 ds S=.ok (ds.map g) S:=by
 have:=zcV (c:=zjo) (p:=fun _=>true) (tg:=tg) (elt:=elt) (ρ0:=ρ0) (S:=S) (g:=g) (ds:=ds) fun d hd=>by
  obtain ⟨ρ1,e1,e2⟩:=h d hd;exact ⟨ρ1,e1,rfl,fun _=>e2⟩
 rw [this,List.filter_eq_self.mpr (fun _ _=>rfl)]
mutual
noncomputable def D.pl:D->Bool
 | .non=>true
 | .int _=>true
 | .str _=>true
 | .tup l=>D.pls l
 | .lst l=>D.pls l
 | _=>false
noncomputable def D.pls:List D->Bool
 | []=>true
 | d::l=>d.pl&&D.pls l
end
theorem D.pls_iff:∀{l:List D},D.pls l=true↔∀d∈l,d.pl=true
 | []=>by simp [D.pls]
 | d::l=>by simp [D.pls,D.pls_iff (l:=l)]
mutual
theorem zgp:∀(d e:D),d.pl=true->e.pl=true->(d.py.eqv e.py=true↔d=e)
 | .non,e,_,h=>by cases e<;>simp [D.py,PyData.eqv,D.pl] at h ⊢
 | .int i,e,_,h=>by cases e<;>simp [D.py,PyData.eqv,D.pl] at h ⊢
 | .str x,e,_,h=>by cases e<;>simp [D.py,PyData.eqv,D.pl] at h ⊢
 | .tup l,e,hd,h=>by
  cases e with
  | tup k =>
   simp only [D.py,PyData.eqv,D.pl] at hd h ⊢;rw [zfQ l k hd h];simp
  | _=>simp [D.py,PyData.eqv,D.pl] at h ⊢
 | .lst l,e,hd,h=>by
  cases e with
  | lst k =>
   simp only [D.py,PyData.eqv,D.pl] at hd h ⊢;rw [zfQ l k hd h];simp
  | _=>simp [D.py,PyData.eqv,D.pl] at h ⊢
 | .bl _,_,hd,_=>by simp [D.pl] at hd
 | .dic _,_,hd,_=>by simp [D.pl] at hd
 | .ref _,_,hd,_=>by simp [D.pl] at hd
 | .exc _,_,hd,_=>by simp [D.pl] at hd
 | .scr _,_,hd,_=>by simp [D.pl] at hd
theorem zfQ:∀(l k:List D),D.pls l=true->D.pls k=true->(PyData.eqvAll (D.pys l) (D.pys k)=true↔l=k)
 | [],[],_,_=>by simp [D.pys,PyData.eqvAll]
 | [],_::_,_,_=>by simp [D.pys,PyData.eqvAll]
 | _::_,[],_,_=>by simp [D.pys,PyData.eqvAll]
 | d::l,e::k,h1,h2=>by
  simp only [D.pls,yab] at h1 h2;simp only [D.pys,PyData.eqvAll,yab,List.cons.injEq];rw [zgp d e h1.1 h2.1,zfQ l k h1.2 h2.2]
end
end S2
namespace S2
open PySem
open L2 hiding D
@[simp] def zm0{n:Nat}{i:Int}:D.fit n (.int i)=true:=by cases n<;>rfl
@[simp] def zr6{n:Nat}:D.fit n .non=true:=by cases n<;>rfl
@[simp] def zr5{n:Nat}{l:List D}:D.fit (n+1) (.tup l)=D.fits n l:=(rfl)
@[simp] def zr7{n:Nat}{l:List D}:D.fit (n+1) (.lst l)=D.fits n l:=(rfl)
@[simp] def zqx{n:Nat}:D.fits n []=true:=by cases n<;>rfl
@[simp] def zpM{n:Nat}{d:D}{l:List D}:D.fits n (d::l)=(d.fit n&&D.fits n l):=by cases n<;>rfl
@[simp] def zuS{i j:Int}:eqD (.int i) (.int j)=some (.bl (decide (i=j))):=by
 unfold eqD zdU;simp [D.py,PyData.eqv]
 cases h:(i == j)<;>simp_all
@[simp] def zuH{i j:Int}:neD (.int i) (.int j)=some (.bl (!decide (i=j))):=by
 unfold neD zdU;simp [D.py,PyData.eqv]
 cases h:(i == j)<;>simp_all
def zd8{l:List Int}:eqD (.scr l) (.lst [])=some (.bl (decide (l=[]))):=by
 cases l with
 | nil=>rfl
 | cons a l=>simp [eqD,D.fit,D.fits,zdU,D.py,D.pys,PyData.eqv,PyData.eqvAll]
noncomputable def zg6(l:List Int)(k:Int):Int:=if k<l.length then l.getD k.toNat 0 else if l=[] then 0 else l.getD (k % l.length).toNat 0*31+k
noncomputable def za9(l:List Int)(k:Int)(many:Int):Int :=
 let d:=(zg6 l k+6151*(k+1))*40692 % 2147483399
 (d*d+d / 31) % 2147483629 % many
def za4(l:List Int)(k:Int){many:Int}(h:0<many):0<=za9 l k many/\za9 l k many<many:=⟨Int.emod_nonneg _ (by omega),ycA _ h⟩
@[simp] def zuo:zbx 31=true:=by decide
@[simp] def zqy:zbx 6151=true:=by decide
@[simp] def zpO:zbx 40692=true:=by decide
def zln{i:Int}(h0:-(2 ^ 64)<i)(h:i<2 ^ 64):zbx i=true:=by unfold zbx;simp;omega
def zjF{l:List Int}{k:Int}{S:Sto}(hk:0<=k):za3 [.scr l,.int k] S=.ok (.int (zg6 l k)) S:=by
 unfold zg6
 by_cases h:k<l.length
 ·have hx:l[k.toNat]?=some l[k.toNat]:=yad (by omega);rw [if_pos h,yaw,hx];simp [za3,za6,zbr,h,zeC hk,hx]
 ·by_cases h0:l=[]
  ·subst h0;simp [za3,za6,zbr,zd8,show ¬ k<0 by omega]
  ·have hl:0<l.length:=by cases l with | nil=>exact absurd rfl h0 | cons _ _=>simp
   have hm0:0<=k % (l.length:Int):=Int.emod_nonneg _ (by omega);have hm1:k % (l.length:Int)<l.length:=ycA _ (by omega);have hx:l[(k % (l.length:Int)).toNat]?=some (l[(k % (l.length:Int)).toNat]'(by omega)):=yad (by omega);rw [if_neg h,if_neg h0,yaw,hx];simp [za3,za6,zbr,h,h0,zd8,zeC hm0,hx,hl]
def zaU{l:List Int}{k many:Int}{S:Sto}(hk:0<=k)(hm:0<many):zai [.scr l,.int k,.int many] S=.ok (.int (za9 l k many)) S:=by
 unfold za9;have h0:0<=(zg6 l k+6151*(k+1))*40692 % 2147483399:=Int.emod_nonneg _ (by omega);have h1:(zg6 l k+6151*(k+1))*40692 % 2147483399<2147483399:=ycA _ (by omega);have hf:zbx ((zg6 l k+6151*(k+1))*40692 % 2147483399)=true:=zln (by omega) (by omega);simp [zai,za6,zcA,zjF hk,hf,hm]
noncomputable def zaL(t:List Int):D:=.tup (t.map D.int)
def zkq{t u:List Int}:t.map D.int=u.map D.int↔t=u:=by
 constructor
 ·intro h
  induction t generalizing u with
  | nil=>cases u with | nil=>rfl | cons _ _=>cases h
  | cons a t ih=>cases u with
   | nil=>cases h
   | cons b u =>
    simp only [yay,List.cons.injEq,D.int.injEq] at h;rw [h.1,ih h.2]
 ·rintro rfl;rfl
def zjt{t u:List Int}:zaL t=zaL u↔t=u:=by unfold zaL;rw [D.tup.injEq];exact zkq
def zjL{t:List Int}:D.pls (t.map D.int)=true:=by rw [D.pls_iff];intro d hd;obtain ⟨i,_,rfl⟩:=yaE.mp hd;rfl
def zh1{t:List Int}:(zaL t).pl=true:=zjL
def ziS{n:Nat}{t:List Int}:D.fits n (t.map D.int)=true:=by rw [D.fits_iff];intro d hd;obtain ⟨i,_,rfl⟩:=yaE.mp hd;exact zm0
def zgn{n:Nat}{t:List Int}:(zaL t).fit (n+1)=true:=ziS
theorem zla{d:D}:∀{l:List D},d.pl=true->D.pls l=true->(zhe d l=true↔d∈l)
 | [],_,_=>by simp [zhe]
 | e::l,h,hl=>by
  simp only [D.pls,yab] at hl;have ih:=zla (d:=d) (l:=l) h hl.2;have e1:=zgp e d hl.1 h;unfold zhe;simp only [ycJ,yb2,yam];unfold zhe at ih;rw [ih];unfold zdU;rw [e1]
  constructor<;>(intro z;rcases z with z | z<;>simp [z])
def ze4{t:List Int}{ts:Z2}:zmz (zaL t) (.lst (ts.map zaL))=some (.bl (!decide (t∈ts))):=by
 have f1:(zaL t).fit 8=true:=zgn
 have f2:D.fits 8 (ts.map zaL)=true:=by rw [D.fits_iff];intro d hd;obtain ⟨i,_,rfl⟩:=yaE.mp hd;exact zgn
 have p2:D.pls (ts.map zaL)=true:=by rw [D.pls_iff];intro d hd;obtain ⟨i,_,rfl⟩:=yaE.mp hd;exact zh1
 have m:=zla (d:=zaL t) zh1 p2
 have:(zaL t∈ts.map zaL)↔t∈ts:=by
  rw [yaE];constructor
  ·rintro ⟨u,hu,e⟩;rw [<-zjt.mp e];exact hu
  ·intro h;exact ⟨t,h,rfl⟩
 rw [this] at m;unfold zmz;simp only [zhH,f1,f2,Bool.and_self,ybM,Option.some.injEq,D.bl.injEq];congr 1
 by_cases h:t∈ts
 ·rw [m.mpr h];simp [h]
 ·cases hm:zhe (zaL t) (ts.map zaL)
  ·simp [h]
  ·exact absurd (m.mp hm) h
structure Tiles(most:Int)(ts:Z2):Prop where
 ne:1<=ts.length
 le:(ts.length:Int)<=most
 four:∀t∈ts,t.length=4
 col:∀t∈ts,∀c∈t,0<=c/\c<3
 nd:ts.Nodup
def zbV{hi:Int}{k:Nat}{d:D}(h:(zaw 0 hi)[k]?=some d):d=.int k/\(k:Int)<hi:=by
 unfold zaw at h;rw [yax] at h
 cases hr:(List.range (hi-0).toNat)[k]? with
 | none=>rw [hr] at h;cases h
 | some j =>
  rw [hr] at h;obtain ⟨h1,h2⟩:=yaq.mp hr;simp at h1 h2;subst h2;simp at h;exact ⟨h.symm,by omega⟩
@[simp] def zhU{hi:Int}:(zaw 0 hi).length=hi.toNat:=by unfold zaw;simp
end S2
namespace S2
open PySem
open L2 hiding D
def zoC:zaw 0 4=[.int 0,.int 1,.int 2,.int 3]:=by rfl
@[simp] def zv3:zbx 4=true:=by decide
@[simp] def zv2:zbx 7=true:=by decide
def zlB{l:List Int}{at' most col k:Int}{S:Sto}{ts:Z2}{y:Option (Bool×D)}(ha:0<=at')(hk:0<=k)(hc:0<col)(hc3:col<=3)(hn:ts.length<=1000) :
  ∃t y',t.length=4/\(∀c∈t,0<=c/\c<3)/\zaI [some (false,.scr l),some (false,.int at'),some (false,.int most),some (false,.int col),some (true,.lst (ts.map zaL)),some (false,.int k),y] S
   = .nx [some (false,.scr l),some (false,.int at'),some (false,.int most),some (false,.int col),some (true,.lst ((if t∈ts then ts else ts++[t]).map zaL)),some (false,.int k),y'] S:=by
 have hcomp:∀ρ0:Env,ρ0=[none,some (false,.int at'),some (false,.int col),some (false,.int k),some (false,.scr l)]->zb3 (.one 0) zjo (eFn zai [(zah 4),(zaj zch (zaj zch (zaj zch (zan 1) (zaj zhd (zao (.int 4)) (zan 3))) (zao (.int 2))) (zan 0)),(zah 2)]) ρ0 (zaw 0 4) S
   = .ok ([za9 l (at'+4*k+2+0) col,za9 l (at'+4*k+2+1) col,za9 l (at'+4*k+2+2) col,za9 l (at'+4*k+2+3) col].map D.int) S:=by
  rintro _ rfl;rw [zoC,zdQ (g:=fun d=>match d with | .int i=>.int (za9 l (at'+4*k+2+i) col) | _=>.non)]
  ·rfl
  ·intro d hd;simp only [yam,ya0,yck] at hd
   rcases hd with rfl | rfl | rfl | rfl<;>exact ⟨_,rfl,by simp;rw [zaU (by omega) hc]⟩
 have b0:=za4 l (at'+4*k+2+0) hc;have b1:=za4 l (at'+4*k+2+1) hc;have b2:=za4 l (at'+4*k+2+2) hc;have b3:=za4 l (at'+4*k+2+3) hc;generalize za9 l (at'+4*k+2+0) col=p0 at *;generalize za9 l (at'+4*k+2+1) col=p1 at *;generalize za9 l (at'+4*k+2+2) col=p2 at *;generalize za9 l (at'+4*k+2+3) col=p3 at *
 have fin:∀t:List Int,(zas (sFz [] (sIf (zaj zmz (zan 6) (zan 4)) (zas (sFz [6] (zjC 4 (zah 6))) sNx) sNx)) sNx) [some (false,.scr l),some (false,.int at'),some (false,.int most),some (false,.int col),some (true,.lst (ts.map zaL)),some (false,.int k),some (false,zaL t)] S
   = .nx [some (false,.scr l),some (false,.int at'),some (false,.int most),some (false,.int col),some (true,.lst ((if t∈ts then ts else ts++[t]).map zaL)),some (false,.int k),some (false,zaL t)] S:=by
  intro t
  by_cases h:t∈ts
  ·simp [ze4,h]
  ·simp [ze4,h,show ts.length<=100000 by omega]
 by_cases h3:za9 l (at'+60+k) 3=0
 ·refine ⟨[p0,p1,p0,p1],some (false,zaL [p0,p1,p0,p1]),rfl,by simp;omega,?_⟩;rw [<-fin];simp [zaI,hcomp,zaU (show 0<=at'+60+k by omega) (show (0:Int)<3 by omega),h3];rfl
 ·refine ⟨[p0,p1,p2,p3],some (false,zaL [p0,p1,p2,p3]),rfl,by simp;omega,?_⟩;rw [<-fin];simp [zaI,hcomp,zaU (show 0<=at'+60+k by omega) (show (0:Int)<3 by omega),h3];rfl
def zhQ{l:List Int}{at' most:Int}{S:Sto}(ha:0<=at')(hm:0<most)(hm2:most<=100):∃ts,Tiles most ts/\zbw [.scr l,.int at',.int most] S=.ok (.tup (ts.map zaL)) S:=by
 have b:=za4 l at' (many:=2) (by omega);have n:=za4 l (at'+1) hm;have p1:=zaU (l:=l) (S:=S) ha (show (0:Int)<2 by omega);have p2:=zaU (l:=l) (S:=S) (show 0<=at'+1 by omega) hm;generalize za9 l at' 2=c at *;generalize za9 l (at'+1) most=m at *
 obtain ⟨ρ',e,ts,x,y,rfl,h1,h2,h3,h4,h5⟩:=zcf (tg:=.one 5) (body:=zaI) (ds:=zaw 0 (1+m)) (S:=S) (fun k ρ=>∃ts x y,ρ=[some (false,.scr l),some (false,.int at'),some (false,.int most),some (false,.int (2+c)),some (true,.lst (ts.map zaL)),x,y]/\ts.length<=k/\(0<k->1<=ts.length)/\(∀t∈ts,t.length=4)/\(∀t∈ts,∀c∈t,0<=c/\c<3)/\ts.Nodup) (by
   rintro k d ρ hd ⟨ts,x,y,rfl,h1,h2,h3,h4,h5⟩;obtain ⟨rfl,hk⟩:=zbV hd;obtain ⟨t,y',a1,a2,a3⟩:=zlB (l:=l) (at':=at') (most:=most) (col:=2+c) (k:=k) (S:=S) (ts:=ts) (y:=y) ha (by omega) (by omega) (by omega) (by omega);refine ⟨_,_,rfl,a3,_,_,_,rfl,?_,?_,?_,?_,?_⟩
   ·split<;>(try simp)<;>omega
   ·intro _;split
    ·rename_i h;exact List.length_pos_of_mem h
    ·simp
   ·intro u hu;split at hu
    ·exact h3 u hu
    ·rw [ya8,yaL] at hu
     rcases hu with hu | rfl
     ·exact h3 u hu
     ·exact a1
   ·intro u hu;split at hu
    ·exact h4 u hu
    ·rw [ya8,yaL] at hu
     rcases hu with hu | rfl
     ·exact h4 u hu
     ·exact a2
   ·split
    ·exact h5
    ·rename_i h;rw [List.nodup_append];refine ⟨h5,by simp,?_⟩
     intro a ha b hb;rw [yaL] at hb;subst hb;rintro rfl;exact h ha)
  (ρ:=[some (false,.scr l),some (false,.int at'),some (false,.int most),some (false,.int (2+c)),some (true,.lst []),none,none]) ⟨[],none,none,rfl,by simp,by simp,by simp,by simp,by simp⟩
 rw [zhU] at h1 h2;refine ⟨ts,⟨h2 (by omega),by omega,h3,h4,h5⟩,?_⟩;simp [zbw,za6,zb0,p1,p2,show -1000000<=1+m/\1+m<=1000000 by omega,e]
end S2
namespace S2
open PySem
open L2 hiding D
noncomputable def oD:Option Int->D | none=>.non | some i=>.int i
noncomputable def zds(c:Nat)(g:Nat->Option Int):List D:=(List.range c).map fun j=>oD (g j)
noncomputable def zgK(c:Nat)(g:Nat->Option Int):D:=.tup (zds c g)
noncomputable def zdJ(r c:Nat)(g:Z1):List D:=(List.range r).map fun i=>zgK c (g i)
noncomputable def flr(r c:Nat)(g:Z1):D:=.tup (zdJ r c g)
@[simp] def zcI{c:Nat}{g:Nat->Option Int}:(zds c g).length=c:=by simp [zds]
@[simp] def zcQ{r c:Nat}{g:Z1}:(zdJ r c g).length=r:=by simp [zdJ]
def zel{c j:Nat}{g:Nat->Option Int}(h:j<c):(zds c g)[j]?=some (oD (g j)):=by simp [zds,h]
def zcR{r c i:Nat}{g:Z1}(h:i<r):(zdJ r c g)[i]?=some (zgK c (g i)):=by simp [zdJ,h]
@[simp] def zrk{c j:Nat}{g:Nat->Option Int}(h:j<(zds c g).length):(zds c g)[j]=oD (g j):=by simp [zds]
@[simp] def zr3{r c i:Nat}{g:Z1}(h:i<(zdJ r c g).length):(zdJ r c g)[i]=zgK c (g i):=by simp [zdJ]
def zhT{k:Nat}{g:Nat->Option Int}:zds (k+1) g=zds k g++[oD (g k)]:=by simp [zds,ybJ]
def ziR{k c:Nat}{g:Z1}:zdJ (k+1) c g=zdJ k c g++[zgK c (g k)]:=by simp [zdJ,ybJ]
noncomputable def zjm(l:List Int)(at' n m:Int)(i j:Nat):Option Int:=if za9 l (at'+7*i+j) (n*m)<n then some (za9 l (at'+7*i+j) (n*m)) else none
def zpg{l:List Int}{at' n m:Int}{i j:Nat}(h:0<n*m):∀x,zjm l at' n m i j=some x->0<=x/\x<n:=by
 intro x e;unfold zjm at e;have:=za4 l (at'+7*i+j) h;split at e
 ·cases e;omega
 ·cases e
def zkx{l:List Int}{at' m:Int}{ts:List D}{r c:Nat}{i:Nat}{S:Sto}{A B Mm:Option (Bool×D)}{y:Option (Bool×D)}{z:Option (Bool×D)}(ha:0<=at')(hp:0<(ts.length:Int)*m)(hm:zbx m=true)(hc:c<=1000) :
  ∃y' z',zgX (.one 9) zaJ (zaw 0 c) [some (false,.scr l),some (false,.int at'),some (false,.tup ts),A,B,some (false,.int m),Mm,some (false,.int i),some (true,.lst []),y,z] S
   = .nx [some (false,.scr l),some (false,.int at'),some (false,.tup ts),A,B,some (false,.int m),Mm,some (false,.int i),some (true,.lst (zds c (zjm l at' ts.length m i))),y',z'] S:=by
 obtain ⟨ρ',e,y',z',rfl⟩:=zcf (tg:=.one 9) (body:=zaJ) (ds:=zaw 0 c) (S:=S) (fun k ρ=>∃y z,ρ=[some (false,.scr l),some (false,.int at'),some (false,.tup ts),A,B,some (false,.int m),Mm,some (false,.int i),some (true,.lst (zds k (zjm l at' ts.length m i))),y,z]) (by
  rintro k d ρ hd ⟨y,z,rfl⟩;obtain ⟨rfl,hk⟩:=zbV hd;have p:=zaU (l:=l) (S:=S) (show 0<=at'+7*(i:Int)+(k:Int) by omega) hp;have pn:=za4 l (at'+7*(i:Int)+(k:Int)) hp;refine ⟨_,_,rfl,?_,some (false,.int k),some (false,.int (za9 l (at'+7*i+k) (ts.length*m))),rfl⟩
  ·rw [zhT]
   by_cases h:za9 l (at'+7*(i:Int)+(k:Int)) (ts.length*m)<ts.length
   ·simp [zaJ,p,hm,h,zjm,oD,show k<=100000 by omega]
   ·simp [zaJ,p,hm,h,zjm,oD,show k<=100000 by omega])
  (ρ:=[some (false,.scr l),some (false,.int at'),some (false,.tup ts),A,B,some (false,.int m),Mm,some (false,.int i),some (true,.lst []),y,z]) ⟨y,z,rfl⟩
 exact ⟨y',z',by simpa using e⟩
def zhS{l:List Int}{at' m:Int}{ts:List D}{r c:Int}{S:Sto}(ha:0<=at')(hp:0<(ts.length:Int)*m)(hm:zbx m=true)(hr:0<=r)(hr2:r<=1000)(hc:0<=c)(hc2:c<=1000) :
  za7 [.scr l,.int at',.tup ts,.int r,.int c,.int m] S=.ok (flr r.toNat c.toNat (zjm l at' ts.length m)) S:=by
 obtain ⟨r,rfl⟩:=yb3 hr;obtain ⟨c,rfl⟩:=yb3 hc
 obtain ⟨ρ',e,x1,x2,x3,x4,rfl⟩:=zcf (tg:=.one 7) (body:=zbB) (ds:=zaw 0 r) (S:=S) (fun k ρ=>∃x1 x2 x3 x4,ρ=[some (false,.scr l),some (false,.int at'),some (false,.tup ts),some (false,.int r),some (false,.int c),some (false,.int m),some (true,.lst (zdJ k c (zjm l at' ts.length m))),x1,x2,x3,x4]) (by
  rintro k d ρ hd ⟨x1,x2,x3,x4,rfl⟩;obtain ⟨rfl,hk⟩:=zbV hd;obtain ⟨y',z',e⟩:=zkx (l:=l) (at':=at') (m:=m) (ts:=ts) (r:=r) (c:=c) (i:=k) (S:=S) (A:=some (false,.int r)) (B:=some (false,.int c)) (Mm:=some (true,.lst (zdJ k c (zjm l at' ts.length m)))) (y:=x3) (z:=x4) ha hp hm (by omega);refine ⟨_,_,rfl,?_,some (false,.int k),some (true,.lst (zds c (zjm l at' ts.length m k))),y',z',rfl⟩
  ·rw [ziR]
   simp [zbB,e,zgK,show -1000000<=(c:Int)/\(c:Int)<=1000000 by omega,show k<=100000 by omega])
  (ρ:=[some (false,.scr l),some (false,.int at'),some (false,.tup ts),some (false,.int r),some (false,.int c),some (false,.int m),some (true,.lst []),none,none,none,none]) ⟨none,none,none,none,rfl⟩
 simp at e;simp [za7,za6,zb1,e,flr,show -1000000<=(r:Int)/\(r:Int)<=1000000 by omega]
def zjD{l:List Int}{at' most:Int}{ts:Z2}{S:Sto}(ha:0<=at')(ht:Tiles most ts)(hm:most<=100) :
  ∃(r c:Nat) (g:Z1),1<=r/\r<=4/\1<=c/\c<=4/\(∀i j x,g i j=some x->0<=x/\x<ts.length)/\zax [.scr l,.int at',.tup (ts.map zaL)] S=.ok (flr r c g) S:=by
 have b1:=za4 l at' (many:=4) (by omega);have b2:=za4 l (at'+1) (many:=4) (by omega);have b3:=za4 l (at'+50) (many:=3) (by omega);have p1:=zaU (l:=l) (S:=S) ha (show (0:Int)<4 by omega);have p2:=zaU (l:=l) (S:=S) (show 0<=at'+1 by omega) (show (0:Int)<4 by omega);have p3:=zaU (l:=l) (S:=S) (show 0<=at'+50 by omega) (show (0:Int)<3 by omega);generalize za9 l at' 4=q1 at *;generalize za9 l (at'+1) 4=q2 at *;generalize za9 l (at'+50) 3=q3 at *;have n1:=ht.ne
 have key:∀m:Int,(m=1\/m=2\/m=3)->(∀d,za7 [.scr l,.int (at'+2),.tup (ts.map zaL),.int (1+q1),.int (1+q2),.int m] S=.ok d S->zax [.scr l,.int at',.tup (ts.map zaL)] S=.ok d S)->∃(r c:Nat) (g:Z1),1<=r/\r<=4/\1<=c/\c<=4/\(∀i j x,g i j=some x->0<=x/\x<ts.length)/\zax [.scr l,.int at',.tup (ts.map zaL)] S=.ok (flr r c g) S:=by
  intro m hm e;have hp:0<((ts.map zaL).length:Int)*m:=Int.mul_pos (by simp;omega) (by omega);have e':=e _ (zhS (by omega) hp (zln (by omega) (by omega)) (by omega) (by omega) (by omega) (by omega));refine ⟨_,_,_,?_,?_,?_,?_,?_,e'⟩
  all_goals try omega
  intro i j x h;have:=zpg hp x h;simpa using this
 have h3:q3=0\/q3=1\/q3=2:=by omega
 rcases h3 with rfl | rfl | rfl
 ·exact key 1 (by omega) (fun d h=>by simp [zax,za6,zbq,p1,p2,p3,h])
 ·exact key 2 (by omega) (fun d h=>by simp [zax,za6,zbq,p1,p2,p3,h])
 ·exact key 3 (by omega) (fun d h=>by simp [zax,za6,zbq,p1,p2,p3,h])
end S2
namespace S2
open PySem
open L2 hiding D
noncomputable abbrev plD(i j:Nat):D:=.tup [.int i,.int j]
noncomputable def zbn(r c:Nat):List D:=(List.range r).flatMap fun i=>(List.range c).map fun j=>plD i j
def zeW{k c:Nat}:zbn (k+1) c=zbn k c++(List.range c).map fun j=>plD k j:=by simp [zbn,ybJ]
def zdv{r c:Nat}{d:D}(h:d∈zbn r c):∃i j,i<r/\j<c/\d=plD i j:=by
 simp only [zbn,List.mem_flatMap,ybO,yaE] at h;obtain ⟨i,hi,j,hj,e⟩:=h;exact ⟨i,j,hi,hj,e.symm⟩
def zc1{r c:Nat}:(zbn r c).length=r*c:=by
 induction r with
 | zero=>simp [zbn]
 | succ k ih=>rw [zeW,yar,ih];simp [Nat.succ_mul]
def zf5{r c:Nat}{g:Z1}{S:Sto}(h:1<=r):zbD [flr r c g] S=.ok (.tup [.int r,.int c]) S:=by
 have e:=zcR (c:=c) (g:=g) (i:=0) (r:=r) (by omega);simp [zbD,za6,zdL,flr,e,zgK,show 0<r by omega]
def zcZ{r c:Nat}{g:Z1}{S:Sto}(h:1<=r)(hr:r<=100)(hc:c<=100):za1 [flr r c g] S=.ok (.lst (zbn r c)) S:=by
 have inner:∀(k:Nat) (y:Option (Bool×D)),k<r->∃y',zgX (.one 4) zbk (zaw 0 c) [some (false,flr r c g),some (false,.tup [.int r,.int c]),some (true,.lst (zbn k c)),some (false,.int k),y] S
   = .nx [some (false,flr r c g),some (false,.tup [.int r,.int c]),some (true,.lst (zbn (k+1) c)),some (false,.int k),y'] S:=by
  intro k y hk
  obtain ⟨ρ',e,y',rfl⟩:=zcf (tg:=.one 4) (body:=zbk) (ds:=zaw 0 c) (S:=S) (fun j ρ=>∃y,ρ=[some (false,flr r c g),some (false,.tup [.int r,.int c]),some (true,.lst (zbn k c++(List.range j).map fun j=>plD k j)),some (false,.int k),y]) (by
   rintro j d ρ hd ⟨y,rfl⟩;obtain ⟨rfl,hj⟩:=zbV hd
   have hl:k*c+j<=100000:=by
    have:k*c<=100*100:=ybl (by omega) (by omega);omega
   refine ⟨_,_,rfl,?_,some (false,.int j),rfl⟩
   simp [zbk,ybJ,zc1,hl])
   (ρ:=[some (false,flr r c g),some (false,.tup [.int r,.int c]),some (true,.lst (zbn k c)),some (false,.int k),y]) ⟨y,by simp⟩
  refine ⟨y',?_⟩;rw [e,zeW];simp
 obtain ⟨ρ',e,x,y,rfl⟩:=zcf (tg:=.one 3) (body:=zbM) (ds:=zaw 0 r) (S:=S) (fun k ρ=>∃x y,ρ=[some (false,flr r c g),some (false,.tup [.int r,.int c]),some (true,.lst (zbn k c)),x,y]) (by
  rintro k d ρ hd ⟨x,y,rfl⟩;obtain ⟨rfl,hk⟩:=zbV hd;obtain ⟨y',e⟩:=inner k y (by omega);refine ⟨_,_,rfl,?_,some (false,.int k),y',rfl⟩
  simp [zbM,e,show -1000000<=(c:Int)/\(c:Int)<=1000000 by omega])
  (ρ:=[some (false,flr r c g),some (false,.tup [.int r,.int c]),some (true,.lst []),none,none]) ⟨none,none,rfl⟩
 simp at e;simp [za1,za6,zcv,zf5 h,e,show -1000000<=(r:Int)/\(r:Int)<=1000000 by omega]
def zbC{r c i j:Nat}{g:Z1}{S:Sto}(hi:i<r)(hj:j<c):zal [flr r c g,plD i j] S=.ok (oD (g i j)) S:=by
 simp [zal,za6,zcw,flr,plD,zbN,zcR hi,zel hj,zgK]
def zeS{l:List D}{a b:Int}{S:Sto}:zat [.tup l,.int a,.int b] S=.ok (.bl (decide (a<=l.length/\(l.length:Int)<=b))) S:=by
 by_cases h1:a<=(l.length:Int)
 ·by_cases h2:(l.length:Int)<=b<;>simp [zat,za6,zbi,zdG,h1,h2]
 ·simp [zat,za6,zbi,zdG,h1]
end S2
namespace S2
open PySem
open L2 hiding D
@[simp] def zv4{a b:Option Int}:eqD (oD a) (oD b)=some (.bl (decide (a=b))):=by
 cases a<;>cases b<;>simp [oD]
 ·rfl
 ·rfl
 ·rfl
@[simp] def ztr{a:Option Int}:zbY (oD a)=decide (a=none):=by cases a<;>simp [oD]
noncomputable def zdW(g:Z1):D->Bool | .tup [.int i,.int j]=>(g i.toNat j.toNat).isSome | _=>false
def zjE{r c:Nat}{g:Z1}{S:Sto}(h:1<=r)(hr:r<=100)(hc:c<=100):zbh [flr r c g] S=.ok (.lst ((zbn r c).filter (zdW g))) S:=by
 have hl:((zbn r c).filter (zdW g)).length<=100000:=by
  refine yal (ybj _ _) ?_;rw [zc1];have:r*c<=100*100:=ybl hr hc;omega
 have e:zb3 (.one 0) (zaj zgP (eFn zal [(zah 1),(zah 0)]) (zao .non)) (zah 0) [none,some (false,flr r c g)] (zbn r c) S=.ok ((zbn r c).filter (zdW g)) S:=by
  rw [zcV (g:=id) (p:=zdW g)]
  ·simp
  ·intro d hd;obtain ⟨i,j,hi,hj,rfl⟩:=zdv hd;refine ⟨_,rfl,?_,fun _=>by simp⟩;simp [zbC hi hj,zdW]
   cases g i j<;>rfl
 simp [zbh,za6,zbK,zcZ h hr hc,e,hl]
end S2
namespace S2
open PySem
open L2 hiding D
def zih{d:D}(h:d.pl=true)(f:d.fit 9=true):neD d d=some (.bl false):=by
 unfold neD zdU;rw [f,(zgp d d h h).mpr rfl];rfl
def zm6{d:D}(h:d.pl=true)(f:d.fit 9=true):eqD d d=some (.bl true):=by
 unfold eqD zdU;rw [f,(zgp d d h h).mpr rfl];rfl
end S2
namespace S2
open PySem
open L2 hiding D
noncomputable def zqz(ts:Z2)(n:Int)(s:Nat):Int:=(ts.getD n.toNat []).getD s 0
def zfD{i:Int}{S:Sto}:za2 [.int i] S=.ok (.bl true) S:=by simp [za2,za6,zc7,zdG]
noncomputable def hp1:Fe:=zb2 leD ltD (zao (.int 0)) (zaj ixD (zan 1) (zao (.int 0))) (zaj ixD (zan 2) (zao (.int 0)))
noncomputable def hp2:Fe:=zb2 leD ltD (zao (.int 0)) (zaj ixD (zan 1) (zao (.int 1))) (zaj ixD (zan 2) (zao (.int 1)))
noncomputable def hpF:Fs:=(zas (sFz [1] (sIf (eOr (eUn zfv (eFn zat [(zah 1),(zao (.int 2)),(zao (.int 2))])) (eOr (eUn zfv (eFn za2 [(zaj ixD (zan 1) (zao (.int 0)))])) (eUn zfv (eFn za2 [(zaj ixD (zan 1) (zao (.int 1)))])))) (zas (sFz [] (zbT (zao (.bl false)))) sNx) sNx))
  (zas (sFz [0] (zcj 2 false (eFn zbD [(zah 0)]))) (zas (sFz [] (zbT (zg1 hp1 hp2))) sNx)))
def zpH:zcx=hpF:=rfl
def zei{r c:Nat}{g:Z1}{i j:Int}{S:Sto}(h1:1<=r):zbm [flr r c g,.tup [.int i,.int j]] S=.ok (.bl (decide ((0<=i/\i<r)/\0<=j/\j<c))) S:=by
 have ht:zat [.tup [.int i,.int j],.int 2,.int 2] S=.ok (.bl true) S:=by rw [zeS];simp
 have sz:=zf5 (c:=c) (g:=g) (S:=S) h1
 have t1:∀x,hp1 [x,some (false,.tup [.int i,.int j]),some (false,.tup [.int r,.int c])] S=.ok (.bl (decide (0<=i/\i<r))) S:=fun x=>by
  by_cases a:0<=i<;>simp [hp1,a]
 have t2:∀x,hp2 [x,some (false,.tup [.int i,.int j]),some (false,.tup [.int r,.int c])] S=.ok (.bl (decide (0<=j/\j<c))) S:=fun x=>by
  by_cases a:0<=j<;>simp [hp2,a]
 rw [Bool.decide_and];generalize decide (0<=i/\i<r)=b1 at *;generalize decide (0<=j/\j<c)=b2 at *;generalize flr r c g=fl at *;simp only [zbm,za6,zpH]
 cases b1<;>simp [hpF,ht,zfD,sz,t1,t2]
noncomputable def cl2:Option Int->Option Int->Bool | some a,some b=>!decide (a=b) | _,_=>false
end S2
namespace S2
open PySem
open L2 hiding D
end S2
namespace S2
open PySem
open L2 hiding D
end S2
namespace S2
open PySem
open L2 hiding D
noncomputable def unI:D->Int | .int i=>i | _=>0
section
variable{ts:Z2}{c:Nat}{S:Sto}{s1 s3 s4:Option (Bool×D)}
end
end S2
namespace S2
open PySem
open L2 hiding D
end S2
namespace S2
open PySem
open L2 hiding D
end S2
namespace S2
open PySem
open L2 hiding D
noncomputable def zbZ:Fs :=
  (zas (sFz [0,0] (zbT (zdO 1 (.one 0) (zbs (eFn zbh [(zah 0)])) zjo (eFn zal [(zah 1),(zah 0)]) [0])))
  sNx)
noncomputable def zbv:List S2.D->Sto->Out S2.D:=zdb 1 true zbZ
noncomputable def zdM:Fs :=
  (zas (sFz [0,0] (zbT (zdO 1 (.one 0) (zbs (eUn zfz (zah 0))) zjo (zgZ [(zah 0),(eMt zcU 1 (zan 0))]) [0])))
  sNx)
noncomputable def zcJ:List S2.D->Sto->Out S2.D:=zdb 1 true zdM
noncomputable def zfP:Fs :=
  (zas (sFz [0] (zbT (eFn zcJ [(eFn zbv [(zah 0)])])))
  sNx)
noncomputable def zdt:List S2.D->Sto->Out S2.D:=zdb 1 true zfP
noncomputable def zcy:Fs :=
  (zas (sFz [1,2] (zcj 4 false (eFn zaW [(zah 1),(zah 2)])))
  (zas (sFz [1,3] (zcj 5 false (eFn zaW [(zah 1),(zah 3)])))
  (zas (sFz [1,2,5,3,4] (zbT (eFn zaV [(eFn zaV [(zah 1),(zah 2),(zah 5)]),(zah 3),(zah 4)])))
  sNx)))
noncomputable def zaM:List S2.D->Sto->Out S2.D:=zdb 6 false zcy
end S2
namespace S2
open PySem
open L2 hiding D
noncomputable def zbX(r c:Nat)(g:Z1):List Int:=(List.range r).flatMap fun i=>(List.range c).filterMap fun j=>g i j
noncomputable def atP(g:Z1):D->D | .tup [.int i,.int j]=>oD (g i.toNat j.toNat) | _=>.non
theorem zeq{g:Z1}{i:Nat}:∀js:List Nat,(((js.map fun j=>plD i j).filter (zdW g)).map (atP g))=(js.filterMap fun j=>g i j).map D.int
 | []=>rfl
 | j::js=>by
  rw [yay,ybv,ybf]
  have e:zdW g (plD i j)=(g i j).isSome:=by show (g (i:Int).toNat (j:Int).toNat).isSome=_;rfl
  rw [e]
  cases h:g i j with
  | none=>simp only [Option.isSome,yaF,ybm];exact zeq js
  | some x =>
   simp only [Option.isSome,ybM];rw [yay,yay,zeq js,show atP g (plD i j)=oD (g i j) from rfl,h];rfl
def zge{r c:Nat}{g:Z1}:((zbn r c).filter (zdW g)).map (atP g)=(zbX r c g).map D.int:=by
 unfold zbn zbX;rw [List.filter_flatMap,List.map_flatMap,List.map_flatMap];congr 1;funext i;exact zeq _
def zj4{r c:Nat}{g:Z1}(hr:r<=100)(hc:c<=100):(zbX r c g).length<=10000:=by
 have e:=congrArg List.length (zge (r:=r) (c:=c) (g:=g));rw [yak,yak] at e;rw [<-e];refine yal (ybj _ _) ?_;rw [zc1];exact ybl hr hc
def zj3{r c:Nat}{g:Z1}{x:Int}:x∈zbX r c g↔∃i j,i<r/\j<c/\g i j=some x:=by
 unfold zbX;simp only [List.mem_flatMap,ybO,ybA];exact ⟨fun ⟨i,hi,j,hj,e⟩=>⟨i,j,hi,hj,e⟩,fun ⟨i,j,hi,hj,e⟩=>⟨i,hi,j,hj,e⟩⟩
def zfF{r c:Nat}{g:Z1}{S:Sto}(h:1<=r)(hr:r<=100)(hc:c<=100):zbv [flr r c g] S=.ok (.lst ((zbX r c g).map D.int)) S:=by
 have e:zb3 (.one 0) zjo (eFn zal [(zah 1),(zah 0)]) [none,some (false,flr r c g)] ((zbn r c).filter (zdW g)) S=.ok ((zbX r c g).map D.int) S:=by
  rw [zdQ (g:=atP g),zge];intro d hd;obtain ⟨i,j,hi,hj,rfl⟩:=zdv ((ycm.mp hd).1);exact ⟨_,rfl,by simp [zbC hi hj,atP]⟩
 have hl:=zj4 (g:=g) hr hc
 have hl2:((zbn r c).filter (zdW g)).length<=100000:=by
  refine yal (ybj _ _) ?_;rw [zc1];have:r*c<=100*100:=ybl hr hc;omega
 simp [zbv,za6,zbZ,zjE h hr hc,e,hl2,show (zbX r c g).length<=100000 by omega]
theorem ziI:∀ns:List Int,zco (ns.map D.int)=some ns
 | []=>rfl
 | n::ns=>by
  show (zco (ns.map D.int)).map _=_;rw [ziI ns];rfl
def zl9{a b:Int}:zdU (.int a) (.int b)=decide (a=b):=by
 by_cases h:a=b<;>simp [zdU,D.py,PyData.eqv,h]
noncomputable def zi1(ns:List Int)(k:Int):Nat:=ns.countP fun x=>decide (x=k)
def zg2{ns:List Int}{k:Int}:zcU (ns.map D.int) (.int k)=some (.int (zi1 ns k:Nat)):=by
 unfold zcU;rw [show (D.int k).fit 8=true from rfl,show D.fits 8 (ns.map D.int)=true by rw [D.fits_iff];intro d hd;obtain ⟨y,_,rfl⟩:=yaE.mp hd;rfl];show some (D.int _)=_;rw [List.countP_map];have e:(fun d=>zdU d (.int k))∘D.int=fun x=>decide (x=k):=funext fun t=>zl9
 rw [e];rfl
noncomputable def zfu(ns:List Int):List D:=(ST.zac ns).map fun k=>.tup [.int k,.int (zi1 ns k:Nat)]
def zhy{ns:List Int}(h:∀x∈ns,0<=x/\x<8):zfz (.lst (ns.map D.int))=some (.lst ((ST.zac ns).map D.int)):=by
 show (zco (ns.map D.int)).bind _=_;rw [ziI];show (if _ then _ else _)=_;rw [if_pos (ybS.mpr fun x hx=>yaS (h x hx))]
def zfG{ns:List Int}{S:Sto}(h:∀x∈ns,0<=x/\x<8):zcJ [.lst (ns.map D.int)] S=.ok (.lst (zfu ns)) S:=by
 have e:zb3 (.one 0) zjo (zgZ [(zah 0),(eMt zcU 1 (zan 0))]) [none,some (false,.lst (ns.map D.int))] ((ST.zac ns).map D.int) S=.ok (zfu ns) S:=by
  rw [zdQ (g:=fun d=>match d with | .int k=>.tup [.int k,.int (zi1 ns k:Nat)] | _=>.non)]
  ·unfold zfu;rw [List.map_map];rfl
  ·intro d hd;obtain ⟨k,hk,rfl⟩:=yaE.mp hd;exact ⟨_,rfl,by simp [zg2]⟩
 have hl:(ST.zac ns).length<=100000:=yal ST.zaA (by decide)
 have hl2:(zfu ns).length<=100000:=by unfold zfu;rw [yak];exact hl
 simp [zcJ,za6,zdM,zhy h,e,hl,hl2]
def zeT{r c:Nat}{g:Z1}{S:Sto}(h:1<=r)(hr:r<=100)(hc:c<=100)(hg:∀i j x,g i j=some x->0<=x/\x<8):zdt [flr r c g] S=.ok (.lst (zfu (zbX r c g))) S:=by
 have hl:(zfu (zbX r c g)).length<=100000:=by unfold zfu;rw [yak];exact yal ST.zaA (by decide)
 simp [zdt,za6,zfP,zfF h hr hc,zfG (ns:=zbX r c g) (fun x hx=>by obtain ⟨i,j,_,_,e⟩:=zj3.mp hx;exact hg i j x e),hl]
end S2
namespace S2
open PySem
open L2 hiding D
def zox{c:Nat}{f:Nat->Option Int}:(zgK c f).pl=true:=by
 show D.pls (zds c f)=true;rw [D.pls_iff];intro d hd;obtain ⟨j,_,rfl⟩:=yaE.mp hd
 cases f j<;>rfl
def zl5{c n:Nat}{f:Nat->Option Int}:(zgK c f).fit (n+1)=true:=by
 show D.fits n (zds c f)=true;rw [D.fits_iff];intro d hd;obtain ⟨j,_,rfl⟩:=yaE.mp hd
 cases f j<;>simp [oD]
def zpL{r c:Nat}{g:Z1}:(flr r c g).pl=true:=by
 show D.pls (zdJ r c g)=true;rw [D.pls_iff];intro d hd;obtain ⟨j,_,rfl⟩:=yaE.mp hd;exact zox
def zmZ{r c n:Nat}{g:Z1}:(flr r c g).fit (n+2)=true:=by
 show D.fits (n+1) (zdJ r c g)=true;rw [D.fits_iff];intro d hd;obtain ⟨j,_,rfl⟩:=yaE.mp hd;exact zl5
def zii{r c:Nat}{g:Z1}:neD (flr r c g) (flr r c g)=some (.bl false):=zih zpL zmZ
end S2
namespace S2
open PySem
open L2 hiding D
noncomputable def zub(und:Str->Str->Bool)(C:Str)(i j:Nat):Fo->Fo
 | .ex c ρ' S'=>if und c C&&decide (i<ρ'.length) then .nx ((ρ'.set j (some (false,.exc c))).set i none) S' else .bad
 | o=>o
section
variable{ρ:Env}{S:Sto}{f g:Fe}{a:Fs}
@[simp] def ztv{und:Str->Str->Bool}{C:Str}{i j:Nat}:zub und C i j (.nx ρ S)=.nx ρ S:=(rfl)
@[simp] def ztu{und:Str->Str->Bool}{C c:Str}{i j:Nat}:zub und C i j (.ex c ρ S)=if und c C&&decide (i<ρ.length) then .nx ((ρ.set j (some (false,.exc c))).set i none) S else .bad:=(rfl)
@[simp] def zuN{w:Str->Str->Option Bool}{C c:Str}:zvT w C (.exc c)=(w c C).map .bl:=(rfl)
@[simp] def zsO{c:Str}:zbY (.exc c)=false:=(rfl)
@[simp] def zsN{l:List D}:zbY (.lst l)=false:=(rfl)
@[simp] def zsS{l:List D}{j:Int}:zgQ (.lst l) (.int j)=if decide (0<=j/\j<=1000/\l.length<=1000) then some (.lst (List.replicate j.toNat l).flatten) else none:=(rfl)
end
noncomputable abbrev Gf:=Nat->Nat->Option Int
noncomputable def ov(g h:Gf):Gf:=fun i j=>(h i j).or (g i j)
noncomputable def un(g h:Gf):Gf:=fun i j=>if (h i j).isSome then none else g i j
noncomputable def psN(r c:Nat):List (Nat×Nat):=(List.range r).flatMap fun i=>(List.range c).map fun j=>(i,j)
def zmh{r c:Nat}:zbn r c=(psN r c).map fun p=>plD p.1 p.2:=by
 simp [zbn,psN,List.map_flatMap,Function.comp_def]
end S2
namespace S2
open PySem
open L2 hiding D
end S2
namespace S2
open PySem
open L2 hiding D
noncomputable def sh1:D->Bool | .non=>true | .bl _=>true | .int _=>true | .str _=>true | .tup _=>true | .lst _=>true | _=>false
noncomputable def sh2:D->Bool | .tup l=>l.all sh1 | d=>sh1 d
end S2
namespace S2
open PySem
open L2 hiding D
noncomputable def zui(c f:Str):Out D->Out D | .ok d S=>(match znA c f d S with | some r=>.ok r S | none=>.bad) | .exc c S=>.exc c S | .bad=>.bad
noncomputable def zgl(G:List D->Sto->Out D)(d:D):Out (List D)->Out D | .ok ds S=>G (d::ds) S | .exc c S=>.exc c S | .bad=>.bad
noncomputable def zpA(c m:Str)(G:List D->Sto->Out D)(fs:List Fe)(ρ:Env):Out D->Out D | .ok d S=>if zcO c m d S then zgl G d (zae fs ρ S) else .bad | .exc c S=>.exc c S | .bad=>.bad
noncomputable def zqs(n:Nat):Out D->Out D | .ok r S=>(match r with | .non=>.ok (.ref n) S | _=>.bad) | .exc c S=>.exc c S | .bad=>.bad
noncomputable def kMk(c:Str)(dds:List D)(G:List D->Sto->Out D):Out (List D)->Out D | .ok ds S=>zqs S.length (G (.ref S.length::(ds++dds)) (S++[⟨c,[]⟩])) | .exc c S=>.exc c S | .bad=>.bad
noncomputable def zkm(c f:Str)(dk:D):Out D->Out D | .ok d S=>(match zjn dk,zgu c f d S with | some k,some (_,_,ds)=>.ok (.bl (zcC k ds).isNone) S | _,_=>.bad) | .exc c S=>.exc c S | .bad=>.bad
noncomputable def zud(c f:Str)(fo:Fe)(ρ:Env):Out D->Out D | .ok d S=>zkm c f d (fo ρ S) | .exc c S=>.exc c S | .bad=>.bad
noncomputable def zug(c f:Str)(o:Option NK):Out D->Out D | .ok d S=>(match o,zgu c f d S with | some k,some (_,_,ds)=>(match zcC k ds with | some r=>.ok r S | none=>.bad) | _,_=>.bad) | .exc c S=>.exc c S | .bad=>.bad
section
variable{ρ:Env}{S:Sto}{f g h k:Fe}
@[simp] def zs4{c x:Str}:zm8 c x f ρ S=zui c x (f ρ S):=by unfold zm8;cases f ρ S<;>rfl
@[simp] def zvK{c x:Str}{d:D}:zui c x (.ok d S)=(match znA c x d S with | some r=>.ok r S | none=>.bad):=(rfl)
@[simp] def zqQ{c m:Str}{G:List D->Sto->Out D}{fs:List Fe}:zff c m G f fs ρ S=zpA c m G fs ρ (f ρ S):=by
 unfold zff
 cases f ρ S with
 | ok d S1 =>
  show (if zcO c m d S1 then (zae fs ρ S1).bind fun ds S2=>G (d::ds) S2 else .bad)=(if zcO c m d S1 then zgl G d (zae fs ρ S1) else .bad)
  cases zae fs ρ S1<;>rfl
 | exc c S=>rfl
 | bad=>rfl
@[simp] def ztN{c m:Str}{G:List D->Sto->Out D}{fs:List Fe}{d:D}:zpA c m G fs ρ (.ok d S)=if zcO c m d S then zgl G d (zae fs ρ S) else .bad:=(rfl)
@[simp] def zrF{G:List D->Sto->Out D}{d:D}{ds:List D}:zgl G d (.ok ds S)=G (d::ds) S:=(rfl)
@[simp] def zuX{c:Str}{dds:List D}{G:List D->Sto->Out D}{fs:List Fe}:eMk c dds G fs ρ S=kMk c dds G (zae fs ρ S):=by
 unfold eMk
 cases zae fs ρ S with
 | ok ds S1 =>
  show ((G (.ref S1.length::(ds++dds)) (S1++[⟨c,[]⟩])).bind fun r S2=>match r with | .non=>.ok (.ref S1.length) S2 | _=>.bad)=zqs S1.length (G (.ref S1.length::(ds++dds)) (S1++[⟨c,[]⟩]))
  cases G (.ref S1.length::(ds++dds)) (S1++[⟨c,[]⟩])<;>rfl
 | exc c S=>rfl
 | bad=>rfl
@[simp] def zwj{c:Str}{dds:List D}{G:List D->Sto->Out D}{ds:List D}:kMk c dds G (.ok ds S)=zqs S.length (G (.ref S.length::(ds++dds)) (S++[⟨c,[]⟩])):=(rfl)
@[simp] def zvz{n:Nat}:zqs n (.ok .non S)=.ok (.ref n) S:=(rfl)
@[simp] def zs1{c x:Str}:zm7 c x f g ρ S=zud c x g ρ (f ρ S):=by
 unfold zm7
 cases f ρ S with
 | ok d S1 =>
  show ((g ρ S1).bind fun d' S2=>match zjn d,zgu c x d' S2 with | some k,some (_,_,ds)=>.ok (.bl (zcC k ds).isNone) S2 | _,_=>.bad)=zkm c x d (g ρ S1)
  cases g ρ S1<;>rfl
 | exc c S=>rfl
 | bad=>rfl
@[simp] def zvx{c x:Str}{d:D}:zud c x g ρ (.ok d S)=zkm c x d (g ρ S):=(rfl)
@[simp] def ztM{c x:Str}{dk d:D}:zkm c x dk (.ok d S)=(match zjn dk,zgu c x d S with | some k,some (_,_,ds)=>.ok (.bl (zcC k ds).isNone) S | _,_=>.bad):=(rfl)
@[simp] def zs3{c x:Str}{i:Nat}:ziU c x f i ρ S=zug c x (zld ρ i) (f ρ S):=by unfold ziU;cases f ρ S<;>rfl
@[simp] def zvG{c x:Str}{d:D}{o:Option NK}:zug c x o (.ok d S)=(match o,zgu c x d S with | some k,some (_,_,ds)=>(match zcC k ds with | some r=>.ok r S | none=>.bad) | _,_=>.bad):=(rfl)
end
section
variable{S:Sto}{n:Nat}{ts:Z2}{gr:Z4}{r c:Nat}{b:Bool}{ds:List (D×D)}
noncomputable def tl(ts:Z2)(x:Int):D:=.tup [.int (zqz ts x 0),.int (zqz ts x 1),.int (zqz ts x 2),.int (zqz ts x 3)]
noncomputable def sb8:Fe:=eIf (zg1 (zm8 "Ways" "is_round" (zah 0)) (eUn zfv (zah 4))) (zff "Ways" "colour_round" zcr (zah 0) [(zah 1),(zah 2),(zah 3)]) (zao .non)
end
end S2
namespace S2
open PySem
open L2 hiding D
section
variable{S:Sto}{n:Nat}{ts:Z2}{gr:Z4}{r c:Nat}{b:Bool}{ds:List (D×D)}
end
end S2
namespace S2
open PySem
open L2 hiding D
noncomputable def ziv(c x:Str)(i:Nat)(ρ:Env)(r:D):Out D->Fo
 | .bad=>.bad
 | .exc c S2=>.ex c ρ S2
 | .ok d S2=>(match zld ρ i,zgu c x d S2 with
   | some k,some (n,ob,ds)=>if (zcC k ds).isNone&&decide (ds.length<=1000000)&&zig ob then .nx ρ (S2.set n (ob.put x true (.dic (ds++[(nkD k,r)])))) else .bad
   | _,_=>.bad)
noncomputable def zmM(c x:Str)(f:Fe)(i:Nat)(ρ:Env):Out D->Fo
 | .bad=>.bad
 | .exc c S2=>.ex c ρ S2
 | .ok r S1=>ziv c x i ρ r (f ρ S1)
@[simp] def zqK{c x:Str}{f g:Fe}{i:Nat}{ρ:Env}{S:Sto}:zhM c x f i g ρ S=zmM c x f i ρ (g ρ S):=by
 unfold zhM zmM
 cases g ρ S with
 | ok r S1=>dsimp only;unfold ziv;cases f ρ S1<;>rfl
 | exc c S=>rfl
 | bad=>rfl
@[simp] def ztK{c x:Str}{f:Fe}{i:Nat}{ρ:Env}{S:Sto}{r:D}:zmM c x f i ρ (.ok r S)=ziv c x i ρ r (f ρ S):=(rfl)
noncomputable def zjG(q:Nat):Nat->Nat
 | 0=>0
 | m+1=>1+q*zjG q m
section
variable{n:Nat}{ts:Z2}{gr:Z4}{r c:Nat}{b:Bool}
end
end S2
namespace S2
open PySem
open L2 hiding D
noncomputable def zix(c x:Str)(ρ:Env)(r:D):Out D->Fo
 | .bad=>.bad
 | .exc c S2=>.ex c ρ S2
 | .ok (.ref n) S2=>(match S2[n]? with
   | some ob=>if decide (ob.cls=c)&&decide (ob.fs.length<1000) then .nx ρ (S2.set n (ob.put x false r)) else .bad
   | none=>.bad)
 | .ok _ _=>.bad
noncomputable def zmO(c x:Str)(f:Fe)(ρ:Env):Out D->Fo
 | .bad=>.bad
 | .exc c S2=>.ex c ρ S2
 | .ok r S1=>zix c x ρ r (f ρ S1)
@[simp] def zqL{c x:Str}{f g:Fe}{ρ:Env}{S:Sto}:zhP c x f g ρ S=zmO c x f ρ (g ρ S):=by
 unfold zhP zmO
 cases g ρ S with
 | ok r S1 =>
  dsimp only;unfold zix
  cases f ρ S1 with
  | ok d S2=>cases d<;>rfl
  | exc c S=>rfl
  | bad=>rfl
 | exc c S=>rfl
 | bad=>rfl
@[simp] def ztU{c x:Str}{f:Fe}{ρ:Env}{S:Sto}{r:D}:zmO c x f ρ (.ok r S)=zix c x ρ r (f ρ S):=(rfl)
end S2
namespace S2
open PySem
open L2 hiding D
section
variable{w:D}{ts:Z2}{c:Nat}{t:List Int}{n:Int}{S:Sto}{s1 s3 s4 s5 s8 x:Option (Bool×D)}
end
section
variable{ts:Z2}{c:Nat}{S:Sto}{s1 s3 s4:Option (Bool×D)}{o:Option Int}
end
end S2
namespace S2
open PySem
open L2 hiding D
end S2
namespace S2
open PySem
open L2 hiding D
def zne{α:Type}{l:List α}{n:Nat}:zdV l (some (n:Int)) none=l.drop n:=by
 unfold zdV;rw [HT.zhN];simp [HT.sIx]
 by_cases h:n<=l.length
 ·rw [ybH h];exact yb7 (by simp)
 ·rw [List.drop_eq_nil_of_le (show l.length<=n by omega),List.drop_eq_nil_of_le (by omega)];simp
def zpV{α:Type}{l:List α}{n:Nat}(h:n<=l.length):zdV l none (some (n:Int))=l.take n:=by
 unfold zdV;rw [HT.zhN];simp [HT.sIx,ybH h]
end S2
namespace S2
open PySem
open L2 hiding D
noncomputable def zjl(g:Z1)(i j:Nat)(o:Option Int):Nat->Nat->Option Int:=fun a b=>if a=i/\b=j then o else g a b
def zl6{c j:Nat}{g:Nat->Option Int}{o:Option Int}:(zds c g).set j (oD o)=zds c fun b=>if b=j then o else g b:=by
 apply ybq;intro k
 by_cases hk:k<c
 ·rw [zel hk]
  by_cases e:j=k
  ·subst e;rw [yaz (by rw [zcI];exact hk),if_pos rfl]
  ·rw [yaJ e,zel hk,if_neg (fun z=>e z.symm)]
 ·rw [ya3 (by rw [yaB,zcI];omega),ya3 (by rw [zcI];omega)]
def zmY{r c i j:Nat}{g:Z1}{o:Option Int}:(zdJ r c g).set i (zgK c fun b=>if b=j then o else g i b)=zdJ r c (zjl g i j o):=by
 apply ybq;intro k
 by_cases hk:k<r
 ·rw [zcR hk]
  by_cases e:i=k
  ·subst e;rw [yaz (by rw [zcQ];exact hk)];congr 3;funext b;unfold zjl
   by_cases z:b=j<;>simp [z]
  ·rw [yaJ e,zcR hk];congr 3;funext b;unfold zjl;rw [if_neg (fun z=>e z.1.symm)]
 ·rw [ya3 (by rw [yaB,zcQ];omega),ya3 (by rw [zcQ];omega)]
def ziW{α:Type}{l:List α}{j:Nat}{x:α}(h:j<l.length):zdV l none (some (j:Int))++x::zdV l (some ((j:Int)+1)) none=l.set j x:=by
 rw [zpV (by omega),show ((j:Int)+1)=((j+1:Nat):Int) by omega,zne,List.set_eq_take_append_cons_drop,if_pos h]
def zbU{r c i j:Nat}{g:Z1}{o:Option Int}{S:Sto}(hi:i<r)(hj:j<c)(hr:r<=100)(hc:c<=100):zaV [flr r c g,plD i j,oD o] S=.ok (flr r c (zjl g i j o)) S:=by
 have e0:atI (zdJ r c g) (i:Int)=some (zgK c (g i)):=by rw [zbN,zcR hi]
 have e1:zdV (zds c (g i)) none (some (j:Int))++oD o::zdV (zds c (g i)) (some ((j:Int)+1)) none=zds c fun b=>if b=j then o else g i b:=by rw [ziW (by rw [zcI];exact hj),zl6]
 have e2:zdV (zdJ r c g) none (some (i:Int))++(zgK c fun b=>if b=j then o else g i b)::zdV (zdJ r c g) (some ((i:Int)+1)) none=zdJ r c (zjl g i j o):=by rw [ziW (by rw [zcQ];exact hi),zmY]
 have l1:=congrArg List.length e1;have l2:=congrArg List.length e2;rw [yar,yag,zcI] at l1;rw [yar,yag,zcQ] at l2;unfold flr;rw [<-e2];unfold zgK at e0 ⊢;rw [<-e1];generalize q1:zdV (zds c (g i)) none (some (j:Int))=a1 at *;generalize q2:zdV (zds c (g i)) (some ((j:Int)+1)) none=a2 at *;generalize q3:zdV (zdJ r c g) none (some (i:Int))=b1 at *;generalize q4:zdV (zdJ r c g) (some ((i:Int)+1)) none=b2 at *
 have p1:a1.length+1<=100000:=by omega
 have p2:a1.length+1+a2.length<=100000:=by omega
 have p3:b1.length+1<=100000:=by omega
 have p4:b1.length+1+b2.length<=100000:=by omega
 simp [zaV,za6,zbJ,plD,e0,q1,q2,q3,q4,p1,p2,p3,p4]
end S2
namespace S2
open PySem
open L2 hiding D
@[simp] def zuP{x y:Bool}:zqw (.bl x) (.bl y)=some (.bl (decide (x=y))):=(rfl)
def zfE{r c i j:Nat}{g:Z1}{S:Sto}(h1:1<=r)(hi:i<r)(hj:j<c):zaK [flr r c g,plD i j] S=.ok .non S:=by
 have hp:zbm [flr r c g,plD i j] S=.ok (.bl true) S:=by rw [zei h1];congr 3;simp;omega
 simp [zaK,za6,zbb,hp]
noncomputable def zlw(q m:Nat):Prop:=zjG q m+m*(zjG q m+q*zjG q m)<=1000000/\q ^ m<=80000
noncomputable instance{q m:Nat}:Decidable (zlw q m):=by unfold zlw;exact inferInstance
section
variable{ts:Z2}{r c:Nat}{g:Z1}
end
end S2
namespace S2
open PySem
open L2 hiding D
section
variable{ts:Z2}{r c:Nat}{g:Z1}
end
end S2
namespace S2
open PySem
open L2 hiding D
section
variable{ts:Z2}{r c:Nat}{g:Z1}
end
noncomputable def zmA(g h:Z1):D->Bool | .tup [.int i,.int j]=>!decide (g i.toNat j.toNat=h i.toNat j.toNat) | _=>false
def zpk{g h:Z1}{i j:Nat}:zmA g h (plD i j)=!decide (g i j=h i j):=by
 show (!decide (g ((i:Int).toNat) ((j:Int).toNat)=h ((i:Int).toNat) ((j:Int).toNat)))=_;rw [ya2,ya2]
def zj9{a b:Option Int}:neD (oD a) (oD b)=some (.bl (!decide (a=b))):=by
 cases a<;>cases b<;>simp [neD,zdU,D.py,PyData.eqv,oD]<;>rfl
def zek{r c:Nat}{g h:Z1}{S:Sto}(h1:1<=r)(hr:r<=100)(hc:c<=100):zbG [flr r c g,flr r c h] S=.ok (.lst ((zbn r c).filter (zmA g h))) S:=by
 have e1:=zcZ (g:=g) (S:=S) (c:=c) h1 hr hc
 have e2:=zcV (tg:=.one 0) (c:=zaj neD (eFn zal [(zah 1),(zah 0)]) (eFn zal [(zah 2),(zah 0)])) (elt:=zah 0) (ρ0:=[none,some (false,flr r c g),some (false,flr r c h)]) (S:=S) (g:=id) (p:=zmA g h) (ds:=zbn r c) (by
  intro d hd;obtain ⟨i,j,hi,hj,rfl⟩:=zdv hd;have n1:=zbC (g:=g) (S:=S) hi hj;have n2:=zbC (g:=h) (S:=S) hi hj;refine ⟨_,rfl,?_,fun _=>rfl⟩;rw [zpk];have n3:=zj9 (a:=g i j) (b:=h i j);generalize flr r c g=fg at *;generalize flr r c h=fh at *;generalize plD i j=pp at *
  simp [n1,n2,n3])
 rw [List.map_id] at e2
 have hl:((zbn r c).filter (zmA g h)).length<=100000:=by
  refine yal (ybj _ _) ?_;rw [zc1];exact yal (ybl hr hc) (by decide)
 generalize (zbn r c).filter (zmA g h)=res at *;generalize flr r c g=fg at *;generalize flr r c h=fh at *;simp [zbG,za6,zcz,e1,e2,hl]
end S2
namespace S2
open PySem
open L2 hiding D
section
variable{n:Nat}{ts:Z2}{gr:Z4}{r c:Nat}{b:Bool}
end
end S2
namespace S2
open PySem
open L2 hiding D
section
variable{n:Nat}{ts:Z2}{gr:Z4}{r c:Nat}{b:Bool}
end
end S2
namespace S2
open PySem
open L2 hiding D
section
variable{ts:Z2}{gr:Z4}{c:Nat}
end
end S2
namespace S2
open PySem
open L2 hiding D
section
variable{n:Nat}{ts:Z2}{gr:Z4}{r c:Nat}{b:Bool}{S:Sto}
end
end S2
namespace S2
open PySem
open L2 hiding D
end S2
namespace S2
open PySem
open L2 hiding D
section
variable{ts:Z2}{r c:Nat}{g h:Z1}
def za0{i j:Nat}{S:Sto}(h1:1<=r)(hi:i<r)(hj:j<c):zaW [flr r c g,plD i j] S=.ok (oD (g i j)) S:=by
 have e1:=zfE (g:=g) (S:=S) h1 hi hj;have e2:=zbC (g:=g) (S:=S) hi hj;generalize flr r c g=fg at *;generalize plD i j=pp at *;simp [zaW,za6,zdK,e1,e2]
end
end S2
namespace S2
open PySem
open L2 hiding D
noncomputable def swp(i j k m:Nat)(p:Nat×Nat):Nat×Nat:=if p=(k,m) then (i,j) else if p=(i,j) then (k,m) else p
noncomputable def zb9(g:Z1)(i j k m:Nat):Nat->Nat->Option Int:=fun a b=>g (swp i j k m (a,b)).1 (swp i j k m (a,b)).2
def zed{i j k m:Nat}{p:Nat×Nat}:swp i j k m (swp i j k m p)=p:=by
 unfold swp
 by_cases h1:p=(k,m)
 ·rw [if_pos h1]
  by_cases h2:(i,j)=(k,m)
  ·rw [if_pos h2,h1,h2]
  ·rw [if_neg h2,if_pos rfl,h1]
 ·rw [if_neg h1]
  by_cases h2:p=(i,j)
  ·rw [if_pos h2,if_pos rfl,h2]
  ·rw [if_neg h2,if_neg h1,if_neg h2]
def zjv{i j k m:Nat}{p:Nat×Nat}:swp k m i j p=swp i j k m p:=by
 unfold swp
 by_cases h1:p=(k,m)
 ·by_cases h2:p=(i,j)
  ·rw [if_pos h2,if_pos h1,<-h1,<-h2]
  ·rw [if_neg h2,if_pos h1,if_pos h1]
 ·by_cases h2:p=(i,j)
  ·rw [if_pos h2,if_neg h1,if_pos h2]
  ·rw [if_neg h2,if_neg h1,if_neg h1,if_neg h2]
def zju{i j:Nat}{p:Nat×Nat}:swp i j i j p=p:=by
 unfold swp
 by_cases h:p=(i,j)
 ·rw [if_pos h,h]
 ·rw [if_neg h,if_neg h]
def zlz{g:Z1}{i j k m:Nat}:zjl (zjl g i j (g k m)) k m (g i j)=zb9 g i j k m:=by
 funext a b;unfold zjl zb9 swp
 by_cases h1:a=k/\b=m
 ·rw [if_pos h1,if_pos (by rw [h1.1,h1.2])]
 ·rw [if_neg h1,if_neg (fun z=>h1 ⟨congrArg Prod.fst z,congrArg Prod.snd z⟩)]
  by_cases h2:a=i/\b=j
  ·rw [if_pos h2,if_pos (by rw [h2.1,h2.2])]
  ·rw [if_neg h2,if_neg (fun z=>h2 ⟨congrArg Prod.fst z,congrArg Prod.snd z⟩)]
def zly{g:Z1}{i j k m:Nat}:zb9 (zb9 g i j k m) i j k m=g:=by
 funext a b;show g (swp i j k m (swp i j k m (a,b))).1 (swp i j k m (swp i j k m (a,b))).2=g a b;rw [zed]
def zjs{g:Z1}{i j k m:Nat}:zb9 g k m i j=zb9 g i j k m:=by
 funext a b;unfold zb9;rw [zjv]
def zjr{g:Z1}{i j:Nat}:zb9 g i j i j=g:=by
 funext a b;unfold zb9;rw [zju]
def zbg{T:D}{r c i j k m:Nat}{g:Z1}{S:Sto}(h1:1<=r)(hr:r<=100)(hc:c<=100)(hi:i<r)(hj:j<c)(hk:k<r)(hm:m<c):zaM [T,flr r c g,plD i j,plD k m] S=.ok (flr r c (zb9 g i j k m)) S:=by
 have e1:=za0 (g:=g) (S:=S) h1 hi hj;have e2:=za0 (g:=g) (S:=S) h1 hk hm;have e3:=zbU (g:=g) (o:=g k m) (S:=S) hi hj hr hc;have e4:=zbU (g:=zjl g i j (g k m)) (o:=g i j) (S:=S) hk hm hr hc;rw [zlz] at e4;generalize flr r c g=F0 at *;generalize flr r c (zjl g i j (g k m))=F1 at *;generalize flr r c (zb9 g i j k m)=F2 at *;generalize oD (g i j)=o1 at *;generalize oD (g k m)=o2 at *;generalize plD i j=p1 at *;generalize plD k m=p2 at *;simp [zaM,za6,zcy,e1,e2,e3,e4]
noncomputable def ltP(p q:Nat×Nat):Prop:=p.1<q.1\/(p.1=q.1/\p.2<q.2)
def zhZ{r c:Nat}:(psN r c).Pairwise ltP:=by
 unfold psN;rw [List.pairwise_flatMap];refine ⟨fun i _=>?_,?_⟩
 ·rw [ycb];exact List.Pairwise.imp (fun h=>.inr ⟨rfl,h⟩) List.pairwise_lt_range
 ·refine List.Pairwise.imp (fun {a b} h=>?_) List.pairwise_lt_range;intro x hx y hy;obtain ⟨_,_,rfl⟩:=yaE.mp hx;obtain ⟨_,_,rfl⟩:=yaE.mp hy;exact .inl h
def zc0{r c:Nat}{p:Nat×Nat}:p∈psN r c↔p.1<r/\p.2<c:=by
 unfold psN;simp only [List.mem_flatMap,ybO,yaE];exact ⟨fun ⟨i,hi,j,hj,e⟩=>by rw [<-e];exact ⟨hi,hj⟩,fun ⟨h1,h2⟩=>⟨p.1,h1,p.2,h2,rfl⟩⟩
def zk4{r c:Nat}:(psN r c).Nodup:=List.Pairwise.imp (fun {a b} h e=>by subst e;rcases h with h | ⟨_,h⟩<;>exact yaQ _ h) zhZ
theorem zpN{v:Nat×Nat}:∀{l:List (Nat×Nat)},l.Pairwise ltP->v∈l->(l.filter fun p=>decide (p=v))=[v]
 | a::l,h,hv=>by
  rw [yb0] at h
  by_cases e:a=v
  ·subst e;rw [ybv,if_pos (yaS rfl)];congr 1;rw [List.filter_eq_nil_iff];intro p hp z;have:=yap z;subst this
   rcases h.1 _ hp with h | ⟨_,h⟩<;>exact yaQ _ h
  ·rw [ybv,if_neg (by simpa using e)];exact zpN h.2 ((yam.mp hv).resolve_left fun z=>e z.symm)
theorem zm1{u v:Nat×Nat}(huv:ltP u v):∀{l:List (Nat×Nat)},l.Pairwise ltP->u∈l->v∈l->(l.filter fun p=>decide (p=u\/p=v))=[u,v]
 | a::l,h,hu,hv=>by
  have hne:u≠v:=fun z=>by subst z;rcases huv with h | ⟨_,h⟩<;>exact yaQ _ h
  rw [yb0] at h
  by_cases e:a=u
  ·subst e;rw [ybv,if_pos (yaS (.inl rfl))];congr 1;have hv':=(yam.mp hv).resolve_left fun z=>hne z.symm
   rw [<-zpN h.2 hv'];apply ycH;intro p hp;rw [decide_eq_decide];refine ⟨fun z=>z.resolve_left fun z=>?_,.inr⟩;subst z
   rcases h.1 _ hp with h | ⟨_,h⟩<;>exact yaQ _ h
  ·have hu':=(yam.mp hu).resolve_left fun z=>e z.symm
   have e2:a≠v:=fun z=>by
    subst z;have h1:=h.1 _ hu';unfold ltP at huv h1;omega
   rw [ybv,if_neg (by simp [e,e2])];exact zm1 huv h.2 hu' ((yam.mp hv).resolve_left fun z=>e2 z.symm)
def zlt{r c:Nat}{g:Z1}{x:Int}:zi1 (zbX r c g) x=(psN r c).countP fun p=>decide (g p.1 p.2=some x):=by
 unfold zi1 zbX psN;rw [List.countP_flatMap,List.countP_flatMap];congr 2;funext i;show List.countP _ _=List.countP _ _;rw [List.countP_filterMap,List.countP_map];congr 1;funext j
 cases h:g i j with
 | none=>simp [h]
 | some y=>simp [h]
def zhx{r c i j k m:Nat}(hi:i<r)(hj:j<c)(hk:k<r)(hm:m<c){p:Nat×Nat}(h:p∈psN r c):swp i j k m p∈psN r c:=by
 unfold swp;split
 ·exact zc0.mpr ⟨hi,hj⟩
 ·split
  ·exact zc0.mpr ⟨hk,hm⟩
  ·exact h
def zng{r c i j k m:Nat}{g:Z1}{x:Int}(hi:i<r)(hj:j<c)(hk:k<r)(hm:m<c):zi1 (zbX r c (zb9 g i j k m)) x=zi1 (zbX r c g) x:=by
 rw [zlt,zlt]
 have hp:((psN r c).map (swp i j k m)).Perm (psN r c):=by
  refine (List.perm_ext_iff_of_nodup ?_ zk4).mpr fun p=>?_
  ·unfold List.Nodup;rw [ycb];exact List.Pairwise.imp (fun {a b} h e=>h (by have:=congrArg (swp i j k m) e;rwa [zed,zed] at this)) zk4
  ·rw [yaE];exact ⟨fun ⟨q,hq,e⟩=>e ▸ zhx hi hj hk hm hq,fun h=>⟨_,zhx hi hj hk hm h,zed⟩⟩
 have e:=hp.countP_eq (fun p=>decide (g p.1 p.2=some x));rwa [List.countP_map] at e
def znL{ns ms:List Int}(h:∀x,zi1 ns x=zi1 ms x):zfu ns=zfu ms:=by
 have hm:∀(l:List Int) (x:Int),x∈l↔zi1 l x≠0:=by
  intro l x;unfold zi1;rw [Ne,List.countP_eq_zero];constructor
  ·intro hx z;exact z x hx (yaS rfl)
  ·intro z
   by_cases hx:x∈l
   ·exact hx
   ·refine absurd (fun y hy e=>hx ?_) z;have e':y=x:=yap e;exact e' ▸ hy
 have hc:ST.zac ns=ST.zac ms:=by
  unfold ST.zac;apply ycH;intro x _;rw [decide_eq_decide,hm,hm,h]
 unfold zfu;rw [hc];apply List.map_congr_left;intro k _;rw [h]
end S2
namespace S2.L84
open PySem
open L2 hiding D
noncomputable def zeB:Fs :=
  (zas (sFz [2,7,7] (zcj 8 false (eFn zaW [(zah 2),(znC 4 5 5 4 (zah 7) (zah 7))]))) (zas (sFz [6,7] (sIf (zaj neD (eFn zaW [(zah 6),(zah 7)]) (zan 8)) (zas (sFz [] (zbT (zao (.bl false)))) sNx) sNx)) sNx))
noncomputable def zdl:Fs:=zas (sFz [2,6,9,4,5] (zbT (eOr (zaj gtD (za5 ze7 [(zan 3)]) (zao (.int 8))) (zaj eqD (eFn zbG [(zah 2),(zah 6)]) (eIf (zah 9) (znB (zah 4) (zah 5)) (zg0 [])))))) sNx
noncomputable def zhm:Fs:=zas (sFz [2,4,2,5] (zcj 9 false (zaj neD (eFn zaW [(zah 2),(zah 4)]) (eFn zaW [(zah 2),(zah 5)])))) zdl
noncomputable def zhn:Fs:=zas (sFz [1,2,4,4,6,2] (sIf (eOr (zaj neD (eFn zaM [(zah 1),(zah 2),(zah 4),(zah 4)]) (zan 2)) (zaj neD (eFn zdt [(zah 6)]) (eFn zdt [(zah 2)]))) (zas (sFz [] (zbT (zao (.bl false)))) sNx) sNx)) zhm
noncomputable def zfx:Fs:=zas (sFz [1,6,4,5,1,2,5,4] (sIf (eOr (zaj neD (eFn zaM [(zah 1),(zah 6),(zah 4),(zah 5)]) (zan 2)) (zaj neD (eFn zaM [(zah 1),(zah 2),(zah 5),(zah 4)]) (zan 6))) (zas (sFz [] (zbT (zao (.bl false)))) sNx) sNx)) zhn
noncomputable def zfy:Fs:=zas (sFz [3] (zhO (.one 7) (zbs (zah 3)) zeB)) zfx
noncomputable def zho:Fs:=zas (sFz [1,2,4,5] (zcj 6 false (eFn zaM [(zah 1),(zah 2),(zah 4),(zah 5)]))) zfy
noncomputable def zhp:Fs:=zas (sFz [0,0] (znx 4 5 false (zaj ixD (zan 3) (eFn zai [(zah 0),(zao (.int 1)),(za5 ze7 [(zan 3)])])) false (zaj ixD (zan 3) (eFn zai [(zah 0),(zao (.int 2)),(za5 ze7 [(zan 3)])])))) zho
noncomputable def zhq:Fs:=zas (sFz [2] (zcj 3 true (eFn za1 [(zah 2)]))) zhp
noncomputable def zhr:Fs:=zas (sFz [0,1] (zcj 2 false (eFn zax [(zah 0),(zao (.int 300)),(zah 1)]))) zhq
noncomputable def zhs:Fs:=zas (sFz [0] (zcj 1 false (eFn zbw [(zah 0),(zao (.int 200)),(zao (.int 4))]))) zhr
noncomputable def zm2:Fs :=
  zhs
noncomputable def zoD:List S2.D->Sto->Out S2.D:=zdb 10 false zm2
end S2.L84
namespace S2.L84
open PySem
open L2 hiding D
def zj9{a b:Option Int}:neD (oD a) (oD b)=some (.bl (!decide (a=b))):=by
 cases a<;>cases b<;>simp [oD,neD,zdU,D.py,PyData.eqv]
 rename_i a b
 by_cases e:a=b<;>simp [e]
noncomputable abbrev plP(p:Nat×Nat):D:=plD p.1 p.2
def zgk{a b i j:Nat}:(([.inl (a:Int),.inl (b:Int)]:List Key)=[.inl (i:Int),.inl (j:Int)])↔(a,b)=(i,j):=by
 constructor
 ·intro h
  injection h with h1 h2
  injection h2 with h2 _
  injection h1 with h1
  injection h2 with h2
  rw [Int.ofNat.inj h1,Int.ofNat.inj h2]
 ·intro h;rw [Prod.mk.injEq] at h;rw [h.1,h.2]
def zpQ{ρ:Env}{S:Sto}{i j k m a b:Nat}(h4:ρ[4]?=some (some (false,plD i j)))(h5:ρ[5]?=some (some (false,plD k m)))(h7:ρ[7]?=some (some (false,plD a b))) :
  znC 4 5 5 4 (zah 7) (zah 7) ρ S=.ok (plP (swp i j k m (a,b))) S:=by
 have s4:zcl 4 ρ=some (plD i j):=by unfold zcl;rw [h4]
 have s5:zcl 5 ρ=some (plD k m):=by unfold zcl;rw [h5]
 have ed:dnO 4 5 5 4 ρ=some ([.inl (i:Int),.inl (j:Int)],plD k m,[.inl (k:Int),.inl (m:Int)],plD i j):=by
  unfold dnO;rw [s4,s5];rfl
 have v7:zah 7 ρ S=.ok (plD a b) S:=by simp [h7]
 unfold znC;rw [ed];show (zah 7 ρ S).bind _=_;rw [v7];show (zah 7 ρ S).bind _=_;rw [v7];show Out.ok (if _ then _ else _) S=_;unfold swp
 by_cases h1:(a,b)=(k,m)
 ·rw [if_pos (zgk.mpr h1),if_pos h1]
 ·rw [if_neg (fun z=>h1 (zgk.mp z)),if_neg h1]
  by_cases h2:(a,b)=(i,j)
  ·rw [if_pos (zgk.mpr h2),if_pos h2]
  ·rw [if_neg (fun z=>h2 (zgk.mp z)),if_neg h2]
variable{r c:Nat}{g:Z1}{T:D}{i j k m:Nat}{S:Sto}
def zse{s0 s1 s3 s8 s9:Option (Bool×D)}{a b:Nat}(h1:1<=r)(hi:i<r)(hj:j<c)(hk:k<r)(hm:m<c)(ha:a<r)(hb:b<c) :
  ∃y,zeB [s0,s1,some (false,flr r c g),s3,some (false,plD i j),some (false,plD k m),some (false,flr r c (zb9 g i j k m)),some (false,plD a b),s8,s9] S=.nx [s0,s1,some (false,flr r c g),s3,some (false,plD i j),some (false,plD k m),some (false,flr r c (zb9 g i j k m)),some (false,plD a b),y,s9] S:=by
 have hs:=zc0.mp (zhx hi hj hk hm (zc0.mpr (⟨ha,hb⟩:(a,b).1<r/\(a,b).2<c)));have e1:=za0 (g:=g) (S:=S) h1 hs.1 hs.2;have e2:=za0 (g:=zb9 g i j k m) (S:=S) h1 ha hb;have ed:=fun (ρ:Env) h4 h5 h7=>zpQ (ρ:=ρ) (S:=S) (i:=i) (j:=j) (k:=k) (m:=m) (a:=a) (b:=b) h4 h5 h7
 have en:=zj9 (a:=zb9 g i j k m a b) (b:=g (swp i j k m (a,b)).1 (swp i j k m (a,b)).2);rw [show decide (zb9 g i j k m a b=g (swp i j k m (a,b)).1 (swp i j k m (a,b)).2)=true from yaS rfl] at en;refine ⟨some (false,oD (g (swp i j k m (a,b)).1 (swp i j k m (a,b)).2)),?_⟩;unfold plP at ed;generalize plD (swp i j k m (a,b)).1 (swp i j k m (a,b)).2=pq at *;generalize oD (g (swp i j k m (a,b)).1 (swp i j k m (a,b)).2)=o1 at *;generalize oD (zb9 g i j k m a b)=o2 at *;generalize flr r c g=F0 at *;generalize flr r c (zb9 g i j k m)=F1 at *;generalize plD a b=p7 at *;generalize plD i j=p4 at *;generalize plD k m=p5 at *;simp [zeB,ed,e1,e2,en]
def znb(hi:i<r)(hj:j<c)(hk:k<r)(hm:m<c):(zbn r c).filter (zmA g (zb9 g i j k m))=if g i j=g k m then [] else if ST.lxL k m i j then [plD k m,plD i j] else [plD i j,plD k m]:=by
 rw [zmh,List.filter_map];have ef:(zmA g (zb9 g i j k m)∘fun p=>plD p.1 p.2)=fun p:Nat×Nat=>!decide (g p.1 p.2=g (swp i j k m p).1 (swp i j k m p).2):=funext fun p=>zpk
 rw [ef]
 by_cases e:g i j=g k m
 ·rw [if_pos e,List.map_eq_nil_iff,List.filter_eq_nil_iff];intro p _ z
  have z:¬ g p.1 p.2=g (swp i j k m p).1 (swp i j k m p).2:=by simpa using z
  unfold swp at z
  by_cases h1:p=(k,m)
  ·rw [if_pos h1] at z;subst h1;exact z e.symm
  ·rw [if_neg h1] at z
   by_cases h2:p=(i,j)
   ·rw [if_pos h2] at z;subst h2;exact z e
   ·rw [if_neg h2] at z;exact z rfl
 ·rw [if_neg e];have hne:(i,j)≠(k,m):=fun z=>e (by rw [Prod.mk.injEq] at z;rw [z.1,z.2])
  have ef2:∀p∈psN r c,(!decide (g p.1 p.2=g (swp i j k m p).1 (swp i j k m p).2))=decide (p=(i,j)\/p=(k,m)):=by
   intro p _;unfold swp
   by_cases h1:p=(k,m)
   ·subst h1;rw [if_pos rfl,yaS (.inr rfl:(k,m)=(i,j)\/(k,m)=(k,m)),yaM (fun z:g k m=g i j=>e z.symm)];rfl
   ·rw [if_neg h1]
    by_cases h2:p=(i,j)
    ·subst h2;rw [if_pos rfl,yaS (.inl rfl:(i,j)=(i,j)\/(i,j)=(k,m)),yaM (fun z:g i j=g k m=>e z)];rfl
    ·rw [if_neg h2,yaS rfl,yaM (fun z=>z.elim h2 h1)];rfl
  rw [ycH ef2];have mi:(i,j)∈psN r c:=zc0.mpr ⟨hi,hj⟩;have mk:(k,m)∈psN r c:=zc0.mpr ⟨hk,hm⟩
  by_cases h:ST.lxL k m i j=true
  ·rw [if_pos h]
   have lt:ltP (k,m) (i,j):=by
    have:=yap h;unfold ltP;show k<i\/(k=i/\m<j);omega
   have ec:(fun p:Nat×Nat=>decide (p=(i,j)\/p=(k,m)))=fun p=>decide (p=(k,m)\/p=(i,j)):=funext fun p=>by rw [decide_eq_decide];exact Or.comm
   rw [ec,zm1 lt zhZ mk mi];rfl
  ·rw [if_neg h]
   have lt:ltP (i,j) (k,m):=by
    have h':¬ ((k:Int)<i\/((k:Int)=i/\(m:Int)<j)):=fun z=>h (yaS z)
    have hn:¬ (i=k/\j=m):=fun z=>hne (by rw [z.1,z.2])
    unfold ltP;show i<k\/(i=k/\j<m);omega
   rw [zm1 lt zhZ mi mk];rfl
def zlo{l:List D}(h:∀d∈l,∃i j:Nat,d=plD i j):eqD (.lst l) (.lst l)=some (.bl true):=by
 refine zm6 ?_ ?_
 ·show D.pls l=true;rw [D.pls_iff];intro d hd;obtain ⟨i,j,rfl⟩:=h d hd;rfl
 ·show D.fits 8 l=true;rw [D.fits_iff];intro d hd;obtain ⟨i,j,rfl⟩:=h d hd;rfl
def zra{ρ:Env}(h4:ρ[4]?=some (some (false,plD i j)))(h5:ρ[5]?=some (some (false,plD k m))):znB (zah 4) (zah 5) ρ S=.ok (.lst (if ST.lxL k m i j then [plD k m,plD i j] else [plD i j,plD k m])) S:=by
 have e:zae [zah 4,zah 5] ρ S=.ok [plD i j,plD k m] S:=by simp [h4,h5]
 unfold znB;rw [e];rfl
def znM{s0 s1 s7 s8:Option (Bool×D)}(h1:1<=r)(hr:r<=100)(hc:c<=100)(hi:i<r)(hj:j<c)(hk:k<r)(hm:m<c) :
  zdl [s0,s1,some (false,flr r c g),some (false,.lst (zbn r c)),some (false,plD i j),some (false,plD k m),some (false,flr r c (zb9 g i j k m)),s7,s8,some (false,.bl (!decide (g i j=g k m)))] S=.rt (.bl true) S:=by
 have e1:=zek (g:=g) (h:=zb9 g i j k m) (S:=S) h1 hr hc;rw [znb hi hj hk hm] at e1;have es:=fun (ρ:Env) h4 h5=>zra (ρ:=ρ) (S:=S) (i:=i) (j:=j) (k:=k) (m:=m) h4 h5
 generalize zbn r c=L at *;have e0:eqD (.lst []) (.lst [])=some (.bl true):=zlo (l:=[]) (fun d hd=>by cases hd)
 have e2:eqD (.lst (if ST.lxL k m i j then [plD k m,plD i j] else [plD i j,plD k m])) (.lst (if ST.lxL k m i j then [plD k m,plD i j] else [plD i j,plD k m]))=some (.bl true):=zlo (fun d hd=>by
  split at hd<;>simp only [yam,ya0,yck] at hd<;>rcases hd with rfl | rfl<;>exact ⟨_,_,rfl⟩)
 generalize hX:(if ST.lxL k m i j then [plD k m,plD i j] else [plD i j,plD k m])=X at *;generalize flr r c g=F0 at *;generalize flr r c (zb9 g i j k m)=F1 at *;generalize plD i j=p4 at *;generalize plD k m=p5 at *
 by_cases e:g i j=g k m
 ·rw [if_pos e] at e1
  by_cases hl:(8:Int)<(L.length:Int)<;>simp [zdl,e,e1,e0,hl]
 ·rw [if_neg e] at e1
  by_cases hl:(8:Int)<(L.length:Int)<;>simp [zdl,e,e1,es,e2,hl]
def zpj{ns:List Int}:neD (.lst (zfu ns)) (.lst (zfu ns))=some (.bl false):=by
 refine zih ?_ ?_
 ·show D.pls (zfu ns)=true;rw [D.pls_iff];intro d hd;obtain ⟨k,_,rfl⟩:=yaE.mp hd;rfl
 ·show D.fits 8 (zfu ns)=true;rw [D.fits_iff];intro d hd;obtain ⟨k,_,rfl⟩:=yaE.mp hd;rfl
def zqV{s0 s7 s8 s9:Option (Bool×D)}(h1:1<=r)(hr:r<=100)(hc:c<=100)(hi:i<r)(hj:j<c)(hk:k<r)(hm:m<c)(hg:∀i j x,g i j=some x->0<=x/\x<8) :
  zfx [s0,some (false,T),some (false,flr r c g),some (false,.lst (zbn r c)),some (false,plD i j),some (false,plD k m),some (false,flr r c (zb9 g i j k m)),s7,s8,s9] S=.rt (.bl true) S:=by
 have e10:=fun s7 s8=>znM (s0:=s0) (s1:=some (false,T)) (s7:=s7) (s8:=s8) (g:=g) (S:=S) h1 hr hc hi hj hk hm
 have x1:=zbg (T:=T) (g:=zb9 g i j k m) (S:=S) h1 hr hc hi hj hk hm;rw [zly] at x1;have x2:=zbg (T:=T) (g:=g) (S:=S) h1 hr hc hk hm hi hj;rw [zjs] at x2;have x3:=zbg (T:=T) (g:=g) (S:=S) h1 hr hc hi hj hi hj;rw [zjr] at x3;have t1:=zeT (g:=g) (S:=S) h1 hr hc hg;have t2:=zeT (g:=zb9 g i j k m) (S:=S) h1 hr hc (fun a b x e=>hg _ _ x e);rw [znL (fun x=>zng hi hj hk hm)] at t2;have n1:=zii (r:=r) (c:=c) (g:=g);have n2:=zii (r:=r) (c:=c) (g:=zb9 g i j k m);have n3:=zpj (ns:=zbX r c g);have a1:=za0 (g:=g) (S:=S) h1 hi hj;have a2:=za0 (g:=g) (S:=S) h1 hk hm;have n4:=zj9 (a:=g i j) (b:=g k m);generalize zfu (zbX r c g)=TL at *;generalize zbn r c=L at *;generalize flr r c g=F0 at *;generalize flr r c (zb9 g i j k m)=F1 at *;generalize oD (g i j)=o1 at *;generalize oD (g k m)=o2 at *;generalize plD i j=p4 at *;generalize plD k m=p5 at *;simp [zfx,x1,x2,n1,n2,zhn,x3,t1,t2,n3,zhm,a1,a2,n4,e10]
def zqW{s0 s7 s8 s9:Option (Bool×D)}{ow:Bool}(h1:1<=r)(hr:r<=100)(hc:c<=100)(hi:i<r)(hj:j<c)(hk:k<r)(hm:m<c)(hg:∀i j x,g i j=some x->0<=x/\x<8) :
  zfy [s0,some (false,T),some (false,flr r c g),some (ow,.lst (zbn r c)),some (false,plD i j),some (false,plD k m),some (false,flr r c (zb9 g i j k m)),s7,s8,s9] S=.rt (.bl true) S:=by
 obtain ⟨ρ',e,y7,y8,rfl⟩:=zcf (tg:=.one 7) (body:=zeB) (ds:=zbn r c) (S:=S) (fun _ ρ=>∃y7 y8,ρ=[s0,some (false,T),some (false,flr r c g),some (false,.lst (zbn r c)),some (false,plD i j),some (false,plD k m),some (false,flr r c (zb9 g i j k m)),y7,y8,s9])
  (by
   rintro n d ρ hd ⟨y7,y8,rfl⟩;obtain ⟨a,b,ha,hb,rfl⟩:=zdv (ya4 hd);obtain ⟨y,ey⟩:=zse (s0:=s0) (s1:=some (false,T)) (s3:=some (false,.lst (zbn r c))) (s8:=y8) (s9:=s9) (g:=g) (S:=S) h1 hi hj hk hm ha hb
   exact ⟨_,_,rfl,ey,_,_,rfl⟩)
  (ρ:=[s0,some (false,T),some (false,flr r c g),some (false,.lst (zbn r c)),some (false,plD i j),some (false,plD k m),some (false,flr r c (zb9 g i j k m)),s7,s8,s9]) ⟨s7,s8,rfl⟩
 have e7:=zqV (s0:=s0) (T:=T) (s7:=y7) (s8:=y8) (s9:=s9) (g:=g) (S:=S) h1 hr hc hi hj hk hm hg;generalize zbn r c=L at *;generalize flr r c g=F0 at *;generalize flr r c (zb9 g i j k m)=F1 at *;generalize plD i j=p4 at *;generalize plD k m=p5 at *
 cases ow<;>simp [zfy,e,e7]
def zlf{q:Int}(h:0<=q/\q<((zbn r c).length:Int)):∃i j,i<r/\j<c/\ixD (.lst (zbn r c)) (.int q)=some (plD i j):=by
 have hq:q.toNat<(zbn r c).length:=by omega
 obtain ⟨i,j,hi,hj,e⟩:=zdv (ybh hq);refine ⟨i,j,hi,hj,?_⟩;show atI _ q=_;rw [zeC h.1,yad hq,e]
def zkk(l:List Int)(hl:l.length<=63):zoD [.scr l] []=.ok (.bl true) []:=by
 obtain ⟨ts,ht,e1⟩:=zhQ (l:=l) (at':=200) (most:=4) (S:=[]) (by omega) (by omega) (by omega);obtain ⟨r,c,g,r1,r4,c1,c4,hg,e2⟩:=zjD (l:=l) (at':=300) (S:=[]) (by omega) ht (by omega);have hle:=ht.le;generalize ts.map zaL=td at *;have e3:=zcZ (g:=g) (S:=[]) r1 (show r<=100 by omega) (show c<=100 by omega)
 have hpl:0<((zbn r c).length:Int):=by
  rw [zc1];have:0<r*c:=Nat.mul_pos (by omega) (by omega);omega
 have p1:=zaU (l:=l) (k:=1) (many:=((zbn r c).length:Int)) (S:=[]) (by omega) hpl;have p2:=zaU (l:=l) (k:=2) (many:=((zbn r c).length:Int)) (S:=[]) (by omega) hpl;obtain ⟨i,j,hi,hj,i1⟩:=zlf (za4 l 1 (many:=((zbn r c).length:Int)) hpl);obtain ⟨k,m,hk,hm,i2⟩:=zlf (za4 l 2 (many:=((zbn r c).length:Int)) hpl);generalize za9 l 1 _=q1 at *;generalize za9 l 2 _=q2 at *;have x1:=zbg (T:=.tup td) (g:=g) (S:=[]) r1 (show r<=100 by omega) (show c<=100 by omega) hi hj hk hm;have e6:=fun ow s7 s8 s9=>zqW (s0:=some (false,.scr l)) (T:=.tup td) (s7:=s7) (s8:=s8) (s9:=s9) (ow:=ow) (g:=g) (S:=[]) r1 (show r<=100 by omega) (show c<=100 by omega) hi hj hk hm (fun a b x e=>by have:=hg a b x e;omega)
 generalize zbn r c=L at *;generalize flr r c g=F0 at *;generalize flr r c (zb9 g i j k m)=F1 at *;generalize plD i j=p4 at *;generalize plD k m=p5 at *;simp [zoD,za6,zm2,zhs,e1,zhr,e2,zhq,e3,zhp,p1,p2,i1,i2,zho,x1,e6]
end S2.L84
namespace M84
open PySem L2 S2 S2.L84
noncomputable def top(i:Nat):Stmt:=PySem.Challenge.pw_floorfits_k84_whole_exchanged.main.body.getD i (.Pass ⟨0,0,0,0⟩)
noncomputable def T:Tab:=⟨[],["isinstance","int","bool","tuple","len","range","sorted","set","ValueError"],["FloorError","NoPlace"],[("NoPlace","FloorError")],[],[],[],[]⟩
noncomputable def F0:Fn3:=⟨"",[],[],[]⟩
noncomputable def F1:Fn3:=F0.fn "is_whole" ⟨1,false,za2⟩
def d1:zaz (Gn T F0) false ["thing"] (top 4)=some zc7:=by rfl
def s1:FnScope ["thing"] ["thing"] (zab (top 4)):=⟨rfl,rfl,rfl,by decide +kernel,rfl,by decide +kernel,by decide +kernel⟩
noncomputable def F2:Fn3:=F1.fn "is_tuple_of" ⟨3,false,zat⟩
def d2:zaz (Gn T F1) false ["thing","least","most"] (top 5)=some zbi:=by rfl
def s2:FnScope ["thing","least","most"] ["thing","least","most"] (zab (top 5)):=⟨rfl,rfl,rfl,by decide +kernel,rfl,by decide +kernel,by decide +kernel⟩
noncomputable def F3:Fn3:=F2.fn "size_of" ⟨1,false,zbD⟩
def d3:zaz (Gn T F2) false ["floor","columns"] (top 6)=some zdL:=by rfl
def s3:FnScope ["floor","columns"] ["floor"] (zab (top 6)):=⟨rfl,rfl,rfl,by decide +kernel,rfl,by decide +kernel,by decide +kernel⟩
noncomputable def F4:Fn3:=F3.fn "places_of" ⟨1,true,za1⟩
def d4:zaz (Gn T F3) true ["floor","size","places","row","column"] (top 7)=some zcv:=by rfl
def s4:FnScope ["floor","size","places","row","column"] ["floor"] (zab (top 7)):=⟨rfl,rfl,rfl,by decide +kernel,rfl,by decide +kernel,by decide +kernel⟩
noncomputable def F5:Fn3:=F4.fn "number_at" ⟨2,false,zal⟩
def d5:zaz (Gn T F4) false ["floor","place"] (top 8)=some zcw:=by rfl
def s5:FnScope ["floor","place"] ["floor","place"] (zab (top 8)):=⟨rfl,rfl,rfl,by decide +kernel,rfl,by decide +kernel,by decide +kernel⟩
noncomputable def F6:Fn3:=F5.fn "laid_places" ⟨1,true,zbh⟩
def d6:zaz (Gn T F5) true ["floor"] (top 9)=some zbK:=by rfl
def s6:FnScope ["floor"] ["floor"] (zab (top 9)):=⟨rfl,rfl,rfl,by decide +kernel,rfl,by decide +kernel,by decide +kernel⟩
noncomputable def F7:Fn3:=F6.fn "numbers_on" ⟨1,true,zbv⟩
def d7:zaz (Gn T F6) true ["floor"] (top 10)=some zbZ:=by rfl
def s7:FnScope ["floor"] ["floor"] (zab (top 10)):=⟨rfl,rfl,rfl,by decide +kernel,rfl,by decide +kernel,by decide +kernel⟩
noncomputable def F8:Fn3:=F7.fn "has_place" ⟨2,false,zbm⟩
def d8:zaz (Gn T F7) false ["floor","place","size"] (top 11)=some zcx:=by rfl
def s8:FnScope ["floor","place","size"] ["floor","place"] (zab (top 11)):=⟨rfl,rfl,rfl,by decide +kernel,rfl,by decide +kernel,by decide +kernel⟩
noncomputable def F9:Fn3:=F8.fn "refuse_outside" ⟨2,false,zaK⟩
def d9:zaz (Gn T F8) false ["floor","place"] (top 12)=some zbb:=by rfl
def s9:FnScope ["floor","place"] ["floor","place"] (zab (top 12)):=⟨rfl,rfl,rfl,by decide +kernel,rfl,by decide +kernel,by decide +kernel⟩
noncomputable def F10:Fn3:=F9.fn "tile_at" ⟨2,false,zaW⟩
def d10:zaz (Gn T F9) false ["floor","place"] (top 13)=some zdK:=by rfl
def s10:FnScope ["floor","place"] ["floor","place"] (zab (top 13)):=⟨rfl,rfl,rfl,by decide +kernel,rfl,by decide +kernel,by decide +kernel⟩
noncomputable def F11:Fn3:=F10.fn "with_number" ⟨3,false,zaV⟩
def d11:zaz (Gn T F10) false ["floor","place","number","old","row"] (top 14)=some zbJ:=by rfl
def s11:FnScope ["floor","place","number","old","row"] ["floor","place","number"] (zab (top 14)):=⟨rfl,rfl,rfl,by decide +kernel,rfl,by decide +kernel,by decide +kernel⟩
noncomputable def F12:Fn3:=F11.fn "exchanged" ⟨4,false,zaM⟩
def d12:zaz (Gn T F11) false ["tiles","floor","one","other","first","second"] (top 16)=some zcy:=by rfl
def s12:FnScope ["tiles","floor","one","other","first","second"] ["tiles","floor","one","other"] (zab (top 16)):=⟨rfl,rfl,rfl,by decide +kernel,rfl,by decide +kernel,by decide +kernel⟩
noncomputable def F13:Fn3:=F12.fn "differing" ⟨2,true,zbG⟩
def d13:zaz (Gn T F12) true ["one","other"] (top 18)=some zcz:=by rfl
def s13:FnScope ["one","other"] ["one","other"] (zab (top 18)):=⟨rfl,rfl,rfl,by decide +kernel,rfl,by decide +kernel,by decide +kernel⟩
noncomputable def F14:Fn3:=F13.fn "counted" ⟨1,true,zcJ⟩
def d14:zaz (Gn T F13) true ["things"] (top 20)=some zdM:=by rfl
def s14:FnScope ["things"] ["things"] (zab (top 20)):=⟨rfl,rfl,rfl,by decide +kernel,rfl,by decide +kernel,by decide +kernel⟩
noncomputable def F15:Fn3:=F14.fn "tally" ⟨1,true,zdt⟩
def d15:zaz (Gn T F14) true ["floor"] (top 21)=some zfP:=by rfl
def s15:FnScope ["floor"] ["floor"] (zab (top 21)):=⟨rfl,rfl,rfl,by decide +kernel,rfl,by decide +kernel,by decide +kernel⟩
noncomputable def F16:Fn3:=F15.fn "_law_cell" ⟨2,false,za3⟩
def d16:zaz (Gn T F15) false ["_law_script","_law_k"] (top 23)=some zbr:=by rfl
def s16:FnScope ["_law_script","_law_k"] ["_law_script","_law_k"] (zab (top 23)):=⟨rfl,rfl,rfl,by decide +kernel,rfl,by decide +kernel,by decide +kernel⟩
noncomputable def F17:Fn3:=F16.fn "_law_pick" ⟨3,false,zai⟩
def d17:zaz (Gn T F16) false ["_law_script","_law_k","_law_many","_law_drawn"] (top 24)=some zcA:=by rfl
def s17:FnScope ["_law_script","_law_k","_law_many","_law_drawn"] ["_law_script","_law_k","_law_many"] (zab (top 24)):=⟨rfl,rfl,rfl,by decide +kernel,rfl,by decide +kernel,by decide +kernel⟩
noncomputable def F18:Fn3:=F17.fn "_law_tiles" ⟨3,false,zbw⟩
def d18:zaz (Gn T F17) false ["_law_script","_law_at","_law_most","_law_colours","_law_made","_law_k","_law_tile"] (top 25)=some zb0:=by rfl
def s18:FnScope ["_law_script","_law_at","_law_most","_law_colours","_law_made","_law_k","_law_tile"] ["_law_script","_law_at","_law_most"] (zab (top 25)):=⟨rfl,rfl,rfl,by decide +kernel,rfl,by decide +kernel,by decide +kernel⟩
noncomputable def F19:Fn3:=F18.fn "_law_floor" ⟨6,false,za7⟩
def d19:zaz (Gn T F18) false ["_law_script","_law_at","_law_tiles_here","_law_rows","_law_columns","_law_many","_law_made","_law_row","_law_line","_law_column","_law_here"] (top 26)=some zb1:=by rfl
def s19:FnScope ["_law_script","_law_at","_law_tiles_here","_law_rows","_law_columns","_law_many","_law_made","_law_row","_law_line","_law_column","_law_here"] ["_law_script","_law_at","_law_tiles_here","_law_rows","_law_columns","_law_many"] (zab (top 26)):=⟨rfl,rfl,rfl,by decide +kernel,rfl,by decide +kernel,by decide +kernel⟩
noncomputable def F20:Fn3:=F19.fn "_law_some" ⟨3,false,zax⟩
def d20:zaz (Gn T F19) false ["_law_script","_law_at","_law_tiles_here","_law_rows","_law_columns"] (top 27)=some zbq:=by rfl
def s20:FnScope ["_law_script","_law_at","_law_tiles_here","_law_rows","_law_columns"] ["_law_script","_law_at","_law_tiles_here"] (zab (top 27)):=⟨rfl,rfl,rfl,by decide +kernel,rfl,by decide +kernel,by decide +kernel⟩
def d21:zaz (Gn T F20) false ["_law_script","_law_tiles_here","_law_floor_here","_law_some_here","_law_one","_law_other","_law_made","_law_place","_law_due","_law_unlike_ones"] (top 28)=some zm2:=by rfl
def s21:FnScope ["_law_script","_law_tiles_here","_law_floor_here","_law_some_here","_law_one","_law_other","_law_made","_law_place","_law_due","_law_unlike_ones"] ["_law_script"] (zab (top 28)):=⟨rfl,rfl,rfl,by decide +kernel,rfl,by decide +kernel,by decide +kernel⟩
def gm{K:PySem.W.Frag}{x:Str}{st:Stmt}{f:Addr}{oc kV dc pm cd ct:Value}{od an:Option Addr}{sl:Array (Option Value)}(a:PySem.W.nsIn K mainGlobals x=some (some (.ref f)))(l:K.lookup f=some ⟨oc,od,.func (PySem.W.fnOf x x (zbA st) (zbt st) (zab st) .none kV dc pm an cd ct),sl⟩)(c:PySem.W.codeIn K cd x=true)(k:PySem.W.keepIn K (.ref f)=true)(i:PySem.W.isFn K (.ref f)=true):GFn K x st:=⟨f,a,oc,od,kV,dc,pm,an,cd,ct,sl,l,c,k,i⟩
def mm{K:PySem.W.Frag}{x q:Str}{st:Stmt}{f:Addr}{oc kV dc pm cd ct:Value}{od an:Option Addr}{sl:Array (Option Value)}{C:Addr}(a:PySem.W.findIn K (.ref C) x=some (some (.ref f)))(l:K.lookup f=some ⟨oc,od,.func (PySem.W.fnOf x q (zbA st) (zbt st) (zab st) .none kV dc pm an cd ct),sl⟩)(c:PySem.W.codeIn K cd q=true)(k:PySem.W.keepIn K (.ref f)=true)(i:PySem.W.isFn K (.ref f)=true):MFn K C x q st:=⟨f,a,oc,od,kV,dc,pm,an,cd,ct,sl,l,c,k,i⟩
def all_mk{l:PySem.W.OpenLaw}{w:PySem.World}{K:PySem.W.Frag}{h:Heap}{mg:Z6}{fa f21:Addr}(X:K.In h)(G:h.Ns mainGlobals mg)(hfa:mg "law" = some (.ref fa))
  {od21 an21:Option Addr} {sl21:Array (Option Value)} {oc21 kV21 dc21 pm21 cd21 ct21:Value}
  (a21:PySem.W.nsIn K mainGlobals "law" = some (some (.ref f21)))
  (l21:K.lookup f21=some ⟨oc21,od21,.func (PySem.W.fnOf "law" "law" (zbA (top 28)) (zbt (top 28)) (zab (top 28)) .none kV21 dc21 pm21 an21 cd21 ct21),sl21⟩) (c21:PySem.W.codeIn K cd21 "law" = true) (k21:PySem.W.keepIn K (.ref f21)=true)
  (z1:PySem.W.nsIn K mainGlobals "isinstance" = some none)
  (z2:PySem.W.nsIn K mainGlobals "int" = some none)
  (z3:PySem.W.nsIn K mainGlobals "bool" = some none)
  (z4:PySem.W.nsIn K mainGlobals "tuple" = some none)
  (z5:PySem.W.nsIn K mainGlobals "len" = some none)
  (z6:PySem.W.nsIn K mainGlobals "range" = some none)
  (z7:PySem.W.nsIn K mainGlobals "sorted" = some none)
  (z8:PySem.W.nsIn K mainGlobals "set" = some none)
  (z9:PySem.W.nsIn K mainGlobals "ValueError" = some none)
  {e0 e1:Addr}
  (n0:PySem.W.nsIn K mainGlobals "FloorError" = some (some (.ref e0))) (x0:PySem.W.excIn K e0 bmV "ValueError.__new__" = true)
  (n1:PySem.W.nsIn K mainGlobals "NoPlace" = some (some (.ref e1))) (x1:PySem.W.excIn K e1 bmV "ValueError.__new__" = true)
  {el1:Value} {ed1:Option Addr} {ec1:ClassData} {es1:Array (Option Value)} (lk1:K.lookup e1=some ⟨el1,ed1,.cls ec1,es1⟩) (mr1:ec1.mro.contains (.ref e0)=true)
  (p1:GFn K "is_whole" (top 4)) (p2:GFn K "is_tuple_of" (top 5)) (p3:GFn K "size_of" (top 6)) (p4:GFn K "places_of" (top 7)) (p5:GFn K "number_at" (top 8)) (p6:GFn K "laid_places" (top 9)) (p7:GFn K "numbers_on" (top 10)) (p8:GFn K "has_place" (top 11)) (p9:GFn K "refuse_outside" (top 12)) (p10:GFn K "tile_at" (top 13)) (p11:GFn K "with_number" (top 14)) (p12:GFn K "exchanged" (top 16)) (p13:GFn K "differing" (top 18)) (p14:GFn K "counted" (top 20)) (p15:GFn K "tally" (top 21)) (p16:GFn K "_law_cell" (top 23)) (p17:GFn K "_law_pick" (top 24)) (p18:GFn K "_law_tiles" (top 25)) (p19:GFn K "_law_floor" (top 26)) (p20:GFn K "_law_some" (top 27))
  : ∃fd:FuncData,(∀(s:Shared) (v:Value),BindsTo s fd ⟨[v],[]⟩ [("_law_script",v)])/\∀base:Heap,K.In base->base.Ns mainGlobals mg->FnOk l.prog w K mg base (CXE l.prog w) 21 fa fd ["_law_script"] (S2.zjx K):=by
 have e:=hfa.symm.trans (ycL X G a21);cases e;have U21:=zll (st:=(top 28)) l21 c21 k21;refine ⟨PySem.W.fnOf "law" "law" (zbA (top 28)) (zbt (top 28)) (zab (top 28)) .none kV21 dc21 pm21 an21 cd21 ct21,fun s v=>.of_eq rfl,fun base _ _=>?_⟩
 let cl:Cf:=⟨fun x=>(([("FloorError",e0),("NoPlace",e1)]:List (Str×Addr)).lookup x).getD 0,K,l.prog,w⟩
 have g0:GOk cl (Gn T F0) l.prog w K mg base 0:=zvW (cl:=cl) zd6 (zba (yaX X G z1) (zba (yaX X G z2) (zba (yaX X G z3) (zba (yaX X G z4) (zba (yaX X G z5) (zba (yaX X G z6) (zba (yaX X G z7) (zba (yaX X G z8) (zba (yaX X G z9) zd6))))))))) (zba ⟨ycL X G n0,x0⟩ (zba ⟨ycL X G n1,x1⟩ zd6)) (zba ⟨⟨_,_,x1⟩,_,_,_,_,lk1,mr1⟩ zd6) zd6 zd6;have g1:GOk cl (Gn T F1) l.prog w K mg base 1:=g0.addG X G p1 s1 rfl rfl rfl (fun _ _ _ _ _ _=>bb1 fun _=>rfl) d1;have g2:GOk cl (Gn T F2) l.prog w K mg base 2:=g1.addG X G p2 s2 rfl rfl rfl (fun _ _ _ _ _ _=>bb3 fun _ _ _=>rfl) d2;have g3:GOk cl (Gn T F3) l.prog w K mg base 3:=g2.addG X G p3 s3 rfl rfl rfl (fun _ _ _ _ _ _=>bb1 fun _=>rfl) d3;have g4:GOk cl (Gn T F4) l.prog w K mg base 4:=g3.addG X G p4 s4 rfl rfl rfl (fun _ _ _ _ _ _=>bb1 fun _=>rfl) d4;have g5:GOk cl (Gn T F5) l.prog w K mg base 5:=g4.addG X G p5 s5 rfl rfl rfl (fun _ _ _ _ _ _=>bb2 fun _ _=>rfl) d5;have g6:GOk cl (Gn T F6) l.prog w K mg base 6:=g5.addG X G p6 s6 rfl rfl rfl (fun _ _ _ _ _ _=>bb1 fun _=>rfl) d6;have g7:GOk cl (Gn T F7) l.prog w K mg base 7:=g6.addG X G p7 s7 rfl rfl rfl (fun _ _ _ _ _ _=>bb1 fun _=>rfl) d7;have g8:GOk cl (Gn T F8) l.prog w K mg base 8:=g7.addG X G p8 s8 rfl rfl rfl (fun _ _ _ _ _ _=>bb2 fun _ _=>rfl) d8;have g9:GOk cl (Gn T F9) l.prog w K mg base 9:=g8.addG X G p9 s9 rfl rfl rfl (fun _ _ _ _ _ _=>bb2 fun _ _=>rfl) d9;have g10:GOk cl (Gn T F10) l.prog w K mg base 10:=g9.addG X G p10 s10 rfl rfl rfl (fun _ _ _ _ _ _=>bb2 fun _ _=>rfl) d10;have g11:GOk cl (Gn T F11) l.prog w K mg base 11:=g10.addG X G p11 s11 rfl rfl rfl (fun _ _ _ _ _ _=>bb3 fun _ _ _=>rfl) d11;have g12:GOk cl (Gn T F12) l.prog w K mg base 12:=g11.addG X G p12 s12 rfl rfl rfl (fun _ _ _ _ _ _=>bb4 fun _ _ _ _=>rfl) d12;have g13:GOk cl (Gn T F13) l.prog w K mg base 13:=g12.addG X G p13 s13 rfl rfl rfl (fun _ _ _ _ _ _=>bb2 fun _ _=>rfl) d13;have g14:GOk cl (Gn T F14) l.prog w K mg base 14:=g13.addG X G p14 s14 rfl rfl rfl (fun _ _ _ _ _ _=>bb1 fun _=>rfl) d14;have g15:GOk cl (Gn T F15) l.prog w K mg base 15:=g14.addG X G p15 s15 rfl rfl rfl (fun _ _ _ _ _ _=>bb1 fun _=>rfl) d15;have g16:GOk cl (Gn T F16) l.prog w K mg base 16:=g15.addG X G p16 s16 rfl rfl rfl (fun _ _ _ _ _ _=>bb2 fun _ _=>rfl) d16;have g17:GOk cl (Gn T F17) l.prog w K mg base 17:=g16.addG X G p17 s17 rfl rfl rfl (fun _ _ _ _ _ _=>bb3 fun _ _ _=>rfl) d17;have g18:GOk cl (Gn T F18) l.prog w K mg base 18:=g17.addG X G p18 s18 rfl rfl rfl (fun _ _ _ _ _ _=>bb3 fun _ _ _=>rfl) d18;have g19:GOk cl (Gn T F19) l.prog w K mg base 19:=g18.addG X G p19 s19 rfl rfl rfl (fun _ _ _ _ _ _=>bb6 fun _ _ _ _ _ _=>rfl) d19;have g20:GOk cl (Gn T F20) l.prog w K mg base 20:=g19.addG X G p20 s20 rfl rfl rfl (fun _ _ _ _ _ _=>bb3 fun _ _ _=>rfl) d20;have G21:=zpJ (cl:=cl) (wo:=w) (P:=l.prog) U21 s21 g20 rfl rfl rfl d21;exact G21.imp (zpr (cl:=cl) (fun l hl=>⟨[],zkk l hl⟩))
def walk{l:PySem.W.OpenLaw}{q:Program}{loose:List Str}{XP:(Str->Option Value)->Heap->Prop}{YP:PySem.World->Heap->Prop}{d:DefRec}{K:Params->PySem.W.Frag}(hn:l.most=some 63)(hdf:d.params.defaults=[])
  (hY:∀(w:PySem.World) (h:Heap),YP w h->(K w.params).In h)
  (F:∀(w:PySem.World) (mg:Z6) (fa:Addr) (h:Heap),(K w.params).In h->h.Ns mainGlobals mg->mg d.name=some (.ref fa) →
   ∃fd:FuncData,(∀(s:Shared) (u:Value),BindsTo s fd ⟨[u],[]⟩ [("_law_script",u)])/\∀base:Heap,(K w.params).In base->base.Ns mainGlobals mg->FnOk l.prog w (K w.params) mg base (CXE l.prog w) 21 fa fd ["_law_script"] (S2.zjx (K w.params))) :
  PySem.W.WalkO q loose XP YP l.row.toRowW d [] (fun f vs=>PySem.call f vs) :=
 L2.zlA (n:=63) (k:=21) (x:="_law_script") (CX:=fun w=>CXE l.prog w) (sp:=fun w=>S2.zjx (K w.params)) hn (by decide) hdf ⟨rfl,by decide,by decide⟩ hY F (fun _ _ a ns hl hO hS=>⟨a,ns,rfl,hl,hO,hS,fun _=>rfl⟩) (by rintro _ _ _ _ _ ⟨_,_,_,_,_,_,_,_,_,_,_,_,_,_,z⟩;exact z)
end M84
namespace PySem.W.Fast
def tw13708070420830146757:=0
def tw16000061072170353700:=0
def tw15468318762250456819:=0
def tw7036980720412152384:=0
def tw17822592346082559927:=0
def tw9194556334227640960:=0
def tw9927454819953721400:=0
def tw12535541462363987454:=0
def tw14228267182372113966:=0
def tw7980228160240266070:=0
def tw8712028265047807770:=0
def tw16736422344731425155:=0
def tw26336824877490965:=0
def tw1340667191733643270:=0
def tw16088269552428709161:=0
def tw9591801177028532579:=0
def tw5621572619175204878:=0
def tw18259156841617075066:=0
def tw4384647087810580316:=0
def tw12682671833699092894:=0
def tw18271102376116486136:=0
def tw17031647575867860813:=0
def tw5931777040251118325:=0
def tw15291602050309466741:=0
def tw15273877598341767679:=0
def tw3456182011639658520:=0
def tw11247774317606708851:=0
def tw10025080220644408231:=0
def tw8277094168896994768:=0
def tw15406242199486205443:=0
def tw2219806270856845619:=0
def tw708208634723638951:=0
def tw12629485318233740864:=0
def tw3837581651546731777:=0
def tw14634741199945156579:=0
def tw15354827426859021828:=0
def tw11054229873080521948:=0
def tw10963318990117810429:=0
def tw8241985387515730249:=0
def tw11380594280323714190:=0
def tw7736322296434357037:=0
def tw5757202132652961857:=0
def tw2053211517004306615:=0
def tw14389975126501287886:=0
def tw3761894350114704948:=0
def tw18145080389919141013:=0
def tw10258008764634402509:=0
def tw3533060296084141063:=0
def tw15533904788257099400:=0
def tw17502916673884289283:=0
def tw8544262747470832839:=0
def tw17275760910424006554:=0
def tw16576558285057799122:=0
def tw12756560111107784339:=0
def tw1584080481202634069:=0
def tw11203031445691898696:=0
def tw10932693463892709657:=0
def tw9705215305186650136:=0
def tw7123602520038457497:=0
def tw4440231272542841179:=0
def tw16768868097620450558:=0
def tw9379790155567944478:=0
def tw4745970783230582819:=0
def tw8059025013422873396:=0
def tw4304407332780539360:=0
def tw4082279083191145070:=0
def tw12447162388383145960:=0
def tw4454830088432126710:=0
def tw12540216369449002628:=0
def tw12104900428378610593:=0
def tw5260456365222882909:=0
def tw8049886390937594692:=0
def tw17515692594933301799:=0
def tw9113761290554535682:=0
def tw15606852574206148701:=0
def tw1054344315736684072:=0
def tw1006993594520522669:=0
def tw8307401308893999326:=0
def tw11843274225101694521:=0
def tw10882828670397445526:=0
def tw273442822413990280:=0
def tw4839042994108094209:=0
def tw15439218823140114978:=0
def tw17474234513429608997:=0
def tw10267015146116086676:=0
def tw7323853937896569196:=0
def tw6329906300242180664:=0
def tw16761003442590507610:=0
def tw1629761336379181909:=0
def tw17647577110059653682:=0
def tw11366252605878645661:=0
def tw15373192430055549312:=0
def tw1119357981897470452:=0
def tw1759145553599972754:=0
def tw16167739875827534226:=0
def tw13640411258876693410:=0
def tw6433423608222611895:=0
def tw1003133555796696304:=0
def tw5002058366845237469:=0
def tw2368216345293411303:=0
def tw8298989847194187614:=0
def tw9949868723712124082:=0
def tw8879419615197038701:=0
def tw16023838690677287381:=0
def tw3325893117156841559:=0
def tw13821595716489529288:=0
def tw15987520728994178821:=0
def tw5451534993661226153:=0
def tw12877055449495947973:=0
def tw3002769364420891279:=0
def tw3568810449793484444:=0
def tw8602231874653460486:=0
def tw8812464937985650507:=0
def tw809165069502085216:=0
def tw7855772830451111275:=0
def tw8504168518283370821:=0
def tw11823174747626267103:=0
def tw11348645552512725197:=0
def tw2806623024010972857:=0
def tw9279738721324591507:=0
def tw13286051960903145655:=0
def tw8752549723980417680:=0
def tw8478815818789946833:=0
def tw8252536558627442718:=0
def tw7592320802368242590:=0
def tw7565132319498895869:=0
def tw7301024335287413233:=0
def tw7004646729984741924:=0
def tw6177366271229511460:=0
def tw5716623260400242347:=0
def tw5440764047715078056:=0
def tw5238676806109032238:=0
def tw4814364706760896073:=0
def tw4725175816011494187:=0
def tw4335649456746843050:=0
def tw3909460081517718577:=0
def tw3659490185594558982:=0
def tw3047040343994790754:=0
def tw2477798406952679014:=0
def tw2001806451620165420:=0
def tw1820540240111219287:=0
def tw18038852303693744300:=0
def tw17693012477287191693:=0
def tw16604462630626828106:=0
def tw16586461514216515712:=0
def tw1650771888427032869:=0
def tw16486479056877425784:=0
def tw16145719164968367705:=0
def tw1606233109020495161:=0
def tw15759863654068217318:=0
def tw15520642696195288914:=0
def tw15212034001298279201:=0
def tw14564406468430949445:=0
def tw13868638982068928782:=0
def tw13024799628358558511:=0
def tw12350311067993874945:=0
def tw12288616938123987025:=0
def tw12278056581309033950:=0
def tw11444328529893859664:=0
def tw11379037636027766302:=0
def tw10948438463615386192:=0
def tw10845390518024631787:=0
def tw10811307404534577027:=0
end PySem.W.Fast
open PySem PySem.W PyProof.Rows
set_option maxRecDepth 100000 in
set_option maxHeartbeats 0 in
theorem PySem.Challenge.cw_floorfits_k84_whole_exchanged_holds : PySem.Challenge.rw_floorfits_k84_whole_exchanged.Holds := by
 w_on;o_law;k_head;(case hw=>w_witness2)
 k_fill
 refine M84.walk (l:=PySem.Challenge.rw_floorfits_k84_whole_exchanged) rfl rfl (fun w h Y=>PySem.W.kIn_of Y) ?F
 case F =>
  intro w mg fa h KX G hmg;refine' M84.all_mk KX G hmg ?a21 ?l21 ?c21 ?k21 ?z1 ?z2 ?z3 ?z4 ?z5 ?z6 ?z7 ?z8 ?z9 ?n0 ?x0 ?n1 ?x1 ?lk1 ?mr1 ?_ ?_ ?_ ?_ ?_ ?_ ?_ ?_ ?_ ?_ ?_ ?_ ?_ ?_ ?_ ?_ ?_ ?_ ?_ ?_
  (case a21=>k_is);(case l21=>k_is);(case c21=>k_is);(case k21=>k_is)
  (case z1=>k_is);(case z2=>k_is);(case z3=>k_is);(case z4=>k_is)
  (case z5=>k_is);(case z6=>k_is);(case z7=>k_is);(case z8=>k_is)
  (case z9=>k_is);(case n0=>k_is);(case x0=>k_exc);(case n1=>k_is)
  (case x1=>k_exc);(case lk1=>k_is);(case mr1=>with_unfolding_all rfl)
  all_goals ((first | refine' M84.gm ?a ?l ?c ?k ?i | refine' M84.mm ?a ?l ?c ?k ?i);(case a=>k_is);(case l=>k_is);(case c=>k_is);(case k=>k_is);(case i=>k_is))
#print axioms PySem.Challenge.cw_floorfits_k84_whole_exchanged_holds
