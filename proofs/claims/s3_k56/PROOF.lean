import PyProof.Rows.All
import Wide.All
import OpenK.AllK
import Wide.FinOn
import Lean
import PyProof.EqAt
import PyProof.EqKinds
import PyProof.TupleCall
import PyProof.NeKinds
import KE.BitLaws
import PyProof.SumWalkG
import PyProof.ConsumeWalk
import PyProof.WalksMore
import KE.KSortedM
import PyProof.Rows.SetFrom
import PyProof.CompUse
import PyProof.ZipIter
import PyProof.SliceList
import PyProof.SliceMore
import PyProof.ListRange
import KE.KSortTup
import PyProof.DictRoadsH
import PyProof.DictKinds
import PyProof.DictIter
import PyProof.Rows.DictUnroll
import KE.KDictSum
import PyProof.DictItems
import PyProof.DictItemsLoops
import PyProof.DictValues
import PyProof.DictWalks
import PyProof.Rows.StrJoin2
import PyProof.NsDelKeeps
import PyProof.ExcBaseAll.ValueError
import PyProof.ExcAttrAll.ValueError
import PyProof.FitsInt
import PyProof.Rows.StrSplitJoin
import PySem.Challenge.RW_sharesample_k56_nothing_to_show
set_option bootstrap.genMatcherCode false
set_option genSizeOf false
set_option genSizeOfSpec false
set_option Elab.async false
set_option linter.all false
set_option maxRecDepth 100000
local macro_rules | `(tactic| left) => `(tactic| first | assumption | exact Nat.zero_le _ | exact Int.natCast_nonneg _ | exact Int.ofNat_lt.mpr (by assumption) | exact Nat.le_of_lt (by assumption) | exact Nat.le_trans (by assumption) (by assumption) | exact Nat.lt_of_lt_of_le (by assumption) (by assumption) | lia | omega)
noncomputable section
abbrev aaa:=@PySem.wpAny_bind
abbrev aab:=@of_decide_eq_true
abbrev aag:=@Bool.false_ne_true
abbrev aah:=@PySem.wpAny_pure
abbrev aai:=@List.mem_cons_self
abbrev aaj:=@PySem.Heap.lt_size
abbrev aak:=@PySem.Heap.get?_push_of_some
abbrev aal:=@List.mem_cons_of_mem
abbrev aam:=@Nat.le_refl
abbrev aan:=@Nat.ne_of_lt
abbrev aap:=@Nat.lt_of_lt_of_le
abbrev aaq:=@List.mem_append_right
abbrev aar:=@PySem.Heap.get?_push_size
abbrev aas:=@List.getElem?_eq_getElem
abbrev aat:=@Option.some.inj
abbrev aau:=@List.map_congr_left
abbrev aav:=@PySem.wpAny_mono
abbrev aaw:=@Nat.ne_of_gt
abbrev aay:=@Nat.lt_irrefl
abbrev aaz:=@Nat.lt_of_le_of_lt
abbrev aaA:=@List.mem_append_left
abbrev aaB:=@List.mem_of_getElem?
abbrev aaC:=@Nat.le_trans
abbrev aaD:=@PyProof.Rows.callWith_type1
abbrev aaE:=@Nat.lt_succ_of_lt
abbrev aaF:=@PySem.wpAny_holding
abbrev aaG:=@decide_eq_true
abbrev aaH:=@PySem.wpAny_call_entry
abbrev aaI:=@Nat.pow_le_pow_right
abbrev aaJ:=@Nat.zero_le
abbrev aaK:=@PySem.Heap.get?_update_other
abbrev aaL:=@PySem.wpAny_newObj_type
abbrev aaM:=@List.mem_map_of_mem
abbrev aaN:=@PySem.wpAny_callSpecial?_slot
abbrev aaO:=@PySem.wpAny_truthy_bool
abbrev aaP:=@PySem.F.slot_dict_keyiterator_next
abbrev aaQ:=@if_pos
abbrev aaR:=@Nat.lt_succ_self
abbrev aaS:=@PySem.Heap.get?_update_self
abbrev aaU:=@Array.getElem?_eq_getElem
abbrev aaV:=@decide_eq_false
abbrev aaW:=@congrArg
abbrev aaX:=@PySem.W.kia_one
abbrev aaY:=@PySem.F.slot_dict_valueiterator_next
abbrev aaZ:=@PySem.wpAny_loadPart_at
abbrev aa0:=@PySem.wpAny_typeNameOfWhole_keyiter
abbrev aa1:=@PySem.wpAny_typeNameOfWhole_valiter
abbrev aa2:=@PySem.mem_of_lookup
abbrev aa3:=@List.mergeSort_perm
abbrev aa4:=@PySem.wpAny_Call_Name_kw
abbrev aa5:=@PySem.wpAny_passesOwn
abbrev aa6:=@PySem.Calls.Name_function_global
abbrev aa7:=@List.cons.inj
abbrev aa8:=@PySem.W.mg_of
abbrev aa9:=@PySem.wpAny_dictEntries
abbrev aa_:=@List.nodup_nil
abbrev aba:=@beq_self_eq_true
abbrev abb:=@PySem.wpAny_typeNameOf_keyiter
abbrev abc:=@PySem.wpAny_typeNameOf_valiter
abbrev abd:=@Int.mul_fdiv_cancel_left
abbrev abe:=@PySem.codeAny_builtin
abbrev abf:=@PySem.wpAny_dictEpoch
abbrev abg:=@Bool.false_eq_true
abbrev abh:=@PySem.sizeLine_eq
abbrev abi:=@Ne.symm
abbrev abj:=@PySem.F.slot_zip_next
abbrev abk:=@List.getElem_mem
abbrev abl:=@PySem.wpAny_attempt
abbrev abm:=@PySem.wpAny_field
abbrev abn:=@PySem.Heap.SameBut.update
abbrev abo:=@PySem.wpAny_execs_nil
abbrev abp:=@PySem.SeqAt.EqAt.same
abbrev abq:=@List.exists_mem_of_ne_nil
abbrev abr:=@PySem.SeqAt.EqAt.int_str
abbrev abt:=@PySem.SeqAt.EqAt.str_int
abbrev abu:=@PySem.SeqAt.EqAt.int_int
abbrev abv:=@PySem.F.args_tuple_add_2
abbrev abw:=@Nat.lt_trans
abbrev abx:=@PySem.call_meets
abbrev aby:=@PySem.Calls.loadGlobal_global
abbrev abz:=@PySem.F.entry_tuple_add
abbrev abB:=@PySem.F.slot_tuple_add
abbrev abC:=@PyProof.Rows.subscriptTail_builtinR
abbrev abD:=@PySem.wpAny_nextOf_list_item
abbrev abE:=@Int.fmod_nonneg_of_pos
abbrev abF:=@Rat.intCast_lt_intCast
abbrev abG:=@List.getElem_inj
abbrev abH:=@PySem.F.slot_tuple_lt
abbrev abJ:=@Classical.choose_spec
abbrev abM:=@PySem.wpAny_isOneOf_valiter
abbrev abN:=@Eq.symm
abbrev abO:=@PySem.F.typeOf_object_class
abbrev abP:=@PySem.codeAny_mono
abbrev abQ:=@PySem.SeqAt.EqAt.none_bool
abbrev abR:=@PySem.SeqAt.EqAt.bool_none
abbrev abS:=@PySem.SeqAt.EqAt.bool_bool
abbrev abT:=@PySem.codeAny_call_builtin
abbrev abU:=@PySem.wpAny_updateSeq
abbrev abV:=@List.length_map
abbrev abW:=@Nat.div_le_self
abbrev abZ:=@PySem.SeqAt.EqAt.none_int
abbrev ab0:=@PySem.SeqAt.EqAt.none_str
abbrev ab1:=@PySem.SeqAt.EqAt.bool_int
abbrev ab3:=@PySem.SeqAt.EqAt.bool_str
abbrev ab5:=@PySem.SeqAt.EqAt.int_none
abbrev ab6:=@PySem.SeqAt.EqAt.int_bool
abbrev ab7:=@PySem.SeqAt.EqAt.str_none
abbrev ab8:=@PySem.SeqAt.EqAt.str_bool
abbrev ab9:=@Nat.mul_le_mul_left
abbrev ab_:=@PySem.wpAny_fieldsOf
abbrev aca:=@PySem.wpAny_setField
abbrev acb:=@Nat.le_succ
abbrev acd:=@PySem.Calls.spliced_cons
abbrev ace:=@PySem.SeqAt.EqAt.str_str
abbrev acf:=@PySem.Code.quiet_builtin
abbrev acg:=@Int.fmod_lt_of_pos
abbrev ach:=@PySem.wpAny_standAt
abbrev aci:=@PySem.wpAny_newList
abbrev acj:=@Nat.le_of_dvd
abbrev acm:=@PySem.Calls.spliced_nil
abbrev acn:=@Nat.le_succ_of_le
abbrev aco:=@if_neg
abbrev acp:=@List.ext_getElem
abbrev acq:=@Nat.succ.inj
abbrev acr:=@List.not_mem_nil
abbrev acs:=@Int.mul_ne_zero
abbrev acu:=@if_false
abbrev aB:=List (List Int)
abbrev ae:=List Int
abbrev aQ:=List Nat
abbrev ag:=List PySem.Str
abbrev ak:=List PySem.Value
abbrev au:=List PySem.Expr
abbrev bc:=List PySem.Addr
abbrev aS:=List PySem.Stmt
abbrev aU:=List Rat
abbrev aV:=Array PySem.Value
abbrev aq:=PySem.W.Frag
abbrev aD:=PySem.Value->PySem.Shared->Prop
abbrev aj:=List (PySem.Addr×PySem.Obj)
abbrev ai:=PySem.Addr->Prop
abbrev aR:=PySem.Str->Option PySem.Value
abbrev aF:=PySem.Program
abbrev aJ:=PySem.Around
namespace L2
open PySem PySem.Spec PyProof.Rows
noncomputable abbrev Key:=Sum Int Str
def HM:Key->Value->Bool
 |.inl k,v=>Value.isInt k v
 |.inr x,v=>Value.isStrOf x v
def UH(w:World):Key->Int
 |.inl k=>hashInt k
 |.inr x=>hashStr w x
theorem cA:∀{k:Key} {v:Value},HM k v=true->(∃i t,k=Sum.inl i/\v=Value.int i t)\/(∃x t,k=Sum.inr x/\v=Value.str x t)
 |.inl i,v,h=>by
  obtain⟨t,e⟩:=Value.isInt_shape (k:=i) (v:=v) h;exact .inl ⟨i,t,rfl,e⟩
 |.inr x,v,h=>by
  obtain⟨t,e⟩:=Value.isStrOf_shape (x:=x) (v:=v) h;exact .inr ⟨x,t,rfl,e⟩
theorem Ks(a b:Int):decide ((Sum.inl a:Key)=Sum.inl b)=(a==b):=by
 by_cases e:a=b
 ·subst e;simp
 ·have h:¬ (Sum.inl a:Key)=Sum.inl b:=λq=>e (Sum.inl.inj q);rw[decide_eq_false h];exact(beq_eq_false_iff_ne.mpr e).symm
theorem Ko(a b:Str):decide ((Sum.inr a:Key)=Sum.inr b)=decide (a=b):=by
 by_cases e:a=b
 ·subst e;simp
 ·have h:¬ (Sum.inr a:Key)=Sum.inr b:=λq=>e (Sum.inr.inj q);rw[decide_eq_false h,decide_eq_false e]
theorem Kr(a:Int)(b:Str):decide ((Sum.inl a:Key)=Sum.inr b)=false:=aaV (λq=>nomatch q)
theorem Kq(a:Str)(b:Int):decide ((Sum.inr a:Key)=Sum.inl b)=false:=aaV (λq=>nomatch q)
def xh(prog:aF)(w:World):PySem.KeyKind prog w Key where
 is:=HM
 hash:=UH w
 inj:=λv a b ha hb=>by
  rcases cA ha with ⟨i,t,rfl,rfl⟩|⟨x,t,rfl,rfl⟩
  ·rcases cA hb with ⟨j,u,rfl,e⟩|⟨y,u,rfl,e⟩
   ·injection e with e1 _;rw[e1]
   ·exact nomatch e
  ·rcases cA hb with ⟨j,u,rfl,e⟩|⟨y,u,rfl,e⟩
   ·exact nomatch e
   ·injection e with e1 _;rw[e1]
 byValue:=λk v h=>by
  rcases cA h with ⟨i,t,rfl,rfl⟩|⟨x,t,rfl,rfl⟩<;>rfl
 pyHash:=λhv h=>by
  rcases cA hv with ⟨i,t,rfl,rfl⟩|⟨x,t,rfl,rfl⟩
  ·exact wpAny_pyHash_int h
  ·exact wpAny_pyHash_str h
 eqBool:=λhu hv h=>by
  rcases cA hu with ⟨i,t,rfl,rfl⟩|⟨x,t,rfl,rfl⟩
  ·rcases cA hv with ⟨j,u,rfl,rfl⟩|⟨y,u,rfl,rfl⟩
   ·rw[Ks]at h;exact wpAny_eqBool_int h
   ·rw[Kr]at h;exact abr i t y u _ _ _ _ h
  ·rcases cA hv with ⟨j,u,rfl,rfl⟩|⟨y,u,rfl,rfl⟩
   ·rw[Kq]at h;exact abt x t j u _ _ _ _ h
   ·rw[Ko]at h;exact wpAny_eqBool_str h
 «strs»:=λk x t v h=>by
  rcases cA h with ⟨i,u,rfl,e⟩|⟨y,u,rfl,e⟩
  ·exact nomatch e
  ·injection e with e1 _
   subst e1;cases v<;>rfl
end L2
namespace L2
open PySem PySem.Spec PyProof.Rows
inductive V where
 |bB|bl (b:Bool)|int (i:Int)|str (x:Str)|SD (b:Array UInt8)|MQ (b:UInt64)|ref (a:Addr)|ty (n:String)
 deriving DecidableEq
abbrev af:=List V
noncomputable def RelV:V->Value->Prop
 |.bB,u=>u=Value.none
 |.bl b,u=>u=Value.bool b
 |.int i,u=>∃t,u=Value.int i t
 |.str x,u=>∃t,u=Value.str x t
 |.SD b,u=>∃t,u=Value.bytes b t
 |.MQ b,u=>∃t,u=Value.float b t
 |.ref a,u=>u=Value.ref a
 |.ty n,u=>u=Value.type n
abbrev Vals:af->ak->Prop:=Paired RelV
theorem Vals.length{xs:af}{us:ak}(r:Vals xs us):xs.length=us.length:=Paired.length r
theorem Vals.get:∀{xs:af} {us:ak} {i:Nat} {x:V},Vals xs us->xs[i]?=some x->∃u,us[i]?=some u/\RelV x u
 |_,_,_,_,.nil,e=>by simp at e
 |_,_,0,_,.cons r _,e=>by simp at e;subst e;exact⟨_,rfl,r⟩
 |_,_,i+1,x,.cons _ t,e=>by
  obtain⟨u,h1,h2⟩:=Vals.get (i:=i) (x:=x) t (by simpa using e);exact⟨u,by simpa using h1,h2⟩
theorem Vals.set{x:V}{u:Value}(r:RelV x u):∀{xs:af} {us:ak} (i:Nat),Vals xs us->Vals (xs.set i x) (us.set i u)
 |_,_,_,.nil=>.nil
 |_,_,0,.cons _ t=>.cons r t
 |_,_,i+1,.cons q t=>.cons q (Vals.set r i t)
theorem Vals.append:∀{xs ys:af} {us ws:ak},Vals xs us->Vals ys ws->Vals (xs++ys) (us++ws)
 |_,_,_,_,.nil,s=>s
 |_,_,_,_,.cons r t,s=>.cons r (Vals.append t s)
theorem Vals.take:∀{xs:af} {us:ak} (n:Nat),Vals xs us->Vals (xs.take n) (us.take n)
 |_,_,0,_=>.nil
 |_,_,_+1,.nil=>.nil
 |_,_,n+1,.cons r t=>.cons r (Vals.take n t)
theorem Vals.drop:∀{xs:af} {us:ak} (n:Nat),Vals xs us->Vals (xs.drop n) (us.drop n)
 |_,_,0,r=>r
 |_,_,_+1,.nil=>.nil
 |_,_,n+1,.cons _ t=>Vals.drop n t
def wx:Option V->Option Value->Prop
 |some v,some u=>RelV v u
 |none,none=>True
 |_,_=>False
def KV{κ:Type}:List (κ×V)->List (κ×Value)->Prop:=Paired λ(p:κ×V) (q:κ×Value)=>p.1=q.1/\RelV p.2 q.2
def kV:Key->V
 |.inl i=>.int i
 |.inr x=>.str x
inductive HO where
 |lst (xs:af)
 |tup (xs:af)
 |dK (lZ:List (Key×V))|dT (lZ:List (List Key×V))
 |set (S:Int->Bool) (n:Nat)
 |ins (C dx:Addr) (fs:List (Str×V))
 |own (x:Addr)
 |xd (fs:List (Str×V))
 |met (f x:Addr)
 |lW (lo hi:Int)
 |iK (o:Obj) (u:HO)
 |Ei (ps:aV)
 |ext (φ:Heap->Prop)
noncomputable abbrev Hp:=Addr->Option HO
noncomputable def upd(H:Hp)(a:Addr)(o:HO):Hp:=λb=>if b=a then some o else H b
variable {H:Hp}
theorem aX{a:Addr}{o:HO}:upd H a o a=some o:=by unfold upd;rw[if_pos rfl]
theorem aW{a b:Addr}{o:HO}(h:b≠a):upd H a o b=H b:=by unfold upd;rw[if_neg h]
theorem bQ{a b:Addr}{o:HO}(h:H a=some o)(h':H b=none):a≠b:=by
 intro e;subst e;rw[h]at h';cases h'
section
variable (P:aF)(w:World)
def cC(H:Hp)(h:Heap)(a:Addr):HO->Prop
 |.lst xs=>xs.length<=sizeLine/\∃(aM:ak) (n:Nat),Vals xs aM/\h.get? a=some { cls:=.type "list",data:=.seq aM.toArray n }
 |.tup xs=>xs.length<=sizeLine/\∃aM:ak,Vals xs aM/\IsTup h a aM.toArray
 |.dK lZ=>lZ.length<=sizeLine/\(a==sysModules)=false/\∃vs,KV lZ vs/\h.DictOf (xh P w) a vs
 |.dT lZ=>lZ.length<=sizeLine/\(a==sysModules)=false/\∃xs:List (List Key×Addr×Value),
   Paired (λ(p:List Key×V) (q:List Key×Addr×Value)=>p.1=q.1/\H q.2.1=some (.tup (p.1.map kV))/\RelV p.2 q.2.2) lZ xs /\
   ∃o es ep,h.get? a=some o/\o.ExactDict/\o.data=.dict es ep/\es.toList=xs.map (entryOfKey (tupleKind (xh P w)))/\(xs.map (·.1)).Nodup
 |.set S n=>h.SetOf (intKind P w) a S n
 |.ins C dx fs=>H dx=some (.own a)/\fs.length<=1000/\dx≠a/\h.get? a=some (PySem.W.instObj C dx) /\
   ∃mA,h.Ns1 dx mA/\(∀f,wx (fs.lookup f) (mA f))/\PySem.Within mA (fs.map (·.1))
 |.own _=>∃o,h.get? a=some o
 |.xd fs=>∃mA,h.Ns1 a mA/\∀f,wx (fs.lookup f) (mA f)
 |.lW lo hi=>∃t u v,h.get? a=some { cls:=.type "range",data:=.fields #[.int lo t,.int hi u,.int 1 v] }
 |.iK o u=>h.get? a=some o/\cC H h a u
 |.Ei ps=>h.get? a=some { cls:=.none,data:=.fields ps }
 |.met f x=>h.get? a=some (PySem.W.methodObj (.ref f) (.ref x))
 |.ext φ=>φ h/\(∃o,h.get? a=some o)/\∀h1 h2:Heap,φ h1->(∀o,h1.get? a=some o->h2.get? a=some o)->φ h2
def jt(H:Hp)(h:Heap):Prop:=∀a o,H a=some o->cC P w H h a o
end
section
variable {P:aF}{w:World}{H H':Hp}{h h':Heap}{a:Addr}{o:HO}
theorem cC.lt(x:cC P w H h a o):a<h.objs.size:=by
 cases o with
 |lst xs=>obtain⟨_,_,_,_,e⟩:=x;exact aaj e
 |tup xs=>obtain⟨_,_,_,p⟩:=x;exact p.lt
 |dK lZ=>obtain⟨_,_,_,_,o,_,_,e,_⟩:=x;exact aaj e
 |dT lZ=>obtain⟨_,_,_,_,o,_,_,e,_⟩:=x;exact aaj e
 |set S n=>obtain⟨o,_,_,_,e,_⟩:=x;exact aaj e
 |ins C dx fs=>obtain⟨_,_,_,e,_⟩:=x;exact aaj e
 |own y=>obtain⟨_,e⟩:=x;exact aaj e
 |xd fs=>obtain⟨_,⟨_,_,_,e,_⟩,_⟩:=x;exact aaj e
 |lW lo hi=>obtain⟨_,_,_,e⟩:=x;exact aaj e
 |iK ob u=>obtain⟨e,_⟩:=x;exact aaj e
 |Ei ps=>exact aaj (show h.get? a=some _ from x)
 |met f y=>exact aaj (show h.get? a=some _ from x)
 |ext φ=>obtain⟨_,⟨_,e⟩,_⟩:=x;exact aaj e
theorem Paired.OA{α β:Type}{F G:α->β->Prop}:∀{l₁:List α} {l₂:List β},Paired F l₁ l₂->(∀a b,F a b->G a b)->Paired G l₁ l₂
 |_,_,.nil,_=>.nil
 |_,_,.cons r t,f=>.cons (f _ _ r) (Paired.OA t f)
theorem cC.kl(x:cC P w H h a o)(k:∀b u,(b=a\/H b=some (.own a))->h.get? b=some u->h'.get? b=some u)
  (ho:∀b,H b=some (.own a)->H' b=some (.own a)) (ht:∀b xs,H b=some (.tup xs)->H' b=some (.tup xs)):cC P w H' h' a o:=by
 induction o with
 |lst xs=>obtain⟨z,aM,n,r,e⟩:=x;exact⟨z,aM,n,r,k _ _ (.inl rfl) e⟩
 |tup xs=>obtain⟨z,aM,r,ob,e,c⟩:=x;exact⟨z,aM,r,ob,k _ _ (.inl rfl) e,c⟩
 |dK lZ=>obtain⟨z,y,vs,r,ob,es,ep,e,c⟩:=x;exact⟨z,y,vs,r,ob,es,ep,k _ _ (.inl rfl) e,c⟩
 |dT lZ =>
  obtain⟨z,y,xs,r,ob,es,ep,e,c⟩:=x;exact⟨z,y,xs,Paired.OA r λp q z=>⟨z.1,ht _ _ z.2.1,z.2.2⟩,ob,es,ep,k _ _ (.inl rfl) e,c⟩
 |set S n=>obtain⟨ob,es,ep,t,e,c⟩:=x;exact⟨ob,es,ep,t,k _ _ (.inl rfl) e,c⟩
 |ins C dx fs =>
  obtain⟨d,z,ne,e,mA,⟨od,es,ep,e2,c⟩,r⟩:=x;exact⟨ho _ d,z,ne,k _ _ (.inl rfl) e,mA,⟨od,es,ep,k _ _ (.inr d) e2,c⟩,r⟩
 |own y=>obtain⟨ob,e⟩:=x;exact⟨ob,k _ _ (.inl rfl) e⟩
 |xd fs=>obtain⟨mA,⟨od,es,ep,e,c⟩,r⟩:=x;exact⟨mA,⟨od,es,ep,k _ _ (.inl rfl) e,c⟩,r⟩
 |lW lo hi=>obtain⟨t,u,v,e⟩:=x;exact⟨t,u,v,k _ _ (.inl rfl) e⟩
 |iK ob u ih=>obtain⟨e,q⟩:=x;exact⟨k _ _ (.inl rfl) e,ih q⟩
 |Ei ps =>
  have e:h.get? a=some { cls:=.none,data:=.fields ps }:=x;show h'.get? a=some { cls:=.none,data:=.fields ps };exact k a _ (.inl rfl) e
 |met f y =>
  have e:h.get? a=some (PySem.W.methodObj (.ref f) (.ref y)):=x;show h'.get? a=some (PySem.W.methodObj (.ref f) (.ref y));exact k a _ (.inl rfl) e
 |ext φ=>obtain⟨p,⟨o,e⟩,st⟩:=x;exact⟨st _ _ p λo q=>k _ _ (.inl rfl) q,⟨o,k _ _ (.inl rfl) e⟩,st⟩
theorem jt.lt(x:jt P w H h)(e:H a=some o):a<h.objs.size:=(x a o e).lt
theorem jt.fresh(x:jt P w H h)(e:h.objs.size<=a):H a=none:=by
 cases q:H a with
 |none=>rfl
 |some u=>exact absurd (aap (x.lt q) e) (aay _)
theorem jt.kept(x:jt P w H h)(k:∀b u,h.get? b=some u->h'.get? b=some u):jt P w H h':=λa o e =>
 (x a o e).kl (λb u _ q=>k b u q) (λ_ q=>q) λ_ _ q=>q
theorem jt.laid(x:jt P w H h)(k:∀b u,h.get? b=some u->h'.get? b=some u)(hp:h.objs.size<=a)(new:cC P w (upd H a o) h' a o):jt P w (upd H a o) h':=λb u e=>by
 have hn:=x.fresh hp;by_cases hb:b=a
 ·subst hb;rw[aX]at e;cases e;exact new
 ·rw[aW hb]at e;exact(x b u e).kl (λc v _ q=>k c v q) (λc q=>by rw[aW (bQ q hn)];exact q) λc xs q=>by rw[aW (bQ q hn)];exact q
end
def Rd(H:Hp)(a:Addr)(u:HO):Prop:=H a=some u\/∃o,H a=some (.iK o u)
variable {h:Heap}
theorem Rd.ok{P:aF}{w:World}{a:Addr}{u:HO}(r:Rd H a u)(x:jt P w H h):cC P w H h a u:=by
 rcases r with r|⟨o,r⟩
 ·exact x a u r
 ·obtain⟨_,q⟩:=x a _ r;exact q
noncomputable def SN:Option HO->Prop
 |some (.lst _)=>True
 |some (.dK _)=>True
 |some (.dT _)=>True
 |some (.set _ _)=>True
 |some (.ins _ _ _)=>True
 |some (.ext _)=>True
 |_=>False
section
variable {P:aF}{w:World}{H:Hp}{h h':Heap}{x e:Addr}{o':HO}
theorem jt.write(ok:jt P w H h)(mu:SN (H x))(he:e=x\/H e=some (.own x))(k:∀b u,b≠e->h.get? b=some u->h'.get? b=some u)(MK:∃u,h'.get? e=some u)
  (new:cC P w (upd H x o') h' x o'):jt P w (upd H x o') h':=λb u q=>by
 have Ol:∀c y,H c=some (.own y)->c≠x:=λc y r z=>by subst z;rw[r]at mu;exact mu
 have Uy:∀c xs,H c=some (.tup xs)->c≠x:=λc xs r z=>by subst z;rw[r]at mu;exact mu
 by_cases hb:b=x
 ·subst hb;rw[aX]at q;cases q;exact new
 ·rw[aW hb]at q;by_cases KY:b=e
  ·have q':H b=some (.own x):=by
    rcases he with z|z
    ·exact absurd (KY.trans z) hb
    ·rw[KY];exact z
   rw[q]at q';cases q';obtain⟨v,hv⟩:=MK;exact⟨v,by rw[KY];exact hv⟩
  ·refine(ok b u q).kl (λc v hc r=>k c v ?_ r) (λc r=>by rw[aW (Ol c b r)];exact r) λc xs r=>by rw[aW (Uy c xs r)];exact r
   rcases hc with rfl|hc
   ·exact KY
   ·rintro rfl;rcases he with z|z
    ·exact Ol c b hc z
    ·rw[hc]at z;cases z;exact hb rfl
end
structure Un(fs ex:bc)(H H':Hp)(h h':Heap):Prop where
 keep:∀b o,h.get? b=some o->H b=none->b∉fs->b∉ex->h'.get? b=some o
 slot:∀b o,h.get? b=some o->H b=none->b∈fs->b∉ex->∃sl,h'.get? b=some { o with slots:=sl }
 free:∀b o,h.get? b=some o->H b=none->b∉ex->H' b=none
 there:∀b o,h.get? b=some o->b∉ex->∃o',h'.get? b=some o'
 lP:∀b xs,H b=some (.tup xs)->H' b=some (.tup xs)
 k_:∀b o u,H b=some (.iK o u)->H' b=some (.iK o u)
 lR:∀b ps,H b=some (.Ei ps)->∃more,H' b=some (.Ei (ps++more))
section
variable {fs fs' ex Wi:bc}{H H1 H2:Hp}{h h1 h2 h':Heap}{a x e:Addr}{o:HO}
theorem Un.any(u:Un fs ex H H1 h h1){b:Addr}{ob:Obj}(q:h.get? b=some ob)(n:H b=none)(hx:b∉ex):∃sl,h1.get? b=some { ob with slots:=sl }:=by
 by_cases hb:b∈fs
 ·exact u.slot b ob q n hb hx
 ·exact⟨ob.slots,u.keep b ob q n hb hx⟩
theorem Un.kept(k:∀b u,h.get? b=some u->h'.get? b=some u):Un fs ex H H h h' :=
 ⟨λb ob q _ _ _=>k b ob q,λb ob q _ _ _=>⟨ob.slots,k b ob q⟩,λ_ _ _ n _=>n,λb ob q _=>⟨ob,k b ob q⟩,λ_ _ q=>q,λ_ _ _ q=>q,λ_ ps q=>⟨#[],by rw[q];simp⟩⟩
theorem Un.refl:Un fs ex H H h h:=Un.kept λ_ _ q=>q
theorem Un.laid(k:∀b u,h.get? b=some u->h'.get? b=some u)(hp:h.objs.size<=a)(hn:H a=none):Un fs ex H (upd H a o) h h' where
 keep:=λb u q _ _ _=>k b u q
 slot:=λb u q _ _ _=>⟨u.slots,k b u q⟩
 free:=λb u q n _=>by rw[aW (Nat.ne_of_lt (Nat.lt_of_lt_of_le (Heap.lt_size q) hp))];exact n
 there:=λb u q _=>⟨u,k b u q⟩
 lP:=λb xs q=>by rw[aW (bQ q hn)];exact q
 k_:=λb u xs q=>by rw[aW (bQ q hn)];exact q
 lR:=λb ps q=>⟨#[],by rw[aW (bQ q hn),q];simp⟩
theorem Un.write(mu:SN (H x))(he:e=x\/H e=some (.own x))(k:∀b u,b≠e->h.get? b=some u->h'.get? b=some u)(MK:∃u,h'.get? e=some u):Un fs ex H (upd H x o) h h':=by
 have hx:∀b,H b=none->b≠x:=λb n z=>by subst z;rw[n]at mu;exact mu
 have hb:∀b,H b=none->b≠e:=λb n z=>by
  subst z;rcases he with r|r
  ·exact hx b n r
  ·rw[n]at r;cases r
 have hm:∀b u,H b=some u->¬ SN (some u)->b≠x:=λb u q nm z=>by subst z;rw[q]at mu;exact nm mu
 refine⟨λb u q n _ _=>k b u (hb b n) q,λb u q n _ _=>⟨u.slots,k b u (hb b n) q⟩,λb u q n _=>by rw[aW (hx b n)];exact n,λb u q _=>?_,
  λb xs q=>by rw[aW (hm b _ q λz=>z)];exact q,λb u xs q=>by rw[aW (hm b _ q λz=>z)];exact q,λb ps q=>⟨#[],by rw[aW (hm b _ q λz=>z),q];simp⟩⟩
 by_cases KY:b=e
 ·subst KY;exact MK
 ·exact⟨u,k b u KY q⟩
end
noncomputable def Ro(h:Heap)(H:Hp):bc:=(List.range h.objs.size).filter λa=>(H a).isSome
def qZ(h:Heap)(H:Hp):Heap:=PySem.W.hideAll h (Ro h H)
theorem yV(h:Heap)(H:Hp):(qZ h H).objs.size=h.objs.size:=PySem.W.hideAll_size _ _
variable {o:Obj}
theorem B7{b:Addr}(e:h.get? b=some o)(n:H b=none):(qZ h H).get? b=some o :=
 PySem.W.hideAll_get _ e λhm=>by
  have q:(H b).isSome=true:=(List.mem_filter.mp hm).2;rw[n]at q;simp at q
theorem Fh{b:Addr}(e:(qZ h H).get? b=some o):h.get? b=some o/\H b=none:=by
 have e':h.get? b=some o:=PySem.W.of_hideAll (Ro h H) e;refine⟨e',?_⟩;cases q:H b with
 |none=>rfl
 |some x =>
  have hm:b∈Ro h H:=List.mem_filter.mpr ⟨List.mem_range.mpr (aaj e'),by simp[q]⟩;have z:(qZ h H).get? b=none:=PySem.W.hideAll_none (Ro h H) hm;rw[z]at e;cases e
noncomputable def GX(g h:Heap)(L:Addr):aj:=(List.range h.objs.size).filterMap λa=>if a=L\/(g.get? a).isSome=true then none else(h.get? a).map λo=>(a,o)
def rest(g h:Heap)(L d:Addr):aj:=(GX g h L).filter λp=>decide (p.1≠d)
end L2
namespace L2
open PySem PySem.Spec PyProof.Rows
structure Mod(K:aq)(mg:aR)(base:Heap):Prop where
 RZ:K.In base
 glob:base.Ns mainGlobals mg
 blt:∃mb,base.Ns builtinsNs mb/\∀x:Str,x ≠ "__name__" -> mb x=bootBuiltins x
 nolimit:base.NoLimit
structure Cx where
 prog:aF
 w:World
 K:aq
 mg:aR
 base:Heap
 A:aJ
 N:ag
 s₀:Shared
 H₀:Hp
 env:Env
 outer:List Env
 stack:List Env
 ex:bc
 fn:Str->Bool
 calm:Bool
 pn:aj
 xe:aD
noncomputable def la(l:List Env):bc:=l.filterMap (·.frame)
abbrev Cx.fs(X:Cx):bc:=la X.outer
def Iw(sc:Scope)(x:Str):Prop:=sc.names.lookup x=some .local\/sc.names.lookup x=some .cell\/sc.names.lookup x=some .free
def Loc(sc:Scope)(x:Str):Prop:=sc.names.lookup x=some .local\/sc.names.lookup x=some .cell
noncomputable def Look(env:Env)(h:Heap)(m:aR)(x:Str)(u:Value):Prop :=
 (env.kindOf x=some .local/\m x=some u)\/((env.kindOf x=some .cell\/env.kindOf x=some .free)/\∃c,env.cells.lookup x=some c/\h.IsCell c (some u))
structure Cx.Ok(X:Cx):Prop where
 mod:Mod X.K X.mg X.base
 kind:X.env.scope.kind=.function
 glob:X.env.globals=mainGlobals
 blt:X.env.builtins=builtinsNs
 above:X.s₀.heap.objs.size<=X.env.locals
 inj:∀x y c,X.env.cells.lookup x=some c->X.env.cells.lookup y=some c->x=y
 has:∀x,(X.env.kindOf x=some .cell\/X.env.kindOf x=some .free)->∃c,X.env.cells.lookup x=some c
 Im:∀x c,X.fn x=true->X.env.cells.lookup x=some c->X.s₀.heap.objs.size<=c
 hd:X.calm=true->X.A.handled=none
 frames:X.A.frames=some X.stack
 Ji:X.stack=X.outer\/(X.stack=X.env::X.outer/\X.env.frame=some X.env.locals)
 Qv:∀b∈X.ex,b≠X.env.locals/\∀x c,X.env.cells.lookup x=some c->c≠b
 bs:∀b o,X.base.get? b=some o->X.s₀.heap.get? b=some o/\X.H₀ b=none
 Dl:X.base.objs.size<=X.s₀.heap.objs.size
 tI:∀b o,X.base.get? b=some o->b∉X.ex
 vT:∀b∈X.ex,b∉X.fs
 jP:X.s₀.heap.FunFrames X.base X.outer
 zK:∀b∈X.fs,X.H₀ b=none
structure Inv(X:Cx)(pins:aj)(σ:List (Option V))(H:Hp)(s:Shared):Prop where
 ok:X.Ok
 os:s.os=X.s₀.os
 bare:AllBare s.gens
 base:Un X.fs X.ex X.H₀ H X.s₀.heap s.heap
 loc:∃m,s.heap.Ns X.env.locals m/\∀(i:Nat) (x:Str) (v:V),X.N[i]?=some x->σ[i]?=some (some v)->Iw X.env.scope x->∃u,RelV v u/\Look X.env s.heap m x u
 cell:∀x c,X.env.cells.lookup x=some c->∃v,s.heap.IsCell c v
 free:H X.env.locals=none
 fT:∀x c,X.env.cells.lookup x=some c->H c=none
 pin:∀p∈X.pn++pins,s.heap.get? p.1=some p.2/\H p.1=none/\p.1≠X.env.locals/\p.1∉X.fs/\∀v,p.2.data≠.cell v
 cB:jt X.prog X.w H s.heap
 len:σ.length=X.N.length
variable {A:aJ}{E:Value->Shared->Prop}{Q:Unit->Shared->Prop}{ch:bc}{t':Nat}
section
variable {X:Cx}{pins:aj}{σ:List (Option V)}{H H':Hp}{s:Shared}{h':Heap}
theorem Cx.Ok.Uz(ok:X.Ok){b:Addr}{o:Obj}(e:X.base.get? b=some o):b∉X.fs:=λhb=>by
 have:=(ok.jP.mem hb).1;rw[e]at this;cases this
theorem Inv.bs(I:Inv X pins σ H s):∀b o,X.base.get? b=some o->s.heap.get? b=some o/\H b=none:=λb o e =>
 ⟨I.base.keep b o (I.ok.bs b o e).1 (I.ok.bs b o e).2 (I.ok.Uz e) (I.ok.tI b o e),I.base.free b o (I.ok.bs b o e).1 (I.ok.bs b o e).2 (I.ok.tI b o e)⟩
theorem Inv.bk(I:Inv X pins σ H s):∀b o,X.base.get? b=some o->s.heap.get? b=some o:=λb o e=>(I.bs b o e).1
theorem Inv.mod(I:Inv X pins σ H s):Mod X.K X.mg X.base:=I.ok.mod
theorem Inv.vG(I:Inv X pins σ H s):X.K.In s.heap:=I.ok.mod.RZ.keeps I.bk
theorem Inv.lt(I:Inv X pins σ H s):X.env.locals<s.heap.objs.size:=let ⟨_,hn,_⟩:=I.loc;hn.lt
theorem Inv.sz(I:Inv X pins σ H s):X.s₀.heap.objs.size<=s.heap.objs.size:=aaC I.ok.above (Nat.le_of_lt I.lt)
theorem Inv.J8(I:Inv X pins σ H s){a:Addr}(h:s.heap.objs.size<=a):a∉X.fs:=λhb=>by
 obtain⟨_,o,ho,_⟩:=I.ok.jP.mem hb;exact absurd (aap (aaj ho) (aaC I.sz h)) (aay _)
theorem Inv.GC(I:Inv X pins σ H s):∀x c,X.env.cells.lookup x=some c->c≠X.env.locals:=λx c e z=>by
 obtain⟨v,o,ho,hd⟩:=I.cell x c e;obtain⟨m,⟨o',es,ep,fJ,oW,_⟩,_⟩:=I.loc;rw[z,fJ]at ho;cases ho;rw[oW]at hd;cases hd
theorem Inv.jP(I:Inv X pins σ H s):s.heap.FunFrames X.base X.outer:=by
 have all:∀(l:List Env),(∀b∈la l,b∈X.fs)->X.s₀.heap.FunFrames X.base l->s.heap.FunFrames X.base l:=by
  intro l;induction l with
  |nil=>intro _ _;trivial
  |cons env r ih =>
   intro hs hl;obtain⟨hk,⟨L,o,hf,hn,ho,hd⟩,hr⟩:=hl;have hL:L∈X.fs:=hs L (by unfold la;rw[List.filterMap_cons,hf];exact aai);obtain⟨sl,e⟩:=I.base.slot L o ho (I.ok.zK L hL) hL λz=>I.ok.vT L z hL;exact⟨hk,⟨L,_,hf,hn,e,hd⟩,ih (λb hb=>hs b (by unfold la;rw[List.filterMap_cons,hf];exact aal _ hb)) hr⟩
 exact all X.outer (λ_ hb=>hb) I.ok.jP
theorem Inv.stack(I:Inv X pins σ H s):s.heap.FunFrames X.base X.stack:=by
 rcases I.ok.Ji with e|⟨e,hf⟩
 ·rw[e];exact I.jP
 ·rw[e];obtain⟨m,hn,_⟩:=I.loc;refine .cons (by rw[I.ok.kind];decide) hf hn ?_ I.jP;exact Heap.get?_none_of_le (aaC I.ok.Dl I.ok.above)
theorem Inv.jL(I:Inv X pins σ H s):∀b∈la X.stack,b∈X.env.locals::X.fs:=λb hb=>by
 rcases I.ok.Ji with e|⟨e,hf⟩
 ·rw[e]at hb;exact aal _ hb
 ·rw[e]at hb;unfold la at hb;rw[List.filterMap_cons,hf]at hb;exact hb
theorem Inv.kj(I:Inv X pins σ H s):∀b∈la X.stack,H b=none:=λb hb=>by
 rcases List.mem_cons.mp (I.jL b hb)with e|hb
 ·rw[e];exact I.free
 ·obtain⟨_,o,ho,_⟩:=I.ok.jP.mem hb;exact I.base.free b o ho (I.ok.zK b hb) λz=>I.ok.vT b z hb
theorem Inv.step{g':Array GenState}{d':Drawn}(I:Inv X pins σ H s)
  (DS:∀b∈ch,(b∈X.ex\/X.s₀.heap.objs.size<=b)/\b≠X.env.locals/\(∀x c,X.env.cells.lookup x=some c->c≠b)/\∀p∈X.pn++pins,p.1≠b)
  (keep:∀b o,b≠X.env.locals->b∉X.fs->b∉ch->s.heap.get? b=some o->H b=none->h'.get? b=some o)
  (slot:∀b o,b≠X.env.locals->b∈X.fs->b∉ch->s.heap.get? b=some o->H b=none->∃sl,h'.get? b=some { o with slots:=sl }) (free:∀b o,b∉ch->s.heap.get? b=some o->H b=none->H' b=none)
  (there:∀b o,b∉ch->s.heap.get? b=some o->∃o',h'.get? b=some o')
  (lP:∀b xs,H b=some (.tup xs)->H' b=some (.tup xs)) (k_:∀b o u,H b=some (.iK o u)->H' b=some (.iK o u)) (lR:∀b ps,H b=some (.Ei ps)->∃more,H' b=some (.Ei (ps++more)))
  (ns:∀m,s.heap.Ns X.env.locals m->h'.Ns X.env.locals m) (cB:jt X.prog X.w H' h') (hg:AllBare g') :
  Inv X pins σ H' { s with heap:=h',gens:=g',drawn:=d',toks:=t' }:=by
 have Xw:∀b o,X.s₀.heap.get? b=some o->b≠X.env.locals:=λb o e=>aan (aap (aaj e) I.ok.above);have HK:∀b o,X.s₀.heap.get? b=some o->b∉X.ex->b∉ch:=λb o e hx hb=>by
  rcases(DS b hb).1 with z|z
  ·exact hx z
  ·exact absurd (aap (aaj e) z) (aay _)
 have cellK:∀x c,X.env.cells.lookup x=some c->∀v,s.heap.IsCell c v->h'.IsCell c v:=λx c e v bK=>by
  obtain⟨o,ho,hd⟩:=bK;have Ov:c∉ch:=λz=>(DS c z).2.2.1 x c e rfl;by_cases hc:c∈X.fs
  ·obtain⟨sl,q⟩:=slot c o (I.GC x c e) hc Ov ho (I.fT x c e);exact⟨_,q,hd⟩
  ·exact⟨o,keep c o (I.GC x c e) hc Ov ho (I.fT x c e),hd⟩
 refine⟨I.ok,I.os,hg,⟨λb o e n hb hx=>?_,λb o e n hb hx=>?_,λb o e n hx=>?_,λb o e hx=>?_,λb xs e=>lP b xs (I.base.lP b xs e),λb o xs e=>k_ b o xs (I.base.k_ b o xs e),λb ps e=>?_⟩,?_,λx c e=>?_,?_,λx c e=>?_,λp hp=>?_,cB,I.len⟩
 ·exact keep b o (Xw b o e) hb (HK b o e hx) (I.base.keep b o e n hb hx) (I.base.free b o e n hx)
 ·obtain⟨sl,e1⟩:=I.base.slot b o e n hb hx;obtain⟨TN,e2⟩:=slot b _ (Xw b o e) hb (HK b o e hx) e1 (I.base.free b o e n hx);exact⟨TN,e2⟩
 ·obtain⟨o',e1⟩:=I.base.there b o e hx;exact free b o' (HK b o e hx) e1 (I.base.free b o e n hx)
 ·obtain⟨o',e1⟩:=I.base.there b o e hx;exact there b o' (HK b o e hx) e1
 ·obtain⟨m1,e1⟩:=I.base.lR b ps e;obtain⟨m2,e2⟩:=lR b _ e1;exact⟨m1++m2,by rw[e2,Array.append_assoc]⟩
 ·obtain⟨m,hn,hl⟩:=I.loc;refine⟨m,ns m hn,λi x v e1 e2 e3=>?_⟩;obtain⟨u,r,l⟩:=hl i x v e1 e2 e3;refine⟨u,r,?_⟩;rcases l with l|⟨k,c,e,z⟩
  ·exact .inl l
  ·exact .inr ⟨k,c,e,cellK x c e _ z⟩
 ·obtain⟨v,z⟩:=I.cell x c e;exact⟨v,cellK x c e v z⟩
 ·obtain⟨m,⟨o,_,_,ho,_⟩,_⟩:=I.loc;exact free _ o (λz=>(DS _ z).2.1 rfl) ho I.free
 ·obtain⟨v,o,ho,hd⟩:=I.cell x c e;exact free c o (λz=>(DS c z).2.2.1 x c e rfl) ho (I.fT x c e)
 ·obtain⟨e,n,ne,nf,d⟩:=I.pin p hp;have Ov:p.1∉ch:=λz=>(DS p.1 z).2.2.2 p hp rfl;exact⟨keep p.1 p.2 ne nf Ov e n,free p.1 p.2 Ov e n,ne,nf,d⟩
theorem Inv.un(I:Inv X pins σ H s)(u:Un X.fs [] H H' s.heap h')(cB:jt X.prog X.w H' h'):Inv X pins σ H' { s with heap:=h',toks:=t' }:=by
 obtain⟨m,⟨o,es,ep,ho,r⟩,_⟩:=id I.loc;obtain⟨sl,hL⟩:=u.any ho I.free (by simp);exact I.step (g':=s.gens) (d':=s.drawn) (ch:=[]) (λ_ z=>nomatch z) (λb o _ hb _ e n=>u.keep b o e n hb (by simp)) (λb o _ hb _ e n=>u.slot b o e n hb (by simp)) (λb o _ e n=>u.free b o e n (by simp)) (λb o _ e=>u.there b o e (by simp)) u.lP u.k_ u.lR (λm' hm=>by
  obtain⟨o',Qx,xN,fJ,r'⟩:=hm;rw[ho]at fJ;cases fJ;exact⟨_,Qx,xN,hL,r'⟩) cB I.bare
theorem Inv.call{g':Array GenState}{d':Drawn}(I:Inv X pins σ H s)(u:Un (la X.stack) ch H H' s.heap h')(cB:jt X.prog X.w H' h')(hg:AllBare g')
  (DS:∀b∈ch,(b∈X.ex\/X.s₀.heap.objs.size<=b)/\b≠X.env.locals/\(∀x c,X.env.cells.lookup x=some c->c≠b)/\∀p∈X.pn++pins,p.1≠b) :
  Inv X pins σ H' { s with heap:=h',gens:=g',drawn:=d',toks:=t' }:=by
 obtain⟨m,⟨o,es,ep,ho,r⟩,_⟩:=id I.loc;obtain⟨sl,hL⟩:=u.any ho I.free λz=>(DS _ z).2.1 rfl;exact I.step (ch:=ch) DS (λb o hL hb hc e n=>u.keep b o e n (λz=>(List.mem_cons.mp (I.jL b z)).elim hL hb) hc) (λb o _ _ hc e n=>u.any e n hc) (λb o hc e n=>u.free b o e n hc) (λb o hc e=>u.there b o e hc) u.lP u.k_ u.lR (λm' hm=>by
  obtain⟨o',Qx,xN,fJ,r'⟩:=hm;rw[ho]at fJ;cases fJ;exact⟨_,Qx,xN,hL,r'⟩) cB hg
theorem Inv.turned{it:Addr}(I:Inv X pins σ H s)(k:∀b o,b≠it->s.heap.get? b=some o->h'.get? b=some o)(hn:H it=none)(hL:it≠X.env.locals)
  (h1:it∈X.ex\/X.s₀.heap.objs.size<=it) (h2:∀x c,X.env.cells.lookup x=some c->c≠it) (h3:∀p∈X.pn++pins,p.1≠it):Inv X pins σ H { s with heap:=h',toks:=t' }:=by
 have HJ:∀b u,H b=some u->b≠it:=λb u e z=>by rw[z,hn]at e;cases e
 refine I.step (g':=s.gens) (d':=s.drawn) (ch:=[it]) (λb hb=>?_) (λb o _ _ hc e _=>k b o (λz=>hc (by simp[z])) e) (λb o _ _ hc e _=>⟨o.slots,k b o (λz=>hc (by simp[z])) e⟩) (λ_ _ _ _ n=>n)
  (λb o hc e=>⟨o,k b o (λz=>hc (by simp[z])) e⟩) (λ_ _ e=>e) (λ_ _ _ e=>e) (λb ps e=>⟨#[],by rw[e];simp⟩) (λm hm=>?_) (λb u e=>?_) I.bare
 ·have e:b=it:=by simpa using hb
  subst e;exact⟨h1,hL,h2,h3⟩
 ·obtain⟨o,es,ep,ho,r⟩:=hm;exact⟨o,es,ep,k _ o (abi hL) ho,r⟩
 ·refine(I.cB b u e).kl (λc v hc q=>k c v ?_ q) (λ_ q=>q) λ_ _ q=>q;rcases hc with z|z
  ·rw[z];exact HJ b u e
  ·exact HJ c _ z
theorem Inv.tok(I:Inv X pins σ H s)(t:Nat):Inv X pins σ H { s with toks:=t }:=I.un (h':=s.heap) (t':=t) Un.refl I.cB
theorem Inv.kept{t':Nat}(I:Inv X pins σ H s)(k:∀b u,s.heap.get? b=some u->h'.get? b=some u):Inv X pins σ H { s with heap:=h',toks:=t' }:=I.un (Un.kept k) (I.cB.kept k)
theorem Inv.laid{a:Addr}{o:HO}{t':Nat}(I:Inv X pins σ H s)(k:∀b u,s.heap.get? b=some u->h'.get? b=some u)(hp:s.heap.objs.size<=a)(new:cC X.prog X.w (upd H a o) h' a o):
  Inv X pins σ (upd H a o) { s with heap:=h',toks:=t' }:=I.un (Un.laid k hp (I.cB.fresh hp)) (I.cB.laid k hp new)
theorem Inv.write{x e:Addr}{o:HO}{t':Nat}(I:Inv X pins σ H s)(mu:SN (H x))(he:e=x\/H e=some (.own x))(k:∀b u,b≠e->s.heap.get? b=some u->h'.get? b=some u)(MK:∃u,h'.get? e=some u)
  (new:cC X.prog X.w (upd H x o) h' x o):Inv X pins σ (upd H x o) { s with heap:=h',toks:=t' }:=I.un (Un.write mu he k MK) (I.cB.write mu he k MK new)
theorem Inv.jn{AR:aj}(I:Inv X pins σ H s)(h:∀p∈AR,s.heap.get? p.1=some p.2/\H p.1=none/\p.1≠X.env.locals/\p.1∉X.fs/\∀v,p.2.data≠.cell v):Inv X AR σ H s :=
 ⟨I.ok,I.os,I.bare,I.base,I.loc,I.cell,I.free,I.fT,λp hp=>(List.mem_append.mp hp).elim (λz=>I.pin p (aaA _ z)) (h p),I.cB,I.len⟩
theorem tJ{N:ag}(hN:N.Nodup){i j:Nat}{x:Str}(a:N[i]?=some x)(b:N[j]?=some x):i=j:=by
 obtain⟨h1,e1⟩:=List.getElem?_eq_some_iff.mp a;obtain⟨h2,e2⟩:=List.getElem?_eq_some_iff.mp b;exact(abG hN).mp (e1.trans e2.symm)
theorem yr{M:Model}{i:Nat}{x:Str}{v:V}{u:Value}(I:Inv X pins σ H s)(hN:X.N.Nodup)(hi:X.N[i]?=some x)(hx:Loc X.env.scope x)(r:RelV v u)
  (h:∀s',Inv X pins (σ.set i (some v)) H s'->(∃a,Heap.SameBut a s.heap s'.heap/\(a=X.env.locals\/X.env.cells.lookup x=some a))->Q () s') (hf:X.fn x=true\/X.env.scope.names.lookup x=some .local:=by first|exact .inl rfl|exact .inr rfl|assumption):wpAny M A (storeName X.env x u) Q E s:=by
 obtain⟨m,hn,hl⟩:=id I.loc;have B_:(X.env.scope.kind==.class||(X.env.scope.kind==.module&&X.env.locals != X.env.globals))=false:=by rw[I.ok.kind];rfl
 have Py:i<σ.length:=by rw[I.len];exact(List.getElem?_eq_some_iff.mp hi).1
 have GC:=I.GC;have tracked:∀{a:Addr} {h':Heap},(∃o,s.heap.get? a=some o/\H a=none)->Heap.SameBut a s.heap h'->jt X.prog X.w H h':=λ{a h'} ha hs b ob e=>by
  obtain⟨_,_,HW⟩:=ha;refine(I.cB b ob e).kl (λc w' hc q=>(hs.2 c ?_).trans q) (λ_ q=>q) λ_ _ q=>q;rintro rfl;rcases hc with rfl|hc
  ·rw[HW]at e;cases e
  ·rw[HW]at hc;cases hc
 rcases hx with hk|hk
 ·refine wpAny_storeName_local hk hn (λh' qY hs=>?_) B_;obtain⟨oL,_,_,Pn,_⟩:=id hn;refine h _ ⟨I.ok,I.os,I.bare,⟨λb o e n hb hx=>?_,λb o e n hb hx=>?_,I.base.free,λb o e hx=>?_,I.base.lP,I.base.k_,I.base.lR⟩,⟨_,qY,λj y v' e1 e2 e3=>?_⟩,λy c e=>?_,I.free,I.fT,λp hp=>?_,tracked ⟨oL,Pn,I.free⟩ hs,by simpa using I.len⟩ ⟨_,hs,.inl rfl⟩
  ·exact(hs.2 b (aan (aap (aaj e) I.ok.above))).trans (I.base.keep b o e n hb hx)
  ·obtain⟨sl,e1⟩:=I.base.slot b o e n hb hx;exact⟨sl,(hs.2 b (aan (aap (aaj e) I.ok.above))).trans e1⟩
  ·obtain⟨o',e1⟩:=I.base.there b o e hx;exact⟨o',(hs.2 b (aan (aap (aaj e) I.ok.above))).trans e1⟩
  ·by_cases hj:j=i
   ·subst hj;rw[hi]at e1;cases e1;rw[List.getElem?_set_self Py]at e2;cases e2;exact⟨u,r,.inl ⟨hk,by simp⟩⟩
   ·rw[List.getElem?_set_ne (Ne.symm hj)]at e2;obtain⟨u',r',q⟩:=hl j y v' e1 e2 e3;refine⟨u',r',?_⟩;rcases q with ⟨k,e⟩|⟨k,c,e,z⟩
    ·refine .inl ⟨k,?_⟩;have:y≠x:=λe=>hj (tJ hN e1 (e▸hi));simp[this,e]
    ·exact .inr ⟨k,c,e,z.sameBut hs (GC y c e)⟩
  ·obtain⟨w',z⟩:=I.cell y c e;exact⟨w',z.sameBut hs (GC y c e)⟩
  ·obtain⟨e,n,ne,nf,d⟩:=I.pin p hp;exact⟨(hs.2 p.1 ne).trans e,n,ne,nf,d⟩
 ·have xB:X.fn x=true:=by
   rcases hf with z|z
   ·exact z
   ·rw[z]at hk;cases hk
  obtain⟨c,hc⟩:=I.ok.has x (.inl hk);obtain⟨w',z⟩:=I.cell x c hc;refine wpAny_storeName_cell I.ok.kind hk hc z (λh' zJ hs=>?_);obtain⟨oc,X6,Vo⟩:=id z;refine h { s with heap:=h' } ⟨I.ok,I.os,I.bare,⟨λb o e n hb hx=>?_,λb o e n hb hx=>?_,I.base.free,λb o e hx=>?_,I.base.lP,I.base.k_,I.base.lR⟩,⟨m,hn.sameBut hs (abi (GC x c hc)),λj y v' e1 e2 e3=>?_⟩,λy c' e=>?_,I.free,I.fT,λp hp=>?_,tracked ⟨oc,X6,I.fT x c hc⟩ hs,by simpa using I.len⟩ ⟨c,hs,.inr hc⟩
  ·exact(hs.2 b (aan (aap (aaj e) (I.ok.Im x c xB hc)))).trans (I.base.keep b o e n hb hx)
  ·obtain⟨sl,e1⟩:=I.base.slot b o e n hb hx;exact⟨sl,(hs.2 b (aan (aap (aaj e) (I.ok.Im x c xB hc)))).trans e1⟩
  ·obtain⟨o',e1⟩:=I.base.there b o e hx;exact⟨o',(hs.2 b (aan (aap (aaj e) (I.ok.Im x c xB hc)))).trans e1⟩
  ·by_cases hj:j=i
   ·subst hj;rw[hi]at e1;cases e1;rw[List.getElem?_set_self Py]at e2;cases e2;exact⟨u,r,.inr ⟨.inl hk,c,hc,zJ⟩⟩
   ·rw[List.getElem?_set_ne (Ne.symm hj)]at e2;obtain⟨u',r',q⟩:=hl j y v' e1 e2 e3;refine⟨u',r',?_⟩;rcases q with q|⟨k,c',e,z'⟩
    ·exact .inl q
    ·refine .inr ⟨k,c',e,z'.sameBut hs ?_⟩;rintro rfl;exact hj (tJ hN e1 (I.ok.inj _ _ _ e hc▸hi))
  ·by_cases Yp:c'=c
   ·subst Yp;exact⟨_,zJ⟩
   ·obtain⟨w2,z2⟩:=I.cell y c' e;exact⟨w2,z2.sameBut hs Yp⟩
  ·obtain⟨e,n,ne,nf,d⟩:=I.pin p hp;refine⟨(hs.2 p.1 ?_).trans e,n,ne,nf,d⟩;intro q;rw[q,X6]at e;have q':oc=p.2:=aat e;exact d w' (by rw[<- q'];exact Vo)
theorem gJ{M:Model}{i:Nat}{x:Str}{v:V}{u:Value}(I:Inv X pins σ H s)(hN:X.N.Nodup)(hi:X.N[i]?=some x)(hx:Loc X.env.scope x)(r:RelV v u)
  (h:∀s',Inv X pins (σ.set i (some v)) H s'->Q () s') (hf:X.fn x=true\/X.env.scope.names.lookup x=some .local:=by first|exact .inl rfl|exact .inr rfl|assumption):wpAny M A (storeName X.env x u) Q E s :=
 yr I hN hi hx r (λs' I' _=>h s' I') hf
theorem Inv.xW{s':Shared}(I:Inv X pins σ H s)(ho:s'.os=s.os)(u:Un (la X.stack) ch H H' s.heap s'.heap)(cB:jt X.prog X.w H' s'.heap)(hg:AllBare s'.gens)
  (DS:∀b∈ch,(b∈X.ex\/X.s₀.heap.objs.size<=b)/\b≠X.env.locals/\(∀x c,X.env.cells.lookup x=some c->c≠b)/\∀p∈X.pn++pins,p.1≠b):Inv X pins σ H' s':=by
 obtain⟨h',g',d',t',o'⟩:=s';have e:o'=s.os:=ho;subst e;exact I.call (g':=g') (t':=t') (d':=d') u cB hg DS
end
noncomputable abbrev XK:=Value->Option Addr->Hp->Prop
noncomputable abbrev St:=List (Option V)
noncomputable abbrev VK:=V->Hp->Prop
noncomputable abbrev TE:=St->Hp->VK->Prop
noncomputable abbrev TT:=St->Hp->(Bool->Hp->Prop)->Prop
noncomputable abbrev TA:=St->Hp->(af->Hp->Prop)->Prop
structure Ends where
 nx:St->Hp->Prop
 rt:VK
 bk:St->Hp->Prop:=λ_ _=>False
 ct:St->Hp->Prop:=λ_ _=>False
noncomputable abbrev TS:=Ends->St->Hp->Prop
def EP(X:Cx)(pins:aj)(σ:St)(Q:VK)(u:Value)(s':Shared):Prop:=∃v H',Inv X pins σ H' s'/\RelV v u/\Q v H'
def TP(X:Cx)(pins:aj)(σ:St)(Q:Bool->Hp->Prop)(b:Bool)(s':Shared):Prop:=∃H',Inv X pins σ H' s'/\Q b H'
def AP(X:Cx)(pins:aj)(σ:St)(Q:af->Hp->Prop)(us:ak)(s':Shared):Prop:=∃vs H',Inv X pins σ H' s'/\Vals vs us/\Q vs H'
def SP(X:Cx)(pins:aj)(D:Ends)(f:Flow)(s':Shared):Prop :=
 match f with
 |.next=>∃σ' H',Inv X pins σ' H' s'/\D.nx σ' H'
 |.brk=>∃σ' H',Inv X pins σ' H' s'/\D.bk σ' H'
 |.cont=>∃σ' H',Inv X pins σ' H' s'/\D.ct σ' H'
 |.ret u=>∃v σ' H',Inv X pins σ' H' s'/\RelV v u/\D.rt v H'
noncomputable def PE(X:Cx)(e:Expr)(t:TE):Prop :=
 ∀(pins:aj) (s:Shared) (σ:St) (H:Hp) (Q:VK),Inv X pins σ H s->t σ H Q->wpAny (model X.prog X.w) X.A (eval e X.env) (EP X pins σ Q) X.xe s
noncomputable def PT(X:Cx)(e:Expr)(t:TT):Prop :=
 ∀(pins:aj) (s:Shared) (σ:St) (H:Hp) (Q:Bool->Hp->Prop),Inv X pins σ H s->t σ H Q->wpAny (model X.prog X.w) X.A (isTrue e X.env (eval e X.env)) (TP X pins σ Q) X.xe s
noncomputable def PW(X:Cx)(e:Expr)(t:TT):Prop :=
 ∀(whole:Sem Value) (pins:aj) (s:Shared) (σ:St) (H:Hp) (Q:Bool->Hp->Prop),Inv X pins σ H s->t σ H Q->wpAny (model X.prog X.w) X.A (isTrue e X.env whole) (TP X pins σ Q) X.xe s
theorem PW.pt{X:Cx}{e:Expr}{t:TT}(h:PW X e t):PT X e t:=h _
noncomputable def PA(X:Cx)(es:au)(t:TA):Prop :=
 ∀(pos:Pos) (pins:aj) (s:Shared) (σ:St) (H:Hp) (Q:af->Hp->Prop),Inv X pins σ H s->t σ H Q->wpAny (model X.prog X.w) X.A (spliced (backTo pos (starEach es X.env))) (AP X pins σ Q) X.xe s
noncomputable def PS(X:Cx)(st:Stmt)(t:TS):Prop :=
 ∀(pins:aj) (s:Shared) (σ:St) (H:Hp) (D:Ends),Inv X pins σ H s->t D σ H->wpAny (model X.prog X.w) X.A (exec st X.env) (SP X pins D) X.xe s
noncomputable def ir(X:Cx)(st:aS)(t:TS):Prop :=
 ∀(pins:aj) (s:Shared) (σ:St) (H:Hp) (D:Ends),Inv X pins σ H s->t D σ H->wpAny (model X.prog X.w) X.A (execs st X.env) (SP X pins D) X.xe s
theorem cQ{α:Type}{t:Sem α}{Q Q':α->Shared->Prop}{M:Model}{s:Shared}(h:wpAny M A t Q E s)(hQ:∀a s,Q a s->Q' a s):wpAny M A t Q' E s:=aav h hQ λ_ _ x=>x
end L2
namespace L2
open PySem PySem.Spec PyProof.Rows
variable {E Q:Value->Shared->Prop}{H:Hp}{pos:Pos}{σ:L2.St}
section
variable {X:Cx}
theorem bin{a b:Expr}{ta tb:TE}(ha:PE X a ta)(hb:PE X b tb){pins:aj}{s:Shared}{R:V->V->Hp->Prop}(I:Inv X pins σ H s)(h:ta σ H λx H1=>tb σ H1 λy H2=>R x y H2)
  {α:Type} {Q:α->Shared->Prop} {f:Value->Value->Sem α}
  (hf:∀v u s2 x y H2,Inv X pins σ H2 s2->RelV x v->RelV y u->R x y H2->wpAny (model X.prog X.w) X.A (f v u) Q X.xe s2) :
  wpAny (model X.prog X.w) X.A (eval a X.env) (λv s₁=>wpAny (model X.prog X.w) X.A (eval b X.env) (λu s₂=>wpAny (model X.prog X.w) X.A (f v u) Q X.xe s₂) X.xe s₁) X.xe s:=by
 refine cQ (ha pins s σ H _ I h) λv s1 bK=>?_;obtain⟨x,H1,I1,r1,q1⟩:=bK;refine cQ (hb pins s1 σ H1 _ I1 q1) λu s2 bK=>?_;obtain⟨y,H2,I2,r2,q2⟩:=bK;exact hf v u s2 x y H2 I2 r1 r2 q2
noncomputable def mW(i:Nat):TE:=λσ H Q=>∃v,σ[i]?=some (some v)/\Q v H
noncomputable def tC(v:V):TE:=λ_ H Q=>Q v H
theorem hX{i:Nat}{x:Str}(hN:X.N[i]?=some x)(hv:Iw X.env.scope x)(hd:(x==("__debug__" : Str))=false:=by decide)(tZ:(x==("__classdict__" : Str))=false:=by decide):PE X (.Name x pos) (mW i):=by
 intro pins s σ H Q I h;obtain⟨v,e,h⟩:=h;obtain⟨m,hn,hl⟩:=I.loc;obtain⟨u,r,l⟩:=hl i x v hN e hv;have fin:EP X pins σ Q u s:=⟨v,H,I,r,h⟩
 rcases l with ⟨hk,hm⟩|⟨hk,c,hc,hcell⟩
 ·exact wpAny_Name (wpAny_loadName_local I.ok.kind hk hn hm fin) hd
 ·rcases hk with hk|hk
  ·exact wpAny_Name (wpAny_loadName_cell I.ok.kind hk hc hcell fin) hd
  ·exact wpAny_Name (wpAny_loadName_free I.ok.kind hk hc hcell fin tZ) hd
theorem JT{i j pos}:PE X (.Constant (.int i) j pos) (tC (.int i)):=λ_ _ _ H _ I h=>wpAny_Constant_int ⟨.int i,H,I.tok _,⟨_,rfl⟩,h⟩
theorem HE{b j pos}:PE X (.Constant (.bool b) j pos) (tC (.bl b)):=λ_ _ _ H _ I h=>Constant_bool ⟨.bl b,H,I,rfl,h⟩
theorem AY{j pos}:PE X (.Constant .none j pos) (tC .bB):=λ_ _ _ H _ I h=>Constant_none ⟨.bB,H,I,rfl,h⟩
theorem nh{x j pos}:PE X (.Constant (.str x) j pos) (tC (.str x)):=λ_ _ _ H _ I h=>Calls.Constant_str ⟨.str x,H,I.tok _,⟨_,rfl⟩,h⟩
def Gl(X:Cx)(x:Str):Prop:=X.env.kindOf x=some .globalImplicit
theorem qV{pins:aj}{s:Shared}{x:Str}{u:Value}(I:Inv X pins σ H s)(hg:Gl X x)(hm:X.mg x=some u)(h:Q u s)
  (hd:(x==("__debug__" : Str))=false:=by decide):wpAny (model X.prog X.w) X.A (eval (.Name x pos) X.env) Q E s :=
 aa6 I.ok.kind hg (aby (by rw[I.ok.glob];exact I.mod.glob.keeps I.bk) hm h) hd
theorem gx{pins:aj}{s:Shared}{x:Str}{u:Value}(I:Inv X pins σ H s)(hg:Gl X x)(hm:X.mg x=none)(hv:bootBuiltins x=some u)(h:Q u s)
  (hn:x ≠ "__name__":=by decide) (hd:(x==("__debug__" : Str))=false:=by decide):wpAny (model X.prog X.w) X.A (eval (.Name x pos) X.env) Q E s:=by
 obtain⟨mb,h1,h2⟩:=I.mod.blt;exact aa6 I.ok.kind hg (Calls.loadGlobal_builtin (by rw[I.ok.glob];exact I.mod.glob.keeps I.bk) hm (by rw[I.ok.blt];exact h1.keeps I.bk) ((h2 x hn).trans hv) h) hd
theorem mx{x:Str}{v:V}{u:Value}(hg:Gl X x)(hm:X.mg x=some u)(r:RelV v u)(hd:(x==("__debug__" : Str))=false:=by decide):PE X (.Name x pos) (tC v) :=
 λ_ _ _ H _ I h=>qV I hg hm ⟨v,H,I,r,h⟩ hd
theorem xb{x:Str}{v:V}{u:Value}(hg:Gl X x)(hm:X.mg x=none)(hv:bootBuiltins x=some u)(r:RelV v u)(hn:x ≠ "__name__":=by decide)(hd:(x==("__debug__" : Str))=false:=by decide):PE X (.Name x pos) (tC v) :=
 λ_ _ _ H _ I h=>gx I hg hm hv ⟨v,H,I,r,h⟩ hn hd
variable {a b:Expr}{ta tb:TE}{pos:Pos}
noncomputable def PC(X:Cx)(op:CmpOp)(a b:Expr)(t:TE):Prop :=
 ∀(pins:aj) (s:Shared) (σ:St) (H:Hp) (Q:VK),Inv X pins σ H s->t σ H Q ->
  wpAny (model X.prog X.w) X.A (eval a X.env) (λv s₁=>wpAny (model X.prog X.w) X.A (eval b X.env) (λu s₂=>wpAny (model X.prog X.w) X.A (compareOp op v u) (EP X pins σ Q) X.xe s₂) X.xe s₁) X.xe s
theorem Bo(b:Expr){op:CmpOp}(h:op≠.In)(h2:op≠.NotIn):behindInMarks op b=false:=by
 have e1:(op==CmpOp.In)=false:=by cases op<;>first|rfl|exact absurd rfl h
 have e2:(op==CmpOp.NotIn)=false:=by cases op<;>first|rfl|exact absurd rfl h2
 cases b<;>simp[behindInMarks,e1,e2]
noncomputable def Nj(ta:TE):TE:=λσ H Q=>ta σ H λx H1=>Q (.bl (!decide (x=.bB))) H1
theorem RelV.Bl{x:V}{v:Value}(r:RelV x v):(v==Value.none)=decide (x=.bB):=by
 cases x with
 |bB=>cases r;rfl
 |bl _=>cases r;rfl
 |int _=>obtain⟨t,rfl⟩:=r;rfl
 |str _=>obtain⟨t,rfl⟩:=r;rfl
 |SD _=>obtain⟨t,rfl⟩:=r;rfl
 |MQ _=>obtain⟨t,rfl⟩:=r;rfl
 |ref _=>cases r;rfl
 |ty _=>cases r;rfl
theorem EY{j pos'}(ha:PE X a ta):PC X .IsNot a (.Constant .none j pos') (Nj ta):=by
 intro pins s σ H Q I h;refine cQ (ha pins s σ H _ I h) λv s1 bK=>?_;obtain⟨x,H1,I1,r1,q1⟩:=bK;exact Constant_none (isnot_none_gen ⟨.bl _,H1,I1,by rw[r1.Bl];rfl,q1⟩)
noncomputable def tB(t:TE):TT:=λσ H Q=>t σ H λx H1=>∃c,x=.bl c/\Q c H1
theorem JL{op:CmpOp}{t:TE}(h:PC X op a b t)(h1:behindInMarks op b=false:=by first|exact Bo _ (by decide) (by decide)|rfl):PT X (.Compare a [op] [b] pos) (tB t):=by
 intro pins s σ H Q I hw;refine wpAny_isTrue_Compare1 (cQ (h pins s σ H _ I hw) λv s1 h1=>cQ h1 λu s2 h2=>cQ h2 λc s3 bK=>?_) h1;obtain⟨x,H1,I1,r1,q1⟩:=bK;obtain⟨d,rfl,q⟩:=q1;cases r1;exact aaO ⟨H1,I1,q⟩
theorem qE{e:Expr}{t:TE}(h:PE X e t)(he:∀whole,isTrue e X.env whole=(do let v <- whole;standAt e.pos;holding [v] (truthy v)):=by intro _;rfl):PT X e (tB t):=by
 intro pins s σ H Q I hw;refine isTrue_plain (cQ (h pins s σ H _ I hw) λv s1 bK=>?_) (he _);obtain⟨x,H1,I1,r1,q1⟩:=bK;obtain⟨d,rfl,q⟩:=q1;cases r1;exact aaO ⟨H1,I1,q⟩
variable {tA Rq:TT}{rest:au}
noncomputable def Nt(t u:TT):TT:=λσ H Q=>t σ H λc H1=>if c=true then u σ H1 Q else Q false H1
noncomputable def Xf(t u:TT):TT:=λσ H Q=>t σ H λc H1=>if c=true then Q true H1 else u σ H1 Q
noncomputable def Tf(t:TT):TT:=λσ H Q=>t σ H λc H1=>Q (!c) H1
theorem wU(ha:PT X a tA):PW X (.BoolOp .And [a] pos) tA:=by
 intro wh pins s σ H Q I h;refine isTrue_and (cQ (ha pins s σ H Q I h) λc s1 e=>?_);cases c with
 |true=>exact isTrue_and_nil e
 |false=>exact e
theorem AK(ha:PT X a tA):PW X (.BoolOp .Or [a] pos) tA:=by
 intro wh pins s σ H Q I h;refine isTrue_or (cQ (ha pins s σ H Q I h) λc s1 e=>?_);cases c with
 |false=>exact isTrue_or_nil e
 |true=>exact e
theorem AL(ha:PT X a tA)(hb:PW X (.BoolOp .And (b::rest) pos) Rq):PW X (.BoolOp .And (a::b::rest) pos) (Nt tA Rq):=by
 intro wh pins s σ H Q I h;refine isTrue_and (cQ (ha pins s σ H _ I h) λc s1 ⟨H1,I1,q1⟩=>?_);cases c with
 |true=>exact hb wh pins s1 σ H1 Q I1 q1
 |false=>exact⟨H1,I1,q1⟩
theorem Hl(ha:PT X a tA)(hb:PW X (.BoolOp .Or (b::rest) pos) Rq):PW X (.BoolOp .Or (a::b::rest) pos) (Xf tA Rq):=by
 intro wh pins s σ H Q I h;refine isTrue_or (cQ (ha pins s σ H _ I h) λc s1 ⟨H1,I1,q1⟩=>?_);cases c with
 |true=>exact⟨H1,I1,q1⟩
 |false=>exact hb wh pins s1 σ H1 Q I1 q1
theorem qF(ha:PT X a tA):PT X (.UnaryOp .Not a pos) (Tf tA):=by
 intro pins s σ H Q I h;exact isTrue_not (ha pins s σ H (λc H1=>Q (!c) H1) I h)
noncomputable def Hf(ta tb:TE):TE:=λσ H Q=>ta σ H λx H1=>∃c,x=.bl c/\if c=true then tb σ H1 Q else Q (.bl false) H1
noncomputable def Nh(ta tb:TE):TE:=λσ H Q=>ta σ H λx H1=>∃c,x=.bl c/\if c=true then Q (.bl true) H1 else tb σ H1 Q
noncomputable def Ni(ta:TE):TE:=λσ H Q=>ta σ H λx H1=>∃c,x=.bl c/\Q (.bl (!c)) H1
theorem AX{op}{t:TE}(h:PE X a t):PE X (.BoolOp op [a] pos) t:=λpins s σ H Q I hw=>BoolOp_one (h pins s σ H Q I hw)
theorem JU(ha:PE X a ta)(hb:PE X (.BoolOp .And (b::rest) pos) tb):PE X (.BoolOp .And (a::b::rest) pos) (Hf ta tb):=by
 intro pins s σ H Q I h;refine BoolOp_and (cQ (ha pins s σ H _ I h) λv s1 bK=>?_);obtain⟨x,H1,I1,r1,q1⟩:=bK;obtain⟨c,rfl,q1⟩:=q1;cases r1;refine aaO ?_;cases c with
 |true=>exact hb pins s1 σ H1 Q I1 q1
 |false=>exact⟨.bl false,H1,I1,rfl,q1⟩
theorem N_(ha:PE X a ta)(hb:PE X (.BoolOp .Or (b::rest) pos) tb):PE X (.BoolOp .Or (a::b::rest) pos) (Nh ta tb):=by
 intro pins s σ H Q I h;refine BoolOp_or (cQ (ha pins s σ H _ I h) λv s1 bK=>?_);obtain⟨x,H1,I1,r1,q1⟩:=bK;obtain⟨c,rfl,q1⟩:=q1;cases r1;refine aaO ?_;cases c with
 |false=>exact hb pins s1 σ H1 Q I1 q1
 |true=>exact⟨.bl true,H1,I1,rfl,q1⟩
theorem JS(ha:PE X a ta):PE X (.UnaryOp .Not a pos) (Ni ta):=by
 intro pins s σ H Q I h;refine UnaryOp_ (cQ (ha pins s σ H _ I h) λv s1 bK=>?_);obtain⟨x,H1,I1,r1,q1⟩:=bK;obtain⟨c,rfl,q1⟩:=q1;cases r1;exact not_of (aaO ⟨.bl (!c),H1,I1,rfl,q1⟩)
noncomputable def Zq(t:TT)(ta tb:TE):TE:=λσ H Q=>t σ H λc H1=>if c=true then ta σ H1 Q else tb σ H1 Q
theorem Oa{c:Expr}(hc:PT X c tA)(ha:PE X a ta)(hb:PE X b tb):PE X (.IfExp c a b pos) (Zq tA ta tb):=by
 intro pins s σ H Q I h;refine wpAny_IfExp (cQ (hc pins s σ H _ I h) λd s1 ⟨H1,I1,q1⟩=>?_);cases d with
 |true=>exact ha pins s1 σ H1 Q I1 q1
 |false=>exact hb pins s1 σ H1 Q I1 q1
end
end L2
namespace L2
open PySem PySem.Spec PyProof.Rows
def dO(K:aq)(H:Hp)(a:Addr)(xs:af):Prop :=
 Rd H a (.lst xs) \/
  ∃(o:Obj) (aM:aV) (n:Nat),K.lookup a=some o/\o.cls=.type "list" /\ o.dict=none/\o.data=.seq aM n/\aM.size<=sizeLine/\Vals xs aM.toList
def bh(K:aq)(H:Hp)(a:Addr)(xs:af):Prop :=
 Rd H a (.tup xs) \/
  ∃(o:Obj) (aM:aV) (n:Nat),K.lookup a=some o/\o.cls=.type "tuple" /\ o.data=.seq aM n/\aM.size<=sizeLine/\Vals xs aM.toList
noncomputable def WS:Value->Option V
 |.none=>some .bB
 |.bool b=>some (.bl b)
 |.int i _=>some (.int i)
 |.str x _=>some (.str x)
 |.bytes b _=>some (.SD b)
 |.float b _=>some (.MQ b)
 |.ref a=>some (.ref a)
 |.type n=>some (.ty n)
 |_=>none
theorem RelV.abs{x:V}{u:Value}(r:RelV x u):WS u=some x:=by
 cases x with
 |bB=>cases r;rfl
 |bl _=>cases r;rfl
 |int _=>obtain⟨t,rfl⟩:=r;rfl
 |str _=>obtain⟨t,rfl⟩:=r;rfl
 |SD _=>obtain⟨t,rfl⟩:=r;rfl
 |MQ _=>obtain⟨t,rfl⟩:=r;rfl
 |ref _=>cases r;rfl
 |ty _=>cases r;rfl
theorem RelV.inj{x y:V}{u:Value}(r:RelV x u)(q:RelV y u):x=y:=aat (r.abs.symm.trans q.abs)
theorem Vals.inj:∀{xs ys:af} {us:ak},Vals xs us->Vals ys us->xs=ys
 |_,_,_,.nil,.nil=>rfl
 |_,_,_,.cons r t,.cons r' t'=>by rw[r.inj r',Vals.inj t t']
variable {K:aq}
section
variable {X:Cx}{pins:aj}{σ:St}{H:Hp}{s:Shared}{a:Addr}{xs ys:af}
theorem dO.of(h:H a=some (.lst xs)):dO K H a xs:=.inl (.inl h)
theorem bh.of(h:H a=some (.tup xs)):bh K H a xs:=.inl (.inl h)
theorem Inv.list(I:Inv X pins σ H s)(h:dO X.K H a xs):∃aM:ak,Vals xs aM/\PlainL s.heap a aM.toArray/\xs.length<=sizeLine:=by
 rcases h with h|⟨o,aM,n,hk,hc,hd,hs,hz,r⟩
 ·obtain⟨z,aM,n,r,e⟩:=h.ok I.cB;exact⟨aM,r,⟨_,n,e,rfl,rfl,rfl⟩,z⟩
 ·refine⟨aM.toList,r,⟨o,n,I.vG a o hk,hc,hd,by simpa using hs⟩,?_⟩;have e:=r.length;simp only[Array.length_toList]at e;left
theorem Inv.tuple(I:Inv X pins σ H s)(h:bh X.K H a xs):∃aM:ak,Vals xs aM/\IsTup s.heap a aM.toArray/\xs.length<=sizeLine:=by
 rcases h with h|⟨o,aM,n,hk,hc,hs,hz,r⟩
 ·obtain⟨z,aM,r,p⟩:=h.ok I.cB;exact⟨aM,r,p,z⟩
 ·refine⟨aM.toList,r,⟨o,I.vG a o hk,hc,n,by simpa using hs⟩,?_⟩;have e:=r.length;simp only[Array.length_toList]at e;left
theorem Inv.kA(I:Inv X pins σ H s)(h:dO X.K H a xs)(h':dO X.K H a ys):xs=ys:=by
 obtain⟨aM,r,⟨o,n,e,_,_,d⟩,_⟩:=I.list h;obtain⟨its',r',⟨o',n',e',_,_,d'⟩,_⟩:=I.list h';rw[e]at e';cases e';rw[d]at d';injection d' with d1 _;have:aM=its':=by simpa using congrArg Array.toList d1
 subst this;exact r.inj r'
theorem Inv.o_(I:Inv X pins σ H s)(h:bh X.K H a xs)(h':bh X.K H a ys):xs=ys:=by
 obtain⟨aM,r,⟨o,e,_,n,d⟩,_⟩:=I.tuple h;obtain⟨its',r',⟨o',e',_,n',d'⟩,_⟩:=I.tuple h';rw[e]at e';cases e';rw[d]at d';injection d' with d1 _;have:aM=its':=by simpa using congrArg Array.toList d1
 subst this;exact r.inj r'
end
noncomputable abbrev Cx.mR(X:Cx)(E:aD):Cx:={ X with xe:=E }
abbrev Cx.Bi(X:Cx):Cx:=X.mR λ_ _=>False
theorem Cx.Ok.mR{X:Cx}(ok:X.Ok)(E:aD):(X.mR E).Ok :=
 ⟨ok.mod,ok.kind,ok.glob,ok.blt,ok.above,ok.inj,ok.has,ok.Im,ok.hd,ok.frames,ok.Ji,ok.Qv,ok.bs,ok.Dl,ok.tI,ok.vT,ok.jP,ok.zK⟩
variable {E:Value->Shared->Prop}{X:Cx}
theorem Cx.Ok.gZ(ok:(X.mR E).Ok):X.Ok :=
 ⟨ok.mod,ok.kind,ok.glob,ok.blt,ok.above,ok.inj,ok.has,ok.Im,ok.hd,ok.frames,ok.Ji,ok.Qv,ok.bs,ok.Dl,ok.tI,ok.vT,ok.jP,ok.zK⟩
section
variable {X:Cx}{pins:aj}{σ:St}{H:Hp}{s:Shared}{E:aD}
theorem Inv.mR(I:Inv X pins σ H s)(E:aD):Inv (X.mR E) pins σ H s:=⟨I.ok.mR E,I.os,I.bare,I.base,I.loc,I.cell,I.free,I.fT,I.pin,I.cB,I.len⟩
theorem Inv.gZ(I:Inv (X.mR E) pins σ H s):Inv X pins σ H s:=⟨I.ok.gZ,I.os,I.bare,I.base,I.loc,I.cell,I.free,I.fT,I.pin,I.cB,I.len⟩
theorem SP.gZ{D:Ends}{f:Flow}{s':Shared}(h:SP (X.mR E) pins D f s'):SP X pins D f s':=by
 cases f with
 |next=>obtain⟨σ',H',I,q⟩:=h;exact⟨σ',H',I.gZ,q⟩
 |brk=>obtain⟨σ',H',I,q⟩:=h;exact⟨σ',H',I.gZ,q⟩
 |cont=>obtain⟨σ',H',I,q⟩:=h;exact⟨σ',H',I.gZ,q⟩
 |ret u=>obtain⟨v,σ',H',I,r,q⟩:=h;exact⟨v,σ',H',I.gZ,r,q⟩
theorem ir.Bi{st:aS}{t:TS}(h:ir X.Bi st t):ir X st t:=λpins s σ H D I hw =>
 aav (h pins s σ H D (I.mR _) hw) (λ_ _ q=>q.gZ) λ_ _ z=>False.elim z
end
variable {H:Hp}{σ:L2.St}
section
variable {X:Cx}{st:Stmt}{rest:aS}{t u:TS}{e:Expr}{te:TE}{pos:Pos}
noncomputable def Hd:TS:=λD σ H=>D.nx σ H
noncomputable def Tc(t u:TS):TS:=λD σ H=>t { D with nx:=u D } σ H
theorem qG:ir X [] Hd:=λ_ _ σ H _ I h=>abo ⟨σ,H,I,h⟩
theorem cx(h1:PS X st t)(h2:ir X rest u):ir X (st::rest) (Tc t u):=by
 intro pins s σ H D I h;refine wpAny_execs_cons (cQ (h1 pins s σ H { D with nx:=u D } I h) λf s1 q=>?_);cases f with
 |next =>
  obtain⟨σ',H',I',q⟩:=q;exact h2 pins s1 σ' H' D I' q
 |ret v=>exact q
 |brk=>exact q
 |cont=>exact q
theorem hU(h1:PS X st t):ir X [st] t:=by
 intro pins s σ H D I h;refine wpAny_execs_cons (cQ (h1 pins s σ H D I h) λf s1 q=>?_);cases f with
 |next=>exact abo q
 |ret v=>exact q
 |brk=>exact q
 |cont=>exact q
noncomputable def Jc:TS:=λD σ H=>D.bk σ H
noncomputable def Nn:TS:=λD σ H=>D.ct σ H
theorem RJ:PS X (.Pass pos) Hd:=λ_ _ σ H _ I h=>wpAny_Pass ⟨σ,H,I,h⟩
theorem N8:PS X (.Break pos) Jc:=λ_ _ σ H _ I h=>wpAny_Break ⟨σ,H,I,h⟩
theorem Hr:PS X (.Continue pos) Nn:=λ_ _ σ H _ I h=>wpAny_Continue ⟨σ,H,I,h⟩
theorem Inv.quiet{pins:aj}{s:Shared}(I:Inv X pins σ H s):interactive X.env=false:=by simp[interactive,I.ok.kind]
noncomputable def Nm(te:TE):TS:=λD σ H=>te σ H λ_ H1=>D.nx σ H1
theorem kn(he:PE X e te)(hs:swapsWith e none pos.line X.env=pure false:=by rfl):PS X (.Expr e pos) (Nm te):=by
 intro pins s σ H D I h;exact wpAny_Expr_any (cQ (he pins s σ H _ I h) λv s1 ⟨x,H1,I1,r1,q1⟩=>⟨σ,H1,I1,q1⟩) I.quiet hs
noncomputable def Td(te:TE):TS:=λD σ H=>te σ H D.rt
theorem kY(he:PE X e te):PS X (.Return (some e) pos) (Td te):=by
 intro pins s σ H D I h;exact wpAny_Return_some (cQ (he pins s σ H _ I h) λv s1 ⟨x,H1,I1,r1,q1⟩=>⟨x,σ,H1,I1,r1,q1⟩)
noncomputable def Nf:TS:=λD _ H=>D.rt .bB H
theorem RI:PS X (.Return none pos) Nf:=λ_ _ σ H _ I h=>wpAny_Return_none ⟨.bB,σ,H,I,rfl,h⟩
noncomputable def Tj(c:TT)(t u:TS):TS:=λD σ H=>c σ H λb H1=>if b=true then t D σ H1 else u D σ H1
theorem wW{c:Expr}{a b:aS}{tc:TT}(hc:PT X c tc)(ha:ir X a t)(hb:ir X b u):PS X (.If c a b pos) (Tj tc t u):=by
 intro pins s σ H D I h;refine wpAny_If (cQ (hc pins s σ H _ I h) λd s1 ⟨H1,I1,q1⟩=>?_);cases d with
 |true=>exact ha pins s1 σ H1 D I1 q1
 |false=>exact hb pins s1 σ H1 D I1 q1
noncomputable def Jb:TS:=λ_ _ _=>False
end
noncomputable abbrev TG:=V->St->Hp->(St->Hp->Prop)->Prop
noncomputable abbrev G1:=af->St->Hp->(St->Hp->Prop)->Prop
def PG(X:Cx)(target:Expr)(t:TG):Prop :=
 ∀(pins:aj) (s:Shared) (σ:St) (H:Hp) (v:V) (u:Value) (Q:St->Hp->Prop),Inv X pins σ H s->RelV v u->t v σ H Q ->
  wpAny (model X.prog X.w) X.A (assign target X.env u) (λ_ s'=>∃σ' H',Inv X pins σ' H' s'/\Q σ' H') X.xe s
def MW(X:Cx)(ts:au)(t:G1):Prop :=
 ∀(pins:aj) (s:Shared) (σ:St) (H:Hp) (vs:af) (us:ak) (Q:St->Hp->Prop),Inv X pins σ H s->Vals vs us->t vs σ H Q ->
  wpAny (model X.prog X.w) X.A (assignInOrder ((assignEach ts X.env).map (·.2)) us) (λ_ s'=>∃σ' H',Inv X pins σ' H' s'/\Q σ' H') X.xe s
noncomputable abbrev Me:=V->V->V->Hp->(Hp->Prop)->Prop
def Rb(X:Cx)(t:Me):Prop :=
 ∀(pins:aj) (s:Shared) (σ:St) (H:Hp) (o i v:V) (ov iv u:Value) (Q:Hp->Prop),Inv X pins σ H s->RelV o ov->RelV i iv->RelV v u->t o i v H Q ->
  wpAny (model X.prog X.w) X.A (setItem ov iv u) (λ_ s'=>∃H',Inv X pins σ H' s'/\Q H') X.xe s
noncomputable abbrev SM:=V->V->Hp->VK->Prop
def WX(X:Cx)(op:Operator)(t:SM):Prop :=
 ∀(pins:aj) (s:Shared) (σ:St) (H:Hp) (x y:V) (v u:Value) (Q:VK),Inv X pins σ H s->RelV x v->RelV y u->t x y H Q ->
  wpAny (model X.prog X.w) X.A (inplaceOp op v u) (EP X pins σ Q) X.xe s
variable {es:au}{pos':Pos}{te:TE}{tg:Expr}
section
variable {X:Cx}{pos:Pos}
noncomputable def nQ(i:Nat):TG:=λv σ H Q=>Q (σ.set i (some v)) H
theorem qJ{i:Nat}{x:Str}(hN:X.N.Nodup)(hi:X.N[i]?=some x)(hx:Loc X.env.scope x)(hf:X.fn x=true\/X.env.scope.names.lookup x=some .local:=by first|exact .inl rfl|exact .inr rfl|assumption):PG X (.Name x pos) (nQ i):=by
 intro pins s σ H v u Q I r h;exact wpAny_assign_Name (gJ I hN hi hx r (λs' I'=>⟨_,H,I',h⟩) hf)
noncomputable def La:G1:=λvs σ H Q=>vs=[]/\Q σ H
noncomputable def Cw(t:TG)(u:G1):G1:=λvs σ H Q=>∃v r,vs=v::r/\t v σ H λσ' H'=>u r σ' H' Q
theorem wZ:MW X [] La:=by
 intro pins s σ H vs us Q I r h;obtain⟨e,h⟩:=h;subst e;cases r;exact assignInOrder_nil ⟨σ,H,I,h⟩
theorem tu{e:Expr}{t:TG}{u:G1}(h1:PG X e t)(h2:MW X es u)
  (hs:(assignEach (e::es) X.env).map (·.2)=assign e X.env::(assignEach es X.env).map (·.2):=by rfl):MW X (e::es) (Cw t u):=by
 intro pins s σ H vs us Q I r h;obtain⟨v,vr,e1,h⟩:=h;subst e1;cases r with
 |cons r rr =>
  rw[hs];refine assignInOrder_cons (cQ (h1 pins s σ H _ _ _ I r h) λ_ s1 bK=>?_);obtain⟨σ1,H1,I1,q1⟩:=bK;exact h2 pins s1 σ1 H1 _ _ Q I1 rr q1
def V3(K:aq)(n:Nat)(t:G1):TG:=λv σ H Q=>∃a xs,v=.ref a/\bh K H a xs/\xs.length=n/\t xs σ H Q
theorem AU{k:Nat}{t:G1}{n:Nat}(hc:X.calm=true)(h:MW X es t)
  (hn:(assignEach es X.env).length=n:=by rfl) (j8:(assignEach es X.env).findIdx? (·.1)=none:=by rfl):PG X (.Tuple es k pos) (V3 X.K n t):=by
 intro pins s σ H v u Q I r hw;obtain⟨a,xs,e1,hq,hl,hw⟩:=hw;subst e1;cases r;obtain⟨aM,rv,ht,hz⟩:=I.tuple hq;refine assign_Tuple_tuple (I.ok.hd hc) ht (by simp[hn,<- hl,rv.length]) j8 λh' hx=>?_;have I1:Inv X pins σ H { s with heap:=h' }:=I.kept (t':=s.toks) λb o e=>hx b o (aan (aaj e)) e;exact h pins _ σ H xs _ Q I1 (by simpa using rv) hw
noncomputable def V4(to ti:TE)(t:Me):TG:=λv σ H Q=>to σ H λo H1=>ti σ H1 λi H2=>t o i v H2 λH3=>Q σ H3
theorem Uj{o i:Expr}{to ti:TE}{t:Me}(ho:PE X o to)(hi:PE X i ti)(hs:Rb X t)
  (ha:∀v,assign (.Subscript o i pos) X.env v=(do
   let ov <- holding [v] (eval o X.env)
   let iv <- holding [v,ov] (eval i X.env)
   standAt pos
   holding [v,ov,iv] (setItem ov iv v)
   release [v,ov,iv] []):=by intro _;rfl):PG X (.Subscript o i pos) (V4 to ti t):=by
 intro pins s σ H v u Q I r h;rw[ha];refine aaa (aaF (cQ (ho pins s σ H _ I h) λov s1 bK=>?_));obtain⟨x,H1,I1,r1,q1⟩:=bK;refine aaa (aaF (cQ (hi pins s1 σ H1 _ I1 q1) λiv s2 bK=>?_));obtain⟨y,H2,I2,r2,q2⟩:=bK;refine aaa (ach (aaa (aaF (cQ (hs pins s2 σ H2 x y v ov iv u _ I2 r1 r2 r q2) λ_ s3 bK=>?_))));obtain⟨H3,I3,q3⟩:=bK;exact wpAny_release ⟨σ,H3,I3,q3⟩
noncomputable def Nq(te:TE)(g:TG):TS:=λD σ H=>te σ H λx H1=>g x σ H1 D.nx
theorem JN{e:Expr}{g:TG}(he:PE X e te)(hg:PG X tg g)(hs:swapsWithSole [tg] e pos.line X.env=pure false:=by rfl)(hw:swappedStores [tg] e X.env=pure none:=by rfl)
  (h1:(assignEach [tg] X.env).map (·.2)=[assign tg X.env]:=by rfl):PS X (.Assign [tg] e pos) (Nq te g):=by
 intro pins s σ H D I h;refine wpAny_Assign_stores (cQ (he pins s σ H _ I h) λv s1 bK=>?_) hs hw;obtain⟨x,H1,I1,r1,q1⟩:=bK;rw[h1];exact cQ (hg pins s1 σ H1 x v _ I1 r1 q1) λ_ s2 q=>q
theorem jN{i:Nat}{x:Str}{e:Expr}(hN:X.N.Nodup)(hi:X.N[i]?=some x)(hx:Loc X.env.scope x)(he:PE X e te)(hs:swapsWith e (some (.Name x pos')) pos.line X.env=pure false:=by rfl)(hf:X.fn x=true\/X.env.scope.names.lookup x=some .local:=by first|exact .inl rfl|exact .inr rfl|assumption):
  PS X (.Assign [.Name x pos'] e pos) (Nq te (nQ i)):=by
 intro pins s σ H D I h;refine wpAny_Assign_Name (cQ (he pins s σ H _ I h) λv s1 bK=>?_) hs;obtain⟨y,H1,I1,r1,q1⟩:=bK;exact gJ I1 hN hi hx r1 (λs2 I2=>⟨_,H1,I2,q1⟩) hf
noncomputable def Te(i j:Nat)(ta:TA):TS:=λD σ H=>ta σ H λvs H1=>∃v w,vs=[v,w]/\D.nx ((σ.set i (some v)).set j (some w)) H1
theorem JM{i j:Nat}{x y:Str}{a b:Expr}{ta:TA}{px py pt:Pos}{kt k2 Mq}(hc:X.calm=true)(hN:X.N.Nodup)(hi:X.N[i]?=some x)(hj:X.N[j]?=some y)(jq:i≠j)
  (hx:X.env.scope.names.lookup x=some .local) (hy:X.env.scope.names.lookup y=some .local) (ha:PA X [a,b] ta)
  (hw:swappedStores [.Tuple [.Name x px,.Name y py] kt pt] (.Tuple [a,b] k2 Mq) X.env=pure (some [x,y]))
  (hs:swapsWithSole [.Tuple [.Name x px,.Name y py] kt pt] (.Tuple [a,b] k2 Mq) pos.line X.env=pure false:=by rfl) :
  PS X (.Assign [.Tuple [.Name x px,.Name y py] kt pt] (.Tuple [a,b] k2 Mq) pos) (Te i j ta):=by
 intro pins s σ H D I h;rw[exec_Assign_arm];refine aaa (ach ?_);rw[hs];refine aaa (aah ?_);rw[if_neg (by decide)];refine aaa (Tuple_ (cQ (ha _ pins s σ H _ I h) λus s1 bK=>?_));obtain⟨vs,H1,I1,r1,q1⟩:=bK;obtain⟨v,w,e1,q1⟩:=q1;subst e1;obtain⟨u1,u2,rfl,rv,mm⟩:∃u1 u2,us=[u1,u2]/\RelV v u1/\RelV w u2:=by
  cases r1 with
  |cons p q =>
   cases q with
   |cons p' q' =>
    cases q';exact⟨_,_,rfl,p,p'⟩
 refine aaL ?_ (by show 2<=sizeLine;decide);have I2:Inv X pins σ H1 { s1 with heap:=s1.heap.push { cls:=.type "tuple",data:=.seq [u1,u2].toArray } }:=I1.kept (t':=s1.toks) λb o e=>aak _ e;rw[hw];refine aaa (aah ?_);show wpAny (model X.prog X.w) X.A (do rule "assign.swapped-stores";let items <- unpackItems (.ref s1.heap.objs.size) 2 none;assignInOrder [λv=>bindName X.env y v,λv=>bindName X.env x v] items.reverse;pure Flow.next) _ _ _;refine aaa (wpAny_rule (aaa (unpackItems_tuple (items:=#[u1,u2]) (I.ok.hd hc) (IsTup.new s1.heap _) λh' zE=>?_)));have I3:=I2.kept (h':=h') (t':=s1.toks) λb o e=>zE b o (aan (aaj e)) e;show wpAny _ _ (assignInOrder [λv=>bindName X.env y v,λv=>bindName X.env x v] [u2,u1] >>= λ_=>pure Flow.next) _ _ _;refine aaa (assignInOrder_cons (wpAny_bindName (gJ I3 hN hj (.inl hy) mm (λs2 I4=>?_) (.inr hy))));refine assignInOrder_cons (wpAny_bindName (gJ I4 hN hi (.inl hx) rv (λs3 I5=>assignInOrder_nil (aah ?_)) (.inr hx)));rw[List.set_comm _ _ (Ne.symm jq)]at I5;exact⟨_,H1,I5,q1⟩
noncomputable def Tq(i:Nat)(te:TE)(ti:SM):TS:=λD σ H=>∃x,σ[i]?=some (some x)/\te σ H λy H1=>ti x y H1 λz H2=>D.nx (σ.set i (some z)) H2
theorem Ui{i:Nat}{x:Str}{e:Expr}{op:Operator}{ti:SM}(hN:X.N.Nodup)(hi:X.N[i]?=some x)(hx:Loc X.env.scope x)(he:PE X e te)(ho:WX X op ti)(hf:X.fn x=true\/X.env.scope.names.lookup x=some .local:=by first|exact .inl rfl|exact .inr rfl|assumption):
  PS X (.AugAssign (.Name x pos') op e pos) (Tq i te ti):=by
 intro pins s σ H D I h;obtain⟨v,e1,h⟩:=h;obtain⟨m,hn,hl⟩:=I.loc;have Rk:Iw X.env.scope x:=by rcases hx with k|k;exact .inl k;exact .inr (.inl k)
 obtain⟨u,r,l⟩:=hl i x v hi e1 Rk;refine wpAny_AugAssign_Name ?_;have go:wpAny (model X.prog X.w) X.A (eval e X.env) (λw s₂=>wpAny (model X.prog X.w) X.A (inplaceOp op u w) (λr s₃=>wpAny (model X.prog X.w) X.A (storeName X.env x r) (λ_=>SP X pins D .next) X.xe s₃) X.xe s₂) X.xe s:=by
  refine cQ (he pins s σ H _ I h) λw s1 bK=>?_;obtain⟨y,H1,I1,r1,q1⟩:=bK;refine cQ (ho pins s1 σ H1 v y u w _ I1 r r1 q1) λz s2 bK=>?_;obtain⟨zv,H2,I2,r2,q2⟩:=bK;exact gJ I2 hN hi hx r2 (λs3 I3=>⟨_,H2,I3,q2⟩) hf
 rcases l with ⟨hk,hm⟩|⟨hk,c,hc,hcell⟩
 ·exact wpAny_loadName_local I.ok.kind hk hn hm go
 ·rcases hk with hk|hk
  ·exact wpAny_loadName_cell I.ok.kind hk hc hcell go
  ·rcases hx with k|k
   ·have:X.env.scope.names.lookup x=some .free:=hk;rw[k]at this;cases this
   ·have:X.env.scope.names.lookup x=some .free:=hk;rw[k]at this;cases this
noncomputable def XT(f:Int->Int->Int):SM:=λx y H Q=>∃i j,x=.int i/\y=.int j/\Q (.int (f i j)) H
theorem UX:WX X .Add (XT λi j=>i+j):=by
 intro pins s σ H x y v u Q I r1 r2 h;obtain⟨i,j,e1,e2,q⟩:=h;subst e1;subst e2;obtain⟨t,rfl⟩:=r1;obtain⟨t',rfl⟩:=r2;exact iadd_int ⟨.int _,H,I.tok _,⟨_,rfl⟩,q⟩
theorem UW:WX X .Sub (XT λi j=>i - j):=by
 intro pins s σ H x y v u Q I r1 r2 h;obtain⟨i,j,e1,e2,q⟩:=h;subst e1;subst e2;obtain⟨t,rfl⟩:=r1;obtain⟨t',rfl⟩:=r2;exact isub_int ⟨.int _,H,I.tok _,⟨_,rfl⟩,q⟩
end
section
variable {X:Cx}{pos:Pos}
noncomputable def I_(c:TT)(tb:TS):TS:=λD σ H=>∃W:Nat->St->Hp->Prop,(∃m,W m σ H)/\∀m σ H,W m σ H ->
 c σ H λb H1=>if b=true then ∃N:St->Hp->Prop,(∀σ' H',N σ' H'->∃m',m'<m/\W m' σ' H')/\tb { D with nx:=N,ct:=N,bk:=D.nx } σ H1 else D.nx σ H1
theorem AM{c:Expr}{body:aS}{tc:TT}{tb:TS}(hp:PassesOwn (model X.prog X.w) X.A X.env X.xe)(hc:PT X c tc)(hb:ir X body tb):PS X (.While c body [] pos) (I_ tc tb):=by
 intro pins s σ H D I h;obtain⟨W,⟨m0,w0⟩,turn⟩:=h;refine wpAny_While (codeAny_whileLoop (λn s'=>∃σ' H',Inv X pins σ' H' s'/\W n σ' H') ?_ m0 ⟨σ,H,I,w0⟩);rintro n s1 ⟨σ1,H1,I1,w1⟩;refine aa5 hp (cQ (hc pins s1 σ1 H1 _ I1 (turn n σ1 H1 w1)) λb s2 ⟨H2,I2,q2⟩=>?_);cases b with
 |true =>
  obtain⟨N,hN,q2⟩:=q2;rw[if_pos rfl];refine aa5 hp (cQ (hb pins s2 σ1 H2 _ I2 q2) λf s3 q3=>?_);cases f with
  |next =>
   obtain⟨σ3,H3,I3,n3⟩:=q3;obtain⟨m',hm,w3⟩:=hN σ3 H3 n3;exact⟨m',hm,σ3,H3,I3,w3⟩
  |cont =>
   obtain⟨σ3,H3,I3,n3⟩:=q3;obtain⟨m',hm,w3⟩:=hN σ3 H3 n3;exact⟨m',hm,σ3,H3,I3,w3⟩
  |brk=>exact q3
  |ret v=>exact q3
 |false =>
  rw[if_neg Bool.false_ne_true];exact abo ⟨σ1,H2,I2,q2⟩
end
structure It where
 go:Nat->Hp->Prop
 uQ:Nat->Hp->V->Hp->Prop
 stop:Nat->Hp->Prop
noncomputable def oD(X:Cx)(pins:aj)(H:Hp)(b:Addr):Prop :=
 H b=none/\b≠X.env.locals/\b∉X.fs/\(b∈X.ex\/X.s₀.heap.objs.size<=b)/\(∀x c,X.env.cells.lookup x=some c->c≠b)/\∀p∈X.pn++pins,p.1≠b
theorem Inv.F6{pins:aj}{H':Hp}{s:Shared}{b:Addr}(I:Inv X pins σ H s)(hb:s.heap.objs.size<=b)(hn:H' b=none):oD X pins H' b:=by
 refine⟨hn,aaw (aap I.lt hb),I.J8 hb,.inr (aaC I.sz hb),λx c e z=>?_,λp hp z=>?_⟩
 ·obtain⟨v,q⟩:=I.cell x c e;exact absurd (aap q.lt (by rw[z];exact hb)) (aay _)
 ·exact absurd (aap (aaj (I.pin p hp).1) (by rw[z];exact hb)) (aay _)
structure Turn(P:aF)(w:World)(K:aq)(tg:Expr)(J:It)(fp:bc)(it:Addr)(tn:Nat->Heap->Prop):Prop where
 mem:it∈fp
 obj:∀i h,tn i h->∀b∈fp,∃o,h.get? b=some o/\∀v,o.data≠.cell v
 keep:∀i h h',tn i h->(∀b∈fp,∀o,h.get? b=some o->h'.get? b=some o)->tn i h'
 item:∀(X:Cx),X.prog=P->X.w=w->X.K=K->X.calm=true->∀(i:Nat) (pins:aj) (s:Shared) (σ:St) (H:Hp) (E:aD),Inv X pins σ H s->(∀b∈fp,oD X pins H b)->tn i s.heap->J.go i H ->
  wpAny (model P w) X.A (pyNext (.ref it)) (λr s1=>∃u,r=some u /\
   wpAny (model P w) X.A (letOwnedTupleGo tg (.ref it) u) (λ_ s2=>∃x H',Inv X pins σ H' s2/\RelV x u/\J.uQ i H x H'/\tn (i+1) s2.heap/\∀b∈fp,H' b=none) E s1) E s
 done:∀(X:Cx),X.prog=P->X.w=w->X.K=K->X.calm=true->∀(i:Nat) (pins:aj) (s:Shared) (σ:St) (H:Hp) (E:aD),Inv X pins σ H s->(∀b∈fp,oD X pins H b)->tn i s.heap->J.stop i H ->
  wpAny (model P w) X.A (pyNext (.ref it)) (λr s1=>r=none/\Inv X pins σ H s1) E s
 self:∀(A:aJ) (i:Nat) (s:Shared) (Q:aD) (E:aD),tn i s.heap->Q (.ref it) s->wpAny (model P w) A (pyIter (.ref it)) Q E s
noncomputable abbrev TI:=St->Hp->(It->Hp->Prop)->Prop
def DH(X:Cx)(pins:aj)(σ:St)(tg:Expr)(R:It->Hp->Prop)(UL:Value)(s2:Shared):Prop :=
 ∃(it:Addr) (fp:bc) (tn:Nat->Heap->Prop) (J:It) (H':Hp),UL=.ref it/\Inv X pins σ H' s2/\Turn X.prog X.w X.K tg J fp it tn/\tn 0 s2.heap/\(∀b∈fp,oD X pins H' b)/\R J H'
def PI(X:Cx)(tg iter:Expr)(wi:TI):Prop :=
 ∀(pins:aj) (s:Shared) (σ:St) (H:Hp) (R:It->Hp->Prop),Inv X pins σ H s->wi σ H R ->
  wpAny (model X.prog X.w) X.A (eval iter X.env) (λv s1=>wpAny (model X.prog X.w) X.A (pyIter v) (DH X pins σ tg R) X.xe s1) X.xe s
theorem Ct{M:Model}{A:aJ}{s:Shared}{it:Addr}{u:Value}{o:Obj}{n:String}{vs:aV}{Q:Unit->Shared->Prop}(ho:s.heap.get? it=some o)(hc:o.cls=.type n)(hd:o.data=.fields vs)
    (hn:["enumerate","zip","dict_itemiterator","dict_reverseitemiterator","odict_iterator","itertools.zip_longest","itertools.pairwise"].contains n=false) (hQ:Q () s):wpAny M A (letOwnedTupleGo tg (.ref it) u) Q E s:=by
  unfold letOwnedTupleGo;cases tg<;>first
    |exact aah hQ
    | (cases u<;>first
        |exact aah hQ
        | (refine aaa (wpAny_load ho ?_)
           rw[hc,hd];show wpAny M A (if (["enumerate","zip","dict_itemiterator","dict_reverseitemiterator","odict_iterator","itertools.zip_longest","itertools.pairwise"].contains n&&vs[0]?==some (rawInt _))=true then _ else _) Q E s;rw[if_neg (by intro h;rw[hn,Bool.false_and]at h;cases h)];exact aah hQ))
def MY(K:aq)(a:Addr):It :=
 ⟨λi H=>∃xs x,dO K H a xs/\xs[i]?=some x,λi H x H'=>H'=H/\∀xs,dO K H a xs->xs[i]?=some x,λi H=>∃xs,dO K H a xs/\xs.length<=i⟩
def MX(K:aq)(a:Addr):It :=
 ⟨λi H=>∃xs x,bh K H a xs/\xs[i]?=some x,λi H x H'=>H'=H/\∀xs,bh K H a xs->xs[i]?=some x,λi H=>∃xs,bh K H a xs/\xs.length<=i⟩
noncomputable def zx(lo:Int)(n:Nat):It:=⟨λi _=>i<n,λi H x H'=>H'=H/\x=.int (lo+i),λi _=>n<=i⟩
variable {P:aF}{w:World}
theorem ym(a it:Addr):Turn P w K tg (MY K a) [it] it (λi h=>h.IsListIter it a i) where
 mem:=by simp
 obj:=λi h st b hb=>by
  have e:b=it:=by simpa using hb
  subst e;obtain⟨o,e,c,d⟩:=st;exact⟨o,e,λv z=>by rw[d]at z;cases z⟩
 keep:=λi h h' st k=>st.at λo e=>k it (by simp) o e
 item:=by
  intro X hP hw hK hc i pins s σ H E I hf st hg;subst hP hw hK;obtain⟨xs,x,hq,hx⟩:=hg;obtain⟨aM,rv,p,hz⟩:=I.list hq;obtain⟨u,hu,ru⟩:=rv.get hx;obtain⟨f0,f1,f2,f3,f4,f5⟩:=hf it (by simp);refine wpAny_pyNext_list_item st p.isList (x:=u) (by simpa using hu) λh' oO sb=>?_;have I1:Inv X pins σ H { s with heap:=h' }:=I.turned (t':=s.toks) (λb o hb e=>(sb.2 b hb).trans e) f0 f1 f3 f4 f5;obtain⟨o,e,c,d⟩:=id oO;exact⟨u,rfl,Ct (s:={ s with heap:=h' }) e c d (by decide) ⟨x,H,I1,ru,⟨rfl,λys hy=>by rw[I.kA hy hq];exact hx⟩,oO,λb hb=>(hf b hb).1⟩⟩
 done:=by
  intro X hP hw hK hc i pins s σ H E I hf st hg;subst hP hw hK;obtain⟨xs,hq,hx⟩:=hg;obtain⟨aM,rv,p,hz⟩:=I.list hq;obtain⟨f0,f1,f2,f3,f4,f5⟩:=hf it (by simp);have hl:=rv.length;exact wpAny_pyNext_list_end (I.ok.hd hc) st p.isList (by simp;left) λh' eb=>⟨rfl,I.turned (t':=s.toks) (λb o hb e=>eb b o hb e) f0 f1 f3 f4 f5⟩
 self:=λ_ _ _ _ _ st h=>wpAny_pyIter_listiter st h
theorem va(a it:Addr):Turn P w K tg (MX K a) [it] it (λi h=>h.IsTupleIter it a i) where
 mem:=by simp
 obj:=λi h st b hb=>by
  have e:b=it:=by simpa using hb
  subst e;obtain⟨o,e,c,d⟩:=st;exact⟨o,e,λv z=>by rw[d]at z;cases z⟩
 keep:=λi h h' st k=>st.at λo e=>k it (by simp) o e
 item:=by
  intro X hP hw hK hc i pins s σ H E I hf st hg;subst hP hw hK;obtain⟨xs,x,hq,hx⟩:=hg;obtain⟨aM,rv,p,hz⟩:=I.tuple hq;obtain⟨u,hu,ru⟩:=rv.get hx;obtain⟨f0,f1,f2,f3,f4,f5⟩:=hf it (by simp);refine wpAny_pyNext_tuple_item st (show s.heap.IsTuple a aM.toArray from p) (x:=u) (by simpa using hu) λh' oO sb=>?_;have I1:Inv X pins σ H { s with heap:=h' }:=I.turned (t':=s.toks) (λb o hb e=>(sb.2 b hb).trans e) f0 f1 f3 f4 f5;obtain⟨o,e,c,d⟩:=id oO;exact⟨u,rfl,Ct (s:={ s with heap:=h' }) e c d (by decide) ⟨x,H,I1,ru,⟨rfl,λys hy=>by rw[I.o_ hy hq];exact hx⟩,oO,λb hb=>(hf b hb).1⟩⟩
 done:=by
  intro X hP hw hK hc i pins s σ H E I hf st hg;subst hP hw hK;obtain⟨xs,hq,hx⟩:=hg;obtain⟨aM,rv,p,hz⟩:=I.tuple hq;obtain⟨f0,f1,f2,f3,f4,f5⟩:=hf it (by simp);have hl:=rv.length;exact wpAny_pyNext_tuple_end (I.ok.hd hc) st (show s.heap.IsTuple a aM.toArray from p) (by simp;left) λh' eb=>⟨rfl,I.turned (t':=s.toks) (λb o hb e=>eb b o hb e) f0 f1 f3 f4 f5⟩
 self:=λ_ _ _ _ _ st h=>wpAny_pyIter_tupleiter st h
theorem vb(it:Addr)(lo:Int)(n:Nat):Turn P w K tg (zx lo n) [it] it (λi h=>IsRangeIter h it (lo+(i:Nat)*1) ((n:Int) - (i:Nat)) 1) where
 mem:=by simp
 obj:=λi h st b hb=>by
  have e:b=it:=by simpa using hb
  subst e;exact⟨_,st,λv z=>by
   have z':Data.fields _=Data.cell v:=z;cases z'⟩
 keep:=λi h h' st k=>k it (by simp) _ st
 item:=by
  intro X hP hw hK hc i pins s σ H E I hf st hg;subst hP hw hK;obtain⟨f0,f1,f2,f3,f4,f5⟩:=hf it (by simp);have W:=Walks.range (prog:=X.prog) (w:=X.w) (I.ok.hd hc) it lo 1 n;refine W.item i s _ _ hg st λv h' tk hv oO kk=>?_;obtain⟨t,rfl⟩:=hv;have I1:Inv X pins σ H { s with heap:=h',toks:=tk }:=I.turned (λb o hb e=>kk b o (by simpa using hb) e) f0 f1 f3 f4 f5;refine⟨_,rfl,Ct (s:={ s with heap:=h',toks:=tk }) (n:="range_iterator") oO rfl rfl (by decide) ⟨.int (lo+i),H,I1,⟨t,?_⟩,⟨rfl,rfl⟩,oO,λb hb=>(hf b hb).1⟩⟩;rw[Int.mul_one]
 done:=by
  intro X hP hw hK hc i pins s σ H E I hf st hg;subst hP hw hK;obtain⟨f0,f1,f2,f3,f4,f5⟩:=hf it (by simp);exact wpAny_pyNext_range_end (I.ok.hd hc) st (by have:n<=i:=hg;left) λh' eb=>⟨rfl,I.turned (t':=s.toks) (λb o hb e=>eb b o hb e) f0 f1 f3 f4 f5⟩
 self:=λ_ _ _ _ _ st h=>wpAny_pyIter_rangeiter st h
end L2
namespace L2
open PySem PySem.Spec PyProof.Rows
variable {H:Hp}{fp:bc}{h:Heap}{lo:Int}{pos:Pos}{ta:TA}{σ:L2.St}
section
variable {X:Cx}{tg:Expr}
def O8(K:aq)(tl:TE):TI:=λσ H R=>tl σ H λx H1=>∃a,x=.ref a/\(∃xs,dO K H1 a xs)/\R (MY K a) H1
def U0(K:aq)(tl:TE):TI:=λσ H R=>tl σ H λx H1=>∃a,x=.ref a/\(∃xs,bh K H1 a xs)/\R (MX K a) H1
theorem wY{l:Expr}{tl:TE}(hl:PE X l tl):PI X tg l (O8 X.K tl):=by
 intro pins s σ H R I h;refine cQ (hl pins s σ H _ I h) λv s1 bK=>?_;obtain⟨x,H1,I1,r1,q1⟩:=bK;obtain⟨a,e,⟨xs,hq⟩,q⟩:=q1;subst e;cases r1;obtain⟨aM,rv,p,hz⟩:=I1.list hq;refine wpAny_pyIter_list p.isList ?_;refine⟨s1.heap.objs.size,[s1.heap.objs.size],_,_,H1,rfl,I1.kept (t':=s1.toks) λb o e=>aak _ e,ym a _,⟨_,aar _ rfl,rfl,rfl⟩,λb hb=>?_,q⟩;have e:b=s1.heap.objs.size:=by simpa using hb
 subst e;exact I1.F6 (aam _) (I1.cB.fresh (aam _))
theorem AS{l:Expr}{tl:TE}(hl:PE X l tl):PI X tg l (U0 X.K tl):=by
 intro pins s σ H R I h;refine cQ (hl pins s σ H _ I h) λv s1 bK=>?_;obtain⟨x,H1,I1,r1,q1⟩:=bK;obtain⟨a,e,⟨xs,hq⟩,q⟩:=q1;subst e;cases r1;obtain⟨aM,rv,p,hz⟩:=I1.tuple hq;refine wpAny_pyIter_tuple (show s1.heap.IsTuple a aM.toArray from p) ?_;refine⟨s1.heap.objs.size,[s1.heap.objs.size],_,_,H1,rfl,I1.kept (t':=s1.toks) λb o e=>aak _ e,va a _,⟨_,aar _ rfl,rfl,rfl⟩,λb hb=>?_,q⟩;have e:b=s1.heap.objs.size:=by simpa using hb
 subst e;exact I1.F6 (aam _) (I1.cB.fresh (aam _))
theorem tm{pins:aj}{s:Shared}{R:It->Hp->Prop}{E:aD}{hi:Int}{t u v:Tok}{tk:Nat}(I:Inv X pins σ H s)(h1:-(2 ^ 62)<=lo)(h2:lo<2 ^ 62)(h3:-(2 ^ 62)<=hi)(h4:hi<2 ^ 62)
  (q:R (zx lo (hi - lo).toNat) H):wpAny (model X.prog X.w) X.A (pyIter (.ref s.heap.objs.size)) (DH X pins σ tg R) E { s with heap:=s.heap.push { cls:=.type "range",data:=.fields #[.int lo t,.int hi u,.int 1 v] },toks:=tk }:=by
 refine wpAny_pyIter_range (IsRange.new ..) (small_one h1 h2 h3 h4) ?_;have I1:Inv X pins σ H { s with heap:=s.heap.push { cls:=.type "range",data:=.fields #[.int lo t,.int hi u,.int 1 v] },toks:=tk }:=I.kept λb o e=>aak _ e;refine⟨(s.heap.push { cls:=.type "range",data:=.fields #[.int lo t,.int hi u,.int 1 v] }).objs.size,[(s.heap.push { cls:=.type "range",data:=.fields #[.int lo t,.int hi u,.int 1 v] }).objs.size],_,_,H,rfl,
  I1.kept (t':=tk) λb o e=>aak _ e,vb _ lo (hi - lo).toNat,?_,λb hb=>?_,q⟩
 ·have e1:lo+((0:Nat):Int)*1=lo:=by simp
  have e2:(((hi - lo).toNat:Nat):Int) - ((0:Nat):Int)=Builtin.Range.rangeSize lo hi 1:=by rw[rangeSize_one];split<;>left
  show IsRangeIter _ _ (lo+((0:Nat):Int)*1) ((((hi - lo).toNat:Nat):Int) - ((0:Nat):Int)) 1;rw[e1,e2];exact aar _ rfl
 ·have e:b=(s.heap.push { cls:=.type "range",data:=.fields #[.int lo t,.int hi u,.int 1 v] }).objs.size:=by simpa using hb
  subst e;exact I1.F6 (aam _) (I1.cB.fresh (aam _))
def O7(ta:TA):TI:=λσ H R=>ta σ H λvs H1=>∃j:Int,vs=[.int j] /\ -(2 ^ 62)<=j/\j<2 ^ 62/\R (zx 0 j.toNat) H1
def O6(ta:TA):TI:=λσ H R=>ta σ H λvs H1=>∃i j:Int,vs=[.int i,.int j]/\(-(2 ^ 62)<=i/\i<2 ^ 62 /\ -(2 ^ 62)<=j/\j<2 ^ 62)/\R (zx i (j - i).toNat) H1
theorem pI{a:Expr}{p:Pos}(hg:Gl X "range")(hm:X.mg "range" = none)(ha:PA X [a] ta)(hs:starEach [a] X.env=[(false,eval a X.env)]:=by rfl):PI X tg (.Call (.Name "range" p) [a] [] pos) (O7 ta):=by
 intro pins s σ H R I h;refine Call_ (gx I hg hm boot_range (aaD (cQ (ha pos pins s σ H _ I h) λus s1 bK=>?_) hs rfl));obtain⟨vs,H1,I1,r1,q1⟩:=bK;obtain⟨j,e,q1,q2,q⟩:=q1;subst e;cases r1 with
 |cons r rr =>
  cases rr;obtain⟨t,rfl⟩:=r;exact call_range_1 (tm I1 (by left) (by left) q1 q2 (by simpa using q))
theorem pH{a b:Expr}{p:Pos}(hg:Gl X "range")(hm:X.mg "range" = none)(ha:PA X [a,b] ta)(hs:starEach [a,b] X.env=[(false,eval a X.env),(false,eval b X.env)]:=by rfl)(MB:starEach [b] X.env=[(false,eval b X.env)]:=by rfl):
  PI X tg (.Call (.Name "range" p) [a,b] [] pos) (O6 ta):=by
 intro pins s σ H R I h;refine Call_ (gx I hg hm boot_range (aaD (cQ (ha pos pins s σ H _ I h) λus s1 bK=>?_) (by rw[hs,MB]) (by rw[MB];rfl)));obtain⟨vs,H1,I1,r1,q1⟩:=bK;obtain⟨i,j,e,⟨q1,q2,q3,q4⟩,q⟩:=q1;subst e;cases r1 with
 |cons r rr =>
  cases rr with
  |cons r' rr =>
   cases rr;obtain⟨t,rfl⟩:=r;obtain⟨t',rfl⟩:=r';exact call_range_2 (tm I1 q1 q2 q3 q4 q)
noncomputable def To(wi:TI)(g:TG)(tb:TS):TS:=λD σ H=>wi σ H λJ H1=>∃W:Nat->Nat->St->Hp->Prop,(∃m,W 0 m σ H1)/\∀i m σ H,W i m σ H ->
 (J.stop i H/\D.nx σ H)\/(J.go i H/\∃N:St->Hp->Prop,(∀σ' H',N σ' H'->∃m',m'<m/\W (i+1) m' σ' H')/\∀x H',J.uQ i H x H'->g x σ H' λσ2 H2=>tb { D with nx:=N,ct:=N,bk:=D.nx } σ2 H2)
noncomputable def iQ(fp:bc)(h:Heap):aj:=fp.filterMap λb=>(h.get? b).map λo=>(b,o)
theorem hZ{b:Addr}{o:Obj}(hb:b∈fp)(e:h.get? b=some o):(b,o)∈iQ fp h:=List.mem_filterMap.mpr ⟨b,hb,by rw[e];rfl⟩
theorem pJ{p:Addr×Obj}(hp:p∈iQ fp h):p.1∈fp/\h.get? p.1=some p.2:=by
 obtain⟨b,hb,e⟩:=List.mem_filterMap.mp hp;cases q:h.get? b with
 |none=>rw[q]at e;cases e
 |some o =>
  rw[q]at e;have e':(b,o)=p:=aat e;subst e';exact⟨hb,q⟩
theorem Inv.pinned{pins:aj}{s:Shared}(I:Inv X pins σ H s)(hf:∀b∈fp,oD X pins H b)(ho:∀b∈fp,∃o,s.heap.get? b=some o/\∀v,o.data≠.cell v):Inv X (pins++iQ fp s.heap) σ H s :=
 I.jn λp hp=>(List.mem_append.mp hp).elim (λz=>I.pin p (aaq _ z)) λz=>by
  obtain⟨hb,e⟩:=pJ z;obtain⟨f0,f1,f2,_⟩:=hf p.1 hb;obtain⟨o,e',d⟩:=ho p.1 hb;rw[e]at e';cases e';exact⟨e,f0,f1,f2,d⟩
theorem Inv.kg{pins pl:aj}{s:Shared}(I:Inv X (pins++pl) σ H s):Inv X pins σ H s:=I.jn λp hp=>I.pin p (aaq _ (aaA _ hp))
theorem m_{iter:Expr}{body:aS}{wi:TI}{g:TG}{tb:TS}(hp:PassesOwn (model X.prog X.w) X.A X.env X.xe)(hc:X.calm=true)(hi:PI X tg iter wi)(hg:PG X tg g)(hb:ir X body tb)
  (hs:∀x,foldedSetIterable iter X.env x=pure x:=by intro _;rfl):PS X (.For tg iter body [] pos) (To wi g tb):=by
 intro pins s σ H D I h;refine wpAny_For (cQ (hi pins s σ H _ I h) λv s1 h1=>cQ h1 λUL s2 h2=>?_) hs;obtain⟨it,fp,tn,J,H2,e,I2,T,NB,f2,W,⟨m0,w0⟩,turn⟩:=h2;subst e;have Jj:∀{H':Hp},(∀b∈fp,H' b=none)->∀b∈fp,oD X pins H' b:=λhn b hb=>⟨hn b hb,(f2 b hb).2⟩
 refine codeAny_forLoop_any (λn s'=>∃i σ' H',Inv X pins σ' H' s'/\tn i s'.heap/\(∀b∈fp,H' b=none)/\W i n σ' H') ?_ m0 ⟨0,σ,H2,I2,NB,λb hb=>(f2 b hb).1,w0⟩;rintro n s3 ⟨i,σ3,H3,I3,st3,fr3,w3⟩;rcases turn i n σ3 H3 w3 with ⟨stop,qn⟩|⟨go,N,hN,step⟩
 ·refine aa5 hp (cQ (T.done X rfl rfl rfl hc i pins s3 σ3 H3 X.xe I3 (Jj fr3) st3 stop) λr s4 bK=>?_);obtain⟨hr,I4⟩:=bK;subst hr;exact abo ⟨σ3,H3,I4,qn⟩
 ·refine aa5 hp (cQ (T.item X rfl rfl rfl hc i pins s3 σ3 H3 X.xe I3 (Jj fr3) st3 go) λr s4 bK=>?_);obtain⟨u,hr,h4⟩:=bK;subst hr;refine aa5 hp (cQ h4 λ_ s5 bK=>?_);obtain⟨x,H5,I5,r5,y5,Jl,Wb⟩:=bK;have W2:=I5.pinned (Jj Wb) (T.obj _ _ Jl);refine aa5 hp (cQ (hg _ s5 σ3 H5 x u _ W2 r5 (step x H5 y5)) λ_ s6 bK=>?_);obtain⟨σ6,H6,I6,q6⟩:=bK;refine aa5 hp (cQ (hb _ s6 σ6 H6 _ I6 q6) λf s7 q7=>?_);have again:∀{σ7:St} {H7:Hp},Inv X (pins++iQ fp s5.heap) σ7 H7 s7->N σ7 H7->∃m,m<n/\∃i σ' H',Inv X pins σ' H' s7/\tn i s7.heap/\(∀b∈fp,H' b=none)/\W i m σ' H':=λ{σ7 H7} I7 n7=>by
   obtain⟨m',hm,w7⟩:=hN σ7 H7 n7;refine⟨m',hm,i+1,σ7,H7,I7.kg,T.keep _ _ _ Jl λb hb o e=>(I7.pin (b,o) (aaq _ (aaq _ (hZ hb e)))).1,λb hb=>?_,w7⟩;obtain⟨o,e,d⟩:=T.obj _ _ Jl b hb;exact(I7.pin (b,o) (aaq _ (aaq _ (hZ hb e)))).2.1
  cases f with
  |next=>obtain⟨σ7,H7,I7,n7⟩:=q7;exact again I7 n7
  |cont=>obtain⟨σ7,H7,I7,n7⟩:=q7;exact again I7 n7
  |brk=>obtain⟨σ7,H7,I7,q7⟩:=q7;exact⟨σ7,H7,I7.kg,q7⟩
  |ret v=>obtain⟨x7,σ7,H7,I7,r7,q7⟩:=q7;exact⟨x7,σ7,H7,I7.kg,r7,q7⟩
end
variable {K:aq}{xs:af}
theorem CG{a:Addr}{g:TG}{tb:TS}{D:Ends}(Pv:Nat->St->Hp->Prop)(h0:Pv 0 σ H)(hl:∀i σ H,i<=xs.length->Pv i σ H->dO K H a xs)
  (hs:∀i x σ H,xs[i]?=some x->Pv i σ H->g x σ H λσ2 H2=>tb { D with nx:=Pv (i+1),ct:=Pv (i+1),bk:=D.nx } σ2 H2) (hd:∀σ H,Pv xs.length σ H->D.nx σ H) :
  ∃W:Nat->Nat->St->Hp->Prop,(∃m,W 0 m σ H)/\∀i m σ H,W i m σ H ->
   ((MY K a).stop i H/\D.nx σ H)\/((MY K a).go i H/\∃N:St->Hp->Prop,(∀σ' H',N σ' H'->∃m',m'<m/\W (i+1) m' σ' H')/\∀x H',(MY K a).uQ i H x H'->g x σ H' λσ2 H2=>tb { D with nx:=N,ct:=N,bk:=D.nx } σ2 H2):=by
 refine⟨λi m σ H=>m=xs.length - i/\i<=xs.length/\Pv i σ H,⟨xs.length,by simp,aaJ _,h0⟩,?_⟩;rintro i m σ H ⟨rfl,hi,p⟩;have q:=hl i σ H hi p;by_cases gX:i<xs.length
 ·refine .inr ⟨⟨xs,xs[i],q,by simp[gX]⟩,Pv (i+1),λσ' H' p'=>⟨xs.length - (i+1),by left,rfl,gX,p'⟩,λx H' y=>?_⟩;obtain⟨e,y⟩:=y;subst e;exact hs i x σ _ (y xs q) p
 ·have e:i=xs.length:=by left
  subst e;exact .inl ⟨⟨xs,q,aam _⟩,hd σ H p⟩
theorem F7{a:Addr}{g:TG}{tb:TS}{D:Ends}(Pv:Nat->St->Hp->Prop)(h0:Pv 0 σ H)(hl:∀i σ H,i<=xs.length->Pv i σ H->bh K H a xs)
  (hs:∀i x σ H,xs[i]?=some x->Pv i σ H->g x σ H λσ2 H2=>tb { D with nx:=Pv (i+1),ct:=Pv (i+1),bk:=D.nx } σ2 H2) (hd:∀σ H,Pv xs.length σ H->D.nx σ H) :
  ∃W:Nat->Nat->St->Hp->Prop,(∃m,W 0 m σ H)/\∀i m σ H,W i m σ H ->
   ((MX K a).stop i H/\D.nx σ H)\/((MX K a).go i H/\∃N:St->Hp->Prop,(∀σ' H',N σ' H'->∃m',m'<m/\W (i+1) m' σ' H')/\∀x H',(MX K a).uQ i H x H'->g x σ H' λσ2 H2=>tb { D with nx:=N,ct:=N,bk:=D.nx } σ2 H2):=by
 refine⟨λi m σ H=>m=xs.length - i/\i<=xs.length/\Pv i σ H,⟨xs.length,by simp,aaJ _,h0⟩,?_⟩;rintro i m σ H ⟨rfl,hi,p⟩;have q:=hl i σ H hi p;by_cases gX:i<xs.length
 ·refine .inr ⟨⟨xs,xs[i],q,by simp[gX]⟩,Pv (i+1),λσ' H' p'=>⟨xs.length - (i+1),by left,rfl,gX,p'⟩,λx H' y=>?_⟩;obtain⟨e,y⟩:=y;subst e;exact hs i x σ _ (y xs q) p
 ·have e:i=xs.length:=by left
  subst e;exact .inl ⟨⟨xs,q,aam _⟩,hd σ H p⟩
theorem y7{n:Nat}{g:TG}{tb:TS}{D:Ends}(Pv:Nat->St->Hp->Prop)(h0:Pv 0 σ H)
  (hs:∀i σ H,i<n->Pv i σ H->g (.int (lo+i)) σ H λσ2 H2=>tb { D with nx:=Pv (i+1),ct:=Pv (i+1),bk:=D.nx } σ2 H2) (hd:∀σ H,Pv n σ H->D.nx σ H) :
  ∃W:Nat->Nat->St->Hp->Prop,(∃m,W 0 m σ H)/\∀i m σ H,W i m σ H ->
   ((zx lo n).stop i H/\D.nx σ H)\/((zx lo n).go i H/\∃N:St->Hp->Prop,(∀σ' H',N σ' H'->∃m',m'<m/\W (i+1) m' σ' H')/\∀x H',(zx lo n).uQ i H x H'->g x σ H' λσ2 H2=>tb { D with nx:=N,ct:=N,bk:=D.nx } σ2 H2):=by
 refine⟨λi m σ H=>m=n - i/\i<=n/\Pv i σ H,⟨n,by simp,aaJ _,h0⟩,?_⟩;rintro i m σ H ⟨rfl,hi,p⟩;by_cases gX:i<n
 ·refine .inr ⟨gX,Pv (i+1),λσ' H' p'=>⟨n - (i+1),by left,rfl,gX,p'⟩,λx H' y=>?_⟩;obtain⟨e,y⟩:=y;subst e y;exact hs i σ _ gX p
 ·have e:i=n:=by left
  subst e;exact .inl ⟨aam _,hd σ H p⟩
end L2
namespace L2
open PySem PySem.Spec PyProof.Rows
noncomputable abbrev R2:=V->V->Hp->VK->Prop
def jG(X:Cx)(f:Value->Value->Sem Value)(r:R2):Prop :=
 ∀(pins:aj) (s:Shared) (σ:St) (H:Hp) (x y:V) (v u:Value) (Q:VK),Inv X pins σ H s->RelV x v->RelV y u->r x y H Q ->
  wpAny (model X.prog X.w) X.A (f v u) (EP X pins σ Q) X.xe s
def WU(X:Cx)(f:Value->Sem Value)(r:V->Hp->VK->Prop):Prop :=
 ∀(pins:aj) (s:Shared) (σ:St) (H:Hp) (x:V) (v:Value) (Q:VK),Inv X pins σ H s->RelV x v->r x H Q ->
  wpAny (model X.prog X.w) X.A (f v) (EP X pins σ Q) X.xe s
def fh(X:Cx)(f:Value)(r:af->Hp->VK->Prop):Prop :=
 ∀(pins:aj) (s:Shared) (σ:St) (H:Hp) (xs:af) (us:ak) (Q:VK),Inv X pins σ H s->Vals xs us->r xs H Q ->
  wpAny (model X.prog X.w) X.A (call f us) (EP X pins σ Q) X.xe s
noncomputable def Hc(r:R2)(ta tb:TE):TE:=λσ H Q=>ta σ H λx H1=>tb σ H1 λy H2=>r x y H2 Q
noncomputable def Zn(r:V->Hp->VK->Prop)(ta:TE):TE:=λσ H Q=>ta σ H λx H1=>r x H1 Q
noncomputable def rI(C:Int->Int->Prop)(g:Int->Int->V):R2:=λx y H Q=>∃i j,x=.int i/\y=.int j/\C i j/\Q (g i j) H
noncomputable def AJ(g:Int->Int->V):R2:=λx y H Q=>∃i j,x=.int i/\y=.int j/\Q (g i j) H
noncomputable def rU(g:Int->V):V->Hp->VK->Prop:=λx H Q=>∃i,x=.int i/\Q (g i) H
variable {H:Hp}{σ:L2.St}
section
variable {X:Cx}{a b c:Expr}{ta tb tc:TE}{pos:Pos}
theorem L8(ha:PE X a ta)(hb:PE X b tb){pins:aj}{s:Shared}{R:V->V->Hp->Prop}(I:Inv X pins σ H s)
  (h:ta σ H λx H1=>tb σ H1 λy H2=>R x y H2) {Q:aD} {f:Value->Value->Sem Value}
  (hf:∀v u s2 x y H2,Inv X pins σ H2 s2->RelV x v->RelV y u->R x y H2->wpAny (model X.prog X.w) X.A (f v u) Q X.xe s2) :
  wpAny (model X.prog X.w) X.A (eval a X.env) (λv s₁=>wpAny (model X.prog X.w) X.A (eval b X.env) (λu s₂=>wpAny (model X.prog X.w) X.A (f v u) Q X.xe s₂) X.xe s₁) X.xe s:=by
 refine cQ (ha pins s σ H _ I h) λv s1 bK=>?_;obtain⟨x,H1,I1,r1,q1⟩:=bK;refine cQ (hb pins s1 σ H1 _ I1 q1) λu s2 bK=>?_;obtain⟨y,H2,I2,r2,q2⟩:=bK;exact hf v u s2 x y H2 I2 r1 r2 q2
theorem w_{op:Operator}{r:R2}(ho:jG X (binaryOp op) r)(ha:PE X a ta)(hb:PE X b tb):PE X (.BinOp a op b pos) (Hc r ta tb):=by
 intro pins s σ H Q I h;exact wpAny_BinOp (L8 ha hb I h λv u s2 x y H2 I2 rx ry q=>ho pins s2 σ H2 x y v u Q I2 rx ry q)
theorem N9{op:UnaryOp}{r:V->Hp->VK->Prop}(ho:WU X (unaryOp op) r)(ha:PE X a ta):PE X (.UnaryOp op a pos) (Zn r ta):=by
 intro pins s σ H Q I h;exact UnaryOp_ (cQ (ha pins s σ H _ I h) λv s1 ⟨x,H1,I1,r1,q1⟩=>ho pins s1 σ H1 x v Q I1 r1 q1)
theorem J2{f:Value->Value->Sem Value}{C:Int->Int->Prop}{g:Int->Int->Int}
  (rule:∀(i j:Int) (t u:Tok) (s:Shared) (Q:aD) (E:aD),C i j->Q (.int (g i j) s.toks) { s with toks:=s.toks+1 }->wpAny (model X.prog X.w) X.A (f (.int i t) (.int j u)) Q E s) :
  jG X f (rI C λi j=>.int (g i j)):=by
 intro pins s σ H x y v u Q I rx ry h;obtain⟨i,j,rfl,rfl,hc,q⟩:=h;obtain⟨t,rfl⟩:=rx;obtain⟨t',rfl⟩:=ry;exact rule i j t t' s _ _ hc ⟨.int (g i j),H,I.tok _,⟨_,rfl⟩,q⟩
theorem Us{f:Value->Value->Sem Value}{g:Int->Int->Int}
  (rule:∀(i j:Int) (t u:Tok) (s:Shared) (Q:aD) (E:aD),Q (.int (g i j) s.toks) { s with toks:=s.toks+1 }->wpAny (model X.prog X.w) X.A (f (.int i t) (.int j u)) Q E s) :
  jG X f (AJ λi j=>.int (g i j)):=by
 intro pins s σ H x y v u Q I rx ry h;obtain⟨i,j,rfl,rfl,q⟩:=h;obtain⟨t,rfl⟩:=rx;obtain⟨t',rfl⟩:=ry;exact rule i j t t' s _ _ ⟨.int (g i j),H,I.tok _,⟨_,rfl⟩,q⟩
theorem Ff{f:Value->Value->Sem Value}{g:Int->Int->Bool}
  (rule:∀(i j:Int) (t u:Tok) (s:Shared) (Q:aD) (E:aD),Q (.bool (g i j)) s->wpAny (model X.prog X.w) X.A (f (.int i t) (.int j u)) Q E s) :
  jG X f (AJ λi j=>.bl (g i j)):=by
 intro pins s σ H x y v u Q I rx ry h;obtain⟨i,j,rfl,rfl,q⟩:=h;obtain⟨t,rfl⟩:=rx;obtain⟨t',rfl⟩:=ry;exact rule i j t t' s _ _ ⟨.bl (g i j),H,I,rfl,q⟩
theorem u_(k:Nat):(0:Int)<=2 ^ k:=by
 rw[two_pow_cast];exact Int.natCast_nonneg _
theorem J1:jG X (binaryOp .Add) (AJ λi j=>.int (i+j)):=Us λ_ _ _ _ _ _ _ q=>add_int q
theorem Fc:jG X (binaryOp .Mod) (rI (λ_ j=>j≠0) λi j=>.int (i.fmod j)):=J2 λ_ _ _ _ _ _ _ hc q=>mod_int' hc q
theorem Uo:jG X (binaryOp .RShift) (rI (λ_ j=>0<=j) λi j=>.int (i / 2 ^ j.toNat)):=J2 λi j _ _ _ _ _ hc q =>
 rshift_int hc (by rw[Int.fdiv_eq_ediv_of_nonneg i (u_ _)];exact q)
theorem Ze{f:Value->Sem Value}{g:Int->Int}
  (rule:∀(i:Int) (t:Tok) (s:Shared) (Q:aD) (E:aD),Q (.int (g i) s.toks) { s with toks:=s.toks+1 }->wpAny (model X.prog X.w) X.A (f (.int i t)) Q E s) :
  WU X f (rU λi=>.int (g i)):=by
 intro pins s σ H x v Q I rx h;obtain⟨i,rfl,q⟩:=h;obtain⟨t,rfl⟩:=rx;exact rule i t s _ _ ⟨.int (g i),H,I.tok _,⟨_,rfl⟩,q⟩
theorem IY:WU X (unaryOp .USub) (rU λi=>.int (-i)):=Ze λ_ _ _ _ _ q=>neg_int q
end
variable {us:ak}
section
variable {X:Cx}{a b c:Expr}{ta tb tc:TE}{pos:Pos}
theorem CK{pins:aj}{s:Shared}{Q:VK}{k k':Bool}(I:Inv X pins σ H s)(q:Q (.bl k) H)(e:k=k'):EP X pins σ Q (.bool k') s:=by
 subst e;exact⟨.bl k,H,I,rfl,q⟩
theorem Od:jG X (compareOp .Lt) (AJ λi j=>.bl (decide (i<j))):=Ff λ_ _ _ _ _ _ _ q=>lt_int q
theorem Oe:jG X (compareOp .LtE) (AJ λi j=>.bl (decide (i<=j))):=Ff λ_ _ _ _ _ _ _ q=>le_int q
theorem Of:jG X (compareOp .Gt) (AJ λi j=>.bl (decide (j<i))):=Ff λ_ _ _ _ _ _ _ q=>gt_int q
theorem Og:jG X (compareOp .GtE) (AJ λi j=>.bl (decide (j<=i))):=Ff λ_ _ _ _ _ _ _ q=>ge_int q
theorem Ur:jG X (compareOp .Is) (λx y H Q=>y=.bB/\Q (.bl (decide (x=.bB))) H):=by
 intro pins s σ H x y v u Q I rx ry h;obtain⟨rfl,q⟩:=h;cases ry;refine is_none_gen (CK I q ?_);cases x<;>first
  | (cases rx;rfl)
  | (obtain⟨t,rfl⟩:=rx;rfl)
theorem RN:jG X (compareOp .IsNot) (λx y H Q=>y=.bB/\Q (.bl (!decide (x=.bB))) H):=by
 intro pins s σ H x y v u Q I rx ry h;obtain⟨rfl,q⟩:=h;cases ry;refine isnot_none_gen (CK I q ?_);cases x<;>first
  | (cases rx;rfl)
  | (obtain⟨t,rfl⟩:=rx;rfl)
theorem jG.or{f:Value->Value->Sem Value}{r r':R2}(h:jG X f r)(h':jG X f r'):jG X f (λx y H Q=>r x y H Q\/r' x y H Q):=by
 intro pins s σ H x y v u Q I rx ry q;rcases q with q|q
 ·exact h pins s σ H x y v u Q I rx ry q
 ·exact h' pins s σ H x y v u Q I rx ry q
theorem Bm(b:Expr){op:CmpOp}(h:op≠.In:=by decide)(h2:op≠.NotIn:=by decide):behindInMarks op b=false:=by
 have e1:(op==CmpOp.In)=false:=by cases op<;>first|rfl|exact absurd rfl h
 have e2:(op==CmpOp.NotIn)=false:=by cases op<;>first|rfl|exact absurd rfl h2
 cases b<;>simp[behindInMarks,e1,e2]
theorem xa{op:CmpOp}{r:R2}(ho:jG X (compareOp op) r)(ha:PE X a ta)(hb:PE X b tb)(hm:behindInMarks op b=false):PE X (.Compare a [op] [b] pos) (Hc r ta tb):=by
 intro pins s σ H Q I h;exact wpAny_Compare1 (L8 ha hb I h λv u s2 x y H2 I2 rx ry q=>ho pins s2 σ H2 x y v u Q I2 rx ry q) hm
noncomputable def Hb(t:TE):TT:=λσ H Q=>t σ H λx H'=>∃k,x=.bl k/\Q k H'
theorem wV{op:CmpOp}{r:R2}(ho:jG X (compareOp op) r)(ha:PE X a ta)(hb:PE X b tb)(hm:behindInMarks op b=false):PT X (.Compare a [op] [b] pos) (Hb (Hc r ta tb)):=by
 intro pins s σ H Q I h;refine wpAny_isTrue_Compare1 (cQ (ha pins s σ H _ I h) λv s1 ⟨x,H1,I1,r1,q1⟩=>cQ (hb pins s1 σ H1 _ I1 q1) λu s2 ⟨y,H2,I2,r2,q2⟩ =>
  cQ (ho pins s2 σ H2 x y v u _ I2 r1 r2 q2) λc s3 ⟨z,H3,I3,r3,k,e,q3⟩=>?_) hm
 subst e;cases r3;exact aaO ⟨H3,I3,q3⟩
theorem qS:(sizeLine:Nat)<2 ^ 63:=by rw[sizeLine_eq];decide
theorem vn:jG X (binaryOp .Add) (λx y H Q=>∃i j,x=.str i/\y=.str j/\i.length+j.length<=sizeLine/\Q (.str (i++j)) H):=by
 intro pins s σ H x y v u Q I rx ry h;obtain⟨i,j,rfl,rfl,hz,q⟩:=h;obtain⟨t,rfl⟩:=rx;obtain⟨t',rfl⟩:=ry;exact add_str (λt' tk=>⟨.str (i++j),H,I.tok _,⟨_,rfl⟩,q⟩) hz
theorem vals1{x:V}(r:Vals [x] us):∃u,us=[u]/\RelV x u:=by
 cases r with
 |cons r1 r2=>cases r2;exact⟨_,rfl,r1⟩
theorem vals2{x y:V}(r:Vals [x,y] us):∃u w',us=[u,w']/\RelV x u/\RelV y w':=by
 cases r with
 |cons r1 r2 =>
  cases r2 with
  |cons r3 r4=>cases r4;exact⟨_,_,rfl,r1,r3⟩
theorem Dk:fh X (.builtin "abs") (λxs H Q=>∃i,xs=[.int i]/\Q (.int (if i<0 then -i else i)) H):=by
 intro pins s σ H xs us Q I r h;obtain⟨i,rfl,q⟩:=h;obtain⟨u,rfl,t,rfl⟩:=vals1 r;exact call_abs_int λu tk=>⟨.int (if i<0 then -i else i),H,I.tok _,⟨_,rfl⟩,q⟩
theorem zo(hc:X.calm=true):fh X (.builtin "max") (λxs H Q=>∃i j,xs=[.int i,.int j]/\Q (.int (if j>i then j else i)) H):=by
 intro pins s σ H xs us Q I r h;obtain⟨i,j,rfl,q⟩:=h;obtain⟨u,w',rfl,⟨t,rfl⟩,⟨t',rfl⟩⟩:=vals2 r;refine max_two_ints (I.ok.hd hc) λh' tk k=>⟨_,H,I.kept k,?_,q⟩
 by_cases hj:j>i
 ·rw[if_pos hj,if_pos hj];exact⟨_,rfl⟩
 ·rw[if_neg hj,if_neg hj];exact⟨_,rfl⟩
theorem zl(hc:X.calm=true):fh X (.builtin "min") (λxs H Q=>∃i j,xs=[.int i,.int j]/\Q (.int (if j<i then j else i)) H):=by
 intro pins s σ H xs us Q I r h;obtain⟨i,j,rfl,q⟩:=h;obtain⟨u,w',rfl,⟨t,rfl⟩,⟨t',rfl⟩⟩:=vals2 r;refine min_two_ints (I.ok.hd hc) λh' tk k=>⟨_,H,I.kept k,?_,q⟩
 by_cases hj:j<i
 ·rw[if_pos hj,if_pos hj];exact⟨_,rfl⟩
 ·rw[if_neg hj,if_neg hj];exact⟨_,rfl⟩
theorem MT:fh X (.type "int") (λxs H Q=>(∃i,xs=[.int i]/\Q (.int i) H)\/∃k,xs=[.bl k]/\Q (.int (if k then 1 else 0)) H):=by
 intro pins s σ H xs us Q I r h;rcases h with ⟨i,rfl,q⟩|⟨k,rfl,q⟩
 ·obtain⟨u,rfl,t,rfl⟩:=vals1 r;exact call_int_int ⟨.int i,H,I,⟨_,rfl⟩,q⟩
 ·obtain⟨u,rfl,r1⟩:=vals1 r;cases r1;exact call_int_bool ⟨.int (if k then 1 else 0),H,I.tok _,⟨_,rfl⟩,q⟩
theorem rK:fh X (.type "str") (λxs H Q=>∃i,xs=[.int i]/\i.natAbs.log2<1920/\Q (.str (toString i)) H):=by
 intro pins s σ H xs us Q I r h;obtain⟨i,rfl,hz,q⟩:=h;obtain⟨u,rfl,t,rfl⟩:=vals1 r;exact PySem.P.str_of_int hz ⟨.str _,H,I.tok _,⟨_,rfl⟩,q⟩
end
end L2
namespace L2
open PySem PySem.Spec PyProof.Rows
structure ab4(h:Heap)(x dx C:Addr)(mA:aR):Prop where
 obj:h.get? x=some (PySem.W.instObj C dx)
 ns:h.Ns1 dx mA
 ne:dx≠x
section
variable {prog:aF}{w:World}{A:aJ}{E:aD}{s:Shared}{K:aq}{x dx C f:Addr}{mA:aR}{name:Str}{v:Value}
end
theorem wx.some_of{v:V}{o:Option Value}(r:wx (some v) o):∃u,o=some u/\RelV v u:=by
 cases o with
 |none=>exact(show False from r).elim
 |some u=>exact⟨u,rfl,r⟩
section
variable {P:aF}{w:World}{H H':Hp}{h h':Heap}{a C dx:Addr}{fs fs':List (Str×V)}
end
structure Ml(K:aq)(C:Addr):Prop where
 pg:PySem.W.plainGet K C Str.empty=true
 hd:PySem.W.hasDictIn K C=true
 po:PySem.W.plainOver K C=true
 sa:PySem.W.findIn K (.ref C) "__setattr__" = some (some (.builtin "object.__setattr__"))
structure Con(K:aq)(C:Addr)(f:Str)(v:V)(u:Value):Prop where
 at_:PySem.W.findIn K (.ref C) f=some (some u)
 rel:RelV v u
 get:PySem.W.specialIn K u "__get__" = some none
 cp:PySem.W.copiedNames.contains f=false
structure Meth(K:aq)(C:Addr)(m:Str)(f:Addr):Prop where
 at_:PySem.W.findIn K (.ref C) m=some (some (.ref f))
 fn:PySem.W.isFn K (.ref f)=true
 kp:PySem.W.keepIn K (.ref f)=true
section
variable {X:Cx}{pins:aj}{σ:St}{H:Hp}{s:Shared}{a C dx:Addr}{fs:List (Str×V)}{f:Str}{v:V}{A:aJ}{E:aD}
end
section
variable {X:Cx}{o e value:Expr}{f:Str}{pos pos' Zj:Pos}{ta tv:TE}
end
section
variable {X:Cx}{pins:aj}{σ:St}{H:Hp}{s:Shared}{A:aJ}{E:aD}{Q:aD}{c:Value}{b:Bool}
inductive oA(K:aq)(H:Hp):V->Value->Prop where
 |bB:oA K H .bB (.type "NoneType")
 |bl (x:Bool):oA K H (.bl x) (.type "bool")
 |int (i:Int):oA K H (.int i) (.type "int")
 |str (x:Str):oA K H (.str x) (.type "str")
 |MQ (x:UInt64):oA K H (.MQ x) (.type "float")
 |lst {a:Addr} {xs:af} (e:H a=some (.lst xs)):oA K H (.ref a) (.type "list")
 |iK {a:Addr} {o:Obj} {xs:af} (e:H a=some (.iK o (.lst xs))):oA K H (.ref a) (.type "list")
 |tup {a:Addr} {xs:af} (e:H a=some (.tup xs)):oA K H (.ref a) (.type "tuple")
 |dK {a:Addr} {lZ:List (Key×V)} (e:H a=some (.dK lZ)):oA K H (.ref a) (.type "dict")
 |dT {a:Addr} {lZ:List (List Key×V)} (e:H a=some (.dT lZ)):oA K H (.ref a) (.type "dict")
 |ins {a C dx:Addr} {fs:List (Str×V)} (e:H a=some (.ins C dx fs)) (cl:Ml K C) (ha:PySem.W.findIn K (.ref C) "__class__" = some (some (.builtin "object.__class__")))
   (hn:PySem.W.specialIn K (.builtin "object.__class__") "__get__" = some (some (.builtin "getset_descriptor.__get__"))) (htk:PySem.W.takesIn K (.builtin "object.__class__")=some true)
   (hm:PySem.W.mroIn K C (.type "object")=some true):oA K H (.ref a) (.ref C)
end
end L2
namespace L2
open PySem PySem.Spec PyProof.Rows
structure gh(k:Nat)(A:aJ):Prop where
 hd:A.handled=none
 dp:A.depth+3*k+5<recursionLimit
 un:A.units+16*k+200<cLine
variable {A:aJ}
theorem gh.mono{j k:Nat}(r:gh k A)(h:j<=k):gh j A:=⟨r.hd,by have:=r.dp;left,by have:=r.un;left⟩
theorem gh.deeper{k:Nat}{A:aJ}(r:gh (k+1) A)(env:Env):gh k (A.deeper env) :=
 ⟨r.hd,by have:=r.dp;show A.depth+1+3*k+5<_;left,by have:=r.un;show A.units+3+16*k+200<_;left⟩
theorem gh.depth{k:Nat}{A:aJ}(r:gh k A):A.depth<recursionLimit:=by have:=r.dp;left
theorem gh.units{k:Nat}{A:aJ}(r:gh k A):A.units+64<cLine:=by have:=r.un;left
noncomputable def Nk:TA:=λ_ H Q=>Q [] H
noncomputable def He(ta:TE)(tr:TA):TA:=λσ H Q=>ta σ H λx H1=>tr σ H1 λxs H2=>Q (x::xs) H2
section
variable {X:Cx}{e:Expr}{es:au}{te:TE}{t:TA}{pos:Pos}
theorem dF:PA X [] Nk:=λ_ _ _ _ H Q I h=>acm ⟨[],H,I,.nil,h⟩
theorem bW(ha:PE X e te)(hr:PA X es t)(hs:starEach (e::es) X.env=(false,eval e X.env)::starEach es X.env:=by rfl):PA X (e::es) (He te t):=by
 intro pos pins s σ H Q I h;rw[hs];show wpAny _ _ (spliced ((false,eval e X.env)::backTo pos (starEach es X.env))) _ _ s;refine acd (cQ (ha pins s σ H _ I h) λu s1 bK=>?_);obtain⟨x,H1,I1,r1,q1⟩:=bK;exact cQ (hr pos pins s1 σ H1 _ I1 q1) λus s2 ⟨xs,H2,I2,r2,q2⟩=>⟨x::xs,H2,I2,.cons r1 r2,q2⟩
def Ta(t:TA):TE:=λσ H Q=>t σ H λxs H1=>xs.length<=sizeLine/\∀p,H1 p=none->Q (.ref p) (upd H1 p (.tup xs))
def Th(t:TA):TE:=λσ H Q=>t σ H λxs H1=>xs.length<=sizeLine/\∀p,H1 p=none->Q (.ref p) (upd H1 p (.lst xs))
theorem JR{x1}(h:PA X es t):PE X (.Tuple es x1 pos) (Ta t):=by
 intro pins s σ H Q I hq;refine wpAny_Tuple_spliced (cQ (h pos pins s σ H _ I hq) λus s1 ⟨xs,H1,I1,r,z,q⟩=>⟨by rw[<- r.length];exact z,?_⟩);have hf:H1 s1.heap.objs.size=none:=I1.cB.fresh (aam _);refine⟨.ref s1.heap.objs.size,upd H1 s1.heap.objs.size (.tup xs),I1.laid (t':=s1.toks) (λb u e=>aak _ e) (aam _) ?_,rfl,q _ hf⟩;exact⟨z,us,r,⟨_,aar _ rfl,rfl,_,rfl⟩⟩
theorem qK(h:PA X es t):PE X (.List es pos) (Th t):=by
 intro pins s σ H Q I hq;refine wpAny_List_spliced (cQ (h pos pins s σ H _ I hq) λus s1 ⟨xs,H1,I1,r,z,q⟩=>⟨by rw[<- r.length];exact z,?_⟩);have hf:H1 s1.heap.objs.size=none:=I1.cB.fresh (aam _);refine⟨.ref s1.heap.objs.size,upd H1 s1.heap.objs.size (.lst xs),I1.laid (t':=s1.toks) (λb u e=>aak _ e) (aam _) ?_,rfl,q _ hf⟩;exact⟨z,us,0,r,aar _ rfl⟩
end
noncomputable abbrev Sp:=af->Hp->VK->XK->Prop
noncomputable abbrev yf:=List Env->Hp->Shared->XK->aD
structure G5(P:aF)(w:World)(K:aq)(mg:aR)(base:Heap)(A:aJ)(outer:List Env)(s:Shared)(H:Hp):Prop where
 frames:A.frames=some outer
 mod:Mod K mg base
 bs:∀b o,base.get? b=some o->s.heap.get? b=some o/\H b=none
 Dl:base.objs.size<=s.heap.objs.size
 jP:s.heap.FunFrames base outer
 zK:∀b∈la outer,H b=none
 cB:jt P w H s.heap
 bare:AllBare s.gens
def CE(outer:List Env)(P:aF)(w:World)(H:Hp)(s:Shared)(Q:VK)(u:Value)(s':Shared):Prop :=
 ∃v H',s'.os=s.os/\AllBare s'.gens/\Un (la outer) [] H H' s.heap s'.heap/\jt P w H' s'.heap/\RelV v u/\Q v H'
noncomputable def CR(CX:yf)(outer:List Env)(P:aF)(w:World)(H:Hp)(s:Shared)(Q:VK)(E:XK)(r:Result)(s':Shared):Prop :=
 match r with
 |.ok (.ret u)=>CE outer P w H s Q u s'
 |.ok _=>False
 |.error e=>CX outer H s E e s'
structure fB(P:aF)(w:World)(K:aq)(mg:aR)(base:Heap)(CX:yf)(k:Nat)(f:Addr)(fd:FuncData)(ps:ag)(sp:Sp):Prop where
 len:∀vs H Q E,sp vs H Q E->vs.length=ps.length
 run:∀(A:aJ) (outer:List Env) (s:Shared) (H:Hp) (args:Args) (us:ak) (vs:af) (Q:VK) (E:XK),gh k A->G5 P w K mg base A outer s H->BindsTo s fd args (ps.zip us)->Vals vs us->sp vs H Q E ->
  codeAny (model P w) A (.call (.ref f) args) (CR CX outer P w H s Q E) s
theorem fB.mono{P:aF}{w:World}{K:aq}{mg:aR}{base:Heap}{CX:yf}{j k:Nat}{f:Addr}{fd:FuncData}{ps:ag}{sp:Sp}(F:fB P w K mg base CX j f fd ps sp)(h:j<=k):
  fB P w K mg base CX k f fd ps sp:=⟨F.len,λA outer s H args us vs Q E hr=>F.run A outer s H args us vs Q E (hr.mono h)⟩
variable {Q:VK}
section
variable {X:Cx}{pins:aj}{σ:St}{H:Hp}{s s':Shared}
theorem Inv.Wv(I:Inv X pins σ H s):G5 X.prog X.w X.K X.mg X.base X.A X.stack s H :=
 ⟨I.ok.frames,I.ok.mod,I.bs,aaC I.ok.Dl I.sz,I.stack,I.kj,I.cB,I.bare⟩
theorem Inv.after{u:Value}(I:Inv X pins σ H s)(h:CE X.stack X.prog X.w H s Q u s'):EP X pins σ Q u s':=by
 obtain⟨v,H',os,bare,un,cB,r,q⟩:=h;obtain⟨hh,g,d,t,Ul⟩:=s';obtain rfl:Ul=s.os:=os;exact⟨v,H',I.call (h':=hh) (g':=g) (d':=d) (t':=t) (ch:=[]) un cB bare (λb z=>absurd z (by simp)),r,q⟩
end
noncomputable def wN(sp:Sp)(gk:af)(E:XK)(t:TA):TE:=λσ H Q=>t σ H λvs H1=>sp (vs++gk) H1 Q E
noncomputable def Binds(K:aq)(fd:FuncData)(ps:ag)(ds:ak):Prop :=
 ∀(s:Shared) (us:ak),K.In s.heap->(us++ds).length=ps.length->BindsTo s fd ⟨us,[]⟩ (ps.zip (us++ds))
variable {K:aq}{ps:ag}
theorem Binds.all{fd:FuncData}(h:∀us:ak,us.length=ps.length->bindArgs fd ⟨us,[]⟩=pure (ps.zip us)):Binds K fd ps []:=λs us _ hl=>by
 rw[List.append_nil]at hl ⊢;exact .of_eq (h us hl)
def Passes(CX:yf)(X:Cx)(E:XK):Prop:=∀(pins:aj) (σ:St) (H:Hp) (s:Shared) (e:Value) (s':Shared),Inv X pins σ H s->CX X.stack H s E e s'->X.xe e s'
variable {H:Hp}{us:ak}{vs:af}
section
variable {X:Cx}{CX:yf}{k:Nat}{f C:Addr}{fd:FuncData}{ps:ag}{sp:Sp}{gk:af}{ds:ak}{E:XK}{x m:Str}{p pos apos:Pos}{e o:Expr}{es:au}{ta:TE}{t:TA}
theorem AD{pins:aj}{σ:St}{s:Shared}(F:fB X.prog X.w X.K X.mg X.base CX k f fd ps sp)(hr:gh k X.A)(hb:Binds X.K fd ps ds)(hd:Vals gk ds)(hx:Passes CX X E)
  (I:Inv X pins σ H s) (r:Vals vs us) (h:sp (vs++gk) H Q E):wpAny (model X.prog X.w) X.A (call (.ref f) us) (EP X pins σ Q) X.xe s:=by
 have r2:Vals (vs++gk) (us++ds):=r.append hd;have hl:(us++ds).length=ps.length:=by rw[<- r2.length];exact F.len _ _ _ _ h
 refine wpAny_call (abP (F.run X.A X.stack s H ⟨us,[]⟩ (us++ds) (vs++gk) Q E hr I.Wv (hb s us I.vG hl) r2 h) λr s' hq=>?_);cases r with
 |error e=>exact hx pins σ H s e s' I hq
 |ok fl =>
  cases fl with
  |ret u=>exact I.after hq
  |next=>exact False.elim hq
  |brk=>exact False.elim hq
  |cont=>exact False.elim hq
theorem qL(F:fB X.prog X.w X.K X.mg X.base CX k f fd ps sp)(hr:gh k X.A)(hg:Gl X x)(hm:X.mg x=some (.ref f))(hk:PySem.W.keepIn X.K (.ref f)=true)(hb:Binds X.K fd ps ds)(hd:Vals gk ds)(hx:Passes CX X E)
  (ha:PA X (e::es) t) (PN:(x==("__debug__" : Str))=false:=by decide) (he:starEach (e::es) X.env=(false,eval e X.env)::starEach es X.env:=by rfl) (hpl:(backTo pos (starEach es X.env)).any (·.1)=false:=by rfl) :
  PE X (.Call (.Name x p) (e::es) [] pos) (wN sp gk E t):=by
 intro pins s σ H Q I h;refine aa4 (qV I hg hm ?_ PN);refine PySem.W.callWith_K (h₀:=X.base) I.ok.mod.RZ hk (cQ (ha pos pins s σ H _ I h) λus s1 ⟨vs,H1,I1,r,q⟩=>⟨I1.vG,?_⟩) he hpl;exact AD F hr hb hd hx I1 r q
structure Mk(K:aq)(C f:Addr):Prop where
 makes:PySem.W.makesIn K C=true
 init:PySem.W.findIn K (.ref C) "__init__" = some (some (.ref f))
 fn:PySem.W.isFn K (.ref f)=true
 kp:PySem.W.keepIn K (.ref C)=true
end
section
variable {X:Cx}{CX:yf}{k:Nat}{f C:Addr}{fd:FuncData}{ps ks:ag}{sp:Sp}{E:XK}{x m:Str}{p pos apos aac:Pos}{e o:Expr}{es:au}{kws:List Keyword}{te ta:TE}{t tk:TA}{nm:Option Str}
structure WZ(K:aq)(fd:FuncData)(ps ks:ag)(g:ak->ak->ak)(gV:af->af->af):Prop where
 to:∀(s:Shared) (us ws:ak),K.In s.heap->(g us ws).length=ps.length->BindsTo s fd ⟨us,ks.zip ws⟩ (ps.zip (g us ws))
 rel:∀{vs:af} {us:ak} {zs:af} {ws:ak},Vals vs us->Vals zs ws->Vals (gV vs zs) (g us ws)
variable {g:ak->ak->ak}{gV:af->af->af}
end
structure eW(N P:ag)(sc:Scope):Prop where
 kind:sc.kind=.function
 co:sc.isCoroutine=false
 gen:sc.isGenerator=false
 nd:N.Nodup
 pre:N.take P.length=P
 par:∀x∈P,sc.names.lookup x=some .local\/sc.names.lookup x=some .cell
 J9:∀y∈sc.names,y.2≠.free
theorem qb{kindOf:Str->Option NameKind}{x:Str}:∀{binds:List (Str×Value)} {m:aR},(∀v,(x,v)∉binds)->bindL kindOf binds m x=m x
 |[],_,_=>rfl
 | (n,v)::r,m,h=>by
  unfold bindL;rw[qb λw hw=>h w (List.mem_cons_of_mem _ hw)];split
  ·have:x≠n:=by rintro rfl;exact h v aai
   simp[this]
  ·rfl
theorem qe{kindOf:Str->Option NameKind}{x:Str}:∀{binds:List (Str×Value)} {m:aR},(∀v,(x,v)∉binds)->bindC kindOf binds m x=m x
 |[],_,_=>rfl
 | (n,v)::r,m,h=>by
  unfold bindC;rw[qe λw hw=>h w (List.mem_cons_of_mem _ hw)];split
  ·rfl
  ·have:x≠n:=by rintro rfl;exact h v aai
   simp[this]
theorem qc{kindOf:Str->Option NameKind}{x:Str}{v:Value}:∀{P:ag} {vs:ak} {i:Nat} {m:aR},P.Nodup->P[i]?=some x->vs[i]?=some v->kindOf x=some .local ->
  bindL kindOf (P.zip vs) m x=some v
 |[],_,_,_,_,h,_,_=>by simp at h
 |_::_,[],_,_,_,_,h,_=>by simp at h
 |p::P,w::vs,0,m,nd,h1,h2,hk=>by
  simp at h1 h2;subst h1;subst h2;show bindL kindOf ((p,w)::P.zip vs) m p=_;unfold bindL;rw[qb λv hv=>(List.nodup_cons.mp nd).1 (List.of_mem_zip hv).1,if_pos hk];simp
 |p::P,w::vs,i+1,m,nd,h1,h2,hk=>by
  show bindL kindOf ((p,w)::P.zip vs) m x=_;unfold bindL;exact qc (i:=i) (List.nodup_cons.mp nd).2 (by simpa using h1) (by simpa using h2) hk
theorem qf{kindOf:Str->Option NameKind}{x:Str}{v:Value}:∀{P:ag} {vs:ak} {i:Nat} {m:aR},P.Nodup->P[i]?=some x->vs[i]?=some v->kindOf x≠some .local ->
  bindC kindOf (P.zip vs) m x=some v
 |[],_,_,_,_,h,_,_=>by simp at h
 |_::_,[],_,_,_,_,h,_=>by simp at h
 |p::P,w::vs,0,m,nd,h1,h2,hk=>by
  simp at h1 h2;subst h1;subst h2;show bindC kindOf ((p,w)::P.zip vs) m p=_;unfold bindC;rw[qe λv hv=>(List.nodup_cons.mp nd).1 (List.of_mem_zip hv).1,if_neg hk];simp
 |p::P,w::vs,i+1,m,nd,h1,h2,hk=>by
  show bindC kindOf ((p,w)::P.zip vs) m x=_;unfold bindC;exact qf (i:=i) (List.nodup_cons.mp nd).2 (by simpa using h1) (by simpa using h2) hk
noncomputable def start(N:ag)(vs:af):St:=vs.map some++List.replicate (N.length - vs.length) none
noncomputable def iH(CX:yf)(P:aF)(w:World)(K:aq)(mg:aR)(base:Heap)(N:ag)(qual:Str)(scope:Scope)(f:Addr)(cd:Value)(A:aJ)(outer:List Env)(s:Shared)(H:Hp)(E:XK):Cx where
 prog:=P
 w:=w
 K:=K
 mg:=mg
 base:=base
 A:=A.deeper (envOfC qual scope s.heap.objs.size f cd)
 N:=N
 s₀:=s
 H₀:=H
 env:=envOfC qual scope s.heap.objs.size f cd
 outer:=outer
 stack:=envOfC qual scope s.heap.objs.size f cd::outer
 ex:=[]
 calm:=true
 fn:=λ_=>true
 pn:=[]
 xe:=λe s'=>wpAny (model P w) (A.deeper (envOfC qual scope s.heap.objs.size f cd)) (leaving (envOfC qual scope s.heap.objs.size f cd) e) (λ_ TZ=>CX outer H s E e TZ) (λe' TZ=>CX outer H s E e' TZ) s'
theorem uy{sc:Scope}{n:Nat}{x:Str}(h:sc.names.lookup x=some .cell):∃c,(cellsFrom n sc.names []).lookup x=some c:=by
 have q:=PySem.W.cellsFrom_some sc.names n [] (.inl h);exact Option.isSome_iff_exists.mp q
variable {P:aF}{base:Heap}{mg:Str->Option Value}{qual:Str}{scope:Scope}{w:World}
theorem yQ{CX:yf}{N:ag}{f:Addr}{cd:Value}{outer:List Env}{s s1:Shared}{E:XK}  
  (S:eW N ps scope) (hd:A.handled=none) (e0:G5 P w K mg base A outer s H) (hl:vs.length=ps.length) (r:Vals vs us)
  (x:InCallC s s.heap.objs.size (bindL (envOfC qual scope s.heap.objs.size f cd).kindOf (ps.zip us) λ_=>none) (cellsFrom (s.heap.objs.size+1) scope.names []) (bindC (envOfC qual scope s.heap.objs.size f cd).kindOf (ps.zip us) λ_=>none) s1) :
  Inv (iH CX P w K mg base N qual scope f cd A outer s H E) [] (start N vs) H s1:=by
 have hpl:ps.length<=N.length:=by have:=aaW List.length S.pre;rw[List.length_take]at this;left
 obtain⟨h1,tk,rfl,hk⟩:=x.done;have Oo:∀b:Addr,b∉(iH CX P w K mg base N qual scope f cd A outer s H E).ex:=λb z=>absurd (show b∈([]:bc) from z) (by simp);refine⟨⟨e0.mod,S.kind,rfl,rfl,aam _,λy z c h1 h2=>?_,λy hy=>?_,λy c _ h=>?_,λ_=>hd,Around.frames_deeper e0.frames,.inr ⟨rfl,rfl⟩,λb z=>absurd z (Oo b),e0.bs,e0.Dl,λb _ _=>Oo b,λb z=>absurd z (Oo b),e0.jP,e0.zK⟩,
  rfl,e0.bare,Un.kept hk,⟨_,x.toInCall.ns,λi y v h1 h2 h3=>?_⟩,λy c h=>⟨_,x.cell y c h⟩,e0.cB.fresh (aam _),λy c h=>?_,λp hp=>absurd (show p∈([]:aj) from hp) (by simp),e0.cB.kept hk,?_⟩
 ·exact name_of_addr x.apart (aa2 h1) (aa2 h2)
 ·have hy:scope.names.lookup y=some .cell\/scope.names.lookup y=some .free:=hy;rcases hy with hy|hy
  ·exact uy hy
  ·exact absurd rfl (S.J9 _ (aa2 hy))
 ·exact Nat.le_of_lt (x.above y c (aa2 h))
 ·have hi:i<vs.length:=by
   unfold start at h2;by_cases hi:i<vs.length
   ·exact hi
   ·rw[List.getElem?_append_right (by simpa using hi)]at h2;rw[List.getElem?_replicate]at h2;split at h2<;>cases h2
  have ha:vs[i]?=some v:=by
   unfold start at h2;rw[List.getElem?_append_left (by simpa using hi),List.getElem?_map]at h2;cases e:vs[i]? with
   |none=>rw[e]at h2;cases h2
   |some a=>rw[e]at h2;cases h2;rfl
  obtain⟨u,hu,rv⟩:=r.get ha;have hp:ps[i]?=some y:=by
   rw[<- S.pre,List.getElem?_take_of_lt (by left)];exact h1
  have Xx:ps.Nodup:=by rw[<- S.pre];exact S.nd.sublist (List.take_sublist _ _)
  refine⟨u,rv,?_⟩;rcases S.par y (aaB hp)with k|k
  ·exact .inl ⟨k,qc Xx hp hu k⟩
  ·obtain⟨c,e⟩:=uy (n:=s.heap.objs.size+1) k;refine .inr ⟨.inl k,c,e,?_⟩;have q:=x.cell y c e;rw[qf Xx hp hu (by show scope.names.lookup y≠_;rw[k];decide)]at q;exact q
 ·exact e0.cB.fresh (Nat.le_of_lt (x.above y c (aa2 h)))
 ·unfold start;show _=N.length;rw[List.length_append,List.length_map,List.length_replicate];left
theorem Ia{CX:yf}{k:Nat}{f:Addr}{name:Str}{params:Arguments}{body:aS}{dV kV doc pm fG ct oc:Value}{an od:Option Addr}
  {A_:Array (Option Value)} {N:ag} {sp:Sp} (lk:K.lookup f=some ⟨oc,od,.func (PySem.W.fnOf name qual params body scope dV kV doc pm an fG ct),A_⟩) (tZ:PySem.W.codeIn K fG qual=true) (S:eW N ps scope)
  (len:∀vs H Q E,sp vs H Q E->vs.length=ps.length)
  (t4:∀(A:aJ) (outer:List Env) (s:Shared) (H:Hp) (vs:af) (Q:VK) (E:XK),gh k (A.deeper (envOfC qual scope s.heap.objs.size f fG))->sp vs H Q E ->
   ∃t,ir (iH CX P w K mg base N qual scope f fG A outer s H E) body t/\t { nx:=λ_ H'=>Q .bB H',rt:=Q } (start N vs) H) :
  fB P w K mg base CX (k+1) f (PySem.W.fnOf name qual params body scope dV kV doc pm an fG ct) ps sp:=by
 refine⟨len,λA outer s H args us vs Q E hr e0 hb r sj=>?_⟩;have hl:=len _ _ _ _ sj;have KX:K.In s.heap:=e0.mod.RZ.keeps λb o e=>(e0.bs b o e).1;have lim:s.heap.NoLimit:=e0.mod.nolimit.keeps λb o e=>(e0.bs b o e).1;have Pt:∀y∈ps.zip us,scope.names.lookup y.1=some .local\/(scope.names.lookup y.1=some .cell/\((cellsFrom (s.heap.objs.size+1) scope.names []).lookup y.1).isSome=true):=λ⟨n,v⟩ hy=>by
  rcases S.par n (List.of_mem_zip hy).1 with q|q
  ·exact .inl q
  ·exact .inr ⟨q,PySem.W.cellsFrom_some _ _ _ (.inl q)⟩
 refine codeAny_call_function hr.depth (KX _ _ lk) rfl S.co S.gen rfl (PySem.W.codeRec_of KX tZ) (hb _ _ _ _ ?_);refine wpAny_newFunctionEnv_cells S.kind Pt λenv he s1 x=>?_;subst he;refine⟨lim.keeps x.toInCall.keep,codeAny_func ?_⟩;obtain⟨t,ht,hq⟩:=t4 A outer s H vs Q E (hr.deeper _) sj;have I:Inv (iH CX P w K mg base N qual scope f fG A outer s H E) [] (start N vs) H s1:=yQ S hr.hd e0 hl r x;refine aav (ht [] s1 (start N vs) H _ I hq) (λfl s' hs=>?_) λe s' hs=>hs;have fin:∀{σ':St} {H':Hp} {v:V} {u:Value},Inv (iH CX P w K mg base N qual scope f fG A outer s H E) [] σ' H' s'->RelV v u->Q v H'->CE outer P w H s Q u s' :=
  λ{σ' H' v u} J rv q=>⟨v,H',J.os,J.bare,J.base,J.cB,rv,q⟩
 cases fl with
 |ret u =>
  obtain⟨v,σ',H',J,rv,q⟩:=hs;exact fin J rv q
 |next =>
  obtain⟨σ',H',J,q⟩:=hs;exact fin (v:=V.bB) (u:=Value.none) J rfl q
 |brk =>
  obtain⟨_,_,_,q⟩:=hs;exact False.elim q
 |cont =>
  obtain⟨_,_,_,q⟩:=hs;exact False.elim q
end L2
namespace L2
open PySem PySem.Spec PyProof.Rows
section
variable {X:Cx}{x:Str}{p pos:Pos}{e:Expr}{es:au}{t:TA}{id T:String}{r:af->Hp->VK->Prop}
noncomputable def Np(r:af->Hp->VK->Prop)(t:TA):TE:=λσ H Q=>t σ H λvs H1=>r vs H1 Q
theorem cS(hc:fh X (.builtin id) r)(hg:Gl X x)(hm:X.mg x=none)(hv:bootBuiltins x=some (.builtin id))(ha:PA X (e::es) t)(hn:x ≠ "__name__":=by decide)(PN:(x==("__debug__" : Str))=false:=by decide)
  (he:starEach (e::es) X.env=(false,eval e X.env)::starEach es X.env:=by rfl) (hpl:(backTo pos (starEach es X.env)).any (·.1)=false:=by rfl):PE X (.Call (.Name x p) (e::es) [] pos) (Np r t):=by
 intro pins s σ H Q I h;refine aa4 (gx I hg hm hv ?_ hn PN);exact PyProof.Rows.callWith_builtin1 (cQ (ha pos pins s σ H _ I h) λus s1 ⟨vs,H1,I1,r1,q1⟩=>hc pins s1 σ H1 vs us Q I1 r1 q1) he hpl
theorem kZ(hc:fh X (.type T) r)(hg:Gl X x)(hm:X.mg x=none)(hv:bootBuiltins x=some (.type T))(ha:PA X (e::es) t)(hn:x ≠ "__name__":=by decide)(PN:(x==("__debug__" : Str))=false:=by decide)
  (he:starEach (e::es) X.env=(false,eval e X.env)::starEach es X.env:=by rfl) (hpl:(backTo pos (starEach es X.env)).any (·.1)=false:=by rfl):PE X (.Call (.Name x p) (e::es) [] pos) (Np r t):=by
 intro pins s σ H Q I h;refine aa4 (gx I hg hm hv ?_ hn PN);exact aaD (cQ (ha pos pins s σ H _ I h) λus s1 ⟨vs,H1,I1,r1,q1⟩=>hc pins s1 σ H1 vs us Q I1 r1 q1) he hpl
end
end L2
namespace HT
open PySem PyProof.Rows
noncomputable def lexLt:ae->ae->Bool
 |[],[]=>false
 |[],_::_=>true
 |_::_,[]=>false
 |x::xs,y::ys=>if x=y then lexLt xs ys else decide (x<y)
theorem dG(x y:Int)(xs ys:ae):lexLt (x::xs) (y::ys)=if x=y then lexLt xs ys else decide (x<y):=rfl
theorem jD:lexLt [] []=false:=rfl
theorem nE(y:Int)(ys:ae):lexLt [] (y::ys)=true:=rfl
theorem cT(x:Int)(xs:ae):lexLt (x::xs) []=false:=rfl
theorem uj(A:aJ)(s:Shared)(a:Int)(t:Tok)(c:Int)(u:Tok):∃e,SeqAt.EqAt A s (.int a t) (.int c u) e/\(e=true ↔ a=c) :=
 ⟨(a==c),abu a t c u,by simp⟩
theorem AH(A:aJ)(s:Shared)(a:Int)(t:Tok)(c:Int)(u:Tok)(prog:aF)(w:World)(E:aD)(Q:aD)(h:Q (.bool (decide (a<c))) s):
  wpAny (model prog w) A (richCompare .Lt (.int a t) (.int c u)) Q E s :=
 (PyProof.Rows.lt_int h:wpAny (model prog w) A (compareOp .Lt (.int a t) (.int c u)) Q E s)
section
open PySem.SeqAt
open PySem.AutoSeq1 (wpAny_loadPart')
open PySem.MeetsSeq PySem.MeetsSeq2 PySem.MeetsSeq3
theorem jB(l b:Addr)(items dt:aV)(n n2:Nat)(dd v9:Option Addr)(sl uR:Array (Option Value))(ns ms:ae)(hi:IntsAre items.toList ns)(hj:IntsAre dt.toList ms):
  Meets (Builtin.«tuple.__lt__» ⟨[.ref l,.ref b],[]⟩)
   (λ_ R s=>s.heap.get? l=some { cls:=.type "tuple",dict:=dd,data:=.seq items n,slots:=sl }/\s.heap.get? b=some { cls:=.type "tuple",dict:=v9,data:=.seq dt n2,slots:=uR } /\
    R (.ok (.ret (.bool (lexLt ns ms)))) s) :=
 .of_wp λprog w A R s h=>by
  obtain⟨hp,g,d,tk,os⟩:=s;obtain⟨hl,hb,h⟩:=h;have f2:=AutoSeq1.sub_tuple_tuple;have z1:items.size=ns.length:=by rw[<- hi.length];simp
  have z2:dt.size=ms.length:=by rw[<- hj.length];simp
  wp_walk using wpAny_loadPart' hl,wpAny_loadPart' hb,wpAny_forIn_list _ (λrest b s'=>b.1=none/\s'=⟨hp,g,d,tk,os⟩/\∃(vs ws:ak) (kR zB:ae),rest=vs.zip ws /\
   IntsAre vs kR/\IntsAre ws zB/\kR.length+dt.size=zB.length+items.size/\R (.ok (.ret (.bool (lexLt kR zB)))) ⟨hp,g,d,tk,os⟩) _
  case turn =>
   rintro ⟨y,x⟩ rest b s' ⟨uS,rfl,vs,ws,kR,zB,hz,KH,HU,hlen,hR⟩;cases KH with
   |nil=>rw[List.zip_nil_left]at hz;cases hz
   |cons a t hvi' =>
    cases HU with
    |nil=>rw[List.zip_nil_right]at hz;cases hz
    |cons c u hwi' =>
     rw[List.zip_cons_cons]at hz;injection hz with U5 BW
     injection U5 with hy hx
     subst hy hx;rw[dG]at hR;simp only[List.length_cons]at hlen;obtain⟨e,he,B6⟩:=uj A.in1 ⟨hp,g,d,tk,os⟩ a t c u;refine aaa (he prog w _ _ ?_);cases e with
     |true =>
      rw[if_pos (B6.mp rfl)]at hR
      wp_walk
      exact⟨rfl,rfl,_,_,_,_,BW,hvi',hwi',by left,hR⟩
     |false =>
      rw[if_neg (λq=>absurd (B6.mpr q) Bool.false_ne_true)]at hR;have Ve:=AH A.in1 ⟨hp,g,d,tk,os⟩ a t c u prog w
      wp_walk using Ve
      exact⟨_,rfl,by simpa using hR⟩
  case fin =>
   rintro ⟨b1,b2⟩ s' ⟨uS,rfl,vs,ws,kR,zB,hz,KH,HU,hlen,hR⟩;simp only at uS;subst uS;have hv:lexLt kR zB=decide (items.size<dt.size):=by
    cases KH with
    |nil =>
     cases HU with
     |nil =>
      simp only[List.length_nil]at hlen;rw[jD];exact(aaV (by left)).symm
     |cons c u hw =>
      simp only[List.length_nil,List.length_cons]at hlen;rw[nE];exact(aaG (by left)).symm
    |cons a t hv =>
     cases HU with
     |nil =>
      simp only[List.length_nil,List.length_cons]at hlen;rw[cT];exact(aaV (by left)).symm
     |cons c u hw =>
      rw[List.zip_cons_cons]at hz;cases hz
   rw[hv]at hR
   wp_walk
   exact⟨_,rfl,by simpa [Builtin.Tuple.tupleCompareSizes]using hR⟩
  case h =>
   exact⟨rfl,rfl,items.toList,dt.toList,ns,ms,rfl,hi,hj,by left,h⟩
end
variable {Q:Value->Shared->Prop}
section
variable {prog:aF}{w:World}{A:aJ}{E:aD}{s:Shared}
theorem vx{l b:Addr}{items dt:aV}{ns ms:ae}(hl:IsTup s.heap l items)(hb:IsTup s.heap b dt)(hi:IntsAre items.toList ns)(hj:IntsAre dt.toList ms)
  (hu:A.units<cLine) (h:Q (.bool (lexLt ns ms)) s):wpAny (model prog w) A (compareOp .Lt (.ref l) (.ref b)) Q E s:=by
 obtain⟨⟨cls,dd,data,sl⟩,ho,hc,n,hd⟩:=id hl;obtain⟨⟨GD,v9,data2,uR⟩,qW,hc2,n2,hd2⟩:=id hb;simp only at hc hd hc2 hd2;subst hc hd hc2 hd2;exact richCompare_meets_room (op:=.Lt) ⟨_,ho,rfl⟩ ⟨_,qW,rfl⟩ abH PySem.F.entry_tuple_lt (PySem.F.args_tuple_lt_2 _ _) (jB l b items dt n n2 dd v9 sl uR ns ms hi hj)
  ⟨ho,qW,show Value.bool (lexLt ns ms)≠Value.notImplemented/\Q (.bool (lexLt ns ms)) s from⟨(λx=>nomatch x),h⟩⟩ hu
theorem GH{t b:Addr}{vs ws:ak}(ht:IsTup s.heap t vs.toArray)(hb:IsTup s.heap b ws.toArray)(hv:vs≠[])
  (h1:ws=[]->Q (.ref t) s) (h2:ws≠[]->Q (.ref s.heap.objs.size) { s with heap:=s.heap.push { cls:=.type "tuple",data:=.seq (vs++ws).toArray } })
  (hsz:vs.length+ws.length<=sizeLine):wpAny (model prog w) A (binaryOp .Add (.ref t) (.ref b)) Q E s:=by
 obtain⟨⟨cls,dd,data,sl⟩,ho,hc,n,hd⟩:=id ht;obtain⟨⟨GD,v9,data2,uR⟩,qW,hc2,n2,hd2⟩:=id hb;simp only at hc hd hc2 hd2;subst hc hd hc2 hd2;have e:vs.toArray++ws.toArray=(vs++ws).toArray:=by simp
 by_cases hw:ws=[]
 ·exact concat_meets ⟨_,ho,rfl⟩ ⟨_,qW,rfl⟩ noFill_tuple_add seq_tuple_add abB abz (abv _ _)
   (tuple_addW1 t b vs.toArray ws.toArray n n2 dd v9 sl uR (by simpa using hv) (by simp[hw])) ⟨ho,qW,h1 hw⟩
 ·refine concat_meets ⟨_,ho,rfl⟩ ⟨_,qW,rfl⟩ noFill_tuple_add seq_tuple_add abB abz (abv _ _)
   (tuple_addW2 t b vs.toArray ws.toArray n n2 dd v9 sl uR (by simpa using hv) (by simpa using hw) (by rw[List.size_toArray,List.size_toArray];exact hsz)) ⟨ho,qW,?_⟩
  rw[e];exact h2 hw
noncomputable def sh(n d:Nat):Option Int->Nat
 |none=>d
 |some v=>if v<0 then(v+(n:Int)).toNat else min v.toNat n
theorem AB(n d:Nat):sh n d none=d:=rfl
end
end HT
namespace L2
open PySem PySem.Spec PyProof.Rows
noncomputable abbrev TO:=St->Hp->(Option Int->Hp->Prop)->Prop
noncomputable def PO(X:Cx)(e:Option Expr)(t:TO):Prop :=
 ∀(pins:aj) (s:Shared) (σ:St) (H:Hp) (Q:Option Int->Hp->Prop),Inv X pins σ H s->t σ H Q ->
  wpAny (model X.prog X.w) X.A (evalPart e X.env) (λu s'=>∃o H',Inv X pins σ H' s'/\IsPart u o/\Q o H') X.xe s
noncomputable def Em:TO:=λ_ H Q=>Q none H
noncomputable def Ng(t:TE):TO:=λσ H Q=>t σ H λx H1=>∃i,x=.int i/\Q (some i) H1
theorem intsAre_of{ns:ae}:∀{us:ak},Vals (ns.map V.int) us->IntsAre us ns:=by
 induction ns with
 |nil=>intro us r;rw[List.map_nil]at r;cases r;exact .nil
 |cons n ns ih =>
  intro us r;rw[List.map_cons]at r;cases r with
  |cons r1 r2 =>
   obtain⟨t,e⟩:=r1;subst e;exact .cons n t (ih r2)
section
variable {X:Cx}{e:Expr}{te:TE}{lo hi:Option Expr}{tl th:TO}{pos p2:Pos}
theorem qI:PO X none Em:=by
 intro pins s σ H Q I h;rw[evalPart_none];exact aah ⟨none,H,I,.none,h⟩
theorem qH(h:PE X e te):PO X (some e) (Ng te):=by
 intro pins s σ H Q I hw;rw[evalPart_some];refine cQ (h pins s σ H _ I hw) λu s1 bK=>?_;obtain⟨x,H1,I1,r1,q1⟩:=bK;obtain⟨i,rfl,q⟩:=q1;obtain⟨t,rfl⟩:=r1;exact⟨some i,H1,I1,.int i t,q⟩
def WV(X:Cx)(r:V->Option Int->Option Int->Hp->VK->Prop):Prop :=
 ∀(pins:aj) (s:Shared) (σ:St) (H:Hp) (x:V) (v vl vu:Value) (lo hi:Option Int) (sl:Addr) (Q:VK),Inv X pins σ H s->RelV x v->s.heap.IsSliceOf sl vl vu .none->IsPart vl lo->IsPart vu hi->r x lo hi H Q ->
  ∃T id,typeLookup (.type T) "__getitem__" = pure (some (.builtin id))/\s.TypeIs v T/\wpAny (model X.prog X.w) X.A (getItem v (.ref sl)) (EP X pins σ Q) X.xe s
noncomputable def Zo(r:V->Option Int->Option Int->Hp->VK->Prop)(te:TE)(tl th:TO):TE:=λσ H Q=>te σ H λx H1=>tl σ H1 λl H2=>th σ H2 λu H3=>r x l u H3 Q
theorem tE{r:V->Option Int->Option Int->Hp->VK->Prop}(hr:WV X r)(he:PE X e te)(hl:PO X lo tl)(hu:PO X hi th):PE X (.Subscript e (.Slice lo hi none p2) pos) (Zo r te tl th):=by
 intro pins s σ H Q I h;refine Subscript_ (cQ (he pins s σ H _ I h) λv s1 bK=>?_);obtain⟨x,H1,I1,r1,q1⟩:=bK;refine wpAny_Slice (cQ (hl pins s1 σ H1 _ I1 q1) λvl s2 ⟨l,H2,I2,pl,q2⟩=>cQ (hu pins s2 σ H2 _ I2 q2) λvu s3 bK=>?_);obtain⟨u,H3,I3,pu,q3⟩:=bK;rw[evalPart_none];refine aah ?_;have I4:Inv X pins σ H3 { s3 with heap:=s3.heap.push { cls:=.type "slice",data:=.fields #[vl,vu,.none] } }:=I3.kept (t':=s3.toks) λb ob q=>aak _ q;obtain⟨T,id,hT,ht,hg⟩:=hr pins { s3 with heap:=s3.heap.push { cls:=.type "slice",data:=.fields #[vl,vu,.none] } } σ H3 x v vl vu l u s3.heap.objs.size Q I4 r1 (Heap.IsSliceOf.new ..) pl pu q3;show wpAny (model X.prog X.w) X.A (subscriptTail e (.Slice lo hi none p2) v (.ref s3.heap.objs.size)) (EP X pins σ Q) X.xe { s3 with heap:=s3.heap.push { cls:=.type "slice",data:=.fields #[vl,vu,.none] } };exact tail_any (ops:=[.ref s3.heap.objs.size,v]) ht hT hg (by with_unfolding_all rfl)
def ze(xs:af)(lo hi:Option Int):af:=(xs.drop (HT.sh xs.length 0 lo)).take (HT.sh xs.length xs.length hi - HT.sh xs.length 0 lo)
theorem ur(xs:af)(lo hi:Option Int):(ze xs lo hi).length<=xs.length:=by
 unfold ze;rw[List.length_take,List.length_drop];left
def NZ(K:aq):R2:=λx y H Q=>∃a b xs ys,x=.ref a/\y=.ref b/\bh K H a xs/\bh K H b ys/\xs≠[]/\xs.length+ys.length<=sizeLine /\
 (ys=[]->Q (.ref a) H)/\(ys≠[]->∀p,H p=none->Q (.ref p) (upd H p (.tup (xs++ys))))
theorem Vals.qO{xs:af}{us:ak}(r:Vals xs us):us=[] ↔ xs=[]:=by
 cases r with
 |nil=>simp
 |cons _ _=>simp
theorem Fd:jG X (binaryOp .Add) (NZ X.K):=by
 intro pins s σ H x y v u Q I rx ry h;obtain⟨a,b,xs,ys,rfl,rfl,ha,hb,hx,hz,q1,q2⟩:=h;cases rx;cases ry;obtain⟨aM,r1,p1,_⟩:=I.tuple ha;obtain⟨vH,r2,p2,_⟩:=I.tuple hb;refine HT.GH p1 p2 (λz=>hx (r1.qO.mp z)) (λz=>⟨.ref a,H,I,rfl,q1 (r2.qO.mp z)⟩) (λz=>?_) (by rw[<- r1.length,<- r2.length];exact hz);refine⟨.ref s.heap.objs.size,_,I.laid (t':=s.toks) (o:=.tup (xs++ys)) (λb ob q=>aak _ q) (aam _) ?_,rfl,q2 (λw=>z (r2.qO.mpr w)) _ (I.cB.fresh (aam _))⟩;exact⟨by rw[List.length_append];exact hz,_,r1.append r2,IsTup.new _ _⟩
end
end L2
namespace L2
open PySem PySem.Spec PyProof.Rows
noncomputable def zC(n:Nat)(i:Int):Option Nat:=if 0<=i then(if i<n then some i.toNat else none)else if -(n:Int)<=i then some (i+n).toNat else none
def Iu{α:Type}(xs:List α)(i:Int):Option α:=(zC xs.length i).bind λj=>xs[j]?
theorem xr{n:Nat}{i:Int}{j:Nat}(h:zC n i=some j):seqIndex? i n=some j/\j<n /\ -(n:Int)<=i/\i<n:=by
 unfold zC at h;by_cases h0:0<=i
 ·rw[if_pos h0]at h;by_cases h1:i<n
  ·rw[if_pos h1]at h;have e:i.toNat=j:=aat h;exact⟨by rw[seqIndex_of h0 h1,e],by left,by left,h1⟩
  ·rw[if_neg h1]at h;cases h
 ·rw[if_neg h0]at h;by_cases h1:-(n:Int)<=i
  ·rw[if_pos h1]at h;have e:(i+n).toNat=j:=aat h;exact⟨by rw[seqIndex_neg (by left) h1,e],by left,h1,by left⟩
  ·rw[if_neg h1]at h;cases h
theorem xZ{α:Type}{xs:List α}{i:Int}{v:α}(h:Iu xs i=some v):∃j,seqIndex? i xs.length=some j/\xs[j]?=some v/\j<xs.length /\ -(xs.length:Int)<=i/\i<xs.length:=by
 unfold Iu at h;cases e:zC xs.length i with
 |none=>rw[e]at h;cases h
 |some j =>
  rw[e]at h;obtain⟨h1,h2,h3,h4⟩:=xr e;exact⟨j,h1,h,h2,h3,h4⟩
def iq(b:Expr):Prop:=∀o i,subscripted b false o i=operate [o,i] (getItem o i)
def IB(X:Cx)(r:R2):Prop :=
 ∀(value slice:Expr) (pins:aj) (s:Shared) (σ:St) (H:Hp) (x y:V) (v u:Value) (Q:VK),Inv X pins σ H s->RelV x v->RelV y u->r x y H Q ->
  subscripted slice false v u=operate [v,u] (getItem v u)->wpAny (model X.prog X.w) X.A (subscriptTail value slice v u) (EP X pins σ Q) X.xe s
def SO(X:Cx)(id:String)(r:V->af->Hp->VK->Prop):Prop :=
 ∀(pins:aj) (s:Shared) (σ:St) (H:Hp) (x:V) (xs:af) (v:Value) (us:ak) (Q:VK),Inv X pins σ H s->RelV x v->Vals xs us->r x xs H Q ->
  wpAny (model X.prog X.w) X.A (call (.builtin id) (v::us)) (EP X pins σ Q) X.xe s
variable {H:Hp}{σ:L2.St}
section
variable {X:Cx}{a b:Expr}{ta tb:TE}{pos:Pos}
theorem IB.or{r r':R2}(h:IB X r)(h':IB X r'):IB X (λx y H Q=>r x y H Q\/r' x y H Q):=by
 intro value slice pins s σ H x y v u Q I rx ry q hs;rcases q with q|q
 ·exact h value slice pins s σ H x y v u Q I rx ry q hs
 ·exact h' value slice pins s σ H x y v u Q I rx ry q hs
theorem AZ{r:R2}(hr:IB X r)(ha:PE X a ta)(hb:PE X b tb)(hs:iq b):PE X (.Subscript a b pos) (Hc r ta tb):=by
 intro pins s σ H Q I h;exact Subscript_ (L8 ha hb I h λv u s2 x y H2 I2 rx ry q=>hr a b pins s2 σ H2 x y v u Q I2 rx ry q (hs _ _))
def T9(K:aq):R2:=λx y H Q=>∃p xs i v,x=.ref p/\y=.int i/\dO K H p xs/\Iu xs i=some v/\Q v H
def T8(K:aq):R2:=λx y H Q=>∃p xs i v,x=.ref p/\y=.int i/\bh K H p xs/\Iu xs i=some v/\Q v H
theorem xq:IB X (T9 X.K):=by
 intro value slice pins s σ H x y v u Q I rx ry h hs;obtain⟨p,xs,i,z,rfl,rfl,hq,he,q⟩:=h;cases rx;obtain⟨t,rfl⟩:=ry;obtain⟨aM,r,pl,hz⟩:=I.list hq;obtain⟨j,h1,h2,h3,h4,h5⟩:=xZ he;obtain⟨w,ew,mm⟩:=r.get h2;have hl:=r.length;have hn:=qS;have fin:EP X pins σ Q w s:=⟨z,H,I,mm,q⟩
 by_cases h0:0<=i
 ·have hj:i.toNat=j:=by
   rw[seqIndex_of h0 h5]at h1;exact aat h1
  exact item_listR pl.isList h0 (by left) (by rw[hj];simpa using ew) fin hs
 ·have hj:(i+(aM.toArray.size:Int)).toNat=j:=by
   rw[seqIndex_neg (by left) h4]at h1;rw[List.size_toArray,<- hl];exact aat h1
  exact abC (x:=w) pl.isList.typeIs slot_list_getitem.lookup
   (wpAny_getItem_list_neg (Q:=λr s'=>r=w/\EP X pins σ Q r s') pl.isList (by left) (by rw[List.size_toArray]<;>omega) (by left) (by rw[hj];simpa using ew) ⟨rfl,fin⟩) hs
theorem Kt:IB X (T8 X.K):=by
 intro value slice pins s σ H x y v u Q I rx ry h hs;obtain⟨p,xs,i,z,rfl,rfl,hq,he,q⟩:=h;cases rx;obtain⟨t,rfl⟩:=ry;obtain⟨aM,r,pl,hz⟩:=I.tuple hq;obtain⟨j,h1,h2,h3,h4,h5⟩:=xZ he;obtain⟨w,ew,mm⟩:=r.get h2;have hl:=r.length;have hn:=qS;have fin:EP X pins σ Q w s:=⟨z,H,I,mm,q⟩
 exact abC (x:=w) pl.typeIs slot_tuple_getitem.lookup
  (getItem_tuple (j:=j) (Q:=λr s'=>r=w/\EP X pins σ Q r s') pl (by left) (by left) (by rw[List.size_toArray,<- hl];exact h1) (by simpa using ew) ⟨rfl,fin⟩) hs
theorem vw(aM:ak)(n j:Nat)(u:Value):Obj.mapSeq (·.setIfInBounds j u) { cls:=.type "list",data:=.seq aM.toArray n }={ cls:=.type "list",data:=.seq (aM.set j u).toArray n }:=by
 simp[Obj.mapSeq]
theorem Inv.lst{pins:aj}{σ:St}{H:Hp}{s:Shared}{p:Addr}{xs:af}(I:Inv X pins σ H s)(h:H p=some (.lst xs)):
  ∃(aM:ak) (n:Nat),Vals xs aM/\s.heap.get? p=some { cls:=.type "list",data:=.seq aM.toArray n }/\xs.length<=sizeLine:=by
 obtain⟨z,aM,n,r,e⟩:=I.cB p _ h;exact⟨aM,n,r,e,z⟩
theorem Inv.Kh{pins:aj}{s:Shared}{p:Addr}{xs ys:af}{aM its':ak}{n n':Nat}{f:Obj->Obj}(I:Inv X pins σ H s)(h:H p=some (.lst xs))
  (ho:s.heap.get? p=some { cls:=.type "list",data:=.seq aM.toArray n }) (hf:f { cls:=.type "list",data:=.seq aM.toArray n }={ cls:=.type "list",data:=.seq its'.toArray n' }) (r:Vals ys its') (hz:ys.length<=sizeLine) (t:Nat) :
  Inv X pins σ (upd H p (.lst ys)) { s with heap:=s.heap.update p f,toks:=t }:=by
 have e:(s.heap.update p f).get? p=some { cls:=.type "list",data:=.seq its'.toArray n' }:=by
  rw[Heap.get?_update_self f ho (by rw[hf]<;>rfl),hf]
 refine I.write (x:=p) (e:=p) (by rw[h];trivial) (.inl rfl) (λb u hb q=>(aaK _ _ (abi hb)).trans q) ⟨_,e⟩ ?_;exact⟨hz,its',n',r,e⟩
def NW:V->V->V->Hp->(Hp->Prop)->Prop:=λo i v H Q=>∃p xs k j,o=.ref p/\i=.int k/\H p=some (.lst xs)/\zC xs.length k=some j/\Q (upd H p (.lst (xs.set j v)))
theorem set_list:Rb X NW:=by
 intro pins s σ H o i v ov iv u Q I ro ri rv h;obtain⟨p,xs,k,j,rfl,rfl,hp,hj,q⟩:=h;cases ro;obtain⟨t,rfl⟩:=ri;obtain⟨aM,n,r,ho,hz⟩:=I.lst hp;obtain⟨h1,h2,h3,h4⟩:=xr hj;have hl:=r.length;have hn:=qS;have I':Inv X pins σ (upd H p (.lst (xs.set j v))) { s with heap:=s.heap.update p (Obj.mapSeq (·.setIfInBounds j u)) } :=
  I.Kh hp ho (vw aM n j u) (r.set rv j) (by rw[List.length_set];exact hz) s.toks
 by_cases h0:0<=k
 ·have hk:k.toNat=j:=by
   rw[seqIndex_of h0 h4]at h1;exact aat h1
  exact PySem.W.ki_setAt ho h0 (by left) (by rw[List.size_toArray,<- hl];exact h4) (by rw[hk];exact⟨_,I',q⟩)
 ·have hk:(k+(aM.toArray.size:Int)).toNat=j:=by
   rw[seqIndex_neg (by left) h3]at h1;rw[List.size_toArray,<- hl];exact aat h1
  exact PySem.W.ki_setBack ho (by left) (by rw[List.size_toArray,<- hl];exact h3) (by left) (by rw[hk];exact⟨_,I',q⟩)
theorem qu(lo hi:Option Int)(n:Nat):(sliceBounds lo hi none n).1=((HT.sh n 0 lo:Nat):Int)/\(sliceBounds lo hi none n).2.1=((HT.sh n n hi:Nat):Int)/\(sliceBounds lo hi none n).2.2=1:=by
 refine⟨?_,?_,rfl⟩
 ·cases lo with
  |none=>simp[sliceBounds,HT.sh]
  |some i =>
   simp only[sliceBounds,HT.sh,Option.getD_none,show(1:Int)>0 by decide,if_true];by_cases h:i<0
   ·simp only[h,if_true]<;>left
   ·simp only[h,if_false]<;>left
 ·cases hi with
  |none=>simp[sliceBounds,HT.sh]
  |some i =>
   simp only[sliceBounds,HT.sh,Option.getD_none,show(1:Int)>0 by decide,if_true];by_cases h:i<0
   ·simp only[h,if_true]<;>left
   ·simp only[h,if_false]<;>left
theorem oQ(aM:ak)(lo hi:Option Int):slicePick aM.toArray lo hi none=((aM.drop (HT.sh aM.length 0 lo)).take (HT.sh aM.length aM.length hi - HT.sh aM.length 0 lo)).toArray:=by
 obtain⟨h1,h2,h3⟩:=qu lo hi aM.toArray.size;unfold slicePick;rw[h1,h2,h3];simp only[sliceRange_one,pick_run,List.size_toArray]<;>rfl
def T5(K:aq):V->Option Int->Option Int->Hp->VK->Prop:=λx lo hi H Q=>∃a xs,x=.ref a/\dO K H a xs/\∀p,H p=none->Q (.ref p) (upd H p (.lst (ze xs lo hi)))
theorem qv:WV X (T5 X.K):=by
 intro pins s σ H x v vl vu lo hi sl Q I rx hs pl pu h;obtain⟨a,xs,rfl,hx,q⟩:=h;cases rx;obtain⟨aM,r,ht,hz⟩:=I.list hx;have hlen:=r.length;refine⟨"list",_,slot_list_getitem.lookup,ht.isList.typeIs,?_⟩;refine wpAny_getItem_list_slice ht.isList hs pl pu .none (by simp) ?_ (by rw[List.size_toArray]<;>omega);rw[oQ,<- hlen];refine⟨.ref s.heap.objs.size,_,I.laid (t':=s.toks) (o:=.lst (ze xs lo hi)) (λb ob q=>aak _ q) (aam _) ?_,rfl,q _ (I.cB.fresh (aam _))⟩;exact⟨aaC (ur xs lo hi) hz,_,0,(r.drop (HT.sh xs.length 0 lo)).take (HT.sh xs.length xs.length hi - HT.sh xs.length 0 lo),aar _ rfl⟩
noncomputable def iZ:V->Bool
 |.bB=>true
 |.bl _=>true
 |.int _=>true
 |.str _=>true
 |_=>false
noncomputable def Gf:V->V->Bool
 |.bB,.bB=>true
 |.bl a,.bl b=>a==b
 |.bl a,.int b=>(if a then 1 else 0)==b
 |.int a,.bl b=>a==(if b then 1 else 0)
 |.int a,.int b=>a==b
 |.str a,.str b=>a==b
 |_,_=>false
theorem LL{A:aJ}{s:Shared}{y x:V}{u v:Value}(ry:RelV y u)(rx:RelV x v)(fy:iZ y=true)(fx:iZ x=true):SeqAt.EqAt A s u v (Gf y x):=by
 cases y with
 |bB =>
  cases ry;cases x with
  |bB=>cases rx;exact abp _
  |bl b=>cases rx;exact abQ b
  |int b=>obtain⟨t,rfl⟩:=rx;exact abZ b t
  |str b=>obtain⟨t,rfl⟩:=rx;exact ab0 b t
  |_=>exact absurd (show false=true from fx) aag
 |bl a =>
  cases ry;cases x with
  |bB=>cases rx;exact abR a
  |bl b=>cases rx;exact abS a b
  |int b=>obtain⟨t,rfl⟩:=rx;exact ab1 a b t
  |str b=>obtain⟨t,rfl⟩:=rx;exact ab3 a b t
  |_=>exact absurd (show false=true from fx) aag
 |int a =>
  obtain⟨t',rfl⟩:=ry;cases x with
  |bB=>cases rx;exact ab5 a t'
  |bl b=>cases rx;exact ab6 a t' b
  |int b=>obtain⟨t,rfl⟩:=rx;exact abu a t' b t
  |str b=>obtain⟨t,rfl⟩:=rx;exact abr a t' b t
  |_=>exact absurd (show false=true from fx) aag
 |str a =>
  obtain⟨t',rfl⟩:=ry;cases x with
  |bB=>cases rx;exact ab7 a t'
  |bl b=>cases rx;exact ab8 a t' b
  |int b=>obtain⟨t,rfl⟩:=rx;exact abt a t' b t
  |str b=>obtain⟨t,rfl⟩:=rx;exact ace a t' b t
  |_=>exact absurd (show false=true from fx) aag
 |_=>exact absurd (show false=true from fy) aag
def vV(x:V)(u:Value):Bool:=match u with
 |.none=>Gf .bB x
 |.bool b=>Gf (.bl b) x
 |.int i _=>Gf (.int i) x
 |.str z _=>Gf (.str z) x
 |_=>false
theorem CP{x y:V}{u:Value}(r:RelV y u)(f:iZ y=true):vV x u=Gf y x:=by
 cases y with
 |bB=>cases r;rfl
 |bl b=>cases r;rfl
 |int i=>obtain⟨t,rfl⟩:=r;rfl
 |str z=>obtain⟨t,rfl⟩:=r;rfl
 |_=>exact absurd (show false=true from f) aag
theorem kP{x:V}:∀{xs:af} {us:ak},Vals xs us->xs.all iZ=true->us.any (vV x)=xs.any λy=>Gf y x
 |_,_,.nil,_=>rfl
 |y::xs,u::us,.cons r t,f=>by
  rw[List.all_cons,Bool.and_eq_true]at f;rw[List.any_cons,List.any_cons,CP r f.1,kP t f.2]
theorem iR{A:aJ}{s:Shared}{x:V}{v:Value}(rx:RelV x v)(fx:iZ x=true):∀{xs:af} {us:ak},Vals xs us->xs.all iZ=true->∀u∈us,SeqAt.EqAt A s u v (vV x u)
 |_,_,.nil,_=>λu hu=>by cases hu
 |y::xs,u::us,.cons r t,f=>λu' hu=>by
  rw[List.all_cons,Bool.and_eq_true]at f;rcases List.mem_cons.mp hu with rfl|hu
  ·rw[CP r f.1];exact LL r rx f.1 fx
  ·exact iR rx fx t f.2 u' hu
def R6(x:V)(xs:af):Bool:=xs.any λy=>Gf y x
def Ua(K:aq)(neg:Bool):R2:=λx y H Q=>∃p xs,y=.ref p/\(dO K H p xs\/bh K H p xs)/\iZ x=true/\xs.all iZ=true/\Q (.bl (if neg then !R6 x xs else R6 x xs)) H
theorem yD:jG X (compareOp .In) (Ua X.K false):=by
 intro pins s σ H x y v u Q I rx ry h;obtain⟨p,xs,rfl,hq,fx,fs,q⟩:=h;cases ry;rcases hq with hq|hq
 ·obtain⟨aM,r,pl,hz⟩:=I.list hq;refine SeqAt.in_listAt (vV x) pl.isList (λw hw=>iR rx fx r fs w (by simpa using hw)) ⟨.bl _,H,I,rfl,?_⟩;rw[show aM.toArray.any (vV x)=aM.any (vV x) by simp,kP r fs];exact q
 ·obtain⟨aM,r,pl,hz⟩:=I.tuple hq;refine SeqAt.in_tupleAt (vV x) pl (λw hw=>iR rx fx r fs w (by simpa using hw)) ⟨.bl _,H,I,rfl,?_⟩;rw[show aM.toArray.any (vV x)=aM.any (vV x) by simp,kP r fs];exact q
theorem Fb:jG X (compareOp .NotIn) (Ua X.K true):=by
 intro pins s σ H x y v u Q I rx ry h;obtain⟨p,xs,rfl,hq,fx,fs,q⟩:=h;cases ry;rcases hq with hq|hq
 ·obtain⟨aM,r,pl,hz⟩:=I.list hq;refine SeqAt.notIn_listAt (vV x) pl.isList (λw hw=>iR rx fx r fs w (by simpa using hw)) ⟨.bl _,H,I,rfl,?_⟩;rw[show aM.toArray.any (vV x)=aM.any (vV x) by simp,kP r fs];exact q
 ·obtain⟨aM,r,pl,hz⟩:=I.tuple hq;refine SeqAt.notIn_tupleAt (vV x) pl (λw hw=>iR rx fx r fs w (by simpa using hw)) ⟨.bl _,H,I,rfl,?_⟩;rw[show aM.toArray.any (vV x)=aM.any (vV x) by simp,kP r fs];exact q
theorem rN:fh X (.builtin "len") (λxs H Q=>∃p ys,xs=[.ref p]/\(dO X.K H p ys\/bh X.K H p ys)/\Q (.int ys.length) H):=by
 intro pins s σ H xs us Q I r h;obtain⟨p,ys,rfl,hq,q⟩:=h;obtain⟨u,rfl,rx⟩:=vals1 r;cases rx;have hn:=qS;rcases hq with hq|hq
 ·obtain⟨aM,r',pl,hz⟩:=I.list hq;have hlen:=r'.length;exact Calls.call_len_list pl.isList (by simp only[List.size_toArray]<;>omega) ⟨.int ys.length,H,I.tok _,⟨s.toks+1,by rw[List.size_toArray,hlen]⟩,q⟩
 ·obtain⟨aM,r',pl,hz⟩:=I.tuple hq;have hlen:=r'.length;exact len_tuple pl (by simp only[List.size_toArray]<;>omega) ⟨.int ys.length,H,I.tok _,⟨s.toks+1,by rw[List.size_toArray,hlen]⟩,q⟩
theorem rM:fh X (.type "list") (λxs H Q=>∃p ys,xs=[.ref p]/\(dO X.K H p ys\/bh X.K H p ys)/\∀l,H l=none->Q (.ref l) (upd H l (.lst ys))):=by
 intro pins s σ H xs us Q I r h;obtain⟨p,ys,rfl,hq,q⟩:=h;obtain⟨u,rfl,rx⟩:=vals1 r;cases rx;have fin:∀(aM:ak),Vals ys aM->ys.length<=sizeLine->∀(h':Heap) (c':Nat),(∀b o',s.heap.get? b=some o'->h'.get? b=some o') ->
   h'.get? s.heap.objs.size=some { cls:=.type "list",dict:=none,data:=.seq aM.toArray c',slots:=#[] }->EP X pins σ Q (.ref s.heap.objs.size) { s with heap:=h' }:=λaM r' hz h' c' kp e =>
  ⟨.ref s.heap.objs.size,_,I.laid (t':=s.toks) kp (aam _) (show cC X.prog X.w _ h' _ (.lst ys) from⟨hz,aM,c',r',e⟩),rfl,q _ (I.cB.fresh (aam _))⟩
 rcases hq with hq|hq
 ·obtain⟨aM,r',pl,hz⟩:=I.list hq;have hlen:=r'.length;obtain⟨o,ho,hc,n,hd⟩:=pl.isList;exact call_list_seq p (.inl rfl) ho hc hd (λh' c' kp e=>fin aM r' hz h' c' kp e) (by simp only[List.size_toArray]<;>omega)
 ·obtain⟨aM,r',pl,hz⟩:=I.tuple hq;have hlen:=r'.length;obtain⟨o,ho,hc,n,hd⟩:=pl;exact call_list_seq p (.inr rfl) ho hc hd (λh' c' kp e=>fin aM r' hz h' c' kp e) (by simp only[List.size_toArray]<;>omega)
theorem o4:fh X (.type "tuple") (λxs H Q=>∃p ys,xs=[.ref p]/\((dO X.K H p ys/\∀l,H l=none->Q (.ref l) (upd H l (.tup ys)))\/(bh X.K H p ys/\Q (.ref p) H))):=by
 intro pins s σ H xs us Q I r h;obtain⟨p,ys,rfl,h⟩:=h;obtain⟨u,rfl,rx⟩:=vals1 r;cases rx;rcases h with ⟨hq,q⟩|⟨hq,q⟩
 ·obtain⟨aM,r',pl,hz⟩:=I.list hq;have hlen:=r'.length;refine call_tuple_list pl.isList (λh' kp=>?_) (by simp only[List.size_toArray]<;>omega);have I1:Inv X pins σ H { s with heap:=h' }:=I.kept (t':=s.toks) kp;have I2:Inv X pins σ (upd H h'.objs.size (.tup ys)) { s with heap:=h'.push { cls:=.type "tuple",data:=.seq aM.toArray } } :=
   I1.laid (t':=s.toks) (λb o e=>aak _ e) (aam _) (show cC X.prog X.w _ _ _ (.tup ys) from⟨hz,aM,r',IsTup.new _ _⟩)
  exact⟨.ref h'.objs.size,_,I2,rfl,q _ (I1.cB.fresh (aam _))⟩
 ·obtain⟨aM,r',pl,hz⟩:=I.tuple hq;exact call_tuple_same pl ⟨.ref p,H,I,rfl,q⟩
def S9(K:aq)(T:String)(x:V)(H:Hp):Prop:=match x with
 |.str _=>T = "str"
 |.int _=>T = "int"
 |.ref p=>(T = "list" /\ ∃xs,dO K H p xs)\/(T = "tuple" /\ ∃o,K.lookup p=some o/\o.cls=.type "tuple" /\ o.dict=none) \/
   (T = "dict" /\ ((∃lZ,H p=some (.dK lZ))\/∃lZ,H p=some (.dT lZ)))\/(T = "set" /\ ∃S n,H p=some (.set S n))
 |_=>False
theorem z6{pins:aj}{s:Shared}{T:String}{x:V}{v:Value}(I:Inv X pins σ H s)(r:RelV x v)(ty:S9 X.K T x H):
  s.TypeIs v T/\∀a,v=.ref a->∃ob,s.heap.get? a=some ob/\ob.dict=none:=by
 cases x with
 |str z =>
  obtain⟨t,rfl⟩:=r;cases (show T = "str" from ty);exact⟨typeIs_str s z t,λ_ e=>nomatch e⟩
 |int i =>
  obtain⟨t,rfl⟩:=r;cases (show T = "int" from ty);exact⟨typeIs_int s i t,λ_ e=>nomatch e⟩
 |ref p =>
  cases r;rcases ty with ⟨rfl,xs,hq⟩|⟨rfl,o,hk,hc,hd⟩|⟨rfl,hk⟩|⟨rfl,S,n,hk⟩
  ·obtain⟨aM,_,pl,_⟩:=I.list hq;refine⟨pl.isList.typeIs,λa e=>?_⟩;cases e;obtain⟨o,n,e,c,hd,_⟩:=pl;exact⟨o,e,hd⟩
  ·refine⟨⟨o,I.vG p o hk,hc⟩,λa e=>?_⟩;cases e;exact⟨o,I.vG _ o hk,hd⟩
  ·have z:∃o,s.heap.get? p=some o/\o.ExactDict:=by
    rcases hk with ⟨lZ,hk⟩|⟨lZ,hk⟩
    ·obtain⟨_,_,_,_,o,_,_,e,ex,_⟩:=I.cB p _ hk;exact⟨o,e,ex⟩
    ·obtain⟨_,_,_,_,o,_,_,e,ex,_⟩:=I.cB p _ hk;exact⟨o,e,ex⟩
   obtain⟨o,e,ex⟩:=z;refine⟨⟨o,e,ex.1⟩,λa e2=>?_⟩;cases e2;exact⟨o,e,ex.2.1⟩
  ·obtain⟨o,_,_,_,e,ex,_⟩:=I.cB p _ hk;refine⟨⟨o,e,ex.1⟩,λa e2=>?_⟩;cases e2;exact⟨o,e,ex.2.1⟩
 |_=>exact False.elim ty
def Tp(K:aq)(T:String)(r:V->af->Hp->VK->Prop)(to:TE):TE:=λσ H Q=>to σ H λx H1=>S9 K T x H1/\r x [] H1 Q
def Zr(K:aq)(T:String)(r:V->af->Hp->VK->Prop)(to:TE)(t:TA):TE:=λσ H Q=>to σ H λx H1=>S9 K T x H1/\t σ H1 λxs H2=>r x xs H2 Q
variable {o e:Expr}{es:au}{to:TE}{t:TA}{name:Str}{apos cpos:Pos}{T id:String}{r:V->af->Hp->VK->Prop}
theorem Uk(pa:PlainAttrs T)(slot:Slot T name id)(Vb:typeOf (.builtin id)=pure (.type "method_descriptor"))(hm:SO X id r)(ho:PE X o to)
  (t5:attributeBase o name X.env (eval o X.env)=eval o X.env:=by rfl) (hline:(apos.endLine==cpos.line)=true:=by rfl):PE X (.Call (.Attribute o name apos) [] [] cpos) (Tp X.K T r to):=by
 intro pins s σ H Q I h;refine wpAny_Call_method0_late t5 hline (cQ (ho pins s σ H _ I h) λv s1 bK=>?_);obtain⟨x,H1,I1,r1,ty,q1⟩:=bK;obtain⟨h1,h2⟩:=z6 I1 r1 ty;exact⟨T,id,pa,slot,Vb,h1,h2,Calls.callWith_builtin rfl (PySem.evalArgs_none (hm pins s1 σ H1 x [] v [] Q I1 r1 .nil q1))⟩
theorem HD(pa:PlainAttrs T)(slot:Slot T name id)(Vb:typeOf (.builtin id)=pure (.type "method_descriptor"))(hm:SO X id r)(ho:PE X o to)(ha:PA X (e::es) t)
  (t5:attributeBase o name X.env (eval o X.env)=eval o X.env:=by rfl)
  (hfew:((backTo cpos (starEach (e::es) X.env)).all (λx=>!x.1)&&(backToKw cpos (keywordEach [] X.env)).all (λx=>x.1.isSome)
   && decide ((e::es).length+([]:List Keyword).length+(if ([]:List Keyword).isEmpty then 0 else 1)<30))=true:=by rfl)
  (hline:(apos.endLine==cpos.line)=true:=by rfl) (hs:starEach (e::es) X.env=(false,eval e X.env)::starEach es X.env:=by rfl) (KN:(backTo cpos (starEach es X.env)).any (·.1)=false:=by rfl) :
  PE X (.Call (.Attribute o name apos) (e::es) [] cpos) (Zr X.K T r to t):=by
 intro pins s σ H Q I h;refine wpAny_Call_method_late t5 hfew hline rfl (cQ (ho pins s σ H _ I h) λv s1 bK=>?_);obtain⟨x,H1,I1,r1,ty,q1⟩:=bK;obtain⟨h1,h2⟩:=z6 I1 r1 ty;refine⟨T,id,pa,slot,Vb,h1,h2,?_⟩;have hA:=ha cpos pins s1 σ H1 _ I1 q1;rw[hs]at hA ⊢;refine Calls.callWith_builtin (by show(false||(backTo cpos (starEach es X.env)).any (·.1))=false;rw[KN]<;>rfl) (Calls.evalArgs_plain ?_);exact cQ hA λus s2 ⟨vs,H2,I2,r2,q2⟩=>hm pins s2 σ H2 x vs v us Q I2 r1 r2 q2
/- xs.append(e),list.index on a module's tuple .. are SO facts of 06m -/
end
end L2
namespace L2
open PySem PySem.Spec PyProof.Rows
def WY(X:Cx)(id:String)(r:V->af->Hp->VK->Prop):Prop :=
 ∀(pins:aj) (s:Shared) (σ:St) (H:Hp) (x:V) (xs:af) (v:Value) (us:ak) (Q:VK),Inv X pins σ H s->RelV x v->Vals xs us->r x xs H Q ->
  wpAny (model X.prog X.w) X.A (call (.builtin id) (v::us)) (EP X pins σ Q) X.xe s
theorem Vals.one:∀{x:V} {us:ak},Vals [x] us->∃u,us=[u]/\RelV x u
 |_,_,.cons r .nil=>⟨_,rfl,r⟩
theorem Vals.zero:∀{us:ak},Vals [] us->us=[]
 |_,.nil=>rfl
theorem Vals.dropLast{xs:af}{us:ak}(h:Vals xs us):Vals xs.dropLast us.dropLast:=by
 induction h with
 |nil=>exact .nil
 |cons r t ih =>
  cases t with
  |nil=>exact .nil
  |cons q t'=>exact .cons r ih
theorem Vals.eraseIdx:∀{xs:af} {us:ak} (i:Nat),Vals xs us->Vals (xs.eraseIdx i) (us.eraseIdx i)
 |_,_,_,.nil=>.nil
 |_,_,0,.cons _ t=>t
 |_,_,i+1,.cons r t=>.cons r (Vals.eraseIdx i t)
theorem Vals.rep{xs:af}{us:ak}(h:Vals xs us):∀k:Nat,Vals (List.replicate k xs).flatten (List.replicate k us).flatten
 |0=>.nil
 |k+1=>by
  rw[List.replicate_succ,List.replicate_succ,List.flatten_cons,List.flatten_cons];exact Vals.append h (Vals.rep h k)
theorem vU{α:Type}(l:List α):l.eraseIdx (l.length - 1)=l.dropLast:=by
 induction l with
 |nil=>rfl
 |cons a r ih =>
  cases r with
  |nil=>rfl
  |cons b r =>
   have e:(a::b::r).length - 1=((b::r).length - 1)+1:=by
    have h1:(a::b::r).length=r.length+2:=rfl;have h2:(b::r).length=r.length+1:=rfl;left
   rw[e,List.eraseIdx_cons_succ,ih]
   all_goals rfl
theorem pL{α:Type}:∀(l:List α) (i:Nat),(l.eraseIdx i).length<=l.length
 |[],_=>aam _
 |_::_,0=>acb _
 |_::r,i+1=>Nat.succ_le_succ (pL r i)
theorem foldl_rep(aM:ak):∀(k:Nat) (acc:ak),
  List.foldl (λx1 x2=>x1++x2) acc.toArray (List.replicate k aM.toArray)=(acc++(List.replicate k aM).flatten).toArray
 |0,acc=>by simp
 |k+1,acc=>by
  have e:acc.toArray++aM.toArray=(acc++aM).toArray:=by simp
  have e2:(acc++aM)++(List.replicate k aM).flatten=acc++(List.replicate (k+1) aM).flatten:=by
   rw[List.replicate_succ,List.flatten_cons,List.append_assoc]
  rw[<- e2,<- foldl_rep aM k (acc++aM),<- e,List.replicate_succ,List.foldl_cons]
variable {aM:ak}{t':Nat}
section
variable {X:Cx}{pins:aj}{σ:St}{H:Hp}{s:Shared}{l b:Addr}{xs ys zs:af}
theorem Inv.kv{its':ak}{n:Nat}{f:aV->aV}(I:Inv X pins σ H s)(hH:H l=some (.lst xs))
  (e:s.heap.get? l=some { cls:=.type "list",data:=.seq aM.toArray n }) (hf:f aM.toArray=its'.toArray) (hv:Vals ys its') (hz:ys.length<=sizeLine) :
  Inv X pins σ (upd H l (.lst ys)) { s with heap:=s.heap.update l (Obj.mapSeq f),toks:=t' }:=by
 have q:=PySem.IsL.update e f;rw[hf]at q;refine I.write (x:=l) (e:=l) (by rw[hH];exact trivial) (.inl rfl) (λb' u hb hu=>(aaK s.heap (Obj.mapSeq f) (abi hb)).trans hu) ⟨_,q⟩ ?_;exact⟨hz,its',_,hv,q⟩
theorem Inv.Kk(I:Inv X pins σ H s)(hv:Vals ys aM)(hz:ys.length<=sizeLine):
  Inv X pins σ (upd H s.heap.objs.size (.lst ys)) { s with heap:=s.heap.push { cls:=.type "list",data:=.seq aM.toArray },toks:=t' } :=
 I.laid (λ_ _ q=>aak _ q) (aam _) ⟨hz,aM,0,hv,aar _ rfl⟩
theorem Inv.fresh(I:Inv X pins σ H s):H s.heap.objs.size=none:=I.cB.fresh (aam _)
theorem Inv.yH(I:Inv X pins σ H s)(hH:H l=some (.lst xs)):xs.length<=sizeLine/\∃(aM:ak) (n:Nat),Vals xs aM/\xs.length=aM.length/\s.heap.get? l=some { cls:=.type "list",data:=.seq aM.toArray n }:=by
 obtain⟨z,aM,n,r,e⟩:=I.cB l _ hH;exact⟨z,aM,n,r,r.length,e⟩
theorem Bk{n:Nat}(h:n<=sizeLine):Builtin.List.listTooLong n=false:=by
 unfold Builtin.List.listTooLong;exact aaV (by left)
end
section
variable {X:Cx}
def EL:V->af->Hp->VK->Prop:=λx vs H Q=>∃l xs y,x=.ref l/\vs=[y]/\H l=some (.lst xs)/\xs.length<sizeLine/\Q .bB (upd H l (.lst (xs++[y])))
theorem yE:WY X "list.append" EL:=by
 intro pins s σ H x vs v us Q I rx rv h;obtain⟨l,xs,y,rfl,rfl,hH,hz,q⟩:=h;cases rx;obtain⟨u,rfl,ru⟩:=rv.one;obtain⟨z,aM,n,r,hl,e⟩:=I.yH hH;refine abx F.slot_list_append ⟨_,e,rfl⟩ F.entry_list_append (F.args_list_append_2 _ _) (PySem.list_append l aM.toArray n u (by rw[List.size_toArray];left)) ⟨e,?_⟩;refine⟨.bB,_,I.kv (its':=aM++[u]) hH e (by simp) (r.append (.cons ru .nil)) ?_,rfl,q⟩;rw[List.length_append,List.length_singleton];left
def T7:V->af->Hp->VK->Prop:=λx vs H Q=>∃l xs y,x=.ref l/\vs=[]/\H l=some (.lst xs)/\xs[xs.length - 1]?=some y/\Q y (upd H l (.lst xs.dropLast))
theorem UB:WY X "list.pop" T7:=by
 intro pins s σ H x vs v us Q I rx rv h;obtain⟨l,xs,y,rfl,rfl,hH,hy,q⟩:=h;cases rx;have hus:=rv.zero;subst hus;obtain⟨z,aM,n,r,hl,e⟩:=I.yH hH;obtain⟨u,hu,ru⟩:=r.get hy;have hy':aM.toArray[aM.toArray.size - 1]?=some u:=by
  show aM.toArray[aM.length - 1]?=some u;rw[<- Array.getElem?_toList,<- hl];exact hu
 refine abx F.slot_list_pop ⟨_,e,rfl⟩ F.entry_list_pop (F.args_list_pop_1 _) (MeetsSeq.list_pop_last l aM.toArray n u hy' (by rw[List.size_toArray];left)) ⟨e,?_⟩;refine⟨y,_,I.kv (its':=aM.dropLast) hH e ?_ r.dropLast ?_,ru,q⟩
 ·show aM.toArray.eraseIdxIfInBounds (aM.toArray.size - 1)=aM.dropLast.toArray;rw[List.size_toArray,List.eraseIdxIfInBounds_toArray,vU]
 ·rw[List.length_dropLast];left
def JI:V->af->Hp->VK->Prop:=λx vs H Q=>∃l xs i k y,x=.ref l/\vs=[.int i]/\H l=some (.lst xs) /\ -(2 ^ 63)<=i/\i<2 ^ 63/\seqIndex? i xs.length=some k/\xs[k]?=some y/\Q y (upd H l (.lst (xs.eraseIdx k)))
theorem Ow:WY X "list.pop" JI:=by
 intro pins s σ H x vs v us Q I rx rv h;obtain⟨l,xs,i,k,y,rfl,rfl,hH,h1,h2,hk,hy,q⟩:=h;cases rx;obtain⟨u,rfl,ru⟩:=rv.one;obtain⟨t,rfl⟩:=ru;obtain⟨z,aM,n,r,hl,e⟩:=I.yH hH;obtain⟨w,hw,mm⟩:=r.get hy;refine abx F.slot_list_pop ⟨_,e,rfl⟩ F.entry_list_pop (F.args_list_pop_2 _ _)
  (MeetsSeq.list_pop_at l aM.toArray n i t k w (fitsIndex_both h1 h2) (by rw[List.size_toArray,<- hl];exact hk) (by rw[<- Array.getElem?_toList];exact hw) (by rw[List.size_toArray];left)) ⟨e,?_⟩
 refine⟨y,_,I.kv (its':=aM.eraseIdx k) hH e ?_ (r.eraseIdx k) ?_,mm,q⟩
 ·show aM.toArray.eraseIdxIfInBounds k=(aM.eraseIdx k).toArray;rw[List.eraseIdxIfInBounds_toArray]
 ·have:=pL xs k;left
def Ub:R2:=λx y H Q=>∃l b xs zs,x=.ref l/\y=.ref b/\H l=some (.lst xs)/\H b=some (.lst zs)/\xs.length+zs.length<=sizeLine/\∀p,H p=none->Q (.ref p) (upd H p (.lst (xs++zs)))
theorem Bd:jG X (binaryOp .Add) Ub:=by
 intro pins s σ H x y v u Q I rx ry h;obtain⟨l,b,xs,zs,rfl,rfl,hH,hB,hz,q⟩:=h;cases rx;cases ry;obtain⟨z,aM,n,r,hl,e⟩:=I.yH hH;obtain⟨z2,vH,n2,r2,zH,e2⟩:=I.yH hB;refine PySem.P.add_list e e2 ?_ (by rw[List.size_toArray,List.size_toArray];left);have ea:aM.toArray++vH.toArray=(aM++vH).toArray:=by simp
 rw[ea];exact⟨.ref _,_,I.Kk (t':=s.toks) (r.append r2) (by rw[List.length_append];left),rfl,q _ I.fresh⟩
def T6:R2:=λx y H Q=>∃l k xs,x=.ref l/\y=.int k/\H l=some (.lst xs) /\ -(2 ^ 63)<=k/\k<2 ^ 63/\xs.length*k.toNat<=sizeLine /\
 ∀p,H p=none->Q (.ref p) (upd H p (.lst (List.replicate k.toNat xs).flatten))
theorem len_rep{α:Type}(xs:List α)(k:Nat):(List.replicate k xs).flatten.length=k*xs.length:=by
 induction k with
 |zero=>simp
 |succ k ih=>rw[List.replicate_succ,List.flatten_cons,List.length_append,ih,Nat.succ_mul,Nat.add_comm]
theorem Uq:jG X (binaryOp .Mult) T6:=by
 intro pins s σ H x y v u Q I rx ry h;obtain⟨l,k,xs,rfl,rfl,hH,h1,h2,hz,q⟩:=h;cases rx;obtain⟨t,rfl⟩:=ry;obtain⟨z,aM,n,r,hl,e⟩:=I.yH hH;have hlen:aM.toArray.size*k.toNat<=sizeLine:=by rw[List.size_toArray,<- hl];exact hz
 have nL:¬ aM.toArray.size*k.toNat>(2 ^ 63 - 1) / 8:=by
  have:(sizeLine:Nat)<=(2 ^ 63 - 1) / 8:=by decide
  left
 have Vy:¬ (!Builtin.List.listFitsIndex k)=true:=by
  rw[fitsIndex_both h1 h2];exact aag
 have Pq:¬ Builtin.List.listTooLong (aM.toArray.size*k.toNat)=true:=by
  rw[Bk hlen];exact aag
 have FU:List.foldl (λx1 x2=>x1++x2) #[] (List.replicate (if aM.toArray.isEmpty=true then 0 else k.toNat) aM.toArray)=(List.replicate k.toNat aM).flatten.toArray:=by
  have f0:∀m:Nat,List.foldl (λx1 x2=>x1++x2) #[] (List.replicate m aM.toArray)=(List.replicate m aM).flatten.toArray:=λm=>by
   have:=foldl_rep aM m [];rw[List.nil_append]at this;exact this
  rw[f0];cases aM with
  |nil=>simp
  |cons a r'=>rw[if_neg (by simp)]
 refine wpAny_binaryOp_repeat_ref (T:="list") (U:="int") (by decide) ⟨_,e,rfl⟩ (λs'=>typeIs_int s' k t) noFill_list_mul F.fills_int_mul F.slot_int_rmul repeat_list F.slot_int_index.lookup
  (abx F.slot_int_rmul (typeIs_int s k t) F.entry_int_rmul (F.args_int_rmul_2 _ _) (int___rmul___int_list k t l aM.toArray n)
   ⟨e,rfl,⟨_,e,rfl⟩,abx F.slot_list_mul ⟨_,e,rfl⟩ F.entry_list_mul (F.args_list_mul_2 _ _) (AutoListH.list___mul___list_int_3 l aM.toArray n k t Vy nL Pq) ⟨e,?_⟩⟩)
 rw[FU];exact⟨.ref _,_,I.Kk (t':=s.toks) (r.rep k.toNat) (by rw[len_rep,Nat.mul_comm];exact hz),rfl,q _ I.fresh⟩
end
section
variable {prog:aF}{w:World}{A:aJ}{E:aD}{s:Shared}
set_option maxRecDepth 100000 in
end
section
variable {X:Cx}
end
end L2
namespace Att
open PySem PySem.W PySem.Calls PyProof.Rows
variable {h:Heap}
theorem l6{P:Params}:∀(ns:ae) (vs:ak),WellAll P h vs (ns.map WData.int)->IntsAre vs ns:=by
 intro ns;induction ns with
 |nil =>
  intro vs w;rw[List.map_nil]at w;cases w;exact .nil
 |cons n ns ih =>
  intro vs w;rw[List.map_cons]at w;cases w with
  |cons a b =>
   cases a;exact .cons _ _ (ih _ b)
theorem yw{l:OpenLaw}{n:Nat}(hn:l.most=some n){P:Params}{args:List WData}{vals:ak}
  (FT:l.row.toRowW.claim.pre args=true) (U7:WellAll P h vals args) :
  ∃a vs ns,vals=[Value.ref a]/\args=[WData.list (ns.map WData.int)]/\h.get? a=some { cls:=.type "list",data:=.seq vs.toArray }/\IntsAre vs ns/\ns.length<=n:=by
 have FQ:WShape.hasAll [] args [.list .int]=true:=(pre_splitW FT).1;have hc:l.pre.holds [] { args:=args }=true:=(pre_splitW FT).2;obtain⟨d,r,rfl,h1,h2⟩:=hasAllW_cons FQ;obtain rfl:=hasAllW_nil h2;obtain⟨xs,rfl,h3⟩:=hasW_list h1;obtain⟨ns,rfl⟩:=items_int h3;have hlen:ns.length<=n:=by
  unfold OpenLaw.pre at hc;have h4:(WTm.not (.lt (.lit (.int (n:Int))) (.len (.arg 0)))).holds [] { args:=[.list (ns.map .int)] }=true:=by
   have h4:=(holds_andW hc).1;rw[hn]at h4;exact h4
  have h5:=condW_of h4 (w_not (w_lt w_lit (w_len_list (w_arg rfl))));rw[List.length_map]at h5;refine Nat.le_of_not_lt λq=>?_;have q':(n:Int)<((ns.length:Nat):Int):=by left
  first
   | (rw[decide_eq_true q']at h5;exact absurd h5 (by decide))
   | (simp at h5;left)
 cases U7 with
 |cons w1 w2 =>
  cases w2;cases w1 with
  |list ho hall=>exact⟨_,_,ns,rfl,rfl,ho,l6 ns _ hall,hlen⟩
theorem yA(l:OpenLaw)(args:List WData):l.row.toRowW.claim.post args (.bool true) args=true :=
 postW_of (r:=l.row.toRowW) (X:=(true==true))
  (show WShape.has [] (.bool true) .bool=true by first|rfl|decide|simp[WShape.has,WShape.arms,WShape.armsAll])
  (show(WTm.eq .res (.lit (.bool true))).value [] { args:=args,res:=some (.bool true),after:=args }=some (.bool (true==true)) from w_eq_bool (w_res rfl) w_lit) rfl
theorem uF{l:OpenLaw}{n:Nat}{q:aF}{loose:ag}{XP:(aR)->Heap->Prop}{YP:World->Heap->Prop}{d:DefRec}
  (hn:l.most=some n) (PL:d.params.defaults=[])
  (call:∀(w:World) (s₀ s₁:Shared) (mg mb:aR) (fa:Addr) (o:Obj) (pm cd doc:Value) (a:Addr) (vs:ak) (ns:ae),
   Ground q loose [] XP w s₀ mg mb s₁.heap->YP w s₁.heap ->
   s₁.heap.get? fa=some o->o.data=.func (docDef d.name d.params d.body d.scope pm cd doc)->s₁.heap.CodeRec cd d.name->mg d.name=some (.ref fa) ->
   s₁.heap.get? a=some { cls:=.type "list",data:=.seq vs.toArray }->IntsAre vs ns->ns.length<=n->s₁.gens = #[] ->
   codeAny (model l.prog w) callerA (.call (.ref fa) ⟨[.ref a],[]⟩) (λr s'=>r=.ok (.ret (.bool true))/\OldK s₁.heap s'.heap/\s'.os=s₁.os/\AllBare s'.gens) s₁) :
  WalkO q loose XP YP l.row.toRowW d [] (λf vs=>PySem.call f vs):=by
 intro w s₀ s₁ mg mb G Y fa o pm cd doc dV kV ho hd tZ hD hmg hg args vals as FT aaT hrd U7 hlo;obtain rfl:dV=.none:=Dflts.none hD PL;obtain rfl:kV=.none:=Dflts.noKw hD;obtain⟨a,vs,ns,rfl,rfl,KO,hints,hlen⟩:=yw hn FT U7;refine enter_call (abP (call w s₀ s₁ mg mb fa o pm cd doc a vs ns G Y ho (fd_plain hd) tZ hmg KO hints hlen hg) λr s' hq=>?_);obtain⟨rfl,h2,h3,h4⟩:=hq;exact⟨.inl ⟨.bool true,.bool true,[],rfl,λ_=>rfl,.bool true,yA l _,λ_=>⟨List.Pairwise.nil,λ_ hm=>(nomatch hm)⟩⟩,h2,h3,h4⟩
section
variable {prog:aF}{w:World}{A:aJ}{E:aD}{s:Shared}{K:Frag}
noncomputable def ledger(h:Heap)(L d:Addr):aj:=(List.range h.objs.size).filterMap λa=>if a=L\/a=d then none else(h.get? a).map λo=>(a,o)
end
end Att
namespace L2
open PySem PySem.Spec PyProof.Rows
theorem kT:∀{vs:ak} {ns:ae},IntsAre vs ns->Vals (ns.map V.int) vs
 |_,_,.nil=>.nil
 |_,_,.cons n t h=>.cons ⟨t,rfl⟩ (kT h)
def G4(H:Hp):Prop:=∀b,H b=none\/∃o xs,H b=some (.iK o (.lst xs))
theorem BB{P:aF}{w:World}{K:aq}{mg mb:aR}{CX:yf}{k:Nat}{fa a:Addr}{fd:FuncData}{x:Str}{sp:Sp}{s₁:Shared}{vs:ak}{ns:ae}
  (KX:K.In s₁.heap) (zF:s₁.heap.Ns mainGlobals mg) (hb:s₁.heap.Ns builtinsNs mb) (hbb:∀x:Str,x ≠ "__name__" -> mb x=bootBuiltins x) (Vs:s₁.heap.NoLimit) (hg:s₁.gens = #[])
  (ha:s₁.heap.get? a=some { cls:=.type "list",data:=.seq vs.toArray }) (hi:IntsAre vs ns) (hl:ns.length<=sizeLine) (hr:gh k callerA)
  (F:∀base:Heap,K.In base->base.Ns mainGlobals mg->fB P w K mg base CX k fa fd [x] sp) (PV:∀(s:Shared) (u:Value),BindsTo s fd ⟨[u],[]⟩ [(x,u)])
  (sj:∀H:Hp,G4 H->dO K H a (ns.map V.int)->sp [.ref a] H (λv _=>v=.bl true) λ_ _ _=>False)
  (VP:∀H e s',CX [] H s₁ (λ_ _ _=>False) e s'->False) :
  codeAny (model P w) callerA (.call (.ref fa) ⟨[.ref a],[]⟩) (λr s'=>r=.ok (.ret (.bool true))/\OldK s₁.heap s'.heap/\s'.os=s₁.os/\AllBare s'.gens) s₁:=by
 have rv:=kT hi;have UE:=hi.length;have core:∀H:Hp,G4 H->dO K H a (ns.map V.int)->jt P w H s₁.heap->(∀b,H b≠none->b=a)->(H a≠none->K.lookup a=none) ->
   codeAny (model P w) callerA (.call (.ref fa) ⟨[.ref a],[]⟩) (λr s'=>r=.ok (.ret (.bool true))/\OldK s₁.heap s'.heap/\s'.os=s₁.os/\AllBare s'.gens) s₁:=by
  intro H hO hS cB hA hK;have xX:∀{b:Addr} {o:Obj},s₁.heap.get? b=some o->H b=none->(qZ s₁.heap H).get? b=some o:=λe n=>B7 e n;have Oo:∀{b:Addr} {o:Obj} {es:Array DictEntry} {ep:Nat},s₁.heap.get? b=some o->o.data=.dict es ep->H b=none:=λ{b o es ep} e d=>by
   cases q:H b with
   |none=>rfl
   |some u =>
    have e':b=a:=hA b (by rw[q];simp);subst e';rw[ha]at e;cases e;have d':Data.seq vs.toArray _=Data.dict es ep:=d;cases d'
  have RT:∀{b:Addr} {m:aR},s₁.heap.Ns b m->(qZ s₁.heap H).Ns b m:=λ{b m} ⟨o,es,ep,e,d,r⟩=>⟨o,es,ep,xX e (Oo e d),d,r⟩
  have Yw:K.In (qZ s₁.heap H):=λb o e=>xX (KX b o e) (by
   cases q:H b with
   |none=>rfl
   |some u =>
    have e':b=a:=hA b (by rw[q];simp);subst e';rw[hK (by rw[q];simp)]at e;cases e)
  have hM:Mod K mg (qZ s₁.heap H):=⟨Yw,RT zF,⟨mb,RT hb,hbb⟩,let ⟨mc,h1,h2⟩:=Vs;⟨mc,RT h1,h2⟩⟩
  have e0:G5 P w K mg (qZ s₁.heap H) callerA [] s₁ H:=⟨rfl,hM,λb o e=>Fh e,Nat.le_of_eq (yV _ _),trivial,λb hb=>absurd (show b∈([]:bc) from hb) (by simp),cB,.of_eq hg⟩
  refine abP ((F _ Yw (RT zF)).run callerA [] s₁ H ⟨[.ref a],[]⟩ [.ref a] [.ref a] _ _ hr e0 (PV s₁ (.ref a)) (.cons rfl .nil) (sj H hO hS)) λr s' h=>?_;cases r with
  |error e=>exact(VP H e s' h).elim
  |ok fl =>
   cases fl with
   |next=>exact False.elim h
   |brk=>exact False.elim h
   |cont=>exact False.elim h
   |ret u =>
    obtain⟨v,H',os,bare,un,Vn,r',q⟩:=h;have q':v=.bl true:=q;subst q';obtain rfl:u=Value.bool true:=r';refine⟨rfl,OldK.of_keep λb o e=>?_,os,bare⟩;cases q:H b with
    |none=>exact un.keep b o e q (by intro z;exact absurd (show b∈([]:bc) from z) (by simp)) (by simp)
    |some u =>
     rcases hO b with z|⟨ob,xs,z⟩
     ·rw[q]at z;cases z
     ·have z2:=un.k_ b ob _ z;obtain⟨e1,_⟩:=cB b _ z;obtain⟨e2,_⟩:=Vn b _ z2;rw[e]at e1;cases e1;exact e2
 cases hk:K.lookup a with
 |some o =>
  have e:=KX a o hk;rw[ha]at e;cases e;refine core (λ_=>none) (λ_=>.inl rfl) (.inr ⟨_,vs.toArray,_,hk,rfl,rfl,rfl,by rw[List.size_toArray,UE];exact hl,by simpa using rv⟩) (λb u z=>by have z':(none:Option HO)=some u:=z;cases z') (λb z=>absurd rfl z) λz=>absurd rfl z
 |none =>
  refine core (λb=>if b=a then some (.iK { cls:=.type "list",data:=.seq vs.toArray } (.lst (ns.map V.int)))else none) (λb=>?_) (.inl (.inr ⟨{ cls:=.type "list",data:=.seq vs.toArray },aaQ rfl⟩)) (λb u z=>?_) (λb z=>?_) λ_=>hk
  ·by_cases hb:b=a
   ·exact .inr ⟨_,_,aaQ hb⟩
   ·exact .inl (aco hb)
  ·by_cases hb:b=a
   ·have z':=(aaQ hb).symm.trans z;cases z';subst hb;exact⟨ha,by rw[List.length_map];exact hl,vs,_,rv,ha⟩
   ·have z':=(aco hb).symm.trans z;cases z'
  ·by_cases hb:b=a
   ·exact hb
   ·exact absurd (aco hb) z
end L2
namespace L2
open PySem PySem.Spec PyProof.Rows
theorem D_{l:PySem.W.OpenLaw}{n k:Nat}{q:aF}{loose:ag}{XP:(aR)->Heap->Prop}{YP:World->Heap->Prop}{d:DefRec}{K:Params->aq}{CX:World->yf}{sp:World->Sp}{x:Str}
  (hn:l.most=some n) (MF:n<=sizeLine) (PL:d.params.defaults=[]) (hr:gh k callerA)
  (hY:∀(w:World) (h:Heap),YP w h->(K w.params).In h)
  (F:∀(w:World) (mg:aR) (fa:Addr) (h:Heap),(K w.params).In h->h.Ns mainGlobals mg->mg d.name=some (.ref fa) ->
   ∃fd:FuncData,(∀(s:Shared) (u:Value),BindsTo s fd ⟨[u],[]⟩ [(x,u)]) /\
    ∀base:Heap,(K w.params).In base->base.Ns mainGlobals mg->fB l.prog w (K w.params) mg base (CX w) k fa fd [x] (sp w))
  (sj:∀(w:World) (H:Hp) (a:Addr) (ns:ae),ns.length<=n->G4 H->dO (K w.params) H a (ns.map V.int)->sp w [.ref a] H (λv _=>v=.bl true) λ_ _ _=>False)
  (VP:∀(w:World) (H:Hp) (s:Shared) (e:Value) (s':Shared),CX w [] H s (λ_ _ _=>False) e s'->False) :
  PySem.W.WalkO q loose XP YP l.row.toRowW d [] (λf vs=>PySem.call f vs):=by
 refine Att.uF hn PL λw s₀ s₁ mg mb fa o pm cd doc a vs ns G Y ho hd tZ hmg KO hints hlen hg=>?_;have KX:=hY w _ Y;obtain⟨fd,hb,hF⟩:=F w mg fa _ KX G.T.g hmg;exact BB KX G.T.g G.T.b G.T.builtins G.T.nolimit hg KO hints (aaC hlen MF) hr hF hb (λH hO hS=>sj w H a ns hlen hO hS) λH e s'=>VP w H s₁ e s'
end L2
namespace L2
open PySem PySem.Spec PyProof.Rows
noncomputable def d7(s:Stmt):Arguments:=match s with
 |.FunctionDef _ a _ _ _ _ _ _ _ _=>a
 |_=>{ posonlyargs:=[],args:=[],vararg:=none,kwonlyargs:=[],kw_defaults:=[],kwarg:=none,defaults:=[] }
noncomputable def bw(s:Stmt):aS:=match s with
 |.FunctionDef _ _ b _ _ _ _ _ _ _=>b
 |_=>[]
noncomputable def aE(s:Stmt):Scope:=match s with
 |.FunctionDef _ _ _ _ _ _ sc _ _ _=>sc
 |_=>{ kind:=.function,names:=[],isGenerator:=false,isCoroutine:=false }
noncomputable abbrev so:yf:=λ_ _ _ _ _ _=>False
noncomputable abbrev E0:XK:=λ_ _ _=>False
theorem xf{X:Cx}:Passes so X E0:=λ_ _ _ _ _ _ _ h=>h.elim
structure zy(K:aq)(x qual:Str)(st:Stmt)(f:Addr)(fd:FuncData):Prop where
 ex:∃(oc:Value) (od:Option Addr) (kV doc pm:Value) (an:Option Addr) (fG ct:Value) (A_:Array (Option Value)),
  fd=PySem.W.fnOf x qual (d7 st) (bw st) (aE st) .none kV doc pm an fG ct/\K.lookup f=some ⟨oc,od,.func fd,A_⟩/\PySem.W.codeIn K fG qual=true
 kp:PySem.W.keepIn K (.ref f)=true
variable {ps:ag}{qual:Str}{st:Stmt}
section
variable {P:aF}{w:World}{K:aq}{mg:aR}{base:Heap}
theorem zy.ok{x:Str}{f:Addr}{fd:FuncData}{N:ag}{k:Nat}{sp:Sp}(F:zy K x qual st f fd)(S:eW N ps (aE st))(len:∀vs H Q E,sp vs H Q E->vs.length=ps.length)
  (t4:∀(fG:Value) (A:aJ) (outer:List Env) (s:Shared) (H:Hp) (vs:af) (Q:VK) (E:XK),gh k (A.deeper (envOfC qual (aE st) s.heap.objs.size f fG))->sp vs H Q E ->
   ∃t,ir (iH so P w K mg base N qual (aE st) f fG A outer s H E).Bi (bw st) t/\t { nx:=λ_ H'=>Q .bB H',rt:=Q } (start N vs) H):fB P w K mg base so (k+1) f fd ps sp:=by
 obtain⟨oc,od,kV,doc,pm,an,fG,ct,A_,rfl,lk,tZ⟩:=F.ex;refine Ia lk tZ S len λA outer s H vs Q E hr sj=>?_;obtain⟨t,h,q⟩:=t4 fG A outer s H vs Q E hr sj;exact⟨t,h.Bi,q⟩
theorem zy.binds{x:Str}{f:Addr}{fd:FuncData}(F:zy K x qual st f fd)
  (h:∀(kV doc pm:Value) (an:Option Addr) (fG ct:Value) (us:ak),us.length=ps.length->bindArgs (PySem.W.fnOf x qual (d7 st) (bw st) (aE st) .none kV doc pm an fG ct) ⟨us,[]⟩=pure (ps.zip us)):Binds K fd ps []:=by
 obtain⟨oc,od,kV,doc,pm,an,fG,ct,A_,rfl,lk,tZ⟩:=F.ex;exact .all (h kV doc pm an fG ct)
theorem Lb{x:Str}{f:Addr}{oc:Value}{od an:Option Addr}{A_:Array (Option Value)}{kV doc pm fG ct:Value}(l:K.lookup f=some ⟨oc,od,.func (PySem.W.fnOf x qual (d7 st) (bw st) (aE st) .none kV doc pm an fG ct),A_⟩)
  (c:PySem.W.codeIn K fG qual=true) (k:PySem.W.keepIn K (.ref f)=true):zy K x qual st f (PySem.W.fnOf x qual (d7 st) (bw st) (aE st) .none kV doc pm an fG ct):=⟨⟨oc,od,kV,doc,pm,an,fG,ct,A_,rfl,l,c⟩,k⟩
end
theorem HV{A:aJ}{k:Nat}(hr:gh k A):A.units+1<cLine:=aaz (Nat.add_le_add_left (by decide:1<=64) _) hr.units
section
variable {X:Cx}
end
theorem Kw{A B:Prop}(h:B):if false=true then A else B:=by
 rw[if_neg Bool.false_ne_true];exact h
theorem UN{A B:Prop}(h:A):if true=true then A else B:=by
 rw[if_pos rfl];exact h
def aK(H H':Hp):Prop:=∀b o,H b=some o->H' b=some o
theorem aK.refl(H:Hp):aK H H:=λ_ _ h=>h
variable {H H':Hp}
theorem aK.trans{H1 H2:Hp}(a:aK H H1)(b:aK H1 H2):aK H H2:=λc o h=>b c o (a c o h)
theorem aK.free(e:aK H H'){l:Addr}(h:H' l=Option.none):H l=Option.none:=by
 cases q:H l with
 |none=>rfl
 |some o =>
  rw[e l o q]at h;cases h
theorem aK.seq{K:aq}{a:Addr}{xs:af}(e:aK H H')(h:dO K H a xs):dO K H' a xs:=by
 rcases h with (h|⟨o,h⟩)|h
 ·exact .inl (.inl (e _ _ h))
 ·exact .inl (.inr ⟨o,e _ _ h⟩)
 ·exact .inr h
end L2
set_option autoImplicit false
set_option linter.all false
set_option Elab.async false
set_option maxRecDepth 100000
set_option maxHeartbeats 4000000
section
namespace DI
open PySem (Str Expr Stmt Scope NameKind)
inductive Fl where|ow|fz|al|sc
 deriving DecidableEq
inductive D where
 |bB|bl (b:Bool)|int (i:Int)|str (s:Str)
 |tup (ds:List D)
 |lst (f:Fl) (ds:List D)
 |cJ (f:Fl) (ks:aB) (vs:List D)
abbrev aO:=Option D
abbrev aa:=List D
mutual
noncomputable def aw(g:Fl->Fl):D->D
 |.tup ds=>.tup (ah g ds)
 |.lst f ds=>.lst (g f) (ah g ds)
 |.cJ f ks vs=>.cJ (g f) ks (ah g vs)
 |.bB=>.bB
 |.bl b=>.bl b
 |.int i=>.int i
 |.str s=>.str s
noncomputable def ah(g:Fl->Fl):aa->aa
 |[]=>[]
 |d::ds=>aw g d::ah g ds
end
theorem aP(g:Fl->Fl):∀ds:aa,ah g ds=ds.map (aw g)
 |[]=>rfl
 |d::ds=>by rw[ah,aP g ds];rfl
noncomputable def aN:Fl->Fl|.ow=>.al|f=>f
noncomputable def dY:Fl->Fl|.fz=>.al|f=>f
noncomputable def aA:Fl->Fl|.sc=>.sc|_=>.fz
noncomputable def e_:Fl->Bool|.sc=>true|_=>false
mutual
noncomputable def bo(p:Fl->Bool):D->Bool
 |.tup ds=>a_ p ds
 |.lst f ds=>p f||a_ p ds
 |.cJ f ks vs=>p f||a_ p vs
 |_=>false
noncomputable def a_(p:Fl->Bool):aa->Bool
 |[]=>false
 |d::ds=>bo p d||a_ p ds
end
noncomputable def bX:Fl->Bool|.al=>true|_=>false
noncomputable def eG:Fl->Bool|.ow=>true|_=>false
noncomputable def anyF:Fl->Bool:=λ_=>true
mutual
noncomputable def ib:D->D->Bool
 |.bB,.bB=>true
 |.bl a,.bl b=>a==b
 |.bl a,.int b=>(if a then 1 else 0)==b
 |.int a,.bl b=>a==(if b then 1 else 0)
 |.int a,.int b=>a==b
 |.str a,.str b=>a==b
 |.tup a,.tup b=>dQ a b
 |.lst _ a,.lst _ b=>dQ a b
 |_,_=>false
noncomputable def dQ:aa->aa->Bool
 |[],[]=>true
 |a::as,b::bs=>ib a b&&dQ as bs
 |_,_=>false
end
noncomputable def fi:Nat->D->Bool
 |_,.bB=>true
 |_,.bl _=>true
 |_,.int _=>true
 |_,.str _=>true
 |n+1,.tup ds=>ds.all (fi n)
 |n+1,.lst _ ds=>ds.all (fi n)
 |_,_=>false
noncomputable abbrev O(α:Type):=Option (Except Nat α)
abbrev aI:=aa->O D
noncomputable def ok{α:Type}(a:α):O α:=some (.ok a)
noncomputable def bd{α β:Type}(x:O α)(f:α->O β):O β:=match x with
 |some (.ok a)=>f a
 |some (.error c)=>some (.error c)
 |none=>none
@[simp]theorem RV{α:Type}{a:α}:((none:O α)=ok a)=False:=by simp[ok]
@[simp]theorem Uv{α:Type}{a b:α}:(ok a=ok b)=(a=b):=by simp[ok]
@[simp]theorem Wt{α:Type}{a:α}{c:Nat}:((some (.error c):O α)=ok a)=False:=by simp[ok]
@[simp]theorem HR{α:Type}{p:Prop}[Decidable p]{a b:α}:((if p then ok a else none)=ok b)=(p/\a=b):=by
 by_cases h:p<;>simp[h]
@[simp]theorem UZ{α:Type}{p:Prop}[Decidable p]{a b:α}:((if p then none else ok a)=ok b)=(¬ p/\a=b):=by
 by_cases h:p<;>simp[h]
theorem lK{α β:Type}(a:α)(f:α->O β):bd (ok a) f=f a:=rfl
theorem nk{α:Type}{a:α}{P:Prop}(h:(none:Option α)=some a):P:=nomatch h
theorem aH{α β:Type}{x:O α}{f:α->O β}{b:β}(h:bd x f=ok b):∃a,x=ok a/\f a=ok b:=by
 unfold bd at h
 match x,h with
 |some (.ok a),h=>exact⟨a,rfl,h⟩
 |some (.error c),h=>cases h
 |none,h=>cases h
inductive G6 where|add|sub|mul|fdiv|mod|pow|shl
 deriving DecidableEq
inductive zN where|eq|ne|lt|le|gt|ge|FO
 deriving DecidableEq
inductive Ty where|int|bool|str|list|tuple
 deriving DecidableEq
inductive Bf where|len|abs|min2|max2|list1|tuple1|sI|all1|hJ
 deriving DecidableEq
inductive Tg where|nm(i:Nat)|tp(is:aQ)
 deriving DecidableEq
inductive IK where|lW|lV|seq|cg(p:Nat)
 deriving DecidableEq
inductive GK where|i(z:Int)
 deriving DecidableEq
inductive CE where
 |bB|bl (b:Bool)|int (i:Int)|str (s:Str)|glo (x:Str) (i:Int)
 |v (i:Nat)
 |bin (op:G6) (a b:CE)
 |neg (a:CE)|not (a:CE)|and (es:List CE)|or (es:List CE)
 |cmp (op:zN) (a b:CE)
 |si (a:CE) (t:Ty)
 |call (f:Nat) (es:List CE)
 |bf (f:Bf) (es:List CE)
 |ix (a b:CE)
 |kv (a:CE)
 |tup (es:List CE)|lst (es:List CE)
 |cg (p:Nat) (es:List CE)
 |comp (n:Nat) (t:Tg) (caps:aQ) (ik:IK) (es bL:List CE) (elt:CE)
abbrev az:=List CE
inductive CI where|lW(a:CE)|lV(a b:CE)|seq(a:CE)|JQ(p:Nat)(es:az)
inductive CS where
 |asg (t:Tg) (e:CE)|par (i j:Nat) (a b:CE)|ret (e:CE)|rs (c:Nat)|ex (e:CE)
 |mut (p i:Nat) (es:az)|app (i:Nat) (e:CE)
 |ifs (c:CE) (a b:List CS)
 |G7 (c:CE) (b:List CS)
 |fr (t:Tg) (it:CI) (b:List CS)
abbrev ao:=List CS
noncomputable abbrev aZ:=List (aO)
noncomputable abbrev bg:=Nat->aI
noncomputable def big:Nat:=2 ^ 9000
def iz(i j:Int):Bool:=decide (i.natAbs<2 ^ 64)||decide (j.natAbs<2 ^ 64)||(decide (i.natAbs<big)&&decide (j.natAbs<big))
def p7(j:Int):Bool:=decide (j≠0)&&decide (j.natAbs<big)
noncomputable def ko(i j:Int):Bool:=decide (0<=j)&&decide (j<=1000000)&&decide (i.natAbs<2 ^ 64)
noncomputable def ej:Nat:=1000000
theorem oU{α:Type}{c:Prop}[inst:Decidable c]{v d:α}(h:(if c then ok v else none)=ok d):c/\v=d:=by
 cases inst with
 |isTrue hc=>exact⟨hc,Except.ok.inj (aat h)⟩
 |isFalse hc=>cases h
def b0:G6->D->D->O D
 |.add,.int i,.int j=>ok (.int (i+j))
 |.add,.lst f a,.lst g b=>if e_ f=false/\e_ g=false/\a.length+b.length<=ej then ok (.lst .ow (ah aN (a++b)))else none
 |.add,.tup a,.tup b=>if a.length+b.length<=ej then ok (.tup (ah aN (a++b)))else none
 |.sub,.int i,.int j=>ok (.int (i - j))
 |.mul,.int i,.int j=>if iz i j then ok (.int (i*j))else none
 |.fdiv,.int i,.int j=>if p7 j then ok (.int (i.fdiv j))else none
 |.mod,.int i,.int j=>if j≠0 then ok (.int (i.fmod j))else none
 |.pow,.int i,.int j=>if ko i j then ok (.int (i ^ j.toNat))else none
 |.shl,.int i,.int j=>if ko i j then ok (.int (i*2 ^ j.toNat))else none
 |_,_,_=>none
def inD(x:D):aa->Bool
 |[]=>false
 |y::ys=>ib y x||inD x ys
noncomputable def n6:D->Bool
 |.bB=>true|.bl _=>true|.int _=>true|.str _=>true|_=>false
noncomputable def Kv:D->Option (aa)
 |.tup ds=>some ds
 |.lst _ ds=>some ds
 |_=>none
def ic:zN->D->D->O D
 |.eq,a,b=>if fi 40 a&&fi 40 b then ok (.bl (ib a b))else none
 |.ne,a,b=>if fi 40 a&&fi 40 b then ok (.bl (!ib a b))else none
 |.lt,.int i,.int j=>ok (.bl (decide (i<j)))
 |.le,.int i,.int j=>ok (.bl (decide (i<=j)))
 |.gt,.int i,.int j=>ok (.bl (decide (j<i)))
 |.ge,.int i,.int j=>ok (.bl (decide (j<=i)))
 |.FO,a,b=>match Kv b with
  |some ds=>if n6 a&&ds.all n6 then ok (.bl (inD a ds))else none
  |none=>none
 |_,_,_=>none
noncomputable def cW:Ty->D->Bool
 |.int,.int _=>true|.int,.bl _=>true
 |.bool,.bl _=>true
 |.str,.str _=>true
 |.list,.lst _ _=>true
 |.tuple,.tup _=>true
 |_,_=>false
noncomputable def zC(n:Nat)(i:Int):Option Nat:=if 0<=i then(if i<n then some i.toNat else none)else if -(n:Int)<=i then some (i+n).toNat else none
def uG(ds:aa)(i:Int):O D:=match(zC ds.length i).bind λj=>ds[j]? with
 |some d=>ok (aw aN d)
 |none=>none
def xu:D->D->O D
 |.tup ds,.int i=>uG ds i
 |.lst _ ds,.int i=>uG ds i
 |_,_=>none
noncomputable def intsOf:aa->Option (ae)
 |[]=>some []
 |.int i::ds=>(intsOf ds).map (i :: ·)
 |_::_=>none
noncomputable def jb:aa->Option (List Bool)
 |[]=>some []
 |.bl i::ds=>(jb ds).map (i :: ·)
 |_::_=>none
theorem dN:∀{ds:aa} {ns:ae},intsOf ds=some ns->ds=ns.map D.int
 |[],ns,h=>by simp[intsOf]at h;subst h;rfl
 |d::ds,ns,h=>by
  cases d<;>simp[intsOf]at h;obtain⟨ms,h1,rfl⟩:=h;rw[dN h1];rfl
theorem uB:∀{ds:aa} {bs:List Bool},jb ds=some bs->ds=bs.map D.bl
 |[],bs,h=>by simp[jb]at h;subst h;rfl
 |d::ds,bs,h=>by
  cases d<;>simp[jb]at h;obtain⟨ms,h1,rfl⟩:=h;rw[uB h1];rfl
theorem b_:∀ns:ae,intsOf (ns.map D.int)=some ns
 |[]=>rfl
 |n::ns=>by simp[intsOf,b_ ns]
theorem lr:∀bs:List Bool,jb (bs.map D.bl)=some bs
 |[]=>rfl
 |b::bs=>by simp[jb,lr bs]
noncomputable def sortI(ns:ae):ae:=ns.mergeSort (λa b=>decide (a<=b))
def sO(ds:aa):O D:=match intsOf ds with
 |some ns=>if ns.length<64 then ok (.lst .ow ((sortI ns).map D.int))else none
 |none=>none
def rQ:Bf->aI
 |.len,xs=>match xs with
  |[.tup ds]=>ok (.int ds.length)
  |[.lst _ ds]=>ok (.int ds.length)
  |_=>none
 |.abs,xs=>match xs with
  |[.int i]=>ok (.int (if i<0 then -i else i))
  |_=>none
 |.min2,xs=>match xs with
  |[.int i,.int j]=>ok (.int (if j<i then j else i))
  |_=>none
 |.max2,xs=>match xs with
  |[.int i,.int j]=>ok (.int (if j>i then j else i))
  |_=>none
 |.list1,xs=>match xs with
  |[.lst _ ds]=>ok (.lst .ow (ah aN ds))
  |[.tup ds]=>ok (.lst .ow (ah aN ds))
  |_=>none
 |.tuple1,xs=>match xs with
  |[.lst _ ds]=>ok (.tup (ah aN ds))
  |_=>none
 |.sI,xs=>match xs with
  |[.lst _ ds]=>(match intsOf ds with
   |some ns=>ok (.int ns.sum)
   |none=>none)
  |_=>none
 |.all1,xs=>match xs with
  |[.lst _ ds]=>(match jb ds with
   |some bs=>ok (.bl (bs.all id))
   |none=>none)
  |_=>none
 |.hJ,xs=>match xs with
  |[.tup ds]=>sO ds
  |_=>none
noncomputable def oY(ns:ae):ae:=ns.foldl (λ(m:ae) (k:Int)=>if m.any (· == k)then m else m++[k]) []
def xj:D->O D
 |.tup ds=>(match intsOf ds with
  |some ns=>if ns.length<4000 then ok (.int (oY ns).length)else none
  |none=>none)
 |_=>none
noncomputable def gG:D->O Bool
 |.bl b=>ok b
 |_=>none
noncomputable def intD:D->O Int
 |.int i=>ok i
 |_=>none
noncomputable def A9:Option (aO)->Option (aa)
 |some (some (.lst .ow ds))=>some ds
 |_=>none
theorem EZ{o:Option (aO)}{ds:aa}(h:A9 o=some ds):o=some (some (.lst .ow ds)):=by
 unfold A9 at h;split at h<;>cases h;rfl
theorem R5{d:D}{i:Int}(h:intD d=ok i):d=.int i:=by
 cases d<;>simp[intD]at h;rw[h]
noncomputable def Fn:D->O D
 |.int i=>ok (.int (-i))
 |_=>none
def gK:aQ->aa->aZ->O aZ
 |[],[],ρ=>ok ρ
 |i::is,d::ds,ρ=>if i<ρ.length then gK is ds (ρ.set i (some d))else none
 |_,_,_=>none
def cK:Tg->D->aZ->O aZ
 |.nm i,d,ρ=>if i<ρ.length then ok (ρ.set i (some d))else none
 |.tp is,.tup ds,ρ=>if a_ eG ds then none else gK is ds ρ
 |_,_,_=>none
def sV:D->O (aa)
 |.lst _ ds=>ok (ah aA ds)
 |_=>none
def eF(Φ:bg):IK->aa->O (aa)
 |.cg p,xs=>bd (Φ p xs) sV
 |.lW,[.int n]=>if n<=ej /\ -ej<=n then ok ((List.range n.toNat).map λ(k:Nat)=>D.int (k:Int))else none
 |.lV,[.int m,.int n]=>if n<=ej /\ -ej<=n/\m<=ej /\ -ej<=m then ok ((List.range (n - m).toNat).map λ(k:Nat)=>D.int (m+(k:Int)))else none
 |.seq,[.tup ds]=>ok (ah aA ds)
 |.seq,[.lst _ ds]=>ok (ah aA ds)
 |_,_=>none
def iD(bind:D->O aZ)(test:aZ->O Bool)(el:aZ->O D):aa->O (aa)
 |[]=>ok []
 |x::xs=>bd (bind x) λρ=>bd (test ρ) λb=>if b then bd (el ρ) λy=>bd (iD bind test el xs) λys=>ok (y::ys)else iD bind test el xs
def cF(n:Nat)(caps:aQ)(ρ:aZ):aZ:=List.replicate n none++caps.map λi=>(ρ[i]?.getD none).map (aw aA)
def pk(o:Option (aO)):O D:=match o with
 |some (some d)=>ok (aw aN d)
 |_=>none
theorem Ar{o:Option (aO)}{d:D}(h:pk o=ok d):∃d',o=some (some d')/\d=aw aN d':=by
 cases o with
 |none=>cases h
 |some z=>cases z with
  |none=>cases h
  |some z=>cases h;exact⟨z,rfl,rfl⟩
mutual
noncomputable def bj(Φ:bg):CE->aZ->O D
 |.bB,_=>ok .bB
 |.bl b,_=>ok (.bl b)
 |.int i,_=>ok (.int i)
 |.str s,_=>ok (.str s)
 |.glo _ i,_=>ok (.int i)
 |.v i,ρ=>pk ρ[i]?
 |.bin op a b,ρ=>bd (bj Φ a ρ) λx=>bd (bj Φ b ρ) λy=>b0 op x y
 |.neg a,ρ=>bd (bj Φ a ρ) Fn
 |.not a,ρ=>bd (bd (bj Φ a ρ) gG) λb=>ok (.bl (!b))
 |.and es,ρ=>pW Φ es ρ
 |.or es,ρ=>y9 Φ es ρ
 |.cmp op a b,ρ=>bd (bj Φ a ρ) λx=>bd (bj Φ b ρ) λy=>ic op x y
 |.si a t,ρ=>bd (bj Φ a ρ) λx=>ok (.bl (cW t x))
 |.call f es,ρ=>bd (bz Φ es ρ) λxs=>bd (Φ f (ah aA xs)) λr=>ok (aw dY r)
 |.bf f es,ρ=>bd (bz Φ es ρ) λxs=>rQ f xs
 |.ix a b,ρ=>bd (bj Φ a ρ) λx=>bd (bj Φ b ρ) λy=>xu x y
 |.kv a,ρ=>bd (bj Φ a ρ) λx=>xj x
 |.cg p es,ρ=>bd (bz Φ es ρ) λxs=>Φ p xs
 |.tup es,ρ=>bd (bz Φ es ρ) λxs=>ok (.tup xs)
 |.lst es,ρ=>bd (bz Φ es ρ) λxs=>ok (.lst .ow xs)
 |.comp n t caps ik es bL elt,ρ=>bd (bz Φ es ρ) λxs=>bd (eF Φ ik xs) λitems =>
   bd (iD (λd=>cK t d (cF n caps ρ)) (λρ'=>iA Φ bL ρ') (λρ'=>bj Φ elt ρ') items) λds=>if ds.length<=ej then ok (.lst .ow (ah dY ds))else none
noncomputable def bz(Φ:bg):az->aZ->O (aa)
 |[],_=>ok []
 |e::es,ρ=>bd (bj Φ e ρ) λx=>bd (bz Φ es ρ) λxs=>ok (x::xs)
noncomputable def iA(Φ:bg):az->aZ->O Bool
 |[],_=>ok true
 |e::es,ρ=>bd (bd (bj Φ e ρ) gG) λb=>if b then iA Φ es ρ else ok false
noncomputable def pW(Φ:bg):az->aZ->O D
 |[],_=>none
 |e::es,ρ=>bd (bd (bj Φ e ρ) gG) λc=>match es with
  |[]=>ok (.bl c)
  |_::_=>if c then pW Φ es ρ else ok (.bl false)
noncomputable def y9(Φ:bg):az->aZ->O D
 |[],_=>none
 |e::es,ρ=>bd (bd (bj Φ e ρ) gG) λc=>match es with
  |[]=>ok (.bl c)
  |_::_=>if c then ok (.bl true)else y9 Φ es ρ
end
def ug(Φ:bg)(e:CE)(ρ:aZ):O Bool:=bd (bj Φ e ρ) gG
inductive Fo where|nx|rt(d:D)
noncomputable def cV{α β:Type}(n:Nat)(step:α->O (α ⊕ β))(a:α):O β:=match n with
 |0=>none
 |n+1=>bd (step a) λr=>match r with
  |.inl a'=>cV n step a'
  |.inr b=>ok b
open Classical in
noncomputable def fL{α β:Type}(step:α->O (α ⊕ β))(a:α):O β :=
 if h:∃n,cV n step a≠none then cV (Classical.choose h) step a else none
theorem iU{α β:Type}(step:α->O (α ⊕ β)):∀(n m:Nat) (a:α),n<=m->cV n step a≠none->cV m step a=cV n step a
 |0,_,_,_,h=>absurd rfl h
 |n+1,0,_,hl,_=>by left
 |n+1,m+1,a,hl,h=>by
  unfold cV at h ⊢
  match hs:step a with
  |none=>rw[hs]at h;exact absurd rfl h
  |some (.error c)=>rfl
  |some (.ok (.inr b))=>rfl
  |some (.ok (.inl a')) =>
   rw[hs]at h;exact iU step n m a' (by left) h
theorem kS{α β:Type}{step:α->O (α ⊕ β)}{a:α}{n:Nat}{r:Except Nat β}(h:cV n step a=some r):fL step a=some r:=by
 have hx:∃n,cV n step a≠none:=⟨n,by rw[h];simp⟩
 unfold fL;rw[dif_pos hx];have hc:=abJ hx;rcases Nat.le_total n (Classical.choose hx)with hl|hl
 ·rw[iU step _ _ a hl (by rw[h];simp),h]
 ·rw[<- iU step _ _ a hl hc,h]
theorem k7{α β:Type}{step:α->O (α ⊕ β)}{a:α}{r:Except Nat β}(h:fL step a=some r):∃n,cV n step a=some r:=by
 unfold fL at h;split at h
 ·exact⟨_,h⟩
 ·cases h
theorem mS{α β:Type}{step:α->O (α ⊕ β)}{a a':α}(h:step a=ok (.inl a')):fL step a=fL step a':=by
 match hr:fL step a' with
 |some r =>
  obtain⟨n,hn⟩:=k7 hr;refine kS (n:=n+1) ?_;unfold cV;rw[h];exact hn
 |none =>
  match hq:fL step a with
  |none=>rfl
  |some r =>
   obtain⟨n,hn⟩:=k7 hq
   match n,hn with
   |n+1,hn =>
    unfold cV at hn;rw[h]at hn;rw[kS (n:=n) hn]at hr;cases hr
theorem gY{α β:Type}{step:α->O (α ⊕ β)}{a:α}{b:β}(h:step a=ok (.inr b)):fL step a=ok b :=
 kS (n:=1) (by unfold cV;rw[h];rfl)
mutual
noncomputable def jr:CE->aQ
 |.v i=>[i]
 |.bin _ a b=>jr a++jr b
 |.neg a=>jr a
 |.not a=>jr a
 |.and es=>dg es
 |.or es=>dg es
 |.cmp _ a b=>jr a++jr b
 |.si a _=>jr a
 |.call _ es=>dg es
 |.bf _ es=>dg es
 |.ix a b=>jr a++jr b
 |.kv a=>jr a
 |.tup es=>dg es
 |.lst es=>dg es
 |.cg _ es=>dg es
 |.comp _ _ caps _ es _ _=>caps++dg es
 |_=>[]
noncomputable def dg:az->aQ
 |[]=>[]
 |e::es=>jr e++dg es
end
def iK(is:aQ)(ρ:aZ):aZ:=ρ.mapIdx λi d=>if i∈is then d.map (aw aA)else d
def keep(e:CE)(d:D)(ρ:aZ):D×aZ:=if bo bX d then(aw aA d,iK (jr e) ρ)else(d,ρ)
def ju(Φ:bg)(e:CE)(ρ:aZ):O (D×aZ):=match e with
 |.v i=>match ρ[i]? with
  |some (some d)=>if bo eG d then ok (d,ρ.set i none)else ok (d,ρ)
  |_=>none
 |_=>bd (bj Φ e ρ) λd=>ok (keep e d ρ)
def fQ(Φ:bg)(it:CI)(ρ:aZ):O (aa×aZ):=match it with
 |.JQ p es=>bd (bz Φ es ρ) λxs=>bd (Φ p xs) λd=>bd (sV d) λitems=>ok (items,if a_ bX xs then iK (dg es) ρ else ρ)
 |.lW a=>bd (bj Φ a ρ) λx=>match x with
  |.int n=>if n<=ej /\ -ej<=n then ok ((List.range n.toNat).map λ(k:Nat)=>D.int (k:Int),ρ)else none
  |_=>none
 |.lV a b=>bd (bj Φ a ρ) λx=>bd (bj Φ b ρ) λy=>match x,y with
  |.int m,.int n=>if n<=ej /\ -ej<=n/\m<=ej /\ -ej<=m then ok ((List.range (n - m).toNat).map λ(k:Nat)=>D.int (m+(k:Int)),ρ)else none
  |_,_=>none
 |.seq a=>bd (bj Φ a ρ) λx=>match x with
  |.tup ds=>ok (ah aA ds,if bo bX x then iK (jr a) ρ else ρ)
  |.lst f ds=>ok (ah aA ds,if bo bX x then iK (jr a) ρ else ρ)
  |_=>none
def nF(es:az)(xs:aa)(ρ:aZ):aa×aZ:=if a_ bX xs then(ah aA xs,iK (dg es) ρ)else(xs,ρ)
noncomputable def vp(Φ:bg)(p i:Nat)(r:aa×aZ):O (Fo×aZ):=match r.2[i]? with
 |some (some d)=>bd (Φ p (d::r.1)) λd'=>ok (.nx,r.2.set i (some d'))
 |_=>none
def fm(bind:D->aZ->O aZ)(body:aZ->O (Fo×aZ)):aa->aZ->O (Fo×aZ)
 |[],ρ=>ok (.nx,ρ)
 |d::ds,ρ=>bd (bind d ρ) λρ1=>bd (body ρ1) λr=>match r with
  | (.nx,ρ2)=>fm bind body ds ρ2
  | (.rt d,ρ2)=>ok (.rt d,ρ2)
mutual
noncomputable def i0(Φ:bg):CS->aZ->O (Fo×aZ)
 |.asg t e,ρ=>bd (ju Φ e ρ) λr=>bd (cK t r.1 r.2) λρ'=>ok (.nx,ρ')
 |.par i j a b,ρ=>bd (bj Φ a ρ) λx=>bd (bj Φ b ρ) λy=>if bo anyF x=false/\bo anyF y=false/\i<ρ.length/\j<ρ.length then ok (.nx,(ρ.set i (some x)).set j (some y))else none
 |.ret e,ρ=>bd (ju Φ e ρ) λr=>ok (.rt r.1,r.2)
 |.rs c,_=>some (.error c)
 |.ex e,ρ=>bd (bj Φ e ρ) λ_=>ok (.nx,ρ)
 |.mut p i es,ρ=>bd (bz Φ es ρ) λxs=>vp Φ p i (nF es xs ρ)
 |.app i e,ρ=>bd (ju Φ e ρ) λr=>match A9 r.2[i]? with
  |some ds=>if ds.length<ej then ok (.nx,r.2.set i (some (.lst .ow (ds++[r.1]))))else none
  |none=>none
 |.ifs c a b,ρ=>bd (ug Φ c ρ) λk=>if k then bF Φ a ρ else bF Φ b ρ
 |.G7 c b,ρ=>fL (λρ=>bd (ug Φ c ρ) λk=>if k then bd (bF Φ b ρ) λr=>match r with
   | (.nx,ρ')=>ok (.inl ρ')
   | (.rt d,ρ')=>ok (.inr (.rt d,ρ'))
  else ok (.inr (.nx,ρ))) ρ
 |.fr t it b,ρ=>bd (fQ Φ it ρ) λr=>fm (λd ρ=>cK t d ρ) (λρ=>bF Φ b ρ) r.1 r.2
noncomputable def bF(Φ:bg):ao->aZ->O (Fo×aZ)
 |[],ρ=>ok (.nx,ρ)
 |s::ss,ρ=>bd (i0 Φ s ρ) λr=>match r with
  | (.nx,ρ')=>bF Φ ss ρ'
  |r=>ok r
end
noncomputable def qy(Φ:bg)(n:Nat)(b:ao)(ds:aa):O D:=bd (bF Φ b (ds.map some++List.replicate (n - ds.length) none)) λr=>match r.1 with
 |.nx=>ok .bB
 |.rt d=>ok d
noncomputable def D4:aI
 |[.lst _ a,.lst _ b]=>ok (.lst .ow (List.zipWith (λx y=>.tup [x,y]) a b))
 |_=>none
end DI
end
section
namespace DI
open PySem PySem.Spec PyProof.Rows L2
noncomputable abbrev bp:=aQ
noncomputable abbrev St:=L2.St
noncomputable abbrev md:=Addr->af->Prop
inductive Nd where|l(xs:af)|d(cs:aB)(as:bc)(xs:af)(ep:Nat)
abbrev gC:=bp->Addr->Nd->Fl->Prop
structure gf(T:md)(as:bc)(cs:aB):Prop where
 len:as.length=cs.length
 tup:∀(j:Nat) (a:Addr) (c:ae),as[j]?=some a->cs[j]?=some c->T a (c.map V.int)
variable {T T':md}{as ch fp:bc}
theorem gf.imp{cs:aB}(h:gf T as cs)(hT:∀p xs,T p xs->T' p xs):gf T' as cs:=⟨h.len,λj a c h1 h2=>hT _ _ (h.tup j a c h1 h2)⟩
mutual
inductive Rep(T:md)(N:gC):bp->V->D->Prop where
 |bB {q:bp}:Rep T N q .bB .bB
 |bl {q:bp} (b:Bool):Rep T N q (.bl b) (.bl b)
 |int {q:bp} (i:Int):Rep T N q (.int i) (.int i)
 |str {q:bp} (s:Str):Rep T N q (.str s) (.str s)
 |tup {q:bp} {p:Addr} {xs:af} {ds:aa} (h:T p xs) (r:aG T N q 0 xs ds):Rep T N q (.ref p) (.tup ds)
 |lst {q:bp} {p:Addr} {xs:af} {f:Fl} {ds:aa} (h:N q p (.l xs) f) (r:aG T N q 0 xs ds):Rep T N q (.ref p) (.lst f ds)
 |cJ {q:bp} {p:Addr} {cs:aB} {as:bc} {xs:af} {ep:Nat} {f:Fl} {ds:aa} (h:N q p (.d cs as xs ep) f) (k:gf T as cs) (r:aG T N q 0 xs ds):Rep T N q (.ref p) (.cJ f cs ds)
inductive aG(T:md)(N:gC):bp->Nat->af->aa->Prop where
 |nil {q:bp} {n:Nat}:aG T N q n [] []
 |cons {q:bp} {n:Nat} {v:V} {d:D} {vs:af} {ds:aa} (h:Rep T N (n::q) v d) (t:aG T N q (n+1) vs ds):aG T N q n (v::vs) (d::ds)
end
variable {ds ds' items:aa}
theorem Rep.M5{N:gC}{q:bp}{v:V}(h:Rep T N q v (.tup ds)):∃p xs,v=.ref p/\T p xs/\aG T N q 0 xs ds:=by
 cases h with
 |tup a b=>exact⟨_,_,rfl,a,b⟩
theorem Rep.uV{N:gC}{q:bp}{v:V}{f:Fl}(h:Rep T N q v (.lst f ds)):∃p xs,v=.ref p/\N q p (.l xs) f/\aG T N q 0 xs ds:=by
 cases h with
 |lst a b=>exact⟨_,_,rfl,a,b⟩
mutual
theorem ra:∀d:D,bo (λ_=>false) d=false
 |.bB=>rfl
 |.bl _=>rfl
 |.int _=>rfl
 |.str _=>rfl
 |.tup ds=>gO ds
 |.lst _ ds=>gO ds
 |.cJ _ _ ds=>gO ds
theorem gO:∀ds:aa,a_ (λ_=>false) ds=false
 |[]=>rfl
 |d::ds=>by show(bo _ d||a_ _ ds)=false;rw[ra d,gO ds];rfl
end
theorem JY{a b:Bool}(h:(a||b)=false):a=false/\b=false:=by cases a<;>cases b<;>first|exact⟨rfl,rfl⟩|cases h
variable {k' q':bp}{vs xs xs':af}
section
variable {T T':md}{N N':gC}{g:Fl->Fl}{P:Fl->Bool}{C:bp->bp->Prop}{I:Nat->Nat->Prop}
mutual
theorem Rep.gen(hT:∀p xs,T p xs->T' p xs)(h0:I 0 0)(hI:∀n n',I n n'->I (n+1) (n'+1))(hC:∀k k' n n',C k k'->I n n'->C (n::k) (n'::k'))(hN:∀k k' p xs f,C k k'->P f=false->N k p xs f->N' k' p xs (g f)):
  ∀{k:bp} {v:V} {d:D},Rep T N k v d->∀{k':bp},C k k'->bo P d=false->Rep T' N' k' v (aw g d)
 |_,_,_,.bB,_,_,_=>.bB
 |_,_,_,.bl b,_,_,_=>.bl b
 |_,_,_,.int i,_,_,_=>.int i
 |_,_,_,.str s,_,_,_=>.str s
 |_,_,_,.tup h r,_,c,e=>.tup (hT _ _ h) (aG.gen hT h0 hI hC hN r c h0 e)
 |_,_,_,.lst h r,_,c,e=>.lst (hN _ _ _ _ _ c (JY e).1 h) (aG.gen hT h0 hI hC hN r c h0 (JY e).2)
 |_,_,_,.cJ h k r,_,c,e=>.cJ (hN _ _ _ _ _ c (JY e).1 h) (k.imp hT) (aG.gen hT h0 hI hC hN r c h0 (JY e).2)
theorem aG.gen(hT:∀p xs,T p xs->T' p xs)(h0:I 0 0)(hI:∀n n',I n n'->I (n+1) (n'+1))(hC:∀k k' n n',C k k'->I n n'->C (n::k) (n'::k'))(hN:∀k k' p xs f,C k k'->P f=false->N k p xs f->N' k' p xs (g f)):
  ∀{k:bp} {n:Nat} {vs:af} {ds:aa},aG T N k n vs ds->∀{k':bp} {n':Nat},C k k'->I n n'->a_ P ds=false->aG T' N' k' n' vs (ah g ds)
 |_,_,_,_,.nil,_,_,_,_,_=>.nil
 |_,_,_,_,.cons h t,_,_,c,i,e=>.cons (Rep.gen hT h0 hI hC hN h (hC _ _ _ _ c i) (JY e).1) (aG.gen hT h0 hI hC hN t c (hI _ _ i) (JY e).2)
end
theorem Rep.map{q:bp}(hT:∀p xs,T p xs->T' p xs)(hN:∀c p xs f,N (c++q) p xs f->N' (c++q') p xs (g f)){k:bp}{v:V}{d:D}(h:Rep T N k v d)(c:bp)(e:k=c++q):Rep T' N' (c++q') v (aw g d) :=
 Rep.gen (P:=λ_=>false) (C:=λk k'=>∃c,k=c++q/\k'=c++q') (I:=λn n'=>n=n') hT rfl (λ_ _ e=>by rw[e]) (λ_ _ n _ ⟨c,e1,e2⟩ e=>⟨n::c,by rw[e1];rfl,by rw[e2,<- e];rfl⟩) (λ_ _ p xs f ⟨c,e1,e2⟩ _ h=>by subst e1;subst e2;exact hN c p xs f h) h ⟨c,e,rfl⟩ (ra d)
theorem aG.map{q:bp}(hT:∀p xs,T p xs->T' p xs)(hN:∀c p xs f,N (c++q) p xs f->N' (c++q') p xs (g f)){k:bp}{n:Nat}(h:aG T N k n vs ds)(c:bp)(e:k=c++q):aG T' N' (c++q') n vs (ah g ds) :=
 aG.gen (P:=λ_=>false) (C:=λk k'=>∃c,k=c++q/\k'=c++q') (I:=λn n'=>n=n') hT rfl (λ_ _ e=>by rw[e]) (λ_ _ n _ ⟨c,e1,e2⟩ e=>⟨n::c,by rw[e1];rfl,by rw[e2,<- e];rfl⟩) (λ_ _ p xs f ⟨c,e1,e2⟩ _ h=>by subst e1;subst e2;exact hN c p xs f h) h ⟨c,e,rfl⟩ rfl (gO ds)
theorem Rep.gM(hT:∀p xs,T p xs->T' p xs)(hN:∀k k' p xs f,N k p xs f->N' k' p xs (g f)){k:bp}{v:V}{d:D}(h:Rep T N k v d)(k':bp):Rep T' N' k' v (aw g d) :=
 Rep.gen (P:=λ_=>false) (C:=λ_ _=>True) (I:=λ_ _=>True) hT trivial (λ_ _ e=>e) (λ_ _ _ _ e _=>e) (λk k' p xs f _ _ h=>hN k k' p xs f h) h trivial (ra d)
theorem aG.gM(hT:∀p xs,T p xs->T' p xs)(hN:∀k k' p xs f,N k p xs f->N' k' p xs (g f)){k:bp}{n:Nat}(h:aG T N k n vs ds)(k':bp)(n':Nat):aG T' N' k' n' vs (ah g ds) :=
 aG.gen (P:=λ_=>false) (C:=λ_ _=>True) (I:=λ_ _=>True) hT trivial (λ_ _ e=>e) (λ_ _ _ _ e _=>e) (λk k' p xs f _ _ h=>hN k k' p xs f h) h trivial trivial (gO ds)
end
mutual
theorem eR:∀d:D,aw id d=d
 |.bB=>rfl
 |.bl _=>rfl
 |.int _=>rfl
 |.str _=>rfl
 |.tup ds=>by rw[aw,eZ ds]
 |.lst f ds=>by rw[aw,eZ ds];rfl
 |.cJ f ks vs=>by rw[aw,eZ vs];rfl
theorem eZ:∀ds:aa,ah id ds=ds
 |[]=>rfl
 |d::ds=>by rw[ah,eR d,eZ ds]
end
section
variable {T T':md}{N N':gC}
theorem Rep.imp{q:bp}(hT:∀p xs,T p xs->T' p xs)(hN:∀c p xs f,N (c++q) p xs f->N' (c++q') p xs f){v:V}{d:D}(h:Rep T N q v d):Rep T' N' q' v d:=by
 have:=Rep.map (g:=id) hT hN h [] rfl;rw[eR]at this;exact this
theorem aG.imp{q:bp}{n:Nat}(hT:∀p xs,T p xs->T' p xs)(hN:∀c p xs f,N (c++q) p xs f->N' (c++q') p xs f)(h:aG T N q n vs ds):aG T' N' q' n vs ds:=by
 have:=aG.map (g:=id) hT hN h [] rfl;rw[eZ]at this;exact this
theorem aG.length:∀{k:bp} {n:Nat} {vs:af} {ds:aa},aG T N k n vs ds->vs.length=ds.length
 |_,_,_,_,.nil=>rfl
 |_,_,_,_,.cons _ t=>by simp[aG.length t]
theorem aG.get:∀{k:bp} {n j:Nat} {vs:af} {ds:aa} {d:D},aG T N k n vs ds->ds[j]?=some d->∃v,vs[j]?=some v/\Rep T N ((n+j)::k) v d
 |_,_,_,_,_,_,.nil,e=>by simp at e
 |_,_,0,_,_,_,.cons h t,e=>by simp at e;subst e;exact⟨_,rfl,h⟩
 |_,n,j+1,_,_,_,.cons h t,e=>by
  obtain⟨v,h1,h2⟩:=aG.get (j:=j) t (by simpa using e);refine⟨v,by simpa using h1,?_⟩;have:n+1+j=n+(j+1):=by left
  rw[<- this];exact h2
theorem aG.y4:∀{k:bp} {n j:Nat} {vs:af} {ds:aa} {v:V},aG T N k n vs ds->vs[j]?=some v->∃d,ds[j]?=some d/\Rep T N ((n+j)::k) v d
 |_,_,_,_,_,_,.nil,e=>by simp at e
 |_,_,0,_,_,_,.cons h t,e=>by simp at e;subst e;exact⟨_,rfl,h⟩
 |_,n,j+1,_,_,_,.cons h t,e=>by
  obtain⟨v,h1,h2⟩:=aG.y4 (j:=j) t (by simpa using e);refine⟨v,by simpa using h1,?_⟩;have:n+1+j=n+(j+1):=by left
  rw[<- this];exact h2
theorem aG.rV{k:bp}(hN:∀k k' p xs f,N k p xs f->N k' p xs f):∀{n m l:Nat} {vs ws:af} {ds es:aa},aG T N k n vs ds->aG T N k m ws es->aG T N k l (vs++ws) (ds++es)
 |_,_,_,_,_,_,_,.nil,t=>by
  have:=aG.gM (T':=T) (N':=N) (g:=id) (λ_ _ h=>h) hN t;rw[eZ]at this;exact this _ _
 |_,_,_,_,_,_,_,.cons h t,u=>.cons (by
  have:=Rep.gM (T':=T) (N':=N) (g:=id) (λ_ _ h=>h) hN h;rw[eR]at this;exact this _) (aG.rV hN t u)
end
def KL(K:aq)(a:Addr)(xs:af):Prop :=
 ∃(o:Obj) (aM:aV) (n:Nat),K.lookup a=some o/\o.cls=.type "list" /\ o.dict=none/\o.data=.seq aM n/\aM.size<=sizeLine/\Vals xs aM.toList
def DO(p:Addr)(cs:aB)(as:bc)(xs:af)(ep:Nat)(h:Heap):Prop :=
 ∃(zs:List (ae×Addr×Value)) (o:Obj) (es:Array DictEntry),zs.map (·.1)=cs/\zs.map (·.2.1)=as/\Vals xs (zs.map (·.2.2))/\h.get? p=some o/\o.ExactDict/\o.data=.dict es ep /\
  es.toList=zs.map (λz=>⟨reduceHash (Builtin.Tuple.tupleHashOf (z.1.map hashInt)),.ref z.2.1,z.2.2⟩)/\cs.Nodup/\cs.length<=sizeLine/\(p==sysModules)=false
noncomputable abbrev fA(H:Hp)(p:Addr)(n:Nd):Prop:=match n with
 |.l xs=>H p=some (.lst xs)
 |.d cs as xs ep=>H p=some (.ext (DO p cs as xs ep))
variable {H H' H1 H2:Hp}
theorem fA.ne{p:Addr}{n:Nd}(h:fA H p n):H p≠none:=by
 cases n with
 |l xs=>intro z;rw[show H p=some (.lst xs) from h]at z;cases z
 |d cs as xs ep=>intro z;rw[show H p=some (.ext (DO p cs as xs ep)) from h]at z;cases z
theorem fA.at{p:Addr}{n:Nd}(e:∀o,H p=some o->H' p=some o)(h:fA H p n):fA H' p n:=by
 cases n with
 |l xs=>exact e _ h
 |d cs as xs ep=>exact e _ h
theorem fA.same{p:Addr}{n:Nd}(e:aK H H')(h:fA H p n):fA H' p n:=h.at (e p)
theorem fA.some{H:Hp}{p:Addr}{n:Nd}(h:fA H p n):∃o,H p=some o/\(∀xs,o≠.tup xs)/\(∀a u,o≠.iK a u):=by
 cases n with
 |l xs=>exact⟨_,h,λ_ z=>(nomatch z),λ_ _ z=>(nomatch z)⟩
 |d cs as xs ep=>exact⟨_,h,λ_ z=>(nomatch z),λ_ _ z=>(nomatch z)⟩
def nd(K:aq)(R A:ai)(τ:Addr->Option bp)(H:Hp):gC:=λq p n f=>match f with
 |.ow=>fA H p n/\τ p=some q
 |.fz=>fA H p n/\R p
 |.al=>fA H p n/\A p
 |.sc=>match n with
  |.l xs=>(∃o,H p=some (.iK o (.lst xs)))\/KL K p xs
  |.d _ _ _ _=>False
variable {A F G R R' R1:Addr->Prop}{K:aq}{τ τ' τt:Addr->Option bp}
theorem nd.Hj{q:bp}{p:Addr}{n:Nd}(h:nd K R A τ H q p n .sc):∃xs,n=.l xs/\((∃o,H p=some (.iK o (.lst xs)))\/KL K p xs):=by
 cases n with
 |l xs=>exact⟨xs,rfl,h⟩
 |d _ _ _ _=>exact h.elim
theorem nd.sq{q:bp}{p:Addr}{f:Fl}(h:nd K R A τ H q p (.l xs) f):dO K H p xs:=by
 cases f with
 |ow=>exact dO.of h.1
 |fz=>exact dO.of h.1
 |al=>exact dO.of h.1
 |sc=>exact h.elim (λh=>.inl (.inr h)) .inr
theorem nd.lst{K:aq}{R A:ai}{τ:Addr->Option bp}{H:Hp}{q:bp}{p:Addr}{xs:af}{f:Fl}(h:nd K R A τ H q p (.l xs) f)(hf:e_ f=false):H p=some (.lst xs):=by
 cases f with
 |ow=>exact h.1
 |fz=>exact h.1
 |al=>exact h.1
 |sc=>cases hf
variable {ep k1 k2 n1 t':Nat}
theorem nd.dat{q:bp}{p:Addr}{cs:aB}{f:Fl}(h:nd K R A τ H q p (.d cs as xs ep) f):H p=some (.ext (DO p cs as xs ep)):=by
 cases f with
 |ow=>exact h.1
 |fz=>exact h.1
 |al=>exact h.1
 |sc=>exact h.elim
theorem Rd.same{a:Addr}{u:HO}(e:aK H H')(h:Rd H a u):Rd H' a u:=h.elim (λh=>.inl (e _ _ h)) λ⟨o,h⟩=>.inr ⟨o,e _ _ h⟩
theorem bh.same{K:aq}{H H':Hp}{a:Addr}{xs:af}(e:aK H H')(h:bh K H a xs):bh K H' a xs:=h.elim (λh=>.inl (Rd.same e h)) .inr
theorem nd.same{K:aq}{R A:ai}{τ:Addr->Option bp}{H H':Hp}{q:bp}{p:Addr}{n:Nd}{f:Fl}(e:aK H H')(h:nd K R A τ H q p n f):nd K R A τ H' q p n f:=by
 cases f with
 |ow=>exact⟨h.1.same e,h.2⟩
 |fz=>exact⟨h.1.same e,h.2⟩
 |al=>exact⟨h.1.same e,h.2⟩
 |sc=>cases n with
  |l xs=>exact h.elim (λ⟨o,h⟩=>.inl ⟨o,e _ _ h⟩) .inr
  |d _ _ _ _=>exact h.elim
theorem Rd.there{a:Addr}{u:HO}(h:Rd H a u):H a≠none:=by
 rcases h with h|⟨o,h⟩<;>(rw[h];simp)
theorem aK.ne(e:aK H H'){a:Addr}(h:H a≠none):H' a≠none:=by
 cases q:H a with
 |none=>exact absurd q h
 |some o=>rw[e a o q];simp
structure SI(X:Cx)(F R:ai)(τ:Addr->Option bp)(ρ:aZ)(σ:St)(H:Hp):Prop where
 len:ρ.length=σ.length
 rep:∀(i:Nat) (d:D),ρ[i]?=some (some d)->∃v,σ[i]?=some (some v)/\Rep (bh X.K H) (nd X.K R (λ_=>False) τ H) [i] v d
 rt:∀p,R p->τ p=none
 rh:∀p,R p->H p≠none
 rf:∀p,R p->F p\/X.H₀ p=none
 th:∀p q,τ p=some q->H p≠none
 t0:∀p q,τ p=some q->X.H₀ p=none
 same:aK X.H₀ H
variable {X:Cx}{ρ:aZ}{σ:L2.St}
theorem SI.go(S:SI X F R τ ρ σ H)(e:aK H H'):SI X F R τ ρ σ H' :=
 ⟨S.len,λi d h=>let ⟨v,h1,h2⟩:=S.rep i d h;⟨v,h1,h2.imp (λ_ _ h=>bh.same e h) λ_ _ _ _ h=>nd.same e h⟩,S.rt,λp h=>aK.ne e (S.rh p h),S.rf,λp q h=>aK.ne e (S.th p q h),S.t0,S.same.trans e⟩
def jw(G:ai)(τ:Addr->Option bp)(fv:aQ)(p:Addr):Prop:=G p/\∀c i,τ p=some (c++[i])->i∈fv
variable {caps fv fv':aQ}
theorem jw.mono{p:Addr}(h:jw G τ fv p)(hs:∀i∈fv,i∈fv'):jw G τ fv' p:=⟨h.1,λc i e=>hs i (h.2 c i e)⟩
def gP(X:Cx)(F:ai)(p:Addr):Prop:=F p\/X.H₀ p=none
def cf(K:aq)(G R:ai)(τ:Addr->Option bp)(fv:aQ)(H H':Hp)(v:V)(d:D):Prop :=
 ∃τt:Addr->Option bp,(∀p q,τt p=some q->H p=none)/\Rep (bh K H') (nd K R (jw G τ fv) τt H') [] v d
def cI(K:aq)(G R:ai)(τ:Addr->Option bp)(fv:aQ)(H H':Hp)(vs:af)(ds:aa):Prop :=
 ∃τt:Addr->Option bp,(∀p q,τt p=some q->H p=none)/\aG (bh K H') (nd K R (jw G τ fv) τt H') [] 0 vs ds
section
variable {K:aq}{G R:ai}{τ:Addr->Option bp}{fv fv':aQ}{H H1 H2:Hp}{v:V}{d:D}{vs:af}{ds:aa}
theorem cf.go(h:cf K G R τ fv H H1 v d)(e:aK H1 H2):cf K G R τ fv H H2 v d :=
 let ⟨τt,h1,h2⟩:=h;⟨τt,h1,h2.imp (λ_ _ h=>bh.same e h) λ_ _ _ _ h=>nd.same e h⟩
theorem nd.mono{A':Addr->Prop}{τ:Addr->Option bp}{q:bp}{p:Addr}{xs:Nd}{f:Fl}(h:nd K R A τ H q p xs f)(hR:R p->R' p)(hA:A p->A' p)(ht:τ p=some q->τ' p=some q'):nd K R' A' τ' H q' p xs f:=by
 cases f with
 |ow=>exact⟨h.1,ht h.2⟩
 |fz=>exact⟨h.1,hR h.2⟩
 |al=>exact⟨h.1,hA h.2⟩
 |sc=>exact h
theorem cf.mono(h:cf K G R τ fv H H1 v d)(hs:∀i∈fv,i∈fv'):cf K G R τ fv' H H1 v d :=
 let ⟨τt,h1,h2⟩:=h;⟨τt,h1,h2.imp (λ_ _ h=>h) λ_ _ _ _ h=>h.mono id (λh=>h.mono hs) id⟩
theorem cI.mono(h:cI K G R τ fv H H1 vs ds)(hs:∀i∈fv,i∈fv'):cI K G R τ fv' H H1 vs ds :=
 let ⟨τt,h1,h2⟩:=h;⟨τt,h1,h2.imp (λ_ _ h=>h) λ_ _ _ _ h=>h.mono id (λh=>h.mono hs) id⟩
theorem cf.old{H0:Hp}(h:cf K G R τ fv H H1 v d)(e:aK H0 H):cf K G R τ fv H0 H1 v d :=
 let ⟨τt,h1,h2⟩:=h;⟨τt,λp q z=>e.free (h1 p q z),h2⟩
theorem cf.int{i:Int}:cf K G R τ fv H H1 (.int i) (.int i):=⟨λ_=>none,λ_ _ h=>by simp at h,.int i⟩
theorem cf.bl{b:Bool}:cf K G R τ fv H H1 (.bl b) (.bl b):=⟨λ_=>none,λ_ _ h=>by simp at h,.bl b⟩
theorem cf.str{s:Str}:cf K G R τ fv H H1 (.str s) (.str s):=⟨λ_=>none,λ_ _ h=>by simp at h,.str s⟩
theorem cf.bB:cf K G R τ fv H H1 .bB .bB:=⟨λ_=>none,λ_ _ h=>by simp at h,.bB⟩
theorem cf.isInt{i:Int}(h:cf K G R τ fv H H1 v (.int i)):v=.int i:=by obtain⟨_,_,h⟩:=h;cases h;rfl
theorem cf.yO{i:Bool}(h:cf K G R τ fv H H1 v (.bl i)):v=.bl i:=by obtain⟨_,_,h⟩:=h;cases h;rfl
def qw:bp->bp
 |[]=>[]
 |[n]=>[n+1]
 |a::b::r=>a::qw (b::r)
theorem sR(c:bp)(n:Nat):qw (c++[n])=c++[n+1]:=by
 induction c with
 |nil=>rfl
 |cons a c ih =>
  cases c with
  |nil=>rfl
  |cons b c=>show a::qw (b::c++[n])=_;rw[ih];rfl
theorem aG.shift{T:md}{N N':gC}(hN:∀c n p xs f,N (c++[n]) p xs f->N' (c++[n+1]) p xs f):∀{n:Nat} {vs:af} {ds:aa},aG T N [] n vs ds->aG T N' [] (n+1) vs ds
 |_,_,_,.nil=>.nil
 |n,_,_,.cons h t=>.cons (h.imp (q:=[n]) (q':=[n+1]) (λ_ _ h=>h) λc p xs f h=>hN c n p xs f h) (aG.shift hN t)
theorem cI.nil:cI K G R τ fv H H1 [] []:=⟨λ_=>none,λ_ _ h=>by simp at h,.nil⟩
open Classical in
theorem cI.cons(e1:aK H H1)(e2:aK H1 H2)(h:cf K G R τ fv H H1 v d)(t:cI K G R τ fv H1 H2 vs ds):cI K G R τ fv H H2 (v::vs) (d::ds):=by
 obtain⟨τ1,f1,h1⟩:=h;obtain⟨τ2,f2,h2⟩:=t;refine⟨λp=>if H1 p=none then(τ2 p).map qw else(τ1 p).map (· ++ [0]),λp q hq=>?_,.cons (h1.imp (q':=[0]) (λ_ _ h=>bh.same e2 h) λc p xs f h=>?_) (aG.shift (λc n p xs f h=>?_) h2)⟩
 ·by_cases hp:H1 p=none
  ·exact e1.free hp
  ·simp only[hp,if_false]at hq;cases q1:τ1 p with
   |none=>rw[q1]at hq;simp at hq
   |some k=>exact f1 p k q1
 ·have h':nd K R (jw G τ fv) τ1 H2 (c++[]) p xs f:=nd.same e2 h;cases f with
  |ow =>
   have hp:H1 p≠none:=h.1.ne;refine⟨h'.1,?_⟩;simp only[hp,if_false];rw[h.2];simp
  |fz=>exact h'
  |al=>exact h'
  |sc=>exact h'
 ·cases f with
  |ow =>
   have hp:H1 p=none:=f2 p _ h.2;refine⟨h.1,?_⟩;simp only[hp,if_true];rw[h.2];simp[sR]
  |fz=>exact h
  |al=>exact h
  |sc=>exact h
end
def tD(X:Cx)(F:ai)(Φ:bg)(c:CE):TE:=λσ H Q=>∃R τ ρ d,SI X F R τ ρ σ H/\bj Φ c ρ=ok d/\∀v H',aK H H'->cf X.K (gP X F) R τ (jr c) H H' v d->Q v H'
def oM(X:Cx)(F:ai)(Φ:bg)(cs:az):TA:=λσ H Q=>∃R τ ρ ds,SI X F R τ ρ σ H/\bz Φ cs ρ=ok ds/\∀vs H',aK H H'->cI X.K (gP X F) R τ (dg cs) H H' vs ds->Q vs H'
def gI(X:Cx)(F:ai)(Φ:bg)(c:CE):TT:=λσ H Q=>∃R τ ρ b,SI X F R τ ρ σ H/\ug Φ c ρ=ok b/\∀H',aK H H'->Q b H'
theorem PE.imp{e:Expr}{t t':TE}(h:PE X e t)(hi:∀σ H Q,t' σ H Q->t σ H Q):PE X e t':=λpins s σ H Q I hw=>h pins s σ H Q I (hi σ H Q hw)
theorem PT.imp{e:Expr}{t t':TT}(h:PT X e t)(hi:∀σ H Q,t' σ H Q->t σ H Q):PT X e t':=λpins s σ H Q I hw=>h pins s σ H Q I (hi σ H Q hw)
theorem PW.imp{e:Expr}{t t':TT}(h:PW X e t)(hi:∀σ H Q,t' σ H Q->t σ H Q):PW X e t':=λwh pins s σ H Q I hw=>h wh pins s σ H Q I (hi σ H Q hw)
theorem PA.imp{es:au}{t t':TA}(h:PA X es t)(hi:∀σ H Q,t' σ H Q->t σ H Q):PA X es t':=λpos pins s σ H Q I hw=>h pos pins s σ H Q I (hi σ H Q hw)
variable {st:Stmt}
theorem PS.imp{t t':TS}(h:PS X st t)(hi:∀D σ H,t' D σ H->t D σ H):PS X st t':=λpins s σ H D I hw=>h pins s σ H D I (hi D σ H hw)
theorem ir.imp{st:aS}{t t':TS}(h:ir X st t)(hi:∀D σ H,t' D σ H->t D σ H):ir X st t':=λpins s σ H D I hw=>h pins s σ H D I (hi D σ H hw)
theorem og:∀(as bs:aa),dQ as bs=true ↔ as.length=bs.length/\∀(j:Nat) (a b:D),as[j]?=some a->bs[j]?=some b->ib a b=true
 |[],[]=>by simp[dQ]
 |[],b::bs=>by simp[dQ]
 |a::as,[]=>by simp[dQ]
 |a::as,b::bs=>by
  rw[dQ,Bool.and_eq_true,og as bs];constructor
  ·rintro ⟨h1,h2,h3⟩;refine⟨by simp[h2],λj x y hx hy=>?_⟩;cases j with
   |zero=>simp at hx hy;subst hx hy;exact h1
   |succ j=>exact h3 j x y (by simpa using hx) (by simpa using hy)
  ·rintro ⟨h2,h3⟩;exact⟨h3 0 a b rfl rfl,by simpa using h2,λj x y hx hy=>h3 (j+1) x y (by simpa using hx) (by simpa using hy)⟩
def QF(as bs:aa)(j:Nat):Bool:=match as[j]?,bs[j]? with
 |some a,some b=>ib a b
 |_,_=>false
theorem jQ(as bs:aa):((List.range (min as.length bs.length)).all (QF as bs)&&as.length==bs.length)=dQ as bs:=by
 rw[Bool.eq_iff_iff,og,Bool.and_eq_true,List.all_eq_true,beq_iff_eq];constructor
 ·rintro ⟨h1,h2⟩;refine⟨h2,λj a b ha hb=>?_⟩;have hj:j<as.length:=by
   by_cases h:j<as.length
   ·exact h
   ·rw[List.getElem?_eq_none (by left)]at ha;cases ha
  have:=h1 j (by rw[List.mem_range];left);unfold QF at this;rw[ha,hb]at this;exact this
 ·rintro ⟨h2,h1⟩;refine⟨λj hj=>?_,h2⟩;rw[List.mem_range]at hj;unfold QF;have ha:as[j]?=some as[j]:=aas (by left);have hb:bs[j]?=some bs[j]:=aas (by left);rw[ha,hb];exact h1 j _ _ ha hb
section
variable {X:Cx}{pins:aj}{σ:St}{H:Hp}{s:Shared}{N N':gC}
theorem eP{n:Nat}(h:fi n (.tup ds)=true):∃m,n=m+1/\∀d∈ds,fi m d=true:=by
 cases n with
 |zero=>cases h
 |succ m=>exact⟨m,rfl,List.all_eq_true.mp h⟩
theorem eQ{n:Nat}{f:Fl}(h:fi n (.lst f ds)=true):∃m,n=m+1/\∀d∈ds,fi m d=true:=by
 cases n with
 |zero=>cases h
 |succ m=>exact⟨m,rfl,List.all_eq_true.mp h⟩
theorem xl(I:Inv X pins σ H s){p:Addr}{ys:af}(h:dO X.K H p xs)(h':bh X.K H p ys):False:=by
 obtain⟨aM,_,pl,_⟩:=I.list h;obtain⟨its',_,pt,_⟩:=I.tuple h';exact SeqAt.ne_of_list_tuple pl.isList pt rfl
theorem Au(I:Inv X pins σ H s)(hN:∀q p xs f,N q p (.l xs) f->dO X.K H p xs)(Ce:∀q p xs f,N' q p (.l xs) f->dO X.K H p xs):
  ∀(n:Nat) {k k':bp} {v:V} {d d':D},Rep (bh X.K H) N k v d->Rep (bh X.K H) N' k' v d'->fi n d=true->fi n d'=true->ib d d'=true:=by
 intro n;induction n with
 |zero =>
  intro k k' v d d' h h' ho fJ;cases h with
  |bB=>cases h';rfl
  |bl b=>cases h';exact aba b
  |int i=>cases h';exact aba i
  |str t=>cases h';exact aba t
  |tup _ _=>obtain⟨m,hm,_⟩:=eP ho;left
  |lst _ _=>obtain⟨m,hm,_⟩:=eQ ho;left
  |cJ _ _=>cases ho
 |succ n ih =>
  have sub:∀{q q':bp} {xs:af} {ds ds':aa},aG (bh X.K H) N q 0 xs ds->aG (bh X.K H) N' q' 0 xs ds'->(∀d∈ds,fi n d=true)->(∀d∈ds',fi n d=true)->dQ ds ds'=true:=by
   intro q q' xs ds ds' r r' ho fJ;rw[og];refine⟨by rw[<- r.length,<- r'.length],λj a b ha hb=>?_⟩;obtain⟨v1,h1,r1⟩:=r.get ha;obtain⟨v2,h2,r2⟩:=r'.get hb;rw[h1]at h2;cases h2;exact ih r1 r2 (ho a (aaB ha)) (fJ b (aaB hb))
  intro k k' v d d' h h' ho fJ;cases h with
  |bB=>cases h';rfl
  |bl b=>cases h';exact aba b
  |int i=>cases h';exact aba i
  |str t=>cases h';exact aba t
  |tup h r =>
   obtain⟨m,hm,ho⟩:=eP ho;obtain rfl:n=m:=by left
   cases h' with
   |tup h' r' =>
    obtain⟨m,hm,fJ⟩:=eP fJ;obtain rfl:n=m:=by left
    obtain rfl:=I.o_ h h';exact sub r r' ho fJ
   |lst h' r'=>exact(xl I (Ce _ _ _ _ h') h).elim
   |cJ _ _=>cases fJ
  |lst h r =>
   obtain⟨m,hm,ho⟩:=eQ ho;obtain rfl:n=m:=by left
   cases h' with
   |tup h' r'=>exact(xl I (hN _ _ _ _ h) h').elim
   |lst h' r' =>
    obtain⟨m,hm,fJ⟩:=eQ fJ;obtain rfl:n=m:=by left
    obtain rfl:=I.kA (hN _ _ _ _ h) (Ce _ _ _ _ h');exact sub r r' ho fJ
   |cJ _ _=>cases fJ
  |cJ _ _=>cases ho
structure Alike(A:aJ)(s:Shared)(u u':Value)(b:Bool):Prop where
 eq:SeqAt.EqAt A s u u' b
 rc:SeqAt.RcAt A s u u' b
 ne:SeqAt.RcNeAt A s u u' (!b)
theorem alike(I:Inv X pins σ H s)(hN:∀q p xs f,N q p (.l xs) f->dO X.K H p xs)(Ce:∀q p xs f,N' q p (.l xs) f->dO X.K H p xs):
  ∀(n:Nat) (A:aJ) {k k':bp} {v v':V} {u u':Value} {d d':D},Rep (bh X.K H) N k v d->Rep (bh X.K H) N' k' v' d'->fi n d=true->fi n d'=true->RelV v u->RelV v' u'->A.units+n<cLine ->
   Alike A s u u' (ib d d'):=by
 intro n;induction n with
 |zero =>
  intro A k k' v v' u u' d d' h h' ho fJ r r' hu;cases h with
  |tup _ _=>obtain⟨m,hm,_⟩:=eP ho;left
  |lst _ _=>obtain⟨m,hm,_⟩:=eQ ho;left
  |cJ _ _=>cases ho
  |bB =>
   cases r;cases h' with
   |tup _ _=>obtain⟨m,hm,_⟩:=eP fJ;left
   |lst _ _=>obtain⟨m,hm,_⟩:=eQ fJ;left
   |cJ _ _=>cases fJ
   |bB=>cases r';exact⟨abp _,SeqAt.RcAt.none_none,SeqAt.RcNeAt.none_none⟩
   |bl b=>cases r';exact⟨abQ b,SeqAt.RcAt.none_bool b,SeqAt.RcNeAt.none_bool b⟩
   |int b=>obtain⟨t,rfl⟩:=r';exact⟨abZ b t,SeqAt.RcAt.none_int b t,SeqAt.RcNeAt.none_int b t⟩
   |str b=>obtain⟨t,rfl⟩:=r';exact⟨ab0 b t,SeqAt.RcAt.none_str b t,SeqAt.RcNeAt.none_str b t⟩
  |bl a =>
   cases r;cases h' with
   |tup _ _=>obtain⟨m,hm,_⟩:=eP fJ;left
   |lst _ _=>obtain⟨m,hm,_⟩:=eQ fJ;left
   |cJ _ _=>cases fJ
   |bB=>cases r';exact⟨abR a,SeqAt.RcAt.bool_none a,SeqAt.RcNeAt.bool_none a⟩
   |bl b=>cases r';exact⟨abS a b,SeqAt.RcAt.bool_bool a b,SeqAt.RcNeAt.bool_bool a b⟩
   |int b=>obtain⟨t,rfl⟩:=r';exact⟨ab1 a b t,SeqAt.RcAt.bool_int a b t,SeqAt.RcNeAt.bool_int a b t⟩
   |str b=>obtain⟨t,rfl⟩:=r';exact⟨ab3 a b t,SeqAt.RcAt.bool_str a b t,SeqAt.RcNeAt.bool_str a b t⟩
  |int a =>
   obtain⟨t',rfl⟩:=r;cases h' with
   |tup _ _=>obtain⟨m,hm,_⟩:=eP fJ;left
   |lst _ _=>obtain⟨m,hm,_⟩:=eQ fJ;left
   |cJ _ _=>cases fJ
   |bB=>cases r';exact⟨ab5 a t',SeqAt.RcAt.int_none a t',SeqAt.RcNeAt.int_none a t'⟩
   |bl b=>cases r';exact⟨ab6 a t' b,SeqAt.RcAt.int_bool a t' b,SeqAt.RcNeAt.int_bool a t' b⟩
   |int b=>obtain⟨t,rfl⟩:=r';exact⟨abu a t' b t,SeqAt.RcAt.int_int a t' b t,SeqAt.RcNeAt.int_int a t' b t⟩
   |str b=>obtain⟨t,rfl⟩:=r';exact⟨abr a t' b t,SeqAt.RcAt.int_str a t' b t,SeqAt.RcNeAt.int_str a t' b t⟩
  |str a =>
   obtain⟨t',rfl⟩:=r;cases h' with
   |tup _ _=>obtain⟨m,hm,_⟩:=eP fJ;left
   |lst _ _=>obtain⟨m,hm,_⟩:=eQ fJ;left
   |cJ _ _=>cases fJ
   |bB=>cases r';exact⟨ab7 a t',SeqAt.RcAt.str_none a t',SeqAt.RcNeAt.str_none a t'⟩
   |bl b=>cases r';exact⟨ab8 a t' b,SeqAt.RcAt.str_bool a t' b,SeqAt.RcNeAt.str_bool a t' b⟩
   |int b=>obtain⟨t,rfl⟩:=r';exact⟨abt a t' b t,SeqAt.RcAt.str_int a t' b t,SeqAt.RcNeAt.str_int a t' b t⟩
   |str b=>obtain⟨t,rfl⟩:=r';exact⟨ace a t' b t,SeqAt.RcAt.str_str a t' b t,SeqAt.RcNeAt.str_str a t' b t⟩
 |succ n ih =>
  intro A k k' v v' u u' d d' h h' ho fJ r r' hu;have dS:A.units<cLine:=by left
  have U_:A.in1.units+n<cLine:=by show A.units+1+n<cLine;left
  have sub:∀{q q':bp} {xs xs':af} {ds ds':aa} {aM its':ak},aG (bh X.K H) N q 0 xs ds->aG (bh X.K H) N' q' 0 xs' ds'->(∀d∈ds,fi n d=true)->(∀d∈ds',fi n d=true)->Vals xs aM->Vals xs' its' ->
    ∀(j:Nat) (h1:j<aM.toArray.size) (h2:j<its'.toArray.size),SeqAt.EqAt A.in1 s aM.toArray[j] its'.toArray[j] (QF ds ds' j):=by
   intro q q' xs xs' ds ds' aM its' rs yy hd oW rv zA j h1 h2;have l1:ds.length=aM.length:=by rw[<- rs.length,rv.length]
   have l2:ds'.length=its'.length:=by rw[<- yy.length,zA.length]
   simp only[List.size_toArray]at h1 h2;have ea:ds[j]?=some ds[j]:=aas (by left);have eb:ds'[j]?=some ds'[j]:=aas (by left);obtain⟨w1,g1,p1⟩:=rs.get ea;obtain⟨w2,g2,p2⟩:=yy.get eb;obtain⟨u1,k1,z1⟩:=rv.get g1;obtain⟨u2,k2,z2⟩:=zA.get g2;have:=(ih A.in1 p1 p2 (hd _ (abk _)) (oW _ (abk _)) z1 z2 U_).eq;unfold QF;rw[ea,eb];rw[List.getElem?_eq_getElem h1]at k1;rw[List.getElem?_eq_getElem h2]at k2;cases k1;cases k2;simpa using this
  cases h with
  |bB =>
   cases r;cases h' with
   |cJ _ _=>cases fJ
   |bB=>cases r';exact⟨abp _,SeqAt.RcAt.none_none,SeqAt.RcNeAt.none_none⟩
   |bl b=>cases r';exact⟨abQ b,SeqAt.RcAt.none_bool b,SeqAt.RcNeAt.none_bool b⟩
   |int b=>obtain⟨t,rfl⟩:=r';exact⟨abZ b t,SeqAt.RcAt.none_int b t,SeqAt.RcNeAt.none_int b t⟩
   |str b=>obtain⟨t,rfl⟩:=r';exact⟨ab0 b t,SeqAt.RcAt.none_str b t,SeqAt.RcNeAt.none_str b t⟩
   |tup h' rr=>cases r';obtain⟨aM,_,pt,_⟩:=I.tuple h';exact⟨SeqAt.EqAt.none_tuple pt dS,SeqAt.RcAt.none_tuple pt dS,SeqAt.RcNeAt.none_tuple pt dS⟩
   |lst h' rr=>cases r';obtain⟨aM,_,pt,_⟩:=I.list (Ce _ _ _ _ h');exact⟨SeqAt.EqAt.none_list pt.isList dS,SeqAt.RcAt.none_list pt.isList dS,SeqAt.RcNeAt.none_list pt.isList dS⟩
  |bl a =>
   cases r;cases h' with
   |cJ _ _=>cases fJ
   |bB=>cases r';exact⟨abR a,SeqAt.RcAt.bool_none a,SeqAt.RcNeAt.bool_none a⟩
   |bl b=>cases r';exact⟨abS a b,SeqAt.RcAt.bool_bool a b,SeqAt.RcNeAt.bool_bool a b⟩
   |int b=>obtain⟨t,rfl⟩:=r';exact⟨ab1 a b t,SeqAt.RcAt.bool_int a b t,SeqAt.RcNeAt.bool_int a b t⟩
   |str b=>obtain⟨t,rfl⟩:=r';exact⟨ab3 a b t,SeqAt.RcAt.bool_str a b t,SeqAt.RcNeAt.bool_str a b t⟩
   |tup h' rr=>cases r';obtain⟨aM,_,pt,_⟩:=I.tuple h';exact⟨SeqAt.EqAt.bool_tuple a pt dS,SeqAt.RcAt.bool_tuple a pt dS,SeqAt.RcNeAt.bool_tuple a pt dS⟩
   |lst h' rr=>cases r';obtain⟨aM,_,pt,_⟩:=I.list (Ce _ _ _ _ h');exact⟨SeqAt.EqAt.bool_list a pt.isList dS,SeqAt.RcAt.bool_list a pt.isList dS,SeqAt.RcNeAt.bool_list a pt.isList dS⟩
  |int a =>
   obtain⟨t',rfl⟩:=r;cases h' with
   |cJ _ _=>cases fJ
   |bB=>cases r';exact⟨ab5 a t',SeqAt.RcAt.int_none a t',SeqAt.RcNeAt.int_none a t'⟩
   |bl b=>cases r';exact⟨ab6 a t' b,SeqAt.RcAt.int_bool a t' b,SeqAt.RcNeAt.int_bool a t' b⟩
   |int b=>obtain⟨t,rfl⟩:=r';exact⟨abu a t' b t,SeqAt.RcAt.int_int a t' b t,SeqAt.RcNeAt.int_int a t' b t⟩
   |str b=>obtain⟨t,rfl⟩:=r';exact⟨abr a t' b t,SeqAt.RcAt.int_str a t' b t,SeqAt.RcNeAt.int_str a t' b t⟩
   |tup h' rr=>cases r';obtain⟨aM,_,pt,_⟩:=I.tuple h';exact⟨SeqAt.EqAt.int_tuple a t' pt dS,SeqAt.RcAt.int_tuple a t' pt dS,SeqAt.RcNeAt.int_tuple a t' pt dS⟩
   |lst h' rr=>cases r';obtain⟨aM,_,pt,_⟩:=I.list (Ce _ _ _ _ h');exact⟨SeqAt.EqAt.int_list a t' pt.isList dS,SeqAt.RcAt.int_list a t' pt.isList dS,SeqAt.RcNeAt.int_list a t' pt.isList dS⟩
  |str a =>
   obtain⟨t',rfl⟩:=r;cases h' with
   |cJ _ _=>cases fJ
   |bB=>cases r';exact⟨ab7 a t',SeqAt.RcAt.str_none a t',SeqAt.RcNeAt.str_none a t'⟩
   |bl b=>cases r';exact⟨ab8 a t' b,SeqAt.RcAt.str_bool a t' b,SeqAt.RcNeAt.str_bool a t' b⟩
   |int b=>obtain⟨t,rfl⟩:=r';exact⟨abt a t' b t,SeqAt.RcAt.str_int a t' b t,SeqAt.RcNeAt.str_int a t' b t⟩
   |str b=>obtain⟨t,rfl⟩:=r';exact⟨ace a t' b t,SeqAt.RcAt.str_str a t' b t,SeqAt.RcNeAt.str_str a t' b t⟩
   |tup h' rr=>cases r';obtain⟨aM,_,pt,_⟩:=I.tuple h';exact⟨SeqAt.EqAt.str_tuple a t' pt dS,SeqAt.RcAt.str_tuple a t' pt dS,SeqAt.RcNeAt.str_tuple a t' pt dS⟩
   |lst h' rr=>cases r';obtain⟨aM,_,pt,_⟩:=I.list (Ce _ _ _ _ h');exact⟨SeqAt.EqAt.str_list a t' pt.isList dS,SeqAt.RcAt.str_list a t' pt.isList dS,SeqAt.RcNeAt.str_list a t' pt.isList dS⟩
  | @tup _ p xs ds h rs =>
   cases r;obtain⟨aM,rv,pt,_⟩:=I.tuple h;have pt:s.heap.IsTuple p aM.toArray:=pt;cases h' with
   |cJ _ _=>cases fJ
   |bB=>cases r';exact⟨SeqAt.EqAt.tuple_none pt dS,SeqAt.RcAt.tuple_none pt dS,SeqAt.RcNeAt.tuple_none pt dS⟩
   |bl b=>cases r';exact⟨SeqAt.EqAt.tuple_bool b pt dS,SeqAt.RcAt.tuple_bool b pt dS,SeqAt.RcNeAt.tuple_bool b pt dS⟩
   |int b=>obtain⟨t,rfl⟩:=r';exact⟨SeqAt.EqAt.tuple_int b t pt dS,SeqAt.RcAt.tuple_int b t pt dS,SeqAt.RcNeAt.tuple_int b t pt dS⟩
   |str b=>obtain⟨t,rfl⟩:=r';exact⟨SeqAt.EqAt.tuple_str b t pt dS,SeqAt.RcAt.tuple_str b t pt dS,SeqAt.RcNeAt.tuple_str b t pt dS⟩
   |lst h' rr=>cases r';obtain⟨its',_,pl,_⟩:=I.list (Ce _ _ _ _ h');exact⟨SeqAt.EqAt.tuple_list pt pl.isList dS,SeqAt.RcAt.tuple_list pt pl.isList dS,SeqAt.RcNeAt.tuple_list pt pl.isList dS⟩
   | @tup _ p' xs' ds' h' yy =>
    cases r';obtain⟨m,hm,ME⟩:=eP ho;obtain rfl:n=m:=by left
    obtain⟨m,hm,qW⟩:=eP fJ;obtain rfl:n=m:=by left
    obtain⟨its',zA,RH,_⟩:=I.tuple h';have RH:s.heap.IsTuple p' its'.toArray:=RH;have key:=sub rs yy ME qW rv zA;have l1:ds.length=aM.toArray.size:=by rw[List.size_toArray,<- rs.length,rv.length]
    have l2:ds'.length=its'.toArray.size:=by rw[List.size_toArray,<- yy.length,zA.length]
    have rc:SeqAt.RcAt A s (.ref p) (.ref p') (ib (.tup ds) (.tup ds')):=by
     have:=SeqAt.RcAt.tuples pt RH dS key;rw[<- l1,<- l2,jQ]at this;exact this
    refine⟨?_,rc,?_⟩
    ·by_cases hp:p=p'
     ·subst hp;rw[Au I hN Ce (n+1) (Rep.tup h rs) (Rep.tup h' yy) ho fJ];exact abp _
     ·exact SeqAt.EqAt.of_refs hp rc
    ·have:=SeqAt.RcNeAt.tuples pt RH dS key;rw[<- l1,<- l2,jQ]at this;exact this
  | @lst _ p xs f ds h rs =>
   cases r;obtain⟨aM,rv,pl,_⟩:=I.list (hN _ _ _ _ h);have pl:=pl.isList;cases h' with
   |cJ _ _=>cases fJ
   |bB=>cases r';exact⟨SeqAt.EqAt.list_none pl dS,SeqAt.RcAt.list_none pl dS,SeqAt.RcNeAt.list_none pl dS⟩
   |bl b=>cases r';exact⟨SeqAt.EqAt.list_bool b pl dS,SeqAt.RcAt.list_bool b pl dS,SeqAt.RcNeAt.list_bool b pl dS⟩
   |int b=>obtain⟨t,rfl⟩:=r';exact⟨SeqAt.EqAt.list_int b t pl dS,SeqAt.RcAt.list_int b t pl dS,SeqAt.RcNeAt.list_int b t pl dS⟩
   |str b=>obtain⟨t,rfl⟩:=r';exact⟨SeqAt.EqAt.list_str b t pl dS,SeqAt.RcAt.list_str b t pl dS,SeqAt.RcNeAt.list_str b t pl dS⟩
   |tup h' rr=>cases r';obtain⟨its',_,pt,_⟩:=I.tuple h';exact⟨SeqAt.EqAt.list_tuple pl pt dS,SeqAt.RcAt.list_tuple pl pt dS,SeqAt.RcNeAt.list_tuple pl pt dS⟩
   | @lst _ p' xs' f' ds' h' yy =>
    cases r';obtain⟨m,hm,ME⟩:=eQ ho;obtain rfl:n=m:=by left
    obtain⟨m,hm,qW⟩:=eQ fJ;obtain rfl:n=m:=by left
    obtain⟨its',zA,HB,_⟩:=I.list (Ce _ _ _ _ h');have HB:=HB.isList;have key:=sub rs yy ME qW rv zA;have l1:ds.length=aM.toArray.size:=by rw[List.size_toArray,<- rs.length,rv.length]
    have l2:ds'.length=its'.toArray.size:=by rw[List.size_toArray,<- yy.length,zA.length]
    have two:SeqAt.RcAt A s (.ref p) (.ref p') (ib (.lst f ds) (.lst f' ds'))/\SeqAt.RcNeAt A s (.ref p) (.ref p') (!ib (.lst f ds) (.lst f' ds')):=by
     show SeqAt.RcAt A s (.ref p) (.ref p') (dQ ds ds')/\SeqAt.RcNeAt A s (.ref p) (.ref p') (!dQ ds ds');rw[<- jQ];by_cases hl:ds.length=ds'.length
     ·have e1:(ds.length==ds'.length)=true:=by simp[hl]
      rw[e1,Bool.and_true,<- hl,Nat.min_self];have hz:aM.toArray.size=its'.toArray.size:=by rw[<- l1,<- l2,hl]
      refine⟨?_,?_⟩
      ·have:=SeqAt.RcAt.lists pl HB hz dS key;rw[<- l1]at this;exact this
      ·have:=SeqAt.RcNeAt.lists pl HB hz dS key;rw[<- l1]at this;exact this
     ·have e1:(ds.length==ds'.length)=false:=by simp[hl]
      rw[e1,Bool.and_false];have hz:(aM.toArray.size != its'.toArray.size)=true:=by rw[<- l1,<- l2];simp[hl]
      exact⟨SeqAt.RcAt.lists_lengths pl HB hz dS,SeqAt.RcNeAt.lists_lengths pl HB hz dS⟩
    refine⟨?_,two.1,two.2⟩;by_cases hp:p=p'
    ·subst hp;rw[Au I hN Ce (n+1) (Rep.lst h rs) (Rep.lst h' yy) ho fJ];exact abp _
    ·exact SeqAt.EqAt.of_refs hp two.1
  |cJ _ _=>cases ho
end
structure Px where
 pe:Nat->Scope->ag->Expr->Option (au)
 pi:Nat->Scope->ag->Expr->Option (au)
 pm:Nat->Scope->ag->Stmt->Option (Expr×au)
structure Sx where
 sc:Scope
 N:ag
 fn:Nat->Option Str
 bl:ag
 cs:List (Str×GK)
 px:Px
noncomputable def Oh:G6->Operator
 |.add=>.Add|.sub=>.Sub|.mul=>.Mult|.fdiv=>.FloorDiv|.mod=>.Mod|.pow=>.Pow|.shl=>.LShift
noncomputable def Ut:zN->CmpOp
 |.eq=>.Eq|.ne=>.NotEq|.lt=>.Lt|.le=>.LtE|.gt=>.Gt|.ge=>.GtE|.FO=>.In
noncomputable def tyName:Ty->String
 |.int=>"int" |.bool=>"bool" |.str=>"str" |.list=>"list" |.tuple=>"tuple"
noncomputable def rP:Bf->String
 |.len=>"len" |.abs=>"abs" |.min2=>"min" |.max2=>"max" |.list1=>"list" |.tuple1=>"tuple" |.sI=>"sum" |.all1=>"all" |.hJ=>"sorted"
noncomputable def IL(sc:Scope)(x:Str):Bool:=decide (sc.names.lookup x=some .local)||decide (sc.names.lookup x=some .cell)||decide (sc.names.lookup x=some .free)
noncomputable def gz(sc:Scope)(x:Str):Bool:=decide (sc.names.lookup x=some .globalImplicit)
noncomputable def nu(x:Str):Bool:=!(x==("__debug__" : Str))&&!(x==("__classdict__" : Str))&&decide (x≠("__name__" : Str))
noncomputable def pK:Expr->Bool
 |.Set _ _ _=>false
 |_=>true
noncomputable def tj(sc outer:Scope):Scope :=
 { sc with names:=sc.names.map λ(n,k)=>if (k==.free&&outer.kind==.function&&outer.names.lookup n==some .cell)then(n,.cell)else(n,k) }
noncomputable def ck:Expr->ag
 |.Name x _=>[x]
 |.Tuple es _ _=>es.filterMap λe=>match e with|.Name x _=>some x|_=>none
 |_=>[]
noncomputable def gA(S:Sx)(caps:aQ):ag:=caps.filterMap λi=>S.N[i]?
def Sx.inner(S:Sx)(target:Expr)(caps:aQ)(sc:Scope):Sx:=⟨tj sc S.sc,ck target++gA S caps,S.fn,S.bl,S.cs,S.px⟩
noncomputable def iV:Expr->Bool
 |.Tuple _ _ _=>true
 |_=>false
noncomputable def isNm(e:Expr):Bool:=decide (e.ctorIdx=23)
theorem mB{e:Expr}(h:isNm e=true):∃x p,e=.Name x p:=Expr.Name.elim (motive_1:=λe=>∃x p,e=.Name x p) e (aab h) λx p=>⟨x,p,rfl⟩
noncomputable def ZY:Expr->Bool
 |.Call ..=>true
 |.BinOp ..=>true
 |.Subscript ..=>true
 |.Compare ..=>true
 |.Dict ..=>true
 |_=>false
noncomputable def RL:Expr->Bool
 |.Call ..=>true
 |.Name ..=>true
 |_=>false
theorem aC{a b:Bool}(h:(a&&b)=true):a=true/\b=true:=by
 cases a<;>cases b<;>first|exact⟨rfl,rfl⟩|cases h
noncomputable def bt{α:Type}(o:Option α)(f:α->Bool):Bool:=match o with
 |some a=>f a
 |none=>false
theorem bq{α:Type}{o:Option α}{f:α->Bool}(h:bt o f=true):∃a,o=some a/\f a=true:=by
 cases o with
 |some a=>exact⟨a,rfl,h⟩
 |none=>cases h
theorem dI{α:Type}{c:Prop}[Decidable c]{f:c->Option α}{x:α}(h:(if h:c then f h else none)=some x):∃k:c,f k=some x:=by
 by_cases k:c
 ·rw[dif_pos k]at h;exact⟨k,h⟩
 ·rw[dif_neg k]at h;cases h
theorem bT{α β:Type}{o:Option α}{f:α->Option β}{b:β}(h:o.bind f=some b):∃a,o=some a/\f a=some b:=Option.bind_eq_some_iff.mp h
theorem gT{α:Type}{c:Prop}[Decidable c]{o:Option α}{b:α}(h:(if c then o else none)=some b):c/\o=some b:=by
 by_cases k:c
 ·rw[if_pos k]at h;exact⟨k,h⟩
 ·rw[if_neg k]at h;cases h
noncomputable def vC(e:Expr):Option Const:=if h:e.ctorIdx=19 then Expr.Constant.elim (motive_1:=λ_=>Option Const) e h (λc _ _=>some c)else none
theorem sD{e:Expr}{c:Const}(h:vC e=some c):∃j p,e=.Constant c j p:=by
 obtain⟨k,h⟩:=dI h;exact Expr.Constant.elim (motive_1:=λe=>∀k:e.ctorIdx=19,Expr.Constant.elim (motive_1:=λ_=>Option Const) e k (λc _ _=>some c)=some c->∃j p,e=.Constant c j p) e k (λ_ _ _ _ h=>by cases h;exact⟨_,_,rfl⟩) k h
noncomputable def BK:Const->Bool
 |.none=>true
 |_=>false
theorem yL{c:Const}(h:BK c=true):c=.none:=by cases c<;>first|rfl|cases h
noncomputable def HQ(b:Bool):Const->Bool
 |.bool c=>decide (b=c)
 |_=>false
theorem BN{b:Bool}{c:Const}(h:HQ b c=true):c=.bool b:=by cases c<;>first | (cases h;done)|rw[of_decide_eq_true h]
noncomputable def BM(b:Int):Const->Bool
 |.int c=>decide (b=c)
 |_=>false
theorem yM{b:Int}{c:Const}(h:BM b c=true):c=.int b:=by cases c<;>first | (cases h;done)|rw[of_decide_eq_true h]
noncomputable def BJ(b:Str):Const->Bool
 |.str c=>decide (b=c)
 |_=>false
theorem yK{b:Str}{c:Const}(h:BJ b c=true):c=.str b:=by cases c<;>first | (cases h;done)|rw[of_decide_eq_true h]
noncomputable def IS(e:Expr):Option Str:=if h:e.ctorIdx=23 then Expr.Name.elim (motive_1:=λ_=>Option Str) e h (λx _=>some x)else none
theorem jK{e:Expr}{x:Str}(h:IS e=some x):∃p,e=.Name x p:=by
 obtain⟨k,h⟩:=dI h;exact Expr.Name.elim (motive_1:=λe=>∀k:e.ctorIdx=23,Expr.Name.elim (motive_1:=λ_=>Option Str) e k (λx _=>some x)=some x->∃p,e=.Name x p) e k (λ_ _ _ h=>by cases h;exact⟨_,rfl⟩) k h
noncomputable def IW(e:Expr):Option (Expr×Operator×Expr):=if h:e.ctorIdx=2 then Expr.BinOp.elim (motive_1:=λ_=>Option (Expr×Operator×Expr)) e h (λl o r _=>some (l,o,r))else none
theorem wJ{e l r:Expr}{o:Operator}(h:IW e=some (l,o,r)):∃p,e=.BinOp l o r p:=by
 obtain⟨k,h⟩:=dI h;exact Expr.BinOp.elim (motive_1:=λe=>∀k:e.ctorIdx=2,Expr.BinOp.elim (motive_1:=λ_=>Option (Expr×Operator×Expr)) e k (λl o r _=>some (l,o,r))=some (l,o,r)->∃p,e=.BinOp l o r p) e k (λ_ _ _ _ _ h=>by cases h;exact⟨_,rfl⟩) k h
noncomputable def SX(e:Expr):Option (UnaryOp×Expr):=if h:e.ctorIdx=3 then Expr.UnaryOp.elim (motive_1:=λ_=>Option (UnaryOp×Expr)) e h (λo e _=>some (o,e))else none
theorem zX{e x:Expr}{o:UnaryOp}(h:SX e=some (o,x)):∃p,e=.UnaryOp o x p:=by
 obtain⟨k,h⟩:=dI h;exact Expr.UnaryOp.elim (motive_1:=λe=>∀k:e.ctorIdx=3,Expr.UnaryOp.elim (motive_1:=λ_=>Option (UnaryOp×Expr)) e k (λo e _=>some (o,e))=some (o,x)->∃p,e=.UnaryOp o x p) e k (λ_ _ _ _ h=>by cases h;exact⟨_,rfl⟩) k h
noncomputable def vBool(e:Expr):Option (BoolOp×au):=if h:e.ctorIdx=0 then Expr.BoolOp.elim (motive_1:=λ_=>Option (BoolOp×au)) e h (λo vs _=>some (o,vs))else none
theorem sE{e:Expr}{o:BoolOp}{vs:au}(h:vBool e=some (o,vs)):∃p,e=.BoolOp o vs p:=by
 obtain⟨k,h⟩:=dI h;exact Expr.BoolOp.elim (motive_1:=λe=>∀k:e.ctorIdx=0,Expr.BoolOp.elim (motive_1:=λ_=>Option (BoolOp×au)) e k (λo vs _=>some (o,vs))=some (o,vs)->∃p,e=.BoolOp o vs p) e k (λ_ _ _ _ h=>by cases h;exact⟨_,rfl⟩) k h
noncomputable def Zd(e:Expr):Option (Expr×Expr×Expr):=if h:e.ctorIdx=5 then Expr.IfExp.elim (motive_1:=λ_=>Option (Expr×Expr×Expr)) e h (λt x y _=>some (t,x,y))else none
theorem SY{e t x y:Expr}(h:Zd e=some (t,x,y)):∃p,e=.IfExp t x y p:=by
 obtain⟨k,h⟩:=dI h;exact Expr.IfExp.elim (motive_1:=λe=>∀k:e.ctorIdx=5,Expr.IfExp.elim (motive_1:=λ_=>Option (Expr×Expr×Expr)) e k (λt x y _=>some (t,x,y))=some (t,x,y)->∃p,e=.IfExp t x y p) e k (λ_ _ _ _ _ h=>by cases h;exact⟨_,rfl⟩) k h
noncomputable def one{α:Type}:List α->Option α
 |[]=>none
 |x::xs=>match xs with
  |[]=>some x
  |_::_=>none
theorem cE{α:Type}{l:List α}{x:α}(h:one l=some x):l=[x]:=by
 cases l with
 |nil=>cases h
 |cons y ys=>cases ys with
  |nil=>cases h;rfl
  |cons _ _=>cases h
def two{α:Type}:List α->Option (α×α)
 |[]=>none
 |x::xs=>(one xs).map λy=>(x,y)
theorem g_{α:Type}{l:List α}{x y:α}(h:two l=some (x,y)):l=[x,y]:=by
 cases l with
 |nil=>cases h
 |cons z zs=>cases zs with
  |nil=>cases h
  |cons w ws=>cases ws with
   |nil=>cases h;rfl
   |cons _ _=>cases h
noncomputable def S8{α:Type}:List α->Option (α×List α)
 |[]=>none
 |x::xs=>some (x,xs)
theorem uY{α:Type}{l xs:List α}{x:α}(h:S8 l=some (x,xs)):l=x::xs:=by
 cases l with
 |nil=>cases h
 |cons y ys=>cases h;rfl
noncomputable def IV(e:Expr):Option (Expr×List CmpOp×au):=if h:e.ctorIdx=15 then Expr.Compare.elim (motive_1:=λ_=>Option (Expr×List CmpOp×au)) e h (λl os rs _=>some (l,os,rs))else none
theorem wI{e l:Expr}{os:List CmpOp}{rs:au}(h:IV e=some (l,os,rs)):∃p,e=.Compare l os rs p:=by
 obtain⟨k,h⟩:=dI h;exact Expr.Compare.elim (motive_1:=λe=>∀k:e.ctorIdx=15,Expr.Compare.elim (motive_1:=λ_=>Option (Expr×List CmpOp×au)) e k (λl os rs _=>some (l,os,rs))=some (l,os,rs)->∃p,e=.Compare l os rs p) e k (λ_ _ _ _ _ h=>by cases h;exact⟨_,rfl⟩) k h
noncomputable def z4(e:Expr):Option (Expr×au×List Keyword):=if h:e.ctorIdx=16 then Expr.Call.elim (motive_1:=λ_=>Option (Expr×au×List Keyword)) e h (λf as ks _=>some (f,as,ks))else none
theorem yk{e f:Expr}{as:au}{ks:List Keyword}(h:z4 e=some (f,as,ks)):∃p,e=.Call f as ks p:=by
 obtain⟨k,h⟩:=dI h;exact Expr.Call.elim (motive_1:=λe=>∀k:e.ctorIdx=16,Expr.Call.elim (motive_1:=λ_=>Option (Expr×au×List Keyword)) e k (λf as ks _=>some (f,as,ks))=some (f,as,ks)->∃p,e=.Call f as ks p) e k (λ_ _ _ _ _ h=>by cases h;exact⟨_,rfl⟩) k h
def eX(e:Expr):Option (Str×au):=(z4 e).bind λz=>if z.2.2.isEmpty=true then(IS z.1).bind λx=>some (x,z.2.1)else none
theorem Oq{α:Type}{l:List α}(h:l.isEmpty=true):l=[]:=List.isEmpty_iff.mp h
theorem bU{e:Expr}{x:Str}{as:au}(h:eX e=some (x,as)):∃p pos,e=.Call (.Name x p) as [] pos:=by
 obtain⟨⟨f,Q2,ks⟩,hv,h⟩:=bT h;obtain⟨hc,h⟩:=gT h;obtain⟨y,hn,h⟩:=bT h;cases h;obtain⟨pos,rfl⟩:=yk hv;obtain⟨p,rfl⟩:=jK hn;obtain rfl:=Oq hc;exact⟨p,pos,rfl⟩
noncomputable def yj(e:Expr):Option (Expr×Expr):=if h:e.ctorIdx=21 then Expr.Subscript.elim (motive_1:=λ_=>Option (Expr×Expr)) e h (λa b _=>some (a,b))else none
theorem mh{e a b:Expr}(h:yj e=some (a,b)):∃p,e=.Subscript a b p:=by
 obtain⟨k,h⟩:=dI h;exact Expr.Subscript.elim (motive_1:=λe=>∀k:e.ctorIdx=21,Expr.Subscript.elim (motive_1:=λ_=>Option (Expr×Expr)) e k (λa b _=>some (a,b))=some (a,b)->∃p,e=.Subscript a b p) e k (λ_ _ _ _ h=>by cases h;exact⟨_,rfl⟩) k h
noncomputable def yi(e:Expr):Option (au):=if h:e.ctorIdx=25 then Expr.Tuple.elim (motive_1:=λ_=>Option (au)) e h (λes _ _=>some es)else none
theorem kf{e:Expr}{es:au}(h:yi e=some es):∃n p,e=.Tuple es n p:=by
 obtain⟨k,h⟩:=dI h;exact Expr.Tuple.elim (motive_1:=λe=>∀k:e.ctorIdx=25,Expr.Tuple.elim (motive_1:=λ_=>Option (au)) e k (λes _ _=>some es)=some es->∃n p,e=.Tuple es n p) e k (λ_ _ _ _ h=>by cases h;exact⟨_,_,rfl⟩) k h
noncomputable def M9(e:Expr):Option (au):=if h:e.ctorIdx=24 then Expr.List.elim (motive_1:=λ_=>Option (au)) e h (λes _=>some es)else none
theorem Eb{e:Expr}{es:au}(h:M9 e=some es):∃p,e=.List es p:=by
 obtain⟨k,h⟩:=dI h;exact Expr.List.elim (motive_1:=λe=>∀k:e.ctorIdx=24,Expr.List.elim (motive_1:=λ_=>Option (au)) e k (λes _=>some es)=some es->∃p,e=.List es p) e k (λ_ _ _ h=>by cases h;exact⟨_,rfl⟩) k h
noncomputable def G9(e:Expr):Option (Expr×List Comprehension×Scope):=if h:e.ctorIdx=8 then Expr.ListComp.elim (motive_1:=λ_=>Option (Expr×List Comprehension×Scope)) e h (λe gs sc _=>some (e,gs,sc))else none
theorem zZ{e x:Expr}{gs:List Comprehension}{sc:Scope}(h:G9 e=some (x,gs,sc)):∃p,e=.ListComp x gs sc p:=by
 obtain⟨k,h⟩:=dI h;exact Expr.ListComp.elim (motive_1:=λe=>∀k:e.ctorIdx=8,Expr.ListComp.elim (motive_1:=λ_=>Option (Expr×List Comprehension×Scope)) e k (λe gs sc _=>some (e,gs,sc))=some (x,gs,sc)->∃p,e=.ListComp x gs sc p) e k (λ_ _ _ _ _ h=>by cases h;exact⟨_,rfl⟩) k h
theorem dA{a:Bool}(h:(!a)=true):a=false:=by cases a<;>first|rfl|cases h
def rH(S:Sx)(n:Nat)(t:Tg)(caps:aQ)(target:Expr)(sc:Scope):Bool :=
 decide (sc.kind=.function)&&sc.names.all (λ(x,k)=>decide (k≠.cell)&&(decide (k≠.local)||decide (sc.names.lookup x=some .local))&&(decide (k≠.free)||decide (S.sc.names.lookup x=some .cell)||decide (S.sc.names.lookup x=some .free))) &&
 decide (n=(ck target).length)&&(ck target).all (λx=>decide (sc.names.lookup x=some .local))&&decide (ck target++gA S caps).Nodup &&
 caps.all (λi=>match S.N[i]? with|some x=>decide (sc.names.lookup x=some .free)|none=>false) &&
 (match t with
  |.nm i=>decide (i=0)&&isNm target
  |.tp is=>bt (yi target) λes=>decide (is=List.range es.length)&&es.all isNm)
mutual
noncomputable def bZ(S:Sx):CE->Expr->Bool
 |.cg p es,e0=>ZY e0&&bt (S.px.pe p S.sc S.bl e0) λxs=>bG S es xs
 |.bB,e0=>bt (vC e0) λc=>BK c
 |.bl b,e0=>bt (vC e0) λc=>HQ b c
 |.int i,e0=>bt (vC e0) λc=>BM i c
 |.str s,e0=>bt (vC e0) λc=>BJ s c
 |.v i,e0=>bt (IS e0) λx=>decide (S.N[i]?=some x)&&IL S.sc x&&nu x
 |.glo x i,e0=>bt (IS e0) λy=>decide (y=x)&&gz S.sc x&&decide ((x,GK.i i)∈S.cs)&&!(x==("__debug__" : Str))
 |.bin op a b,e0=>bt (IW e0) λz=>decide (z.2.1=Oh op)&&bZ S a z.1&&bZ S b z.2.2
 |.neg a,e0=>bt (SX e0) λz=>decide (z.1=.USub)&&bZ S a z.2
 |.not a,e0=>bt (SX e0) λz=>decide (z.1=.Not)&&bZ S a z.2
 |.and es,e0=>bt (vBool e0) λz=>decide (z.1=.And)&&bG S es z.2
 |.or es,e0=>bt (vBool e0) λz=>decide (z.1=.Or)&&bG S es z.2
 |.cmp op a b,e0=>bt (IV e0) λz=>decide (z.2.1=[Ut op])&&bZ S a z.1&&bt (one z.2.2) λr=>bZ S b r&&pK r
 |.si a t,e0=>bt (eX e0) λz=>decide (z.1=("isinstance" : Str))&&gz S.sc z.1&&decide (z.1∈S.bl)&&bt (two z.2) λy=>bZ S a y.1&&bt (IS y.2) λx=>decide (x=(tyName t:Str))&&gz S.sc x&&decide (x∈S.bl)
 |.call f es,e0=>bt (eX e0) λz=>decide (S.fn f=some z.1)&&gz S.sc z.1&&nu z.1&&bt (S8 z.2) λy=>bG S es (y.1::y.2)
 |.bf f es,e0=>bt (eX e0) λz=>decide (z.1=(rP f:Str))&&gz S.sc z.1&&decide (z.1∈S.bl)&&bt (S8 z.2) λy=>bG S es (y.1::y.2)
 |.kv a,e0=>bt (eX e0) λz=>decide (z.1=("len" : Str))&&gz S.sc z.1&&decide (z.1∈S.bl)&&bt (one z.2) λy=>bt (eX y) λw=>decide (w.1=("set" : Str))&&gz S.sc w.1&&decide (w.1∈S.bl)&&bt (one w.2) λu=>bZ S a u
 |.ix a b,e0=>bt (yj e0) λz=>bZ S a z.1&&bZ S b z.2
 |.tup es,e0=>bt (yi e0) λxs=>bG S es xs&&decide (es.length<=1000)
 |.lst es,e0=>bt (M9 e0) λxs=>bG S es xs&&decide (es.length<=1000)
 |.comp n t caps ik es bL elt,e0=>bt (G9 e0) λz=>bt (one z.2.1) λg=>decide (g.is_async=0)&&rH S n t caps g.target z.2.2&&pK g.iter&&decide (bL.length<=1)&&bG (S.inner g.target caps z.2.2) bL g.ifs&&bZ (S.inner g.target caps z.2.2) elt z.1 &&
     (match ik with
      |.lW=>bt (eX g.iter) λw=>decide (w.1=("range" : Str))&&gz S.sc w.1&&decide (w.1∈S.bl)&&bt (one w.2) λy=>bG S es [y]
      |.lV=>bt (eX g.iter) λw=>decide (w.1=("range" : Str))&&gz S.sc w.1&&decide (w.1∈S.bl)&&bt (two w.2) λy=>bG S es [y.1,y.2]
      |.seq=>bG S es [g.iter]
      |.cg p=>RL g.iter&&(decide (1100<=p)||iV g.target)&&bt (S.px.pi p S.sc S.bl g.iter) λxs=>bG S es xs)
noncomputable def bG(S:Sx):az->au->Bool
 |[],es=>match es with
  |[]=>true
  |_::_=>false
 |c::cs,es=>match es with
  |[]=>false
  |e::es=>bZ S c e&&bG S cs es
end
def Ak(K:aq)(n:Nat)(m:aI):Sp:=λvs H Q _=>∃(F:ai) (ds:aa) (r:D),vs.length=n/\aG (bh K H) (nd K F (λ_=>False) (λ_=>none) H) [] 0 vs ds/\m ds=ok r /\
 ∀v H',aK H H'->(∃τt:Addr->Option bp,(∀p q,τt p=some q->H p=none)/\Rep (bh K H') (nd K (λp=>F p\/H p=none) (λ_=>False) τt H') [] v r)->Q v H'
structure Mj(X:Cx)(k:Nat)(x:Str)(m:aI):Prop where
 ex:∃(f:Addr) (fd:FuncData) (ps:ag),fB X.prog X.w X.K X.mg X.base so k f fd ps (Ak X.K ps.length m)/\X.mg x=some (.ref f)/\PySem.W.keepIn X.K (.ref f)=true/\Binds X.K fd ps []/\∀ds r,m ds=ok r->ds.length=ps.length
noncomputable def kinds:List String:=["NoneType","bool","int","str","list","tuple","dict"]
def O0:Ty->String->Bool
 |.int,s=>s == "int" ||s == "bool"
 |t,s=>s==tyName t
theorem aK.upd{H:Hp}{p:Addr}{o:HO}(h:H p=none):aK H (upd H p o):=λb u e=>by
 rw[aW (by rintro rfl;rw[h]at e;cases e)];exact e
theorem Br{i j:Int}(h:iz i j=true):IntMulOk i j:=by
 unfold iz at h;simp only[Bool.or_eq_true,Bool.and_eq_true,decide_eq_true_eq]at h;rcases h with (h|h)|⟨h1,h2⟩
 ·exact .of_left (intBits_le h)
 ·exact .of_right (intBits_le h)
 ·have b1:Builtin.Int.intBits i<=9000:=intBits_le h1;have b2:Builtin.Int.intBits j<=9000:=intBits_le h2;unfold IntMulOk;have hb:Builtin.Int.intTooBig ((Builtin.Int.intBits i:Int)+(Builtin.Int.intBits j:Int))=false:=by
   unfold Builtin.Int.intTooBig;have:(bitsLine:Int)=134217728:=by decide
   exact aaV (by left)
  rw[hb];simp
section
variable {K:aq}{R:ai}{τ τt:Addr->Option bp}{fv:aQ}{H H':Hp}
theorem Fe:jG X (binaryOp .Add) (λx y H Q=>∃a b xs ys,x=.ref a/\y=.ref b/\bh X.K H a xs/\bh X.K H b ys/\xs.length+ys.length<=sizeLine/\(xs=[]->Q (.ref b) H)/\(ys=[]->Q (.ref a) H)/\∀p,H p=none->Q (.ref p) (upd H p (.tup (xs++ys)))):=by
 intro pins s σ H x y v u Q I rx ry h;obtain⟨a,b,xs,ys,rfl,rfl,ha,hb,hz,q0,q1,q2⟩:=h;cases rx;cases ry;by_cases hx:xs=[]
 ·subst hx;obtain⟨aM,r1,p1,_⟩:=I.tuple ha;obtain⟨vH,r2,p2,_⟩:=I.tuple hb;cases r1;obtain⟨⟨cls,dd,data,sl⟩,ho,hc,n,hd⟩:=id p1;obtain⟨⟨GD,v9,data2,uR⟩,qW,hc2,n2,hd2⟩:=id p2;simp only at hc hd hc2 hd2;subst hc hd hc2 hd2;exact concat_meets ⟨_,ho,rfl⟩ ⟨_,qW,rfl⟩ noFill_tuple_add seq_tuple_add abB abz (abv _ _)
   (tuple_addW0 a b [].toArray vH.toArray n n2 dd v9 sl uR rfl) ⟨ho,qW,⟨.ref b,H,I,rfl,q0 rfl⟩⟩
 ·exact Fd pins s σ H (.ref a) (.ref b) _ _ Q I rfl rfl ⟨a,b,xs,ys,rfl,rfl,ha,hb,hx,hz,q1,λ_=>q2⟩
theorem nd.pU(k k':bp)(p:Addr)(xs:Nd)(f:Fl)(h:nd K R A (λ_=>none) H k p xs f):nd K R A (λ_=>none) H k' p xs f:=by
 cases f with
 |ow=>exact nomatch h.2
 |fz=>exact h
 |al=>exact h
 |sc=>exact h
theorem Ou(Si:SI X F R τ ρ σ H)(fr:∀p q,τt p=some q->H p=none)(k k':bp)(p:Addr)(xs:Nd)(f:Fl)(h:nd K R (jw (gP X F) τ fv) τt H' k p xs f):
  nd K R (jw (gP X F) τ fv) (λ_=>none) H' k' p xs (aN f):=by
 cases f with
 |ow=>exact⟨h.1,.inr (Si.same.free (fr p _ h.2)),λc i e=>absurd (fr p _ h.2) (Si.th p _ e)⟩
 |fz=>exact h
 |al=>exact h
 |sc=>exact h
theorem aG.fZ{k:bp}{n:Nat}(h:aG (bh K H') (nd K R (jw (gP X F) τ fv) τt H') k n xs ds)(Si:SI X F R τ ρ σ H)(fr:∀p q,τt p=some q->H p=none){n':Nat}:
  aG (bh K H') (nd K R (jw (gP X F) τ fv) (λ_=>none) H') k' n' xs (ah aN ds):=aG.gM (λ_ _ h=>h) (Ou Si fr) h _ _
theorem Rep.fZ{k:bp}{v:V}{d:D}(h:Rep (bh K H') (nd K R (jw (gP X F) τ fv) τt H') k v d)(Si:SI X F R τ ρ σ H)(fr:∀p q,τt p=some q->H p=none):
  Rep (bh K H') (nd K R (jw (gP X F) τ fv) (λ_=>none) H') k' v (aw aN d):=Rep.gM (λ_ _ h=>h) (Ou Si fr) h _
theorem cf.tM{p:Addr}(hp:H p=none)(e:aK H H')(hl:H' p=some (.lst xs))(r:aG (bh K H') (nd K R (jw G τ fv) (λ_=>none) H') [] 0 xs ds):cf K G R τ fv H H' (.ref p) (.lst .ow ds):=by
 refine⟨λq=>if q=p then some []else none,λq k hq=>?_,.lst ⟨hl,by simp⟩ (r.imp (λ_ _ h=>h) λc q xs f h=>?_)⟩
 ·by_cases vL:q=p
  ·subst vL;exact hp
  ·simp[vL]at hq
 ·cases f with
  |ow=>exact nomatch h.2
  |fz=>exact h
  |al=>exact h
  |sc=>exact h
end
theorem FD(K:aq):∀t:Ty,∀s∈kinds,PySem.W.kitOne K (.type s) (.type (tyName t))=some (O0 t s):=by
 intro t s hs;simp only[kinds,List.mem_cons,List.not_mem_nil,or_false]at hs;cases t<;>rcases hs with rfl|rfl|rfl|rfl|rfl|rfl|rfl<;>rfl
structure PX(X:Cx)(sc:Scope)(bl:ag)(k:Nat):Prop where
 sc:X.env.scope=sc
 calm:X.calm=true
 room:gh k X.A
 bl:∀x∈bl,X.mg x=none
theorem PX.gl{sc:Scope}{bl:ag}{k:Nat}(L:PX X sc bl k){x:Str}(h:gz sc x=true):Gl X x:=by
 unfold Gl;show X.env.scope.names.lookup x=some .globalImplicit;rw[L.sc];exact aab h
def oH(X:Cx)(F:ai)(Φ:bg):az->au->Prop
 |[],[]=>True
 |c::cs,a::as=>PE X a (tD X F Φ c)/\(∀es,starEach (a::es) X.env=(false,eval a X.env)::starEach es X.env)/\iq a/\oH X F Φ cs as
 |_,_=>False
structure uJ(K:aq)(H2:Hp)(vs:af)(xs:aa)(H':Hp):Prop where
 n0:∃R0:ai,aG (bh K H2) (nd K R0 (λ_=>False) (λ_=>none) H2) [] 0 vs (ah aA xs)/\∀p o,R0 p->H2 p=some o->H' p=some o
 tp:∀a ys,bh K H2 a ys->bh K H' a ys
structure Q5(K:aq)(J:It)(H2:Hp)(vs:af)(xs items:aa):Prop where
 go:∀i H' R',uJ K H2 vs xs H'->aG (bh K H') (nd K R' (λ_=>False) (λ_=>none) H') [] 0 vs (ah aA xs)->i<items.length->J.go i H'
 uQ:∀i H' R' x jy,uJ K H2 vs xs H'->aG (bh K H') (nd K R' (λ_=>False) (λ_=>none) H') [] 0 vs (ah aA xs)->i<items.length->J.uQ i H' x jy->aK H' jy/\∃d,items[i]?=some d/\Rep (bh K jy) (nd K R' (λ_=>False) (λ_=>none) jy) [] x d
 stop:∀i H' R',uJ K H2 vs xs H'->aG (bh K H') (nd K R' (λ_=>False) (λ_=>none) H') [] 0 vs (ah aA xs)->items.length<=i->J.stop i H'
structure mf(px:Px)(Φ:bg):Prop where
 e:∀(X:Cx) (sc:Scope) (bl:ag) (k:Nat),PX X sc bl k->∀(p:Nat) (e:Expr) (args:au),px.pe p sc bl e=some args->∀(F:ai) (cs:az),oH X F Φ cs args->PE X e (tD X F Φ (.cg p cs))/\PT X e (gI X F Φ (.cg p cs))
 i:∀(X:Cx) (sc:Scope) (bl:ag) (k:Nat),PX X sc bl k->∀(p:Nat) (e:Expr) (args:au),px.pi p sc bl e=some args->∀(F:ai) (cs:az) (tg:Expr),(decide (1100<=p)||iV tg)=true->oH X F Φ cs args ->
  ∀(pins:aj) (s:Shared) (σ:St) (H:Hp) (R:ai) (τ:Addr->Option bp) (ρ:aZ) (xs:aa) (d:D) (items:aa),Inv X pins σ H s->SI X F R τ ρ σ H->bz Φ cs ρ=ok xs->Φ p xs=ok d->sV d=ok items->∀Rr:It->Hp->Prop,
   (∀J H2 vs,aK H H2->cI X.K (gP X F) R τ (dg cs) H H2 vs xs->Q5 X.K J H2 vs xs items->Rr J H2) ->
   wpAny (model X.prog X.w) X.A (eval e X.env) (λv s1=>wpAny (model X.prog X.w) X.A (pyIter v) (DH X pins σ tg Rr) X.xe s1) X.xe s
def wz(K:aq):GK->Value->Prop
 |.i i,u=>RelV (.int i) u
structure Lk(X:Cx)(S:Sx)(k:Nat)(Φ:bg):Prop where
 sc:X.env.scope=S.sc
 N:X.N=S.N
 nd:X.N.Nodup
 calm:X.calm=true
 room:gh k X.A
 bl:∀x∈S.bl,X.mg x=none
 fn:∀f x,S.fn f=some x->Mj X k x (Φ f)
 cs:∀x i,(x,i)∈S.cs->∃u,X.mg x=some u/\wz X.K i u
 pr:mf S.px Φ
variable {S:Sx}{Φ:bg}
theorem Lk.pX{k:Nat}(L:Lk X S k Φ):PX X S.sc S.bl k:=⟨L.sc,L.calm,L.room,L.bl⟩
variable {Q:VK}{yP p' pos pos':Pos}
section
variable {X:Cx}{S:Sx}{k:Nat}{F:ai}{Φ:bg}
theorem Lk.gl(L:Lk X S k Φ){x:Str}(h:gz S.sc x=true):Gl X x:=by
 unfold Gl;show X.env.scope.names.lookup x=some .globalImplicit;rw[L.sc];exact aab h
theorem Lk.Rk(L:Lk X S k Φ){x:Str}(h:IL S.sc x=true):Iw X.env.scope x:=by
 unfold Iw;rw[L.sc];unfold IL at h;rw[Bool.or_eq_true,Bool.or_eq_true]at h;rcases h with (h|h)|h
 ·exact .inl (aab h)
 ·exact .inr (.inl (aab h))
 ·exact .inr (.inr (aab h))
theorem tD.intro{c:CE}{d:D}(Si:SI X F R τ ρ σ H)(e:bj Φ c ρ=ok d)(h:∀v H',aK H H'->cf X.K (gP X F) R τ (jr c) H H' v d->Q v H'):tD X F Φ c σ H Q:=⟨R,τ,ρ,d,Si,e,h⟩
theorem TU(L:Lk X S k Φ){i:Nat}{x:Str}(h:bZ S (.v i) (.Name x pos)=true):PE X (.Name x pos) (tD X F Φ (.v i)):=by
 replace h:=aC h;replace h:=And.intro (aC h.1) h.2;obtain⟨⟨h1,h2⟩,h3⟩:=h;unfold nu at h3;simp only[Bool.and_eq_true,Bool.not_eq_true']at h3;refine PE.imp (hX (i:=i) (by rw[L.N];exact aab h1) (L.Rk h2) h3.1.1 h3.1.2) λσ H Q hq=>?_;obtain⟨R,τ,ρ,d,Si,ev,hq⟩:=hq;obtain⟨d',hd,rfl⟩:=Ar ev
 ·obtain⟨v,hv,hr⟩:=Si.rep i d' hd;refine⟨v,hv,hq v H (aK.refl H) ⟨λ_=>none,λ_ _ h=>by simp at h,?_⟩⟩;refine Rep.map (q:=[i]) (q':=[]) (λ_ _ h=>h) (λc p xs f h=>?_) hr [] rfl;cases f with
  |ow =>
   refine⟨h.1,.inr (Si.t0 p _ h.2),λc' j e=>?_⟩;rw[h.2]at e;have e':=aat e;have:=aaW List.getLast? e';simp at this;show _∈[i];simp[this]
  |fz=>exact h
  |al=>exact h.2.elim
  |sc=>exact h
theorem kM{op:G6}{x y d:D}(Pj:op≠.add/\op≠.mul)(h:b0 op x y=ok d):∃i j,x=.int i/\y=.int j:=by
 cases x with
 |int i=>cases y with
  |int j=>exact⟨i,j,rfl,rfl⟩
  |_=>cases op<;>first|exact nk h | (simp at Pj;done)
 |_=>cases op<;>first|exact nk h | (simp at Pj;done)
theorem Jx(L:Lk X S k Φ){op:G6}{a b:CE}{l r:Expr}(ha:PE X l (tD X F Φ a))(hb:PE X r (tD X F Φ b)):PE X (.BinOp l (Oh op) r pos) (tD X F Φ (.bin op a b)):=by
 have two:∀{σ:St} {H:Hp} {Q:VK} {r2:R2},(∃R τ ρ d,SI X F R τ ρ σ H/\bj Φ (.bin op a b) ρ=ok d/\(∀v H',aK H H'->cf X.K (gP X F) R τ (jr (.bin op a b)) H H' v d->Q v H') /\
   ∀x y v u H',b0 op x y=ok d->aK H H'->cf X.K (gP X F) R τ (jr (.bin op a b)) H H' v x->cf X.K (gP X F) R τ (jr (.bin op a b)) H H' u y->r2 v u H' Q)->Hc r2 (tD X F Φ a) (tD X F Φ b) σ H Q:=by
  rintro σ H Q r2 ⟨R,τ,ρ,d,Si,ev,hq,hr⟩;obtain⟨x,ex,ev⟩:=aH ev;obtain⟨y,ey,ev⟩:=aH ev;refine tD.intro Si ex λv H1 e1 r1=>tD.intro (Si.go e1) ey λu H2 e2 r2=>?_;exact hr x y v u H2 ev (e1.trans e2) ((r1.go e2).mono λi hi=>aaA _ hi) ((r2.old e1).mono λi hi=>aaq _ hi)
 have yT:∀{C:Int->Int->Prop} {g:Int->Int->Int},jG X (binaryOp (Oh op)) (rI C λi j=>.int (g i j))->(∀x y d,b0 op x y=ok d->∃i j,x=.int i/\y=.int j/\C i j/\d=.int (g i j)) ->
   PE X (.BinOp l (Oh op) r pos) (tD X F Φ (.bin op a b)):=by
  intro C g ho hd;refine PE.imp (w_ ho ha hb) λσ H Q hq=>?_;obtain⟨R,τ,ρ,d,Si,ev,hq⟩:=hq;refine two ⟨R,τ,ρ,d,Si,ev,hq,λx y v u H' eb e rv ru=>?_⟩;obtain⟨i,j,rfl,rfl,c,rfl⟩:=hd x y d eb;exact⟨i,j,rv.isInt,ru.isInt,c,hq _ H' e .int⟩
 cases op with
 |sub =>
  refine yT (C:=λ_ _=>True) (g:=λi j=>i - j) (J2 λ_ _ _ _ _ _ _ _ q=>sub_int q) λx y d h=>?_;obtain⟨i,j,rfl,rfl⟩:=kM (by simp) h;cases h;exact⟨_,_,rfl,rfl,trivial,rfl⟩
 |mod =>
  refine yT (C:=λ_ j=>j≠0) (g:=λi j=>i.fmod j) Fc λx y d h=>?_;obtain⟨i,j,rfl,rfl⟩:=kM (by simp) h;obtain⟨h1,h⟩:=oU h;subst h;exact⟨_,_,rfl,rfl,h1,rfl⟩
 |fdiv =>
  refine yT (C:=λ_ j=>p7 j=true) (g:=λi j=>i.fdiv j) (J2 λi j _ _ _ _ _ hc q=>?_) λx y d h=>?_
  ·unfold p7 at hc;rw[Bool.and_eq_true]at hc;have h1:j≠0:=aab hc.1;have h2:j.natAbs<big:=aab hc.2;exact floordiv_int h1 q (.inl (PyProof.noPylong_of_log2 ((Nat.log2_lt (by left)).mpr h2)))
  ·obtain⟨i,j,rfl,rfl⟩:=kM (by simp) h;obtain⟨h1,h⟩:=oU h;subst h;exact⟨_,_,rfl,rfl,h1,rfl⟩
 |pow =>
  refine yT (C:=λi j=>ko i j=true) (g:=λi j=>i ^ j.toNat) (J2 λi j _ _ _ _ _ hc q=>?_) λx y d h=>?_
  ·unfold ko at hc;simp only[Bool.and_eq_true,decide_eq_true_eq]at hc;exact pow_int_small hc.1.1 hc.1.2 hc.2 q
  ·obtain⟨i,j,rfl,rfl⟩:=kM (by simp) h;obtain⟨h1,h⟩:=oU h;subst h;exact⟨_,_,rfl,rfl,h1,rfl⟩
 |shl =>
  refine yT (C:=λi j=>ko i j=true) (g:=λi j=>i*2 ^ j.toNat) (J2 λi j _ _ _ _ _ hc q=>?_) λx y d h=>?_
  ·unfold ko at hc;simp only[Bool.and_eq_true,decide_eq_true_eq]at hc;exact lshift_int_small hc.1.1 hc.1.2 hc.2 q
  ·obtain⟨i,j,rfl,rfl⟩:=kM (by simp) h;obtain⟨h1,h⟩:=oU h;subst h;exact⟨_,_,rfl,rfl,h1,rfl⟩
 |mul =>
  have hi:jG X (binaryOp .Mult) (rI (λi j=>iz i j=true) λi j=>.int (i*j)):=J2 λi j _ _ _ _ _ hc q=>mul_int q (Br hc);exact yT (C:=λi j=>iz i j=true) (g:=λi j=>i*j) hi λx y d h=>by
   obtain⟨i,j,rfl,rfl⟩:∃i j,x=.int i/\y=.int j:=by cases x<;>first | (cases h;done) | (cases y<;>first|exact⟨_,_,rfl,rfl⟩ | (cases h;done))
   obtain⟨h1,h⟩:=oU h;subst h;exact⟨_,_,rfl,rfl,h1,rfl⟩
 |add =>
  refine PE.imp (w_ ((J1.or Bd).or Fe) ha hb) λσ H Q hq=>?_;obtain⟨R,τ,ρ,d,Si,ev,hq⟩:=hq;refine two ⟨R,τ,ρ,d,Si,ev,hq,λx y v u H' eb e rv ru=>?_⟩;have hz:sizeLine=16777216:=abh;have nL:ej=1000000:=rfl;cases x with
  |int i =>
   cases y with
   |int j =>
    cases eb;exact .inl (.inl ⟨i,j,rv.isInt,ru.isInt,hq _ H' e .int⟩)
   |_=>cases eb
  |lst f a =>
   cases y with
   |lst g b =>
    obtain⟨hc,eb⟩:=oU eb
    ·subst eb;obtain⟨τt,fr,rp⟩:=rv;obtain⟨SU,MP,T3⟩:=ru;obtain⟨p,xs,rfl,hn,rs⟩:=rp.uV;cases T3 with
     | @lst _ p2 xs2 _ _ MF JD =>
      refine .inl (.inr ⟨p,p2,xs,xs2,rfl,rfl,hn.lst hc.1,MF.lst hc.2.1,by rw[rs.length,JD.length];left,λp' vM=>?_⟩);have es:aK H' (upd H' p' (.lst (xs++xs2))):=aK.upd vM;refine hq _ _ (e.trans es) (cf.tM (e.free vM) (e.trans es) (aX) ?_);rw[aP,List.map_append,<- aP,<- aP];exact(aG.rV nd.pU (n:=0) (m:=0) (rs.fZ Si fr) (JD.fZ Si MP)).imp (λ_ _ h=>bh.same es h) λ_ _ _ _ h=>nd.same es h
   |_=>cases eb
  |tup a =>
   cases y with
   |tup b =>
    obtain⟨hc,eb⟩:=oU eb;subst eb;obtain⟨τt,fr,rp⟩:=rv;obtain⟨SU,MP,T3⟩:=ru;cases rp with
    | @tup _ p xs _ hn rs =>
     cases T3 with
     | @tup _ p2 xs2 _ MF JD =>
      have hl:=rs.length;have zH:=JD.length;refine .inr ⟨p,p2,xs,xs2,rfl,rfl,hn,MF,by rw[hl,zH];left,λz=>?_,λz=>?_,λp' vM=>?_⟩
      ·subst z;cases rs;exact hq _ H' e ⟨λ_=>none,λ_ _ h=>by simp at h,.tup MF (JD.fZ Si MP)⟩
      ·subst z;cases JD;refine hq _ H' e ⟨λ_=>none,λ_ _ h=>by simp at h,.tup hn ?_⟩;rw[List.append_nil];exact rs.fZ Si fr
      ·have es:aK H' (upd H' p' (.tup (xs++xs2))):=aK.upd vM;refine hq _ _ (e.trans es) ⟨λ_=>none,λ_ _ h=>by simp at h,.tup (bh.of aX) ?_⟩;rw[aP,List.map_append,<- aP,<- aP];exact(aG.rV nd.pU (n:=0) (m:=0) (rs.fZ Si fr) (JD.fZ Si MP)).imp (λ_ _ h=>bh.same es h) λ_ _ _ _ h=>nd.same es h
   |_=>cases eb
  |_=>cases y<;>cases eb
end
section
variable {T T':md}{N N':gC}{P:Fl->Bool}
theorem Rep.without(hT:∀p xs,T p xs->T' p xs)(hN:∀k k' p xs f,P f=false->N k p xs f->N' k' p xs f){k:bp}{v:V}{d:D}(h:Rep T N k v d)(e:bo P d=false)(k':bp):Rep T' N' k' v d:=by
 have:=Rep.gen (g:=id) (P:=P) (N':=N') (C:=λ_ _=>True) (I:=λ_ _=>True) hT trivial (λ_ _ e=>e) (λ_ _ _ _ e _=>e) (λk k' p xs f _ e h=>hN k k' p xs f e h) h (k':=k') trivial e;rw[eR]at this;exact this
theorem aG.without(hT:∀p xs,T p xs->T' p xs)(hN:∀k k' p xs f,P f=false->N k p xs f->N' k' p xs f){k:bp}{n:Nat}(h:aG T N k n vs ds)(e:a_ P ds=false)(k':bp)(n':Nat):aG T' N' k' n' vs ds:=by
 have:=aG.gen (g:=id) (P:=P) (N':=N') (C:=λ_ _=>True) (I:=λ_ _=>True) hT trivial (λ_ _ e=>e) (λ_ _ _ _ e _=>e) (λk k' p xs f _ e h=>hN k k' p xs f e h) h (k':=k') (n':=n') trivial trivial e;rw[eZ]at this;exact this
theorem Rep.kb(hT:∀p xs,T p xs->T' p xs)(hN:∀k p xs f,P f=false->N k p xs f->N' k p xs f){k:bp}{v:V}{d:D}(h:Rep T N k v d)(e:bo P d=false):Rep T' N' k v d:=by
 have:=Rep.gen (g:=id) (P:=P) (N':=N') (C:=λa b=>a=b) (I:=λa b=>a=b) hT rfl (λ_ _ e=>by rw[e]) (λ_ _ _ _ a b=>by rw[a,b]) (λk k' p xs f c e h=>by subst c;exact hN k p xs f e h) h rfl e;rw[eR]at this;exact this
theorem aG.kb(hT:∀p xs,T p xs->T' p xs)(hN:∀k p xs f,P f=false->N k p xs f->N' k p xs f){k:bp}{n:Nat}(h:aG T N k n vs ds)(e:a_ P ds=false):aG T' N' k n vs ds:=by
 have:=aG.gen (g:=id) (P:=P) (N':=N') (C:=λa b=>a=b) (I:=λa b=>a=b) hT rfl (λ_ _ e=>by rw[e]) (λ_ _ _ _ a b=>by rw[a,b]) (λk k' p xs f c e h=>by subst c;exact hN k p xs f e h) h rfl rfl e;rw[eZ]at this;exact this
end
theorem Rep.qQ{k:bp}{v:V}{d:D}(h:Rep (bh K H) (nd K R (λ_=>False) (λ_=>none) H) k v d):Rep (bh K H) (nd K R (λ_=>False) (λ_=>none) H) k' v d:=by
 have:=Rep.gM (g:=id) (λ_ _ h=>h) nd.pU h k';rw[eR]at this;exact this
def iJ(X:Cx)(R:ai)(τ:Addr->Option bp)(H:Hp)(v:V)(d:D):Prop :=
 ∃τt:Addr->Option bp,(∀p q,τt p=some q->τ p=none/\¬ R p/\X.H₀ p=none/\H p≠none)/\Rep (bh X.K H) (nd X.K R (λ_=>False) τt H) [] v d
section
variable {X:Cx}{F R:ai}{τ:Addr->Option bp}{ρ:aZ}{σ:St}{H H':Hp}
noncomputable def vd(i:Nat)(τt τ:Addr->Option bp):Addr->Option bp:=λp=>match τt p with|some q=>some (q++[i])|none=>τ p
theorem SI.NI{i:Nat}{v:V}{d:D}(Si:SI X F R τ ρ σ H)(ht:∀p q,τt p=some q->τ p=none/\¬ R p/\X.H₀ p=none/\H p≠none)(rp:Rep (bh X.K H) (nd X.K R (λ_=>False) τt H) [] v d)(hi:i<ρ.length):SI X F R (vd i τt τ) (ρ.set i (some d)) (σ.set i (some v)) H:=by
 refine⟨by simp[Si.len],λj d' hj=>?_,λp hp=>?_,Si.rh,Si.rf,λp q hq=>?_,λp q hq=>?_,Si.same⟩
 ·by_cases jq:j=i
  ·subst jq;rw[List.getElem?_set_self hi]at hj;cases hj;refine⟨v,List.getElem?_set_self (by rw[<- Si.len];exact hi),rp.imp (q':=[j]) (λ_ _ h=>h) λc p xs f h=>?_⟩;cases f with
   |ow=>rw[List.append_nil]at h;exact⟨h.1,by simp only[vd,h.2]⟩
   |fz=>exact h
   |al=>exact h
   |sc=>exact h
  ·rw[List.getElem?_set_ne (Ne.symm jq)]at hj;obtain⟨w,hw,mm⟩:=Si.rep j d' hj;refine⟨w,by rw[List.getElem?_set_ne (Ne.symm jq)];exact hw,mm.imp (λ_ _ h=>h) λc p xs f h=>?_⟩;cases f with
   |ow =>
    refine⟨h.1,?_⟩;cases q:τt p with
    |none=>simp only[vd,q];exact h.2
    |some k=>have:=(ht p k q).1;rw[h.2]at this;cases this
   |fz=>exact h
   |al=>exact h
   |sc=>exact h
 ·cases q:τt p with
  |none=>simp only[vd,q];exact Si.rt p hp
  |some k=>exact absurd hp (ht p k q).2.1
 ·cases z:τt p with
  |none=>simp only[vd,z]at hq;exact Si.th p q hq
  |some k=>exact(ht p k z).2.2.2
 ·cases z:τt p with
  |none=>simp only[vd,z]at hq;exact Si.t0 p q hq
  |some k=>exact(ht p k z).2.2.1
theorem SI.set{i:Nat}{v:V}{d:D}(Si:SI X F R τ ρ σ H)(r:iJ X R τ H v d)(hi:i<ρ.length):∃τ',SI X F R τ' (ρ.set i (some d)) (σ.set i (some v)) H:=by
 obtain⟨τt,ht,rp⟩:=r;exact⟨_,Si.NI ht rp hi⟩
theorem yW{k:bp}{v:V}{d:D}(h:Rep (bh X.K H) (nd X.K R (λ_=>False) τ H) k v d)(ho:bo eG d=false):iJ X R τ H v d :=
 ⟨λ_=>none,λ_ _ h=>by simp at h,Rep.without (P:=eG) (λ_ _ h=>h) (λk k' p xs f hf h=>by
  cases f with
  |ow=>cases hf
  |fz=>exact h
  |al=>exact h.2.elim
  |sc=>exact h) h ho _⟩
open Classical in
theorem SI.move{i:Nat}{d:D}(Si:SI X F R τ ρ σ H)(hd:ρ[i]?=some (some d)):∃v τ',σ[i]?=some (some v)/\SI X F R τ' (ρ.set i none) σ H/\iJ X R τ' H v d:=by
 obtain⟨v,hv,rp⟩:=Si.rep i d hd;refine⟨v,λp=>match τ p with|some q=>if q.getLast?=some i then none else some q|none=>none,hv,⟨by simp[Si.len],λj d' hj=>?_,λp hp=>?_,Si.rh,Si.rf,λp q hq=>?_,λp q hq=>?_,Si.same⟩,
  λp=>match τ p with|some q=>if q.getLast?=some i then(if H p=none then none else some q.dropLast)else none|none=>none,λp q hq=>?_,rp.imp (q:=[i]) (q':=[]) (λ_ _ h=>h) λc p xs f h=>?_⟩
 ·by_cases jq:j=i
  ·subst jq;rw[List.getElem?_set]at hj;simp at hj
  ·rw[List.getElem?_set_ne (Ne.symm jq)]at hj;obtain⟨w,hw,mm⟩:=Si.rep j d' hj;refine⟨w,hw,mm.imp (q:=[j]) (q':=[j]) (λ_ _ h=>h) λc p xs f h=>?_⟩;cases f with
   |ow =>
    refine⟨h.1,?_⟩;simp only[h.2];rw[if_neg (by simp;exact jq)]
   |fz=>exact h
   |al=>exact h
   |sc=>exact h
 ·simp only[Si.rt p hp]
 ·cases z:τ p with
  |none=>simp only[z]at hq;cases hq
  |some k=>exact Si.th p k z
 ·cases z:τ p with
  |none=>simp only[z]at hq;cases hq
  |some k=>exact Si.t0 p k z
 ·cases z:τ p with
  |none=>simp only[z]at hq;cases hq
  |some k =>
   simp only[z]at hq ⊢;by_cases hl:k.getLast?=some i
   ·rw[if_pos hl];exact⟨rfl,(λhR=>by have:=Si.rt p hR;rw[z]at this;cases this),Si.t0 p k z,Si.th p k z⟩
   ·rw[if_neg hl]at hq;cases hq
 ·cases f with
  |ow =>
   refine⟨h.1,?_⟩;have hn:H p≠none:=h.1.ne;simp only[h.2];rw[if_pos (by simp),if_neg hn];simp
  |fz=>exact h
  |al=>exact h.2.elim
  |sc=>exact h
theorem xH(is:aQ)(ρ:aZ)(j:Nat)(d:D)(h:(iK is ρ)[j]?=some (some d)):∃d',ρ[j]?=some (some d')/\d=(if j∈is then aw aA d' else d'):=by
 unfold iK at h;rw[List.getElem?_mapIdx]at h;cases q:ρ[j]? with
 |none=>rw[q]at h;exact nk h
 |some o =>
  rw[q]at h;cases o with
  |none=>simp at h
  |some d' =>
   refine⟨d',rfl,?_⟩;by_cases hj:j∈is
   ·simp[hj]at h ⊢;exact h.symm
   ·simp[hj]at h ⊢;exact h.symm
open Classical in
theorem xI(Si:SI X F R τ ρ σ H)(es:aK H H'):
  ∃R' τ',(∀p,R p->R' p)/\SI X F R' τ' (iK fv ρ) σ H'/\∀τt:Addr->Option bp,(∀p q,τt p=some q->H p=none)->∀(k k':bp) (p:Addr) (xs:Nd) (f:Fl),nd X.K R (jw (gP X F) τ fv) τt H' k p xs f->nd X.K R' (λ_=>False) (λ_=>none) H' k' p xs (aA f):=by
 have gq:=Si.go es;have fresh:∀p,H p=none->jw (gP X F) τ fv p:=λp hp=>⟨.inr (Si.same.free hp),λc i e=>absurd hp (Si.th p _ e)⟩
 refine⟨λp=>R p\/(H' p≠none/\jw (gP X F) τ fv p),λp=>if jw (gP X F) τ fv p then none else τ p,λp h=>.inl h,⟨by simp[iK,Si.len],λj d' hj=>?_,λp hp=>?_,λp hp=>?_,λp hp=>?_,λp q hq=>?_,λp q hq=>?_,gq.same⟩,λτt fr k k' p xs f h=>?_⟩
 ·obtain⟨d0,h0,e0⟩:=xH _ _ _ _ hj;obtain⟨w,hw,mm⟩:=gq.rep j d0 h0;refine⟨w,hw,?_⟩;by_cases Sb:j∈fv
  ·rw[if_pos Sb]at e0;subst e0;refine Rep.map (q:=[j]) (q':=[j]) (λ_ _ h=>h) (λc p xs f h=>?_) mm [] rfl;cases f with
   |ow =>
    refine⟨h.1,.inr ⟨h.1.ne,.inr (Si.t0 p _ h.2),λc' i' e'=>?_⟩⟩;rw[h.2]at e';have:=aaW List.getLast? (aat e');simp at this;subst this;exact Sb
   |fz=>exact⟨h.1,.inl h.2⟩
   |al=>exact h.2.elim
   |sc=>exact h
  ·rw[if_neg Sb]at e0;subst e0;refine mm.imp (q:=[j]) (q':=[j]) (λ_ _ h=>h) λc p xs f h=>?_;cases f with
   |ow =>
    refine⟨h.1,?_⟩;show(if jw (gP X F) τ fv p then none else τ p)=some (c++[j]);rw[if_neg (λz=>Sb (z.2 c j h.2))];exact h.2
   |fz=>exact⟨h.1,.inl h.2⟩
   |al=>exact h.2.elim
   |sc=>exact h
 ·rcases hp with hp|hp
  ·simp only[Si.rt p hp];split<;>rfl
  ·rw[if_pos hp.2]
 ·rcases hp with hp|hp
  ·exact gq.rh p hp
  ·exact hp.1
 ·rcases hp with hp|hp
  ·exact Si.rf p hp
  ·exact hp.2.1
 ·split at hq
  ·cases hq
  ·exact gq.th p q hq
 ·split at hq
  ·cases hq
  ·exact Si.t0 p q hq
 ·cases f with
  |ow=>exact⟨h.1,.inr ⟨h.1.ne,fresh p (fr p _ h.2)⟩⟩
  |fz=>exact⟨h.1,.inl h.2⟩
  |al=>exact⟨h.1,.inr ⟨h.1.ne,h.2⟩⟩
  |sc=>exact h
theorem rm{v:V}{d:D}(Si:SI X F R τ ρ σ H)(es:aK H H')(r:cf X.K (gP X F) R τ fv H H' v d):
  ∃R' τ',(∀p,R p->R' p)/\SI X F R' τ' (iK fv ρ) σ H'/\Rep (bh X.K H') (nd X.K R' (λ_=>False) (λ_=>none) H') [] v (aw aA d):=by
 obtain⟨τt,fr,rp⟩:=r;obtain⟨R',τ',h1,h2,h3⟩:=xI (fv:=fv) Si es;exact⟨R',τ',h1,h2,Rep.gM (λ_ _ h=>h) (h3 τt fr) rp _⟩
theorem uc(Si:SI X F R τ ρ σ H)(es:aK H H')(r:cI X.K (gP X F) R τ fv H H' vs ds):
  ∃R' τ',(∀p,R p->R' p)/\SI X F R' τ' (iK fv ρ) σ H'/\aG (bh X.K H') (nd X.K R' (λ_=>False) (λ_=>none) H') [] 0 vs (ah aA ds):=by
 obtain⟨τt,fr,rp⟩:=r;obtain⟨R',τ',h1,h2,h3⟩:=xI (fv:=fv) Si es;exact⟨R',τ',h1,h2,aG.gM (λ_ _ h=>h) (h3 τt fr) rp _ _⟩
theorem mv{v:V}{d:D}(h:Rep (bh X.K H) (nd X.K R (λ_=>False) (λ_=>none) H) [] v d):iJ X R τ' H v d:=⟨λ_=>none,λ_ _ h=>by simp at h,h⟩
open Classical in
theorem HN{e:CE}{v:V}{d:D}(Si:SI X F R τ ρ σ H)(es:aK H H')(r:cf X.K (gP X F) R τ (jr e) H H' v d):
  ∃R' τ',(∀p,R p->R' p)/\SI X F R' τ' (keep e d ρ).2 σ H'/\iJ X R' τ' H' v (keep e d ρ).1:=by
 unfold keep;by_cases ha:bo bX d=true
 ·rw[if_pos ha];obtain⟨R',τ',h1,h2,h3⟩:=rm Si es r;exact⟨R',τ',h1,h2,mv h3⟩
 ·obtain⟨τt,fr,rp⟩:=r;rw[if_neg ha];refine⟨R,τ,λ_ h=>h,Si.go es,λp=>if H' p=none then none else τt p,λp q hq=>?_,?_⟩
  ·dsimp only at hq;split at hq
   ·cases hq
   ·rename_i hn;have hf:=fr p q hq;refine⟨?_,λhR=>Si.rh p hR hf,Si.same.free hf,hn⟩;cases z:τ p with
    |none=>rfl
    |some k=>exact absurd hf (Si.th p k z)
  ·have Se:bo bX d=false:=by simpa using ha
   have st:∀{k:bp} {v:V} {d:D},Rep (bh X.K H') (nd X.K R (jw (gP X F) τ (jr e)) τt H') k v d->bo bX d=false->Rep (bh X.K H') (nd X.K R (λ_=>False) (λp=>if H' p=none then none else τt p) H') k v d:=by
    intro k v d h ha;exact Rep.kb (P:=bX) (λ_ _ h=>h) (λk p xs f hf h=>by
     cases f with
     |ow=>exact⟨h.1,by show(if H' p=none then none else τt p)=_;rw[if_neg (h.1.ne)];exact h.2⟩
     |fz=>exact h
     |al=>cases hf
     |sc=>exact h) h ha
   exact st rp Se
open Classical in
def tK(X:Cx)(F:ai)(Φ:bg)(c:CE):TE:=λσ H Q=>∃R τ ρ r,SI X F R τ ρ σ H/\ju Φ c ρ=ok r/\∀v H' R' τ',aK H H'->(∀p,R p->R' p)->SI X F R' τ' r.2 σ H'->iJ X R' τ' H' v r.1->Q v H'
end
theorem jV{env:Env}:∀(names:List (Str×NameKind)) (acc:List (Str×Addr)),(∀x,(x,NameKind.free)∈names->∃c,env.cells.lookup x=some c) ->
  ∃cl,(forIn names acc (λ(y:Str×NameKind) (cs:List (Str×Addr))=>do
    let (name,kind):=y
    let mut cs:=cs
    if kind==.free then cs:=(name,<- cellOf env name)::cs
    pure (ForInStep.yield cs)):Sem (List (Str×Addr)))=pure cl /\
   (∀x c,cl.lookup x=some c->acc.lookup x=some c\/(env.cells.lookup x=some c/\(x,NameKind.free)∈names))/\(∀x,((x,NameKind.free)∈names\/(∃c,acc.lookup x=some c))->∃c,cl.lookup x=some c)
 |[],acc,_=>⟨acc,rfl,λx c h=>.inl h,λx h=>h.elim (λh=>nomatch h) id⟩
 | (n,kd)::names,acc,h=>by
  by_cases hk:kd=.free
  ·subst hk;obtain⟨c,hc⟩:=h n aai;obtain⟨cl,e,h1,h2⟩:=jV names ((n,c)::acc) (λx hx=>h x (aal _ hx));refine⟨cl,?_,λx c' hx=>?_,λx hx=>?_⟩
   ·rw[List.forIn_cons];have e0:cellOf env n=pure c:=by unfold cellOf;rw[hc]
    simp only[beq_self_eq_true,if_true,e0,pure_bind];exact e
   ·rcases h1 x c' hx with z|z
    ·by_cases O9:x=n
     ·subst O9;simp at z;subst z;exact .inr ⟨hc,aai⟩
     ·rw[List.lookup_cons]at z;have:(x==n)=false:=by simpa using O9
      rw[this]at z;exact .inl z
    ·exact .inr ⟨z.1,aal _ z.2⟩
   ·refine h2 x ?_;rcases hx with hx|⟨c',hx⟩
    ·rcases List.mem_cons.mp hx with z|z
     ·cases z;exact .inr ⟨c,by simp⟩
     ·exact .inl z
    ·by_cases O9:x=n
     ·subst O9;exact .inr ⟨c,by simp⟩
     ·refine .inr ⟨c',?_⟩;rw[List.lookup_cons];have:(x==n)=false:=by simpa using O9
      rw[this];exact hx
  ·obtain⟨cl,e,h1,h2⟩:=jV names acc (λx hx=>h x (aal _ hx));have hb:(kd==NameKind.free)=false:=by simpa using hk
   refine⟨cl,?_,λx c' hx=>(h1 x c' hx).imp id λz=>⟨z.1,aal _ z.2⟩,λx hx=>h2 x ?_⟩
   ·rw[List.forIn_cons];simp only[hb,Bool.false_eq_true,if_false,pure_bind];exact e
   ·rcases hx with hx|hx
    ·rcases List.mem_cons.mp hx with z|z
     ·cases z;exact absurd rfl hk
     ·exact .inl z
    ·exact .inr hx
variable {env:Env}
theorem wa{sc:Scope}(h:∀x,(x,NameKind.free)∈sc.names->∃c,env.cells.lookup x=some c):
  ∃cl,closureFor sc env=pure cl/\(∀x c,cl.lookup x=some c->env.cells.lookup x=some c)/\(∀x,(x,NameKind.free)∈sc.names->∃c,cl.lookup x=some c):=by
 obtain⟨cl,e,h1,h2⟩:=jV (env:=env) sc.names [] h;refine⟨cl,?_,λx c hx=>(h1 x c hx).elim (λz=>by simp at z) (·.1),λx hx=>h2 x (.inl hx)⟩;unfold closureFor;simp only[bind_pure];exact e
variable {P prog:aF}{e1 e2 jv iter o target tg value:Expr}{w:World}
theorem rC{A:aJ}{R:Result->Shared->Prop}{s:Shared}{elt:Expr}{ifs:au}{scope:Scope}{it acc:Value}(I:Nat->Shared->Prop)
  (turn:∀n s,I n s->wpAny (model prog w) A (pyNext it) (λr s₁=>match r with
   |none=>R (.ok .next) s₁
   |some v=>wpAny (model prog w) A (letOwnedTupleGo target it v) (λ_ s₁=>wpAny (model prog w) A (assign target env v) (λ_ s₂ =>
     wpAny (model prog w) A (forIn ifs true λc r=>if r=true then do let ok <- isTrue c env (eval c env);pure (ForInStep.yield ok)else pure (ForInStep.yield r)) (λok s₃ =>
      if ok=true then wpAny (model prog w) A (eval elt env) (λx s₄ =>
       wpAny (model prog w) A (call (.builtin "list.append") [acc,x]) (λ_ s₅=>∃m,m<n/\I m s₅) (λ_ _=>False) s₄) (λ_ _=>False) s₃
      else ∃m,m<n/\I m s₃) (λ_ _=>False) s₂) (λ_ _=>False) s₁) (λ_ _=>False) s₁) (λ_ _=>False) s)
  (n:Nat) (h:I n s) :
  codeAny (model prog w) A (.compLoop (.ListComp elt [⟨target,iter,ifs,0⟩] scope pos) 0 it acc env) R s:=by
 refine codeAny_loop rfl I (λn s hI=>?_) n h;show wpAny _ A ((compTurn (.ListComp elt [⟨target,iter,ifs,0⟩] scope pos) 0 it acc env).onRaise (λx=>do noteFrame x env;theTreesLotGoes x)) _ _ s;refine wpAny_noted ?_;rw[compTurn_list];refine aaa (ach (aaa (aav (turn n s hI) (λr s₁ h₁=>?_) λ_ _ h'=>h'.elim)));cases r with
 |none=>exact aah h₁
 |some v =>
  refine aaa (aav h₁ (λ_ s₂ h₂=>?_) λ_ _ h'=>h'.elim);refine aaa (aav h₂ (λ_ s₂ h₂=>aaa (aav h₂ (λok s₃ h₃=>?_) λ_ _ h'=>h'.elim)) λ_ _ h'=>h'.elim);cases ok with
  |false=>exact aah ⟨rfl,h₃⟩
  |true =>
   exact aaa (aaa (aav h₃ (λx s₄ h₄=>aaa (aav h₄ (λ_ s₅ h₅=>aah (aah ⟨rfl,h₅⟩)) λ_ _ h'=>h'.elim)) λ_ _ h'=>h'.elim))
noncomputable def eK(X:Cx)(N':ag)(scope:Scope)(cl:List (Str×Addr))(C:Addr)(s₀:Shared)(H₀:Hp)(fp:bc):Cx :=
 { X with N:=N',s₀:=s₀,H₀:=H₀,env:=compEnvC scope cl C X.env,outer:=X.stack,stack:=X.stack,ex:=fp,fn:=λ_=>false,pn:=[],xe:=λ_ _=>False }
theorem fP{env:Env}:∀{names:List (Str×NameKind)} {x:Str} {kd:NameKind},(names.map λ(n,k)=>if (k==NameKind.free&&env.scope.kind==.function&&env.kindOf n==some .cell)then(n,NameKind.cell)else(n,k)).lookup x=some kd ->
  names.lookup x=some kd\/(kd=.cell/\names.lookup x=some .free)
 |[],_,_,h=>by simp at h
 | (n,k)::r,x,kd,h=>by
  rw[List.map_cons]at h;cases hx:x==n with
  |true =>
   by_cases hc:(k==NameKind.free&&env.scope.kind==.function&&env.kindOf n==some .cell)=true
   ·simp only[hc,if_true,List.lookup_cons,hx]at h;cases h;simp only[Bool.and_eq_true,beq_iff_eq]at hc;refine .inr ⟨rfl,?_⟩;rw[List.lookup_cons,hx,hc.1.1]
   ·have zJ:(k==NameKind.free&&env.scope.kind==.function&&env.kindOf n==some .cell)=false:=by simpa using hc
    simp only[zJ,Bool.false_eq_true,if_false,List.lookup_cons,hx]at h;cases h;exact .inl (by rw[List.lookup_cons,hx])
  |false =>
   have:List.lookup x (r.map λ(n,k)=>if (k==NameKind.free&&env.scope.kind==.function&&env.kindOf n==some .cell)then(n,NameKind.cell)else(n,k))=some kd:=by
    by_cases hc:(k==NameKind.free&&env.scope.kind==.function&&env.kindOf n==some .cell)=true
    ·simp only[hc,if_true,List.lookup_cons,hx]at h;exact h
    ·have zJ:(k==NameKind.free&&env.scope.kind==.function&&env.kindOf n==some .cell)=false:=by simpa using hc
     simp only[zJ,Bool.false_eq_true,if_false,List.lookup_cons,hx]at h;exact h
   rw[List.lookup_cons,hx];exact fP this
theorem dm{env:Env}:∀{names:List (Str×NameKind)} {x:Str},names.lookup x=some .free ->
  (names.map λ(n,k)=>if (k==NameKind.free&&env.scope.kind==.function&&env.kindOf n==some .cell)then(n,NameKind.cell)else(n,k)).lookup x=some .free \/
  (names.map λ(n,k)=>if (k==NameKind.free&&env.scope.kind==.function&&env.kindOf n==some .cell)then(n,NameKind.cell)else(n,k)).lookup x=some .cell
 |[],_,h=>by simp at h
 | (n,k)::r,x,h=>by
  rw[List.map_cons];cases hx:x==n with
  |true =>
   rw[List.lookup_cons,hx]at h;cases h;by_cases hc:(NameKind.free==NameKind.free&&env.scope.kind==.function&&env.kindOf n==some .cell)=true
   ·simp only[hc,if_true,List.lookup_cons,hx];exact .inr trivial
   ·have zJ:(NameKind.free==NameKind.free&&env.scope.kind==.function&&env.kindOf n==some .cell)=false:=by simpa using hc
    simp only[zJ,Bool.false_eq_true,if_false,List.lookup_cons,hx];exact .inl trivial
  |false =>
   rw[List.lookup_cons,hx]at h;by_cases hc:(k==NameKind.free&&env.scope.kind==.function&&env.kindOf n==some .cell)=true
   ·simp only[hc,if_true,List.lookup_cons,hx];exact dm h
   ·have zJ:(k==NameKind.free&&env.scope.kind==.function&&env.kindOf n==some .cell)=false:=by simpa using hc
    simp only[zJ,Bool.false_eq_true,if_false,List.lookup_cons,hx];exact dm h
theorem dJ{names:List (Str×NameKind)}{x:Str}{kd:NameKind}(h:names.lookup x=some kd):(x,kd)∈names:=aa2 h
structure j7(S:Sx)(n:Nat)(t:Tg)(caps:aQ)(target:Expr)(sc:Scope):Prop where
 kind:sc.kind=.function
 Bn:∀y∈sc.names,y.2≠.cell
 loc:∀y∈sc.names,y.2=.local->sc.names.lookup y.1=some .local
 free:∀x,(x,NameKind.free)∈sc.names->S.sc.names.lookup x=some .cell\/S.sc.names.lookup x=some .free
 n:n=(ck target).length
 tl:∀x∈ck target,sc.names.lookup x=some .local
 nd:(ck target++gA S caps).Nodup
 ej:∀i∈caps,∃x,S.N[i]?=some x/\sc.names.lookup x=some .free
 tg:(∃x p,t=.nm 0/\target=.Name x p)\/(∃es k p,t=.tp (List.range es.length)/\target=.Tuple es k p/\es.all isNm=true)
set_option tactic.hygienic true in
theorem p8{n:Nat}{t:Tg}{sc:Scope}(h:rH S n t caps target sc=true):j7 S n t caps target sc:=by
 unfold rH at h;simp only[Bool.and_eq_true,decide_eq_true_eq,List.all_eq_true,Bool.or_eq_true]at h;obtain⟨⟨⟨⟨⟨⟨h1,h2⟩,h3⟩,h4⟩,h5⟩,h6⟩,h7⟩:=h;refine⟨h1,λy hy=>(h2 y hy).1.1,λy hy hk=>?_,λx hx=>?_,h3,h4,h5,λi hi=>?_,?_⟩
 ·rcases(h2 y hy).1.2 with z|z
  ·exact absurd hk z
  ·exact z
 ·rcases(h2 _ hx).2 with (z|z)|z
  ·exact absurd rfl z
  ·exact .inl z
  ·exact .inr z
 ·have:=h6 i hi;split at this
  ·rename_i x e;exact⟨x,e,aab this⟩
  ·cases this
 ·cases t with
  |nm i =>
   obtain⟨g1,g2⟩:=aC h7;obtain rfl:i=0:=aab g1;obtain⟨x,p,rfl⟩:=mB g2;exact .inl ⟨x,p,rfl,rfl⟩
  |tp is =>
   obtain⟨es,hv,g⟩:=bq h7;obtain⟨k,p,rfl⟩:=kf hv;obtain⟨g1,g2⟩:=aC g;obtain rfl:is=_:=aab g1;exact .inr ⟨es,k,p,rfl,rfl,g2⟩
theorem uA{S:Sx}:∀{caps:aQ},(∀i∈caps,∃x,S.N[i]?=some x)->(gA S caps).length=caps.length/\∀(j i:Nat),caps[j]?=some i->(gA S caps)[j]?=S.N[i]?
 |[],_=>⟨rfl,λj i h=>by simp at h⟩
 |i::caps,h=>by
  obtain⟨x,hx⟩:=h i aai;obtain⟨h1,h2⟩:=uA (caps:=caps) λj hj=>h j (aal _ hj);have e:gA S (i::caps)=x::gA S caps:=by unfold gA;rw[List.filterMap_cons,hx]
  rw[e];refine⟨by simp[h1],λj k hj=>?_⟩;cases j with
  |zero=>simp at hj;subst hj;simp[hx]
  |succ j=>simp at hj ⊢;exact h2 j k hj
variable {base h h' h₁:Heap}
section
variable {X:Cx}{S:Sx}{k:Nat}{Φ:bg}{pins:aj}{σ:St}{H2:Hp}{s₂:Shared}
noncomputable def oR(n:Nat)(caps:aQ)(σ:St):St:=List.replicate n none++caps.map λi=>σ[i]?.getD none
noncomputable def fj(aM:ak)(n:Nat):Obj:={ cls:=.type "list",data:=.seq aM.toArray n }
theorem GA{n:Nat}{t:Tg}{sc:Scope}{cl:List (Str×Addr)}(L:Lk X S k Φ)(co:j7 S n t caps target sc)(I2:Inv X pins σ H2 s₂)
  (l8:∀x c,cl.lookup x=some c->X.env.cells.lookup x=some c) (vO:∀x,(x,NameKind.free)∈sc.names->∃c,cl.lookup x=some c) (FW:∀b∈fp,oD X pins H2 b) (KS:∀b∈fp,b<s₂.heap.objs.size) :
  (eK X (ck target++gA S caps) sc cl (s₂.heap.objs.size+1) s₂ H2 fp).Ok:=by
 have Vc:=I2.jL;refine⟨I2.ok.mod,co.kind,I2.ok.glob,I2.ok.blt,acb _,λx y c h1 h2=>I2.ok.inj x y c (l8 x c h1) (l8 y c h2),λx hx=>?_,(λ_ _ z=>by cases z),I2.ok.hd,I2.ok.frames,.inl rfl,λb hb=>⟨?_,λx c e=>(FW b hb).2.2.2.2.1 x c (l8 x c e)⟩,I2.bs,aaC I2.ok.Dl I2.sz,λb o e hb=>?_,λb hb z=>?_,I2.stack,I2.kj⟩
 ·have zE:(relabel sc X.env).names.lookup x=some .cell\/(relabel sc X.env).names.lookup x=some .free:=hx;rcases zE with zE|zE
  ·rcases fP zE with z|z
   ·exact absurd rfl (co.Bn _ (dJ z))
   ·exact vO x (dJ z.2)
  ·rcases fP zE with z|z
   ·exact vO x (dJ z)
   ·cases z.1
 ·exact aan (aaE (KS b hb))
 ·rcases(FW b hb).2.2.2.1 with z|z
  ·exact I2.ok.tI b o e z
  ·exact absurd (aap (aaj e) (aaC I2.ok.Dl z)) (aay _)
 ·rcases List.mem_cons.mp (Vc b z)with w|w
  ·exact(FW b hb).2.1 w
  ·exact(FW b hb).2.2.1 w
theorem BP{n:Nat}{t:Tg}{sc:Scope}{cl:List (Str×Addr)}{tk:Nat}(L:Lk X S k Φ)(co:j7 S n t caps target sc)(I2:Inv X pins σ H2 s₂)
  (l8:∀x c,cl.lookup x=some c->X.env.cells.lookup x=some c) (vO:∀x,(x,NameKind.free)∈sc.names->∃c,cl.lookup x=some c) (FW:∀b∈fp,oD X pins H2 b) (KS:∀b∈fp,b<s₂.heap.objs.size)
  (zF:h₁.Ns (s₂.heap.objs.size+1) λ_=>none) (old:∀b o,s₂.heap.get? b=some o->h₁.get? b=some o) (h_:h₁.get? s₂.heap.objs.size=some (fj [] 0)) :
  Inv (eK X (ck target++gA S caps) sc cl (s₂.heap.objs.size+1) s₂ H2 fp) [(s₂.heap.objs.size,fj [] 0)] (oR n caps σ) H2 { s₂ with heap:=h₁,toks:=tk }:=by
 have nL:∀i∈caps,∃x,S.N[i]?=some x:=λi hi=>let ⟨x,e,_⟩:=co.ej i hi;⟨x,e⟩;obtain⟨cl1,cl2⟩:=uA nL;refine⟨GA L co I2 l8 vO FW KS,rfl,I2.bare,Un.kept old,⟨_,zF,λi x v e1 e2 e3=>?_⟩,λx c e=>?_,I2.cB.fresh (acb _),λx c e=>I2.fT x c (l8 x c e),λp hp=>?_,I2.cB.kept old,?_⟩
 ·unfold oR at e2;have hi:n<=i:=by
   by_cases hi:i<n
   ·rw[List.getElem?_append_left (by simpa using hi),List.getElem?_replicate,if_pos hi]at e2;cases e2
   ·left
  have Sz:(ck target++gA S caps)[i]?=some x:=e1;rw[List.getElem?_append_right (by rw[<- co.n];exact hi),<- co.n]at Sz;rw[List.getElem?_append_right (by simpa using hi),List.length_replicate,List.getElem?_map]at e2;cases hc:caps[i - n]? with
  |none=>rw[hc]at e2;cases e2
  |some ci =>
   rw[hc]at e2;rw[cl2 _ _ hc]at Sz;obtain⟨x',Wi,MJ⟩:=co.ej ci (aaB hc);rw[Wi]at Sz;cases Sz;have e2':σ[ci]?=some (some v):=by
    have QG:σ[ci]?.getD none=some v:=aat e2;cases q:σ[ci]? with
    |none=>rw[q]at QG;cases QG
    |some o=>rw[q]at QG;simp at QG;rw[QG]
   have U8:Iw X.env.scope x:=by
    unfold Iw;rw[L.sc];rcases co.free x (dJ MJ)with z|z
    ·exact .inr (.inl z)
    ·exact .inr (.inr z)
   obtain⟨m,hn,hl⟩:=I2.loc;obtain⟨u,r,lk⟩:=hl ci x v (by rw[L.N];exact Wi) e2' U8;refine⟨u,r,.inr ⟨?_,?_⟩⟩
   ·rcases dm (env:=X.env) MJ with z|z
    ·exact .inr z
    ·exact .inl z
   ·have hcx:∃c,X.env.cells.lookup x=some c/\s₂.heap.IsCell c (some u):=by
     rcases lk with ⟨z,_⟩|⟨_,z⟩
     ·have z':X.env.scope.names.lookup x=some .local:=z;rw[L.sc]at z';rcases co.free x (dJ MJ)with w|w<;>(rw[w]at z';cases z')
     ·exact z
    obtain⟨c,ec,o,ho,hd⟩:=hcx;obtain⟨c',YH⟩:=vO x (dJ MJ);have:=l8 x c' YH;rw[ec]at this;cases this;exact⟨c,YH,o,old _ _ ho,hd⟩
 ·obtain⟨v,o,ho,hd⟩:=I2.cell x c (l8 x c e);exact⟨v,o,old _ _ ho,hd⟩
 ·have vM:p=(s₂.heap.objs.size,fj [] 0):=by simpa [eK]using hp
  subst vM;refine⟨h_,I2.cB.fresh (aam _),aan (aaR _),λz=>?_,λv z=>by cases z⟩;rcases List.mem_cons.mp (I2.jL _ z)with w|w
  ·exact absurd w (aaw I2.lt)
  ·exact I2.J8 (aam _) w
 ·show(oR n caps σ).length=(ck target++gA S caps).length;unfold oR;rw[List.length_append,List.length_append,List.length_replicate,List.length_map,cl1,co.n]
end
theorem aG.snoc{T:md}{N:gC}{k:bp}:∀{n:Nat} {vs:af} {ds:aa} {v:V} {d:D},aG T N k n vs ds->Rep T N ((n+ds.length)::k) v d->aG T N k n (vs++[v]) (ds++[d])
 |n,_,_,_,_,.nil,h=>.cons h .nil
 |n,_,_,_,_,.cons (ds:=ds) h t,r=>.cons h (aG.snoc t (by
  have e:n+(ds.length+1)=n+1+ds.length:=by left
  rw[List.length_cons,e]at r;exact r))
open Classical in
theorem cI.snoc{K:aq}{G R:ai}{τ:Addr->Option bp}{fv:aQ}{H H1 H2:Hp}{v:V}{d:D}{vs:af}{ds:aa}(e1:aK H H1)(e2:aK H1 H2)(h:cI K G R τ fv H H1 vs ds)(t:cf K G R τ fv H1 H2 v d):
  cI K G R τ fv H H2 (vs++[v]) (ds++[d]):=by
 obtain⟨τ1,f1,h1⟩:=h;obtain⟨τ2,f2,h2⟩:=t;refine⟨λp=>if H1 p=none then(τ2 p).map (· ++ [ds.length])else τ1 p,λp q hq=>?_,aG.snoc (h1.imp (q:=[]) (q':=[]) (λ_ _ h=>bh.same e2 h) λc p xs f h=>?_) ((Nat.zero_add ds.length).symm▸h2.imp (q:=[]) (q':=[ds.length]) (λ_ _ h=>h) λc p xs f h=>?_)⟩
 ·dsimp only at hq;by_cases hp:H1 p=none
  ·exact e1.free hp
  ·rw[if_neg hp]at hq;exact f1 p q hq
 ·have h':=nd.same e2 h;cases f with
  |ow =>
   refine⟨h'.1,?_⟩;show(if H1 p=none then(τ2 p).map (· ++ [ds.length])else τ1 p)=_;rw[if_neg (h.1.ne)];exact h.2
  |fz=>exact h'
  |al=>exact h'
  |sc=>exact h'
 ·cases f with
  |ow =>
   refine⟨h.1,?_⟩;show(if H1 p=none then(τ2 p).map (· ++ [ds.length])else τ1 p)=_;rw[if_pos (f2 p _ h.2),h.2];simp
  |fz=>exact h
  |al=>exact h
  |sc=>exact h
structure Yl(K:aq)(J:It)(R:ai)(H1:Hp)(items:aa):Prop where
 go:∀i H',aK H1 H'->i<items.length->J.go i H'
 uQ:∀i H' x jy,aK H1 H'->i<items.length->J.uQ i H' x jy->aK H' jy/\∃d,items[i]?=some d/\Rep (bh K jy) (nd K R (λ_=>False) (λ_=>none) jy) [] x d
 stop:∀i H',aK H1 H'->items.length<=i->J.stop i H'
variable {C i1 i2 l1 l2:Addr}{s₂:Shared}
section
variable {X:Cx}{S:Sx}{k:Nat}{F:ai}{Φ:bg}
def km(X:Cx)(F:ai)(τ:Addr->Option bp)(fv:aQ)(H2:Hp)(p:Addr):Prop:=H2 p≠none/\jw (gP X F) τ fv p
theorem vi(Si:SI X F R τ ρ σ H)(fr:∀p q,τt p=some q->H p=none)(hs:∀i∈fv,i∈fv')(kp kq:bp)(p:Addr)(xs:Nd)(f:Fl)
  (h:nd X.K R (jw (gP X F) τ fv) τt H2 kp p xs f):nd X.K (km X F τ fv' H2) (λ_=>False) (λ_=>none) H2 kq p xs (aA f):=by
 cases f with
 |ow=>exact⟨h.1,h.1.ne,.inr (Si.same.free (fr p _ h.2)),λc i e=>absurd (fr p _ h.2) (Si.th p _ e)⟩
 |fz=>exact⟨h.1,h.1.ne,Si.rf p h.2,λc i e=>by rw[Si.rt p h.2]at e;cases e⟩
 |al=>exact⟨h.1,h.1.ne,h.2.mono hs⟩
 |sc=>exact h
theorem D7{a:Addr}{q:bp}(hl:dO X.K H1 a xs)(rs:aG (bh X.K H1) (nd X.K R (λ_=>False) (λ_=>none) H1) q 0 xs items):Yl X.K (MY X.K a) R H1 items where
 go:=λi H' e hi=>⟨xs,xs[i]'(by rw[rs.length];exact hi),e.seq hl,aas _⟩
 uQ:=λi H' x jy e hi y=>by
  obtain⟨rfl,y⟩:=y;obtain⟨d,hd,rd⟩:=rs.y4 (y xs (e.seq hl));refine⟨aK.refl _,d,hd,?_⟩;have:=Rep.gM (g:=id) (λ_ _ h=>h) nd.pU rd [];rw[eR]at this;exact this.imp (λ_ _ h=>bh.same e h) λ_ _ _ _ h=>nd.same e h
 stop:=λi H' e hi=>⟨xs,e.seq hl,by rw[rs.length];exact hi⟩
theorem IE{a:Addr}{q:bp}(hl:bh X.K H1 a xs)(rs:aG (bh X.K H1) (nd X.K R (λ_=>False) (λ_=>none) H1) q 0 xs items):Yl X.K (MX X.K a) R H1 items where
 go:=λi H' e hi=>⟨xs,xs[i]'(by rw[rs.length];exact hi),bh.same e hl,aas _⟩
 uQ:=λi H' x jy e hi y=>by
  obtain⟨rfl,y⟩:=y;obtain⟨d,hd,rd⟩:=rs.y4 (y xs (bh.same e hl));refine⟨aK.refl _,d,hd,?_⟩;have:=Rep.gM (g:=id) (λ_ _ h=>h) nd.pU rd [];rw[eR]at this;exact this.imp (λ_ _ h=>bh.same e h) λ_ _ _ _ h=>nd.same e h
 stop:=λi H' e hi=>⟨xs,bh.same e hl,by rw[rs.length];exact hi⟩
theorem zQ{lo:Int}{n:Nat}:Yl X.K (zx lo n) R H1 ((List.range n).map λ(k:Nat)=>D.int (lo+(k:Int))) where
 go:=λi H' e hi=>by simpa [zx]using hi
 uQ:=λi H' x jy e hi y=>by
  obtain⟨rfl,rfl⟩:=y;have lG:i<n:=by simpa using hi
  exact⟨aK.refl _,.int (lo+i),by rw[List.getElem?_map,List.getElem?_range lG];rfl,.int _⟩
 stop:=λi H' e hi=>by simpa [zx]using hi
theorem As{n:Nat}{t:Tg}{sc:Scope}{cl:List (Str×Addr)}(Si:SI X F R τ ρ σ H2)(hs:∀i∈caps,i∈fv):
  SI (eK X (ck target++gA S caps) sc cl C s₂ H2 fp) (jw (gP X F) τ fv) (km X F τ fv H2) (λ_=>none) (cF n caps ρ) (oR n caps σ) H2:=by
 refine⟨by simp[cF,oR],λi d hi=>?_,λ_ _=>rfl,λp h=>h.1,λp h=>.inl h.2,λ_ _ h=>by simp at h,λ_ _ h=>by simp at h,aK.refl _⟩;unfold cF at hi;have hn:n<=i:=by
  by_cases hn:i<n
  ·rw[List.getElem?_append_left (by simpa using hn),List.getElem?_replicate,if_pos hn]at hi;cases hi
  ·left
 rw[List.getElem?_append_right (by simpa using hn),List.length_replicate,List.getElem?_map]at hi;cases hc:caps[i - n]? with
 |none=>rw[hc]at hi;exact nk hi
 |some ci =>
  rw[hc]at hi;have lG:(ρ[ci]?.getD none).map (aw aA)=some d:=aat hi;have hr:∃d0,ρ[ci]?=some (some d0)/\aw aA d0=d:=by
   cases q:ρ[ci]? with
   |none=>rw[q]at lG;cases lG
   |some o =>
    cases o with
    |none=>rw[q]at lG;cases lG
    |some d0=>rw[q]at lG;exact⟨d0,rfl,aat lG⟩
  obtain⟨d0,h0,rfl⟩:=hr;obtain⟨v,hv,rv⟩:=Si.rep ci d0 h0;refine⟨v,?_,Rep.gM (λ_ _ h=>h) (λkp kq p xs f h=>?_) ((rv.imp (q:=[ci]) (q':=[ci]) (N':=λq p xs f=>nd X.K R (λ_=>False) τ H2 q p xs f/\(f=.ow->∃c,q=c++[ci])) (λ_ _ h=>h) λc p xs f h=>⟨h,λ_=>⟨c,rfl⟩⟩)) [i]⟩
  ·unfold oR;rw[List.getElem?_append_right (by simpa using hn),List.length_replicate,List.getElem?_map,hc];simp[hv]
  ·obtain⟨h,hq⟩:=h;cases f with
   |ow =>
    obtain⟨c,rfl⟩:=hq rfl;refine⟨h.1,h.1.ne,.inr (Si.t0 p _ h.2),λc' i' e=>?_⟩;rw[h.2]at e;have:=aaW List.getLast? (aat e);simp at this;subst this;exact hs _ (aaB hc)
   |fz=>exact⟨h.1,h.1.ne,Si.rf p h.2,λc i e=>by rw[Si.rt p h.2]at e;cases e⟩
   |al=>exact h.2.elim
   |sc=>exact h
theorem Bq:∀{es:au},es.all isNm=true->∃xs:List (Str×Pos),es=xs.map λx=>Expr.Name x.1 x.2
 |[],_=>⟨[],rfl⟩
 |e::es,h=>by
  rw[List.all_cons,Bool.and_eq_true]at h;obtain⟨xs,rfl⟩:=Bq h.2;obtain⟨x,p,rfl⟩:=mB h.1;exact⟨(x,p)::xs,rfl⟩
theorem ve(xs:List (Str×Pos)):(xs.map λx=>Expr.Name x.1 x.2).filterMap (λe=>match e with|.Name x _=>some x|_=>none)=xs.map (·.1):=by
 induction xs with
 |nil=>rfl
 |cons x xs ih=>simp[ih]
def Cv(i:Nat):Nat->G1
 |0=>La
 |n+1=>Cw (nQ i) (Cv (i+1) n)
theorem w9{X:Cx}(hN:X.N.Nodup):∀(xs:List (Str×Pos)) (i:Nat),(∀(j:Nat) x,xs[j]?=some x->X.N[i+j]?=some x.1/\X.env.scope.names.lookup x.1=some .local) ->
  MW X (xs.map λx=>Expr.Name x.1 x.2) (Cv i xs.length)/\(assignEach (xs.map λx=>Expr.Name x.1 x.2) X.env).length=xs.length/\(assignEach (xs.map λx=>Expr.Name x.1 x.2) X.env).findIdx? (·.1)=none
 |[],_,_=>⟨wZ,rfl,rfl⟩
 |x::xs,i,h=>by
  obtain⟨h1,h2,h3⟩:=w9 hN xs (i+1) λj y hy=>by
   have:=h (j+1) y (by simpa using hy)
   rwa [show i+(j+1)=i+1+j by left]at this
  obtain⟨g1,g2⟩:=h 0 x rfl;refine⟨tu (qJ hN g1 (.inl g2) (.inr g2)) h1 rfl,?_,?_⟩
  ·show(_::assignEach _ X.env).length=_;rw[List.length_cons,h2];rfl
  ·show(((false,assign (.Name x.1 x.2) X.env)::assignEach (xs.map λx=>Expr.Name x.1 x.2) X.env)).findIdx? (·.1)=none;rw[List.findIdx?_cons];simp[h3]
end
section
variable {X:Cx}{F R:ai}{τ:Addr->Option bp}{ρ:aZ}{σ σ':St}{H:Hp}
theorem SI.NK{i:Nat}{v:V}{d:D}(Si:SI X F R τ ρ σ H)(rp:Rep (bh X.K H) (nd X.K R (λ_=>False) (λ_=>none) H) [] v d)(hi:i<ρ.length):SI X F R τ (ρ.set i (some d)) (σ.set i (some v)) H:=by
 refine⟨by simp[Si.len],λj d' hj=>?_,Si.rt,Si.rh,Si.rf,Si.th,Si.t0,Si.same⟩;by_cases jq:j=i
 ·subst jq;rw[List.getElem?_set_self hi]at hj;cases hj;refine⟨v,List.getElem?_set_self (by rw[<- Si.len];exact hi),rp.imp (q':=[j]) (λ_ _ h=>h) λc p xs f h=>?_⟩;cases f with
  |ow=>exact nomatch h.2
  |fz=>exact h
  |al=>exact h
  |sc=>exact h
 ·rw[List.getElem?_set_ne (Ne.symm jq)]at hj;obtain⟨w,hw,mm⟩:=Si.rep j d' hj;exact⟨w,by rw[List.getElem?_set_ne (Ne.symm jq)];exact hw,mm⟩
theorem SI.sig(Si:SI X F R τ ρ σ H)(hl:σ'.length=σ.length)(h:∀(i:Nat) d,ρ[i]?=some (some d)->σ'[i]?=σ[i]?):SI X F R τ ρ σ' H :=
 ⟨by rw[hl];exact Si.len,λi d hi=>let ⟨v,hv,r⟩:=Si.rep i d hi;⟨v,by rw[h i d hi];exact hv,r⟩,Si.rt,Si.rh,Si.rf,Si.th,Si.t0,Si.same⟩
theorem m6{Q:St->Hp->Prop}(σ0:St)(hi:Nat):∀{m i:Nat} {vs:af} {ds:aa} {kp:bp} {q:Nat} {σ:St} {ρ ρ':aZ},i+m=hi->aG (bh X.K H) (nd X.K R (λ_=>False) (λ_=>none) H) kp q vs ds->SI X F R τ ρ σ H->gK (List.range' i m) ds ρ=ok ρ' ->
  σ.length=σ0.length->(∀j,hi<=j->σ[j]?=σ0[j]?)->(∀σ',σ'.length=σ0.length->(∀j,hi<=j->σ'[j]?=σ0[j]?)->SI X F R τ ρ' σ' H->Q σ' H)->Cv i m vs σ H Q
 |0,_,_,_,_,_,σ,_,_,_,.nil,Si,e,h1,h2,hq=>by
  cases e;exact⟨rfl,hq σ h1 h2 Si⟩
 |0,_,_,_,_,_,_,_,_,_,.cons _ _,_,e,_,_,_=>by cases e
 |m+1,_,_,_,_,_,_,_,_,_,.nil,_,e,_,_,_=>by cases e
 |m+1,i,_,_,_,_,σ,ρ,_,him,.cons (v:=v) (d:=d) h t,Si,e,h1,h2,hq=>by
  change (if _ then _ else _)=_ at e;split at e
  ·rename_i lG;have gq:=Si.NK (i:=i) (Rep.qQ h) lG;refine⟨_,_,rfl,m6 σ0 hi (by left) t gq e (by simpa using h1) (λj hj=>?_) hq⟩;rw[List.getElem?_set_ne (by left)];exact h2 j hj
  ·cases e
end
section
variable {X:Cx}{S:Sx}{k:Nat}{F:ai}{Φ:bg}
set_option tactic.hygienic true in
theorem I0{n:Nat}{t:Tg}{sc:Scope}{cl:List (Str×Addr)}(PU:X.calm=true)(co:j7 S n t caps target sc):
  ∃g,PG (eK X (ck target++gA S caps) sc cl C s₂ H2 fp) target g/\∀(F' R':ai) (x:V) (d:D) (σ':St) (jy:Hp) (Q:St->Hp->Prop) (ρb ρ1:aZ),
   SI (eK X (ck target++gA S caps) sc cl C s₂ H2 fp) F' R' (λ_=>none) ρb σ' jy->Rep (bh X.K jy) (nd X.K R' (λ_=>False) (λ_=>none) jy) [] x d->bo eG d=false->cK t d ρb=ok ρ1 ->
   (∀σ2,σ2.length=σ'.length->(∀j,n<=j->σ2[j]?=σ'[j]?)->SI (eK X (ck target++gA S caps) sc cl C s₂ H2 fp) F' R' (λ_=>none) ρ1 σ2 jy->Q σ2 jy)->g x σ' jy Q:=by
 have KR:∀x∈ck target,(relabel sc X.env).names.lookup x=some .local:=λx hx=>lookup_relabel_local (co.tl x hx);rcases co.tg with ⟨x,p,rfl,rfl⟩|⟨es,kk,p,rfl,rfl,kD⟩
 ·have hn:n=1:=co.n;subst hn;refine⟨nQ 0,qJ co.nd rfl (.inl (KR x (List.mem_singleton.mpr rfl:x∈[x]))) (.inr (KR x (List.mem_singleton.mpr rfl:x∈[x]))),λF' R' v d σ' jy Q ρb ρ1 Si rp _ e hq=>?_⟩;simp only[cK]at e;split at e
  ·rename_i hi;cases e;refine hq _ (by simp) (λj hj=>?_) (Si.NK rp hi);rw[List.getElem?_set_ne (by left)]
  ·cases e
 ·obtain⟨xs,rfl⟩:=Bq kD;have hN:ck (.Tuple (xs.map λx=>Expr.Name x.1 x.2) kk p)=xs.map (·.1):=ve xs;have hn:n=xs.length:=by rw[co.n,hN,List.length_map]
  have:=w9 (X:=eK X (ck (.Tuple (xs.map λx=>Expr.Name x.1 x.2) kk p)++gA S caps) sc cl C s₂ H2 fp) co.nd xs 0 (λj y hy=>by
   refine⟨?_,KR y.1 (by rw[hN];exact List.mem_map.mpr ⟨y,aaB hy,rfl⟩)⟩;show(ck (.Tuple (xs.map λx=>Expr.Name x.1 x.2) kk p)++gA S caps)[0+j]?=_;have hj:j<xs.length:=by
    by_cases hj:j<xs.length
    ·exact hj
    ·rw[List.getElem?_eq_none (by left)]at hy;cases hy
   rw[hN,Nat.zero_add,List.getElem?_append_left (by simpa using hj),List.getElem?_map,hy];rfl)
  obtain⟨h1,h2,h3⟩:=this;refine⟨_,AU PU h1 h2 h3,λF' R' v d σ' jy Q ρb ρ1 Si rp ho e hq=>?_⟩;cases d<;>try (simp[cK]at e;done)
  rename_i ds;simp only[cK]at e;split at e
  ·cases e
  ·cases rp with
   | @tup _ a ys _ hp rs =>
    rw[List.length_map]at e;have e':gK (List.range' 0 xs.length) ds ρb=ok ρ1:=by rw[<- List.range_eq_range'];exact e
    refine⟨a,ys,rfl,hp,?_,m6 (X:=eK X (ck (.Tuple (xs.map λx=>Expr.Name x.1 x.2) kk p)++gA S caps) sc cl C s₂ H2 fp) σ' n (by left) rs Si e' rfl (λ_ _=>rfl) hq⟩;rw[rs.length];have:∀(is:aQ) (ds:aa) (ρ ρ':aZ),gK is ds ρ=ok ρ'->ds.length=is.length:=by
     intro is;induction is with
     |nil=>intro ds ρ ρ' e;cases ds with|nil=>rfl|cons _ _=>cases e
     |cons i is ih=>intro ds ρ ρ' e;cases ds with
      |nil=>cases e
      |cons d ds =>
       change (if _ then _ else _)=_ at e;split at e
       ·simp[ih ds _ _ e]
       ·cases e
    rw[this _ _ _ _ e',List.length_range']
theorem Xn:∀f:Fl,eG (aA f)=false:=by intro f;cases f<;>rfl
mutual
theorem Fj:∀d:D,bo eG (aw aA d)=false
 |.bB=>by simp[aw,bo]
 |.bl _=>by simp[aw,bo]
 |.int _=>by simp[aw,bo]
 |.str _=>by simp[aw,bo]
 |.tup ds=>by simp[aw,bo,gL ds]
 |.lst f ds=>by simp[aw,bo,gL ds,Xn]
 |.cJ f ks vs=>by simp[aw,bo,gL vs,Xn]
theorem gL:∀ds:aa,a_ eG (ah aA ds)=false
 |[]=>by simp[ah,a_]
 |d::ds=>by simp[ah,a_,Fj d,gL ds]
end
theorem xy{a:Addr}{o:HO}(x:jt P w H h)(hn:H a=none)(new:cC P w (upd H a o) h a o):jt P w (upd H a o) h:=λb u e=>by
 by_cases hb:b=a
 ·subst hb;rw[aX]at e;cases e;exact new
 ·rw[aW hb]at e;exact(x b u e).kl (λc v _ q=>q) (λc q=>by rw[aW (bQ q hn)];exact q) λc xs q=>by rw[aW (bQ q hn)];exact q
structure CAt(X X':Cx)(F' R':ai)(n:Nat)(base:aZ)(σ0:St)(fp:bc)(tn:Nat->Heap->Prop)(H2:Hp)(D:Addr)(items:List DI.D)(bind:DI.D->O aZ)(test:aZ->O Bool)(el:aZ->O DI.D)(all:List DI.D)(m:Nat)(s':Shared):Prop where
 ex:∃(i:Nat) (vs:af) (aM:ak) (nn:Nat) (σ':St) (H':Hp) (dn rest:List DI.D),m=items.length - i/\i<=items.length/\Inv X' [(D,fj aM nn)] σ' H' s'/\tn i s'.heap/\(∀b∈fp,H' b=none)/\Vals vs aM/\aK H2 H' /\
  SI X' F' R' (λ_=>none) base σ' H'/\cI X.K (gP X' F') R' (λ_=>none) [] H2 H' vs dn/\iD bind test el (items.drop i)=ok rest/\dn++rest=all
end
theorem cI.go(h:cI K G R τ fv H H1 vs ds)(e:aK H1 H2):cI K G R τ fv H H2 vs ds :=
 let ⟨τt,h1,h2⟩:=h;⟨τt,h1,h2.imp (λ_ _ h=>bh.same e h) λ_ _ _ _ h=>nd.same e h⟩
theorem nq:∀{ds:aa} {d:D},a_ eG ds=false->d∈ds->bo eG d=false
 |[],_,_,h=>nomatch h
 |e::ds,d,h,hm=>by
  rw[a_,Bool.or_eq_false_iff]at h;rcases List.mem_cons.mp hm with rfl|z
  ·exact h.1
  ·exact nq h.2 z
theorem yv{d:D}(h:sV d=ok items):∀d∈items,bo eG d=false:=by
 unfold sV at h;split at h
 ·cases h;exact λd hd=>nq (gL _) hd
 ·cases h
theorem vI{ik:IK}{xs:aa}(h:eF Φ ik xs=ok items):∀d∈items,bo eG d=false:=by
 cases ik with
 |cg p=>obtain⟨d,_,h⟩:=aH h;exact yv h
 |lW =>
  cases xs with
  |nil=>cases h
  |cons x t=>cases x<;>first | (cases h;done) | (cases t with
   |cons _ _=>cases h
   |nil =>
    obtain⟨_,h⟩:=oU h;subst h;intro d hd;obtain⟨k,_,rfl⟩:=List.mem_map.mp hd;rfl)
 |lV =>
  cases xs with
  |nil=>cases h
  |cons x t=>cases x<;>first | (cases h;done) | (cases t with
   |nil=>cases h
   |cons y u=>cases y<;>first | (cases h;done) | (cases u with
    |cons _ _=>cases h
    |nil =>
     obtain⟨_,h⟩:=oU h;subst h;intro d hd;obtain⟨k,_,rfl⟩:=List.mem_map.mp hd;rfl))
 |seq =>
  cases xs with
  |nil=>cases h
  |cons x t=>cases x<;>first | (cases h;done) | (cases t with
   |cons _ _=>cases h
   |nil=>cases h;exact λd hd=>nq (gL _) hd)
theorem vK{n:Nat}{i:Nat}{d:D}(h:(cF n caps ρ)[i]?=some (some d)):n<=i:=by
 unfold cF at h;by_cases hn:i<n
 ·rw[List.getElem?_append_left (by simpa using hn),List.getElem?_replicate,if_pos hn]at h;cases h
 ·left
variable {c' elt:CE}{bL cs es:az}
section
variable {X:Cx}{S:Sx}{k:Nat}{F:ai}{Φ:bg}
theorem Bz{n:Nat}{t:Tg}{sc:Scope}{cl:List (Str×Addr)}(L:Lk X S k Φ)(co:j7 S n t caps target sc):
  Lk (eK X (ck target++gA S caps) sc cl C s₂ H2 fp) (S.inner target caps sc) k Φ:=by
 refine⟨?_,rfl,co.nd,L.calm,L.room,L.bl,λf x h=>⟨(L.fn f x h).ex⟩,L.cs,L.pr⟩;show relabel sc X.env=tj sc S.sc;rw[<- L.sc];rfl
theorem uw(L:Lk X S k Φ){n:Nat}{t:Tg}{ik:IK}{ifs:au}{sc:Scope}(co:j7 S n t caps target sc)(zF:pK iter=true)
    (hE:∀(X':Cx) (F':ai),Lk X' (S.inner target caps sc) k Φ->PE X' jv (tD X' F' Φ elt))
    (hC:(bL=[]/\ifs=[])\/∃c e,bL=[c]/\ifs=[e]/\∀(X':Cx) (F':ai),Lk X' (S.inner target caps sc) k Φ->PT X' e (gI X' F' Φ c))
    (hI:∀(pins:aj) (s:Shared) (σ:St) (H:Hp) (R:ai) (τ:Addr->Option bp) (ρ:aZ) (xs items:aa),Inv X pins σ H s->SI X F R τ ρ σ H->bz Φ es ρ=ok xs->eF Φ ik xs=ok items->∀Rr:It->Hp->Prop,
      (∀J H2,aK H H2->Yl X.K J (km X F τ (caps++dg es) H2) H2 items->Rr J H2)->wpAny (model X.prog X.w) X.A (eval iter X.env) (λv s1=>wpAny (model X.prog X.w) X.A (pyIter v) (DH X pins σ target Rr) X.xe s1) X.xe s)
    {use:Option (Value->Sem Unit)} {Post:aD} {pins:aj} {s:Shared} {d:D} {Wc:Pos} (I:Inv X pins σ H s) (Si:SI X F R τ ρ σ H) (ev:bj Φ (.comp n t caps ik es bL elt) ρ=ok d)
    (Ph:∀(acc C:Addr) (H1:Hp) (s1:Shared) (m:aR),s1.heap.Ns C m->(C≠X.env.locals/\X.s₀.heap.objs.size<=C/\(∀x c,X.env.cells.lookup x=some c->c≠C)/\(∀p∈X.pn++pins,p.1≠C)/\H1 C=none)->(∀h',Heap.SameBut C s1.heap h'->Inv X pins σ H1 { s1 with heap:=h' })->aK H H1 ->
      cf X.K (gP X F) R τ (jr (.comp n t caps ik es bL elt)) H H1 (.ref acc) d->compPost (model X.prog X.w) X.A X.xe use Post (.ref acc) C (.ok .next) s1) :
    wpAny (model X.prog X.w) X.A (comprehension (.ListComp jv [⟨target,iter,ifs,0⟩] sc pos) sc X.env Wc (newList []) false (eval iter X.env) use) Post X.xe s:=by
  obtain⟨xs,cD,ev⟩:=aH ev;obtain⟨items,mF,ev⟩:=aH ev;obtain⟨ds,LM,ev⟩:=aH ev;simp only[HR]at ev;obtain⟨nL,rfl⟩:=ev;have Pp:=vI mF;obtain⟨cl,PQ,l8,vO⟩:=wa (env:=X.env) (sc:=sc) (λx hx=>I.ok.has x (by
    show X.env.scope.names.lookup x=some .cell\/X.env.scope.names.lookup x=some .free;rw[L.sc];exact co.free x hx))
  have lH:∀x,foldedSetIterable iter X.env x=pure x:=by intro x;cases iter<;>first|rfl | (cases zF;done)
  refine wpAny_comprehension_free (use:=use) rfl lH PQ co.kind co.loc (aav (hI pins s σ H R τ ρ xs items I Si cD mF (λJ H2=>aK H H2/\Yl X.K J (km X F τ (caps++dg es) H2) H2 items) (λJ H2 e y=>⟨e,y⟩)) (λxv s₁ h₁=>aav h₁ (λUL s₂ h₂=>?_) λ_ _ e=>e) λ_ _ e=>e);obtain⟨it,fp,tn,J,H2,rfl,I2,T,NB,f2,e2,yl⟩:=h₂;have yd:=Si.go e2;have KS:∀b∈fp,b<s₂.heap.objs.size:=λb hb=>let ⟨o,ho,_⟩:=T.obj 0 _ NB b hb;aaj ho;refine aaL (wpAny_newFunctionEnv co.Bn (by intro y hy;simp at hy) (λh₁ qX nJ=>?_) co.kind);dsimp only at qX nJ ⊢;generalize VN:s₂.heap.push { cls:=.type "list",dict:=none,data:=.seq ([]:ak).toArray }=G2 at qX nJ ⊢;have Yx:G2.objs.size=s₂.heap.objs.size+1:=by rw[<- VN,Heap.size_push]
  have Sf:s₂.heap.objs.size≠s₂.heap.objs.size+1:=aan (aaR _);rw[Yx]at qX nJ;have old:∀b o,s₂.heap.get? b=some o->h₁.get? b=some o:=λb o e=>nJ.extBut b o (aan (aaE (aaj e))) (aak _ (VN▸aak _ e));have h_:h₁.get? s₂.heap.objs.size=some (fj [] 0):=nJ.extBut _ _ Sf (aak _ (VN▸aar _ rfl))
  let X':=eK X (ck target++gA S caps) sc cl (s₂.heap.objs.size+1) s₂ H2 fp
  let F':=jw (gP X F) τ (caps++dg es)
  let R':=km X F τ (caps++dg es) H2
  have L':Lk X' (S.inner target caps sc) k Φ:=Bz L co;have I4:=λtk=>BP (h₁:=h₁) (tk:=tk) L co I2 l8 vO f2 KS (by simpa using qX) old h_;have S4:SI X' F' R' (λ_=>none) (cF n caps ρ) (oR n caps σ) H2:=As (t:=t) yd (λi hi=>by simp[hi]);obtain⟨g,hg,B8⟩:=I0 (X:=X) (S:=S) (cl:=cl) (fp:=fp) (s₂:=s₂) (H2:=H2) (C:=s₂.heap.objs.size+1) L.calm co;have VO:s₂.heap.objs.size∉X'.fs:=λz=>by
    rcases List.mem_cons.mp (I2.jL _ z)with w|w
    · exact absurd w (aaw I2.lt)
    · exact I2.J8 (aam _) w
  have KU:∀x c,cl.lookup x=some c->c≠s₂.heap.objs.size:=λx c e=>by
    obtain⟨v,q⟩:=I2.cell x c (l8 x c e);exact aan q.lt
  have FV:∀b∈fp,b≠X'.env.locals/\b∉X'.fs/\(b∈X'.ex\/X'.s₀.heap.objs.size<=b)/\(∀x c,X'.env.cells.lookup x=some c->c≠b):=λb hb =>
    ⟨aan (aaE (KS b hb)),λz=>by
      rcases List.mem_cons.mp (I2.jL b z)with w|w
      · exact(f2 b hb).2.1 w
      · exact(f2 b hb).2.2.1 w,.inl hb,λx c e=>(f2 b hb).2.2.2.2.1 x c (l8 x c e)⟩
  have PF:∀b∈fp,b≠s₂.heap.objs.size:=λb hb=>aan (KS b hb);have fin:∀(vs:af) (aM:ak) (nn:Nat) (σ':St) (H':Hp) (s1:Shared),Inv X' [(s₂.heap.objs.size,fj aM nn)] σ' H' s1->Vals vs aM->aK H2 H'->cI X.K (gP X' F') R' (λ_=>none) [] H2 H' vs ds ->
      compPost (model X.prog X.w) X.A X.xe use Post (.ref s₂.heap.objs.size) (s₂.heap.objs.size+1) (.ok .next) s1:=by
    intro vs aM nn σ' H' s1 I1 rv sm EI;obtain⟨m,hn,_⟩:=I1.loc;obtain⟨pD,nD,_,_,_⟩:=I1.pin (s₂.heap.objs.size,fj aM nn) (aaq _ aai);have bs:=I1.base;have HK:∀b o,s₂.heap.get? b=some o->b≠s₂.heap.objs.size+1:=λb o e=>aan (aaE (aaj e));have Z7:∀b o,s₂.heap.get? b=some o->b≠s₂.heap.objs.size:=λb o e=>aan (aaj e);have S7:∀b u,H' b=some u->upd H' s₂.heap.objs.size (.lst vs) b=some u:=λb u e=>by rw[aW (bQ e nD)];exact e
    have hlen:vs.length<=sizeLine:=by
      obtain⟨_,_,rr⟩:=EI;have hz:sizeLine=16777216:=abh;have hc:ej=1000000:=rfl;rw[rr.length];left
    have IX:∀h',Heap.SameBut (s₂.heap.objs.size+1) s1.heap h'->Inv X pins σ (upd H' s₂.heap.objs.size (.lst vs)) { s1 with heap:=h' }:=λh' BU=>by
      have un:Un (la X.stack) fp H2 (upd H' s₂.heap.objs.size (.lst vs)) s₂.heap h' :=
        ⟨λb o e n hb hx=>BU.extBut b o (HK b o e) (bs.keep b o e n hb hx),
         λb o e n hb hx=>let ⟨sl,q⟩:=bs.slot b o e n hb hx;⟨sl,BU.extBut b _ (HK b o e) q⟩,
         λb o e n hx=>by rw[aW (Z7 b o e)];exact bs.free b o e n hx,
         λb o e hx=>let ⟨o',q⟩:=bs.there b o e hx;⟨o',BU.extBut b _ (HK b o e) q⟩,
         λb xs e=>S7 b _ (bs.lP b xs e),λb o u e=>S7 b _ (bs.k_ b o u e),λb ps e=>let ⟨more,q⟩:=bs.lR b ps e;⟨more,S7 b _ q⟩⟩
      have Vm:jt X.prog X.w H' h':=λa o e=>(I1.cB a o e).kl (λb u hb q=>BU.extBut b u (by
        rintro rfl;have hf:H' (s₂.heap.objs.size+1)=none:=I1.free;rcases hb with z|z
        · rw[<- z,hf]at e;cases e
        · rw[hf]at z;cases z) q) (λ_ q=>q) λ_ _ q=>q
      have Vl:jt X.prog X.w (upd H' s₂.heap.objs.size (.lst vs)) h':=xy Vm nD ⟨hlen,aM,nn,rv,BU.extBut _ _ Sf pD⟩;exact I2.xW (ch:=fp) I1.os un Vl I1.bare λb hb=>⟨(f2 b hb).2.2.2.1,(f2 b hb).2.1,(f2 b hb).2.2.2.2.1,(f2 b hb).2.2.2.2.2⟩
    have eS:aK H' (upd H' s₂.heap.objs.size (.lst vs)):=aK.upd nD;obtain⟨τt,fr,rs⟩:=EI;have UA:s₂.heap.objs.size+1≠s₂.heap.objs.size:=Nat.succ_ne_self _;refine Ph s₂.heap.objs.size (s₂.heap.objs.size+1) _ s1 m hn ⟨aaw (aaE I2.lt),acn I2.sz,λx c e=>?_,λp hp=>?_,?_⟩ IX ((e2.trans sm).trans eS) ⟨λq=>if q=s₂.heap.objs.size then some []else τt q,λq z hz=>?_,.lst ⟨aX,by simp⟩ (aG.map (q:=[]) (q':=[]) (λ_ _ h=>bh.same eS h) (λc p ys f h=>?_) rs [] rfl)⟩
    · obtain⟨v,z⟩:=I2.cell x c e
      exact aan (aaE z.lt)
    · exact aan (aaE (aaj (I2.pin p hp).1))
    · rw[aW UA];exact I1.free
    · by_cases vL:q=s₂.heap.objs.size
      · rw[vL];exact e2.free (sm.free nD)
      · simp only[vL,if_false]at hz;exact e2.free (fr q z hz)
    · have h':=nd.same eS h
      have WQ:∀p,gP X' F' p->jw (gP X F) τ (caps++dg es) p:=λp hp=>hp.elim id λz=>⟨.inr (yd.same.free z),λc i e=>absurd z (yd.th p _ e)⟩
      cases f with
      |ow =>
        have vL:p≠s₂.heap.objs.size:=by
          intro z;subst z;exact h.1.ne nD
        refine⟨h'.1,?_⟩;show(if p=s₂.heap.objs.size then some []else τt p)=_;rw[if_neg vL];exact h'.2
      |fz=>exact⟨h'.1,h'.2.2⟩
      |al=>exact⟨h'.1,WQ p h'.2.1⟩
      |sc=>exact h'
  have Zi:∀(P:aj) (ρ1:aZ) (b:Bool) (σ2:St) (H5:Hp) (s6:Shared),iA Φ bL ρ1=ok b->Inv X' P σ2 H5 s6->SI X' F' R' (λ_=>none) ρ1 σ2 H5 ->
      wpAny (model X.prog X.w) X.A (forIn ifs true λc r=>if r=true then do let ok <- isTrue c X'.env (eval c X'.env);pure (ForInStep.yield ok)else pure (ForInStep.yield r)) (λUu s7=>Uu=b/\∃H7,Inv X' P σ2 H7 s7/\aK H5 H7) (λ_ _=>False) s6:=by
    intro P ρ1 b σ2 H5 s6 eb I6 S6;rcases hC with ⟨rfl,rfl⟩|⟨c,e,rfl,rfl,hPT⟩
    · rw[iA]at eb;cases eb
      exact wpAny_tests_nil ⟨rfl,H5,I6,aK.refl _⟩
    · rw[iA]at eb
      obtain⟨b',eb',eb⟩:=aH eb;have hb:b'=b:=by
        cases b' with
        |true=>rw[if_pos rfl,iA]at eb;cases eb;rfl
        |false=>rw[if_neg (by simp)]at eb;cases eb;rfl
      subst hb;refine wpAny_tests_one (aav (hPT X' F' L' P s6 σ2 H5 (λYV H7=>YV=b'/\aK H5 H7) I6 ⟨R',_,ρ1,b',S6,eb',λH7 e7=>⟨rfl,e7⟩⟩) (λYV s7 ⟨H7,I7,hb,e7⟩=>⟨hb,H7,I7,e7⟩) λ_ _ e=>e)
  have loop:∀tk,codeAny (model X.prog X.w) X.A (.compLoop (.ListComp jv [⟨target,iter,ifs,0⟩] sc pos) 0 (.ref it) (.ref s₂.heap.objs.size) X'.env)
      (compPost (model X.prog X.w) X.A X.xe use Post (.ref s₂.heap.objs.size) (s₂.heap.objs.size+1)) { s₂ with heap:=h₁,toks:=tk }:=by
    intro tk;refine rC (CAt X X' F' R' n (cF n caps ρ) (oR n caps σ) fp tn H2 s₂.heap.objs.size items (λd=>cK t d (cF n caps ρ)) (λρ'=>iA Φ bL ρ') (λρ'=>bj Φ elt ρ') ds) ?_ items.length
      ⟨0,[],[],0,oR n caps σ,H2,[],ds,rfl,aaJ _,I4 tk,T.keep _ _ _ NB (λb _ o e=>old b o e),λb hb=>(f2 b hb).1,.nil,aK.refl _,S4,.nil,by rw[List.drop_zero];exact LM,rfl⟩
    rintro m s' ⟨i,vs,aM,nn,σ',H',dn,rest,hm,hi,I',oO,fr',rv,sm,gq,EI,fU,eall⟩;have Lc:∀b∈fp,oD X' [(s₂.heap.objs.size,fj aM nn)] H' b:=λb hb=>⟨fr' b hb,(FV b hb).1,(FV b hb).2.1,(FV b hb).2.2.1,(FV b hb).2.2.2,λp hp=>by
      have vM:p=(s₂.heap.objs.size,fj aM nn):=by simpa [X',eK]using hp
      rw[vM];exact(PF b hb).symm⟩
    by_cases gX:i<items.length
    · refine aav (T.item X' rfl rfl rfl L.calm i _ s' σ' H' (λ_ _=>False) I' Lc oO (yl.go i H' sm gX)) (λr s1 h4=>?_) λ_ _ e=>e
      obtain⟨u,hr,h4⟩:=h4;subst hr;refine aav h4 (λ_ s5 h5=>?_) λ_ _ e=>e;obtain⟨x,H5,I5,r5,y5,Jl,Wb⟩:=h5;obtain⟨e5,dd,hd,rd⟩:=yl.uQ i H' x H5 sm gX y5;have W2:=I5.pinned (fp:=fp) (λb hb=>⟨Wb b hb,(Lc b hb).2⟩) (T.obj _ _ Jl);have tY:items.drop i=dd::items.drop (i+1):=by
        rw[List.drop_eq_getElem_cons gX];rw[List.getElem?_eq_getElem gX]at hd;cases hd;rfl
      rw[tY,iD]at fU;obtain⟨ρ1,eb,fU⟩:=aH fU;obtain⟨bb,et,fU⟩:=aH fU;refine aav (hg _ s5 σ' H5 x u (λσ2 H6=>H6=H5/\σ2.length=σ'.length/\(∀j,n<=j->σ2[j]?=σ'[j]?)/\SI X' F' R' (λ_=>none) ρ1 σ2 H5) W2 r5
        (B8 F' R' x dd σ' H5 _ (cF n caps ρ) ρ1 (gq.go e5) rd (Pp dd (aaB hd)) eb λσ2 g1 g2 g3=>⟨rfl,g1,g2,g3⟩)) (λ_ s6 h6=>?_) λ_ _ e=>e
      obtain⟨σ2,H6,I6,rfl,g1,g2,S6⟩:=h6;refine aav (Zi _ ρ1 bb σ2 H6 s6 et I6 S6) (λUu s7 h7=>?_) λ_ _ e=>e;obtain⟨rfl,H7,I7,e7⟩:=h7;have S_:∀{P:aj} {σ3:St} {H8:Hp} {s8:Shared},Inv X' (P++iQ fp s5.heap) σ3 H8 s8->tn (i+1) s8.heap/\∀b∈fp,H8 b=none:=λ{P σ3 H8 s8} I8 =>
        ⟨T.keep _ _ _ Jl λb hb o e=>(I8.pin (b,o) (aaq _ (aaq _ (hZ hb e)))).1,λb hb=>by
          obtain⟨o,e,_⟩:=T.obj _ _ Jl b hb;exact(I8.pin (b,o) (aaq _ (aaq _ (hZ hb e)))).2.1⟩
      have Ip:∀{H8:Hp},aK H7 H8->SI X' F' R' (λ_=>none) (cF n caps ρ) σ2 H8:=λ{H8} e8=>(gq.go ((e5.trans e7).trans e8)).sig g1 λj d hj=>g2 j (vK hj);cases Uu with
      |false =>
        rw[if_neg (by simp)]at fU ⊢;exact⟨items.length - (i+1),by left,i+1,vs,aM,nn,σ2,H7,dn,rest,rfl,gX,I7.kg,(S_ I7).1,(S_ I7).2,rv,(sm.trans e5).trans e7,Ip (aK.refl _),EI.go (e5.trans e7),fU,eall⟩
      |true =>
        rw[if_pos rfl]at fU ⊢;obtain⟨y,ey,fU⟩:=aH fU;obtain⟨ys,l9,fU⟩:=aH fU;cases fU;refine aav (hE X' F' L' _ s7 σ2 H7 (λv H8=>aK H7 H8/\cf X.K (gP X' F') R' (λ_=>none) [] H7 H8 v y) I7 ⟨R',_,ρ1,y,S6.go e7,ey,λv H8 e8 r8=>⟨e8,?_⟩⟩) (λu8 s8 h8=>?_) λ_ _ e=>e
        · obtain⟨τt,fr,rr⟩:=r8
          exact⟨τt,fr,rr.imp (q:=[]) (q':=[]) (λ_ _ h=>h) λc p ys f h=>h.mono id (λh=>⟨h.1,λ_ _ e=>by cases e⟩) id⟩
        · obtain⟨v8,H8,I8,ZH,e8,r8⟩:=h8
          obtain⟨pD,nD,_,_,_⟩:=I8.pin (s₂.heap.objs.size,fj aM nn) (aaq _ (aaA _ aai));have hlen:aM.length<=1000000:=by
            obtain⟨_,_,rr⟩:=EI;have h1:dn.length<=ds.length:=by rw[<- eall,List.length_append];left
            have hc:ej=1000000:=rfl;rw[<- rv.length,rr.length];left
          have hz:sizeLine=16777216:=abh;refine abx PySem.F.slot_list_append ⟨_,pD,rfl⟩ PySem.F.entry_list_append (PySem.F.args_list_append_2 _ _) (PySem.list_append s₂.heap.objs.size aM.toArray nn u8 (by rw[List.size_toArray];left)) ⟨pD,?_⟩;have q:=PySem.IsL.update pD (λx=>x.push u8);have Pf:aM.toArray.push u8=(aM++[u8]).toArray:=by simp
          rw[Pf]at q;obtain⟨RX,q'⟩:∃RX,(s8.heap.update s₂.heap.objs.size (Obj.mapSeq λx=>x.push u8)).get? s₂.heap.objs.size=some (fj (aM++[u8]) RX):=⟨_,q⟩
          have I8d:Inv X' (iQ fp s5.heap) σ2 H8 s8:=I8.jn λp hp=>I8.pin p (aaq _ (aaq _ hp));have YY:Inv X' (iQ fp s5.heap) σ2 H8 { s8 with heap:=s8.heap.update s₂.heap.objs.size (Obj.mapSeq λx=>x.push u8),toks:=s8.toks } :=
            I8d.turned (it:=s₂.heap.objs.size) (λb o hb e=>(aaK s8.heap (Obj.mapSeq λx=>x.push u8) (abi hb)).trans e) nD Sf (.inr (aam _)) KU λp hp=>by
              have vM:p∈iQ fp s5.heap:=by simpa [X',eK]using hp
              exact PF p.1 (pJ vM).1
          have kp:=S_ (P:=[]) (by rw[List.nil_append];exact YY);refine⟨items.length - (i+1),by left,i+1,vs++[v8],aM++[u8],RX,σ2,H8,dn++[y],ys,rfl,gX,YY.jn (λp hp=>?_),kp.1,kp.2,rv.append (.cons ZH .nil),((sm.trans e5).trans e7).trans e8,Ip e8,cI.snoc ((sm.trans e5).trans e7) e8 (EI.go (e5.trans e7)) r8,l9,by rw[List.append_assoc];exact eall⟩;have vM:p=(s₂.heap.objs.size,fj (aM++[u8]) RX):=by simpa using hp
          rw[vM];exact⟨q',nD,Sf,VO,λv z=>by cases z⟩
    · refine aav (T.done X' rfl rfl rfl L.calm i _ s' σ' H' (λ_ _=>False) I' Lc oO (yl.stop i H' sm (by left))) (λr s1 h1=>?_) λ_ _ e=>e
      obtain⟨hr,I1⟩:=h1;subst hr;have Vq:items.drop i=[]:=List.drop_eq_nil_of_le (by left);rw[Vq,iD]at fU;cases fU;rw[List.append_nil]at eall;subst eall;exact fin vs aM nn σ' H' s1 I1 rv sm EI
  have key:=λtk=>codeAny_compStart_list (loop tk) (T.self X.A 0 _ _ _ (T.keep _ _ _ NB λb _ o e=>old b o e) (loop tk));rw[Yx];exact key _
theorem EB(L:Lk X S k Φ){n:Nat}{t:Tg}{ik:IK}{ifs:au}{sc:Scope}(co:j7 S n t caps target sc)(zF:pK iter=true)
  (hE:∀(X':Cx) (F':ai),Lk X' (S.inner target caps sc) k Φ->PE X' jv (tD X' F' Φ elt))
  (hC:(bL=[]/\ifs=[])\/∃c e,bL=[c]/\ifs=[e]/\∀(X':Cx) (F':ai),Lk X' (S.inner target caps sc) k Φ->PT X' e (gI X' F' Φ c))
  (hI:∀(pins:aj) (s:Shared) (σ:St) (H:Hp) (R:ai) (τ:Addr->Option bp) (ρ:aZ) (xs items:aa),Inv X pins σ H s->SI X F R τ ρ σ H->bz Φ es ρ=ok xs->eF Φ ik xs=ok items->∀Rr:It->Hp->Prop,
   (∀J H2,aK H H2->Yl X.K J (km X F τ (caps++dg es) H2) H2 items->Rr J H2)->wpAny (model X.prog X.w) X.A (eval iter X.env) (λv s1=>wpAny (model X.prog X.w) X.A (pyIter v) (DH X pins σ target Rr) X.xe s1) X.xe s) :
  PE X (.ListComp jv [⟨target,iter,ifs,0⟩] sc pos) (tD X F Φ (.comp n t caps ik es bL elt)):=by
 intro pins s σ H Q I hq;obtain⟨R,τ,ρ,d,Si,ev,hq⟩:=hq;rw[eval_ListComp];refine uw L co zF hE hC hI (use:=none) (Post:=EP X pins σ Q) I Si ev λacc C H1 s1 m hn _ IX sm rt=>?_;exact⟨m,hn,λh' BU=>⟨.ref acc,H1,IX h' BU,rfl,hq _ _ sm rt⟩⟩
end
section
variable {X:Cx}{pins:aj}{s:Shared}{σ:L2.St}{H:Hp}
theorem tU{A:aJ}{E:aD}{l:Addr}{items:aV}{Q:aD}{s:Shared}(hl:s.heap.IsList l items)
  (h:∀s₂:Shared,s₂={ s with heap:=s.heap.push { cls:=.type "list_iterator",data:=.fields #[.ref l,.int 0 0] } }->s₂.heap.IsListIter s.heap.objs.size l 0/\s₂.heap.IsList l items->(∀b∈[s.heap.objs.size,l],b<s₂.heap.objs.size)->l≠s.heap.objs.size->Q (.ref s.heap.objs.size) s₂) :
  wpAny (model prog w) A (pyIter (.ref l)) Q E s:=by
 have gX:l<s.heap.objs.size:=by obtain⟨_,e,_⟩:=hl;exact aaj e
 refine wpAny_pyIter_list hl (h _ rfl ⟨⟨_,aar _ rfl,rfl,rfl⟩,hl.push _⟩ (λb hb=>?_) (aan gX));have hz:(s.heap.push { cls:=.type "list_iterator",data:=.fields #[.ref l,.int 0 0] }).objs.size=s.heap.objs.size+1:=Heap.size_push ..;have uS:b=s.heap.objs.size\/b=l:=by simpa using hb
 show b<_;rw[hz];rcases uS with e|e
 ·rw[e];exact aaR _
 ·rw[e];exact aaE gX
theorem tS{o₀:Obj}{s:Shared}(hk:∀b o,b∉[s.heap.objs.size]->(s.heap.push o₀).get? b=some o->h'.get? b=some o):∀b o,s.heap.get? b=some o->h'.get? b=some o:=λb o e =>
 hk b o (λhm=>absurd ((by simpa using hm:b=s.heap.objs.size)▸aaj e) (aay _)) (aak _ e)
theorem dw{a:Addr}{aM:aV}(p:PlainL h a aM):h.IsList a aM:=let ⟨o,n,h1,h2,_,h4⟩:=p;⟨o,h1,h2,n,h4⟩
theorem iP(val:Nat->Int)(ns:ae)(hv:∀i,val i=ns.getD i 0):∀k,k<=ns.length->preSum val k=(ns.take k).sum
 |0,_=>by simp[preSum]
 |k+1,h=>by
  have hk:k<ns.length:=by left
  rw[preSum,iP val ns hv k (by left),hv k,List.take_add_one,List.sum_append];simp[List.getD,hk]
theorem zk(hc:X.calm=true):fh X (.builtin "sum") (λxs H Q=>∃(p:Addr) (ns:ae),xs=[.ref p]/\dO X.K H p (ns.map V.int)/\Q (.int ns.sum) H):=by
 intro pins s σ H xs us Q I r h;obtain⟨p,ns,rfl,hq,q⟩:=h;obtain⟨u,rfl,ru⟩:=r.one;cases ru;obtain⟨aM,rv,pl,hz⟩:=I.list hq;have hlen:aM.length=ns.length:=by have:=rv.length;simpa using this.symm
 refine call_sum_walkG (tU (dw pl) λs₂ e st FW Vt=>?_);subst e;refine⟨_,_,_,_,_,_,λi=>ns.getD i 0,rfl,Walks.list (A:=X.A.in1) (I.ok.hd hc) _ p Vt aM.toArray,st,FW,λi v hP=>?_,λh' tk t' hk=>?_⟩
 ·have hv:aM[i]?=some v:=by simpa using hP
  have hi:i<aM.length:=by
   by_cases z:i<aM.length
   ·exact z
   ·rw[List.getElem?_eq_none (by left)]at hv;cases hv
  have hn:(ns.map V.int)[i]?=some (.int (ns.getD i 0)):=by
   rw[List.getElem?_map,List.getElem?_eq_getElem (by left)];simp[List.getD,show i<ns.length by left]
  obtain⟨u,hu,ru⟩:=rv.get hn;rw[hv]at hu;cases hu;exact ru
 ·refine⟨.int ns.sum,H,I.kept (t':=tk) (tS hk),⟨t',?_⟩,q⟩;have hz:preSum (λi=>ns.getD i 0) aM.toArray.size=ns.sum:=by
   rw[List.size_toArray,hlen,iP _ ns (λ_=>rfl) _ (Nat.le_refl _),List.take_length]
  rw[hz]
theorem range_all{α:Type}(l:List α)(f:α->Bool)(tr:Nat->Bool)(h:∀i a,l[i]?=some a->tr i=f a):(List.range l.length).all tr=l.all f:=by
 rw[Bool.eq_iff_iff,List.all_eq_true,List.all_eq_true];constructor
 ·intro z a ha;obtain⟨i,hi,e⟩:=List.mem_iff_getElem.mp ha;have:=z i (List.mem_range.mpr hi);rw[h i a (by rw[List.getElem?_eq_getElem hi,e])]at this;exact this
 ·intro z i hi;have hi:=List.mem_range.mp hi;rw[h i l[i] (List.getElem?_eq_getElem hi)];exact z _ (abk hi)
theorem zp(hc:X.calm=true):fh X (.builtin "all") (λxs H Q=>∃(p:Addr) (bs:List Bool),xs=[.ref p]/\dO X.K H p (bs.map V.bl)/\Q (.bl (bs.all id)) H):=by
 intro pins s σ H xs us Q I r h;obtain⟨p,bs,rfl,hq,q⟩:=h;obtain⟨u,rfl,ru⟩:=r.one;cases ru;obtain⟨aM,rv,pl,hz⟩:=I.list hq;have hlen:aM.length=bs.length:=by have:=rv.length;simpa using this.symm
 refine call_all_walk (tU (dw pl) λs₂ e st FW Vt=>?_);subst e;refine⟨_,_,_,_,_,_,λi=>bs.getD i false,rfl,Walks.list (A:=X.A.in1) (I.ok.hd hc) _ p Vt aM.toArray,st,λi v s' Q' E' hP hQ=>?_,λh' tk hk=>?_⟩
 ·have hv:aM[i]?=some v:=by simpa using hP
  have hi:i<aM.length:=by
   by_cases z:i<aM.length
   ·exact z
   ·rw[List.getElem?_eq_none (by left)]at hv;cases hv
  have hn:(bs.map V.bl)[i]?=some (.bl (bs.getD i false)):=by
   rw[List.getElem?_map,List.getElem?_eq_getElem (by left)];simp[List.getD,show i<bs.length by left]
  obtain⟨u,hu,ru⟩:=rv.get hn;rw[hv]at hu;cases hu;cases ru;exact aaO hQ
 ·refine⟨.bl (bs.all id),H,I.kept (t':=tk) (tS hk),?_,q⟩;show Value.bool _=Value.bool _;rw[List.size_toArray,hlen,range_all bs id _ λi a e=>by simp[List.getD,e]]
end
variable {ns:ae}
section
variable {prog:aF}{w:World}{A:aJ}{E:aD}{s:Shared}
theorem oq{l:Addr}{vs:ak}{Q:ak->Shared->Prop}{o:Obj}{n:Nat}(ho:s.heap.get? l=some o)(hc:o.cls=.type "tuple")(hd:o.data=.seq vs.toArray n)
  (h:Q vs { s with heap:=(s.heap.push (seqObj "list" #[] 0)).update s.heap.objs.size (Obj.mapSeq (· ++ vs.toArray)) }) (hsz:vs.length<=sizeLine):wpAny (model prog w) A (collect (.ref l)) Q E s:=by
 unfold collect;refine aaa (wpAny_runValue (abe entry_proto_collect' ?_));show wpAny _ _ (newList [] >>= λz=>again (.builtin "list.__iadd__" ⟨[z,.ref l],[]⟩)) _ _ s;refine aaa (aci (aah ⟨acf _ (by decide +kernel),abe entry_list_iadd' ?_⟩));have z1:(s.heap.push (seqObj "list" #[] 0)).get? l=some o:=aak _ ho;have z2:(s.heap.push (seqObj "list" #[] 0)).get? s.heap.objs.size=some (seqObj "list" #[] 0):=aar _ rfl;show wpAny _ _ (Builtin.List.listExtendWith (.ref s.heap.objs.size) (.ref l) (.ref s.heap.objs.size)) _ _ ({ s with heap:=s.heap.push (seqObj "list" #[] 0) }:Shared);unfold Builtin.List.listExtendWith;refine aaa (wpAny_typeOf (T:="tuple") ⟨o,z1,hc⟩ ?_);rw[aaQ (by rw[show(Value.type "tuple" == Value.type "tuple")=true from rfl,Bool.or_true])];refine aaa (listItems_at z1 hd (aaa (listItems_at z2 rfl ?_)));rw[if_neg (by simp)];refine aaa (listUpdate_at z2 rfl ?_ (aaJ _) (by
  show(#[]++vs.toArray).size<=sizeLine+1;rw[Array.size_append,List.size_toArray];exact acn (by simpa using hsz)))
 refine aah ?_;show wpAny (model prog w) A (load s.heap.objs.size >>= λo=>match o.data with
   |.seq xs _=>pure xs.toList
   |_=>unsupported "internal:collect") Q E ({ s with heap:=(s.heap.push (seqObj "list" #[] 0)).update s.heap.objs.size (Obj.mapSeq (· ++ vs.toArray)) }:Shared)
 refine aaa (wpAny_load (get?_update_seq z2 _) ?_);show wpAny _ _ (pure ((#[]:aV)++vs.toArray).toList) Q E _;rw[show((#[]:aV)++vs.toArray).toList=vs by simp];exact aah h
theorem oP{l:Addr}{vs:ak}{Q:aD}{o:Obj}{n:Nat}(ho:s.heap.get? l=some o)(hc:o.cls=.type "tuple")(hd:o.data=.seq vs.toArray n)(hI:IntsAre vs ns)(uT:vs.length<64)
  (h:∀(out:aV) (kR:ae),IntsAre out.toList kR->kR.Perm ns->kR.Pairwise (· <= ·)->Q (.ref (s.heap.objs.size+1)) { s with heap:=sortedAll s.heap vs out }):wpAny (model prog w) A (call (.builtin "sorted") [.ref l]) Q E s:=by
 refine Calls.call_function_entry kind_sorted plain_sorted entry_sorted (args_sorted1 _) ?_;unfold Builtin.«sorted»;have hz:vs.length<=sizeLine:=by rw[sizeLine_eq];left
 refine aaa (m:=checkCount "sorted" 1 1 _) (aah (aaa (oq ho hc hd (aaa (aci ?_)) hz)));have e1:((s.heap.push (seqObj "list" #[] 0)).update s.heap.objs.size (Obj.mapSeq (· ++ vs.toArray))).objs.size=s.heap.objs.size+1:=by rw[Heap.size_update,size_push']
 have e2:(((s.heap.push (seqObj "list" #[] 0)).update s.heap.objs.size (Obj.mapSeq (· ++ vs.toArray))).push (seqObj "list" vs.toArray 0)).get? (s.heap.objs.size+1)=some (seqObj "list" vs.toArray 0):=by
  rw[<- e1];exact aar _ rfl
 show wpAny _ _ _ _ _ ({ s with heap:=((s.heap.push (seqObj "list" #[] 0)).update s.heap.objs.size (Obj.mapSeq (· ++ vs.toArray))).push (seqObj "list" vs.toArray 0) }:Shared);rw[e1];refine aaa (aaF (aaH slot_list_sort ⟨_,e2,rfl⟩ entry_list_sort (list_sort_tree e2 hI uT λout kR a1 a2 a3=>⟨_,rfl,aah ⟨_,rfl,h out kR a1 a2 a3⟩⟩) (args_list_sort _)))
end
theorem sortI_perm(ns:ae):(sortI ns).Perm ns:=aa3 ..
theorem Aq(ns:ae):(sortI ns).Pairwise (· <= ·):=by
 have:=List.pairwise_mergeSort (le:=λa b:Int=>decide (a<=b)) (by intro a b c;simp;left) (by intro a b;simp;left) ns;unfold sortI;simpa using this
theorem dW:∀{vs:ak} {ns:ae},Vals (ns.map V.int) vs->IntsAre vs ns
 |_,[],h=>by cases h;exact .nil
 |_,n::ns,h=>by
  cases h with
  |cons r t=>obtain⟨tk,rfl⟩:=r;exact .cons n tk (dW t)
theorem rL:fh X (.builtin "sorted") (λxs H Q=>∃(p:Addr) (ns:ae),xs=[.ref p]/\(dO X.K H p (ns.map V.int)\/bh X.K H p (ns.map V.int))/\ns.length<64/\∀l,H l=none->Q (.ref l) (upd H l (.lst ((sortI ns).map V.int)))):=by
 intro pins s σ H xs us Q I r h;obtain⟨p,ns,rfl,hq,uT,q⟩:=h;obtain⟨u,rfl,ru⟩:=r.one;cases ru;have fin:∀(vs:ak) (out:aV) (kR:ae),IntsAre out.toList kR->kR.Perm ns->kR.Pairwise (· <= ·)->EP X pins σ Q (.ref (s.heap.objs.size+1)) { s with heap:=sortedAll s.heap vs out }:=by
  intro vs out kR h1 h2 h3;obtain rfl:kR=sortI ns:=PySem.W.ksm_same (h2.trans (sortI_perm ns).symm) h3 (Aq ns);obtain⟨e,he⟩:=sortedAll_at s.heap vs out;have hn:H (s.heap.objs.size+1)=none:=I.cB.fresh (acb _);refine⟨.ref (s.heap.objs.size+1),upd H (s.heap.objs.size+1) (.lst ((sortI ns).map V.int)),I.laid (t':=s.toks) (λb u z=>sortedAll_old z) (acb _) ⟨?_,out.toList,e,kT h1,by simpa using he⟩,rfl,q _ hn⟩;rw[List.length_map,(sortI_perm ns).length_eq,sizeLine_eq];left
 rcases hq with hq|hq
 ·obtain⟨aM,rv,pl,hz⟩:=I.list hq;have hl:aM.length<64:=by rw[<- rv.length];simpa using uT
  exact sorted_ints (dw pl) (dW rv) hl λout kR h1 h2 h3=>fin aM out kR h1 h2 h3
 ·obtain⟨aM,rv,⟨o,ho,hc,n,hd⟩,hz⟩:=I.tuple hq;have hl:aM.length<64:=by rw[<- rv.length];simpa using uT
  exact oP ho hc hd (dW rv) hl λout kR h1 h2 h3=>fin aM out kR h1 h2 h3
theorem z8:isSubtype (.type "tuple") (.type "set")=pure false:=by rw[isSubtype_type];kernel_rfl
theorem sH:isSubtype (.type "tuple") (.type "frozenset")=pure false:=by rw[isSubtype_type];kernel_rfl
noncomputable abbrev lS(led:Bool):Obj:={ cls:=.type "set",dict:=none,data:=.set #[] 0 (.fresh 0 0 led) }
noncomputable abbrev dist(ns:ae):ae:=firstMet (λi=>ns.getD i 0) ns.length
section
variable {prog:aF}{w:World}{A:aJ}{E:aD}{s:Shared}
theorem vh{l:Addr}{aM:ak}{Q:aD}(hh:A.handled=none)(hl:s.heap.IsTuple l aM.toArray)(hi:IntsAre aM ns)(hb:aM.length+1<scanBound)
  (h:∀(h':Heap) (tk:Nat),h'.SetOf (intKind prog w) s.heap.objs.size (λk=>(dist ns).any (· == k)) (dist ns).length->(∀b o,b<s.heap.objs.size->s.heap.get? b=some o->h'.get? b=some o)->Q (.ref s.heap.objs.size) { s with heap:=h',toks:=tk }) :
  wpAny (model prog w) A (call (.type "set") [.ref l]) Q E s:=by
 have hnl:aM.length=ns.length:=hi.length;obtain⟨c,tl,k1⟩:=F.called_set.mro;have k2:=F.called_set.made;have k3:=F.called_set.sub;have k4:=F.called_set.notType;have k5:=F.called_set.canCreate;have k6:=F.typeCall_set_1 (.ref l);refine wpAny_call (codeAny_of_tree (show wpAny _ _ (callAny (.type "set") _) _ _ _ from aah ⟨acf _ (by decide +kernel),abe F.entry_type_call ?_⟩));rw[Around.under_plain (weight_type_call_type "set" [.ref l] []) rfl]
 repeat (any_goals (first|assumption|wp_step))
 refine abP (code_set_new_1 (.ref l) (E:=E) (Q₁:=λz s₁=>∃led:Bool,z=.ref s.heap.objs.size/\s₁={ s with heap:=s.heap.push (lS led) }) λled=>⟨led,rfl,rfl⟩) λr s₁ hr=>?_;cases r with
 |error e=>exact hr
 |ok fl =>
  cases fl with
  |next=>exact hr.elim
  |brk=>exact hr.elim
  |cont=>exact hr.elim
  |ret z =>
   obtain⟨led,rfl,rfl⟩:=hr;have g1:(s.heap.push (lS led)).get? s.heap.objs.size=some (lS led):=aar _ rfl;have g2:Shared.TypeIs { s with heap:=s.heap.push (lS led) } (.ref s.heap.objs.size) "set":=⟨_,g1,rfl⟩
   have g3:=F.called_set.init.lookup;have g4:=F.called_set.init.bind (.ref s.heap.objs.size)
   repeat (any_goals (first|assumption|wp_step))
   refine abP (abT (R:=wants (λr s₂=>r=.none/\∃h' tk,s₂={ s with heap:=h',toks:=tk }/\h'.SetOf (intKind prog w) s.heap.objs.size (λk=>(dist ns).any (· == k)) (dist ns).length/\∀b o,b<s.heap.objs.size->s.heap.get? b=some o->h'.get? b=some o) E) F.called_set.init.plain F.entry_set_init (check_set_init_1 g2 ?_)) λr₂ s₂ tW=>?_
   ·obtain⟨ot,X5,Yn,nt,Yj⟩:=hl;obtain⟨oc,od,odt,A_⟩:=ot;simp only at Yn Yj;subst Yn;subst Yj;have u1:(s.heap.push (lS led)).get? l=some { cls:=.type "tuple",dict:=od,data:=.seq aM.toArray nt,slots:=A_ }:=aak _ X5;have u2:=z8;have u3:=sH;have u4:(Value.type "tuple" == Value.type "dict")=false:=by decide
    have u5:(s.heap.push (lS led)).IsTuple l aM.toArray:=⟨_,u1,rfl,nt,rfl⟩
    unfold Builtin.«set.__init__» noKeywords Builtin.Frozenset.updateFrom;generalize hPI:pyIter=PI
    wp_walk
    subst hPI;refine wpAny_pyIter_tuple u5 (aaa (wpAny_runValue ?_));have u6:l<s.heap.objs.size:=aaj X5;have u7:A.in1.in1.in1.handled=none:=by simp[hh]
    have hz:(s.heap.push (lS led)).objs.size=s.heap.objs.size+1:=Heap.size_push ..;have u8:l≠(s.heap.push (lS led)).objs.size:=by rw[hz];exact aan (aaE u6)
    have u9:s.heap.objs.size∉[(s.heap.push (lS led)).objs.size,l]:=by
     rw[hz];intro m;simp at m;exact absurd m (aaw u6)
    have v1:∀(i:Nat) (v:Value),aM.toArray[i]?=some v->∃t,v=.int ((λi=>ns.getD i 0) i) t:=λi v hv=>hi.int_at i v (by simpa using hv);refine codeAny_set_update_loopS ((Walks.tuple u7 _ l u8 aM.toArray).toS) s.heap.objs.size u9 (λi=>ns.getD i 0) v1 (by rw[List.size_toArray];exact hb) (aM.toArray.size - 0) 0 _ (by left) (aaJ _) ⟨⟨_,aar _ rfl,rfl,rfl⟩,u5.push _⟩ ?hS0 ?hR
    case hS0 =>
     have y1:((s.heap.push (lS led)).push { cls:=.type "tuple_iterator",data:=.fields #[.ref l,.int 0 0] }).get? s.heap.objs.size=some (lS led):=aak _ g1;exact SetOf_congr ((setObjOf_fresh (knd:=intKind prog w) led).setOf y1 (by unfold scanBound;left)) (λ_=>rfl) rfl
    case hR =>
     intro s' hm y2;obtain⟨h',g',d',Zm,Ul⟩:=s';cases (show g'=s.gens from hm.gens);cases (show d'=s.drawn from hm.drawn);cases (show Ul=s.os from hm.os);have y2:h'.SetOf (intKind prog w) s.heap.objs.size (λk=>(dist ns).any (· == k)) (dist ns).length:=by
      have e:aM.toArray.size=ns.length:=by rw[List.size_toArray,hnl]
      rw[e]at y2;exact y2
     refine aah (show wpAny _ _ (ret Value.none) _ _ _ from aah ⟨rfl,h',Zm,rfl,y2,λb o hb e=>hm.heap b o (λm=>?_) (aak _ (aak _ e))⟩);rcases List.mem_cons.mp m with m|m
     ·exact aan hb m
     ·have m:b=(s.heap.push (lS led)).objs.size:=by simpa using m
      rw[hz]at m;exact aan (aaE hb) m
   ·cases r₂ with
    |error e=>exact tW
    |ok Qo =>
     cases Qo with
     |ret r =>
      obtain⟨rfl,h',tk,rfl,y2,Pu⟩:=tW
      repeat (any_goals (first|assumption|wp_step))
      exact h _ _ y2 Pu
     |next=>exact tW.elim
     |brk=>exact tW.elim
     |cont=>exact tW.elim
end
theorem C4(ns:ae):dist ns=oY ns:=by
 unfold dist firstMet oY;have e:(List.range ns.length).map (λi=>ns.getD i 0)=ns:=by
  refine acp (by simp) λi h1 h2=>?_;simp at h1;simp[h1]
 rw[e];rfl
def ZM(K:aq):af->Hp->VK->Prop:=λxs H Q=>∃(p:Addr) (ns:ae),xs=[.ref p]/\bh K H p (ns.map V.int)/\ns.length<4000/\Q (.int (oY ns).length) H
theorem boot_set:bootBuiltins ("set" : Str)=some (.type "set"):=by decide +kernel
theorem EW{e:Expr}{t:TA}{p:Pos}(hc:X.calm=true)(zI:Gl X ("len" : Str))(hm1:X.mg ("len" : Str)=none)(Sd:Gl X ("set" : Str))(hm2:X.mg ("set" : Str)=none)(ha:PA X [e] t)
  (j8:∀es,starEach (e::es) X.env=(false,eval e X.env)::starEach es X.env):PE X (.Call (.Name ("len" : Str) p) [.Call (.Name ("set" : Str) p') [e] [] pos'] [] pos) (Np (ZM X.K) t):=by
 intro pins s σ H Q I h;refine aa4 (gx I zI hm1 PySem.boot_len ?_ (by decide) (by decide));refine PyProof.Rows.callWith_builtin1 ?_ rfl rfl;show wpAny _ _ (spliced ((false,eval (.Call (.Name ("set" : Str) p') [e] [] pos') X.env)::[])) _ _ s;refine acd ?_;refine aa4 (gx I Sd hm2 boot_set ?_ (by decide) (by decide));refine aaD (cQ (ha pos' pins s σ H _ I h) λus s1 bK=>?_) (j8 _) rfl;obtain⟨vs,H1,I1,r1,q1⟩:=bK;obtain⟨a,ns,rfl,hq,hl,q⟩:=q1;obtain⟨u,rfl,ru⟩:=r1.one;cases ru;obtain⟨aM,rv,it,hz⟩:=I1.tuple hq;have hle:aM.length=ns.length:=by rw[<- rv.length];simp
 refine vh (I1.ok.hd hc) it (dW rv) (by unfold scanBound;left) λh' tk hS kp=>acm ?_;rw[C4]at hS;obtain⟨o,es,ep,tb,g1,g2,g3,_,_,g6,g7,g8⟩:=hS;refine call_len_set g1 g2 g3 g7 (by unfold scanBound at g6;omega) ?_;exact⟨.int (oY ns).length,H1,I1.kept (t':=tk+1+1) λb u z=>kp b u (aaj z) z,⟨_,by rw[g8]⟩,q⟩
variable {N':gC}{args elts:au}
section
variable {X:Cx}{S:Sx}{k:Nat}{F:ai}{Φ:bg}
theorem Lk.Xd(L:Lk X S k Φ):X.A.units+40<cLine:=by have:=L.room.units;left
def RB(K:aq)(neg:Bool):R2:=λv u H Q=>∃(d d':D) (N N':gC) (k k':bp),Rep (bh K H) N k v d/\Rep (bh K H) N' k' u d'/\(∀q p xs f,N q p (.l xs) f->dO K H p xs)/\(∀q p xs f,N' q p (.l xs) f->dO K H p xs)/\fi 40 d=true/\fi 40 d'=true /\
 Q (.bl (if neg then !ib d d' else ib d d')) H
theorem J0(hu:X.A.units+40<cLine):jG X (compareOp .Eq) (RB X.K false):=by
 intro pins s σ H x y v u Q I rx ry h;obtain⟨d,d',N,N',k,k',r1,r2,n1,n2,o1,o2,q⟩:=h;exact(alike I n1 n2 40 X.A r1 r2 o1 o2 rx ry hu).rc X.prog X.w X.xe _ ⟨.bl _,H,I,rfl,q⟩
theorem JZ(hu:X.A.units+40<cLine):jG X (compareOp .NotEq) (RB X.K true):=by
 intro pins s σ H x y v u Q I rx ry h;obtain⟨d,d',N,N',k,k',r1,r2,n1,n2,o1,o2,q⟩:=h;exact(alike I n1 n2 40 X.A r1 r2 o1 o2 rx ry hu).ne X.prog X.w X.xe _ ⟨.bl _,H,I,rfl,q⟩
theorem AG{N:gC}{k:bp}{v v':V}{d d':D}(h:Rep T N k v d)(h':Rep T' N' k' v' d')(f:n6 d=true)(f':n6 d'=true):iZ v=true/\Gf v v'=ib d d':=by
 cases h<;>first | (cases f;done) | (cases h'<;>first | (cases f';done)|exact⟨rfl,rfl⟩)
theorem pF{N:gC}{k:bp}{v:V}{d:D}(h:Rep T N k v d)(f:n6 d=true):iZ v=true:=by
 cases h<;>first | (cases f;done)|rfl
theorem qA{T T':md}{N N':gC}{k':bp}{v:V}{d:D}(hv:Rep T' N' k' v d)(f:n6 d=true):∀{k:bp} {n:Nat} {xs:af} {ds:aa},aG T N k n xs ds->ds.all n6=true->xs.all iZ=true/\R6 v xs=inD d ds
 |_,_,_,_,.nil,_=>⟨rfl,rfl⟩
 |_,_,_,_,.cons h t,fs=>by
  rw[List.all_cons,Bool.and_eq_true]at fs;obtain⟨h1,h2⟩:=qA hv f t fs.2;obtain⟨g1,g2⟩:=AG h hv fs.1 f;refine⟨by rw[List.all_cons,g1,h1];rfl,?_⟩;unfold R6 at h2 ⊢;rw[List.any_cons,g2,h2];rfl
def JJ(K:aq)(op:zN):R2:=match op with
 |.eq=>RB K false
 |.ne=>RB K true
 |.lt=>AJ λi j=>.bl (decide (i<j))
 |.le=>AJ λi j=>.bl (decide (i<=j))
 |.gt=>AJ λi j=>.bl (decide (j<i))
 |.ge=>AJ λi j=>.bl (decide (j<=i))
 |.FO=>Ua K false
theorem Bc(L:Lk X S k Φ)(op:zN):jG X (compareOp (Ut op)) (JJ X.K op):=by
 cases op with
 |eq=>exact J0 L.Xd
 |ne=>exact JZ L.Xd
 |lt=>exact Od
 |le=>exact Oe
 |gt=>exact Of
 |ge=>exact Og
 |FO=>exact yD
theorem Bp{op:CmpOp}{r:Expr}(h:pK r=true):behindInMarks op r=false:=by
 cases r<;>first|rfl | (cases h;done)
theorem mI{op:zN}{x y d:D}(Pj:op=.lt\/op=.le\/op=.gt\/op=.ge)(h:ic op x y=ok d):∃i j,x=.int i/\y=.int j:=by
 cases x with
 |int i=>cases y with
  |int j=>exact⟨i,j,rfl,rfl⟩
  |_=>rcases Pj with rfl|rfl|rfl|rfl<;>exact nk h
 |_=>rcases Pj with rfl|rfl|rfl|rfl<;>exact nk h
theorem ux{op:zN}{a b:CE}(hq:tD X F Φ (.cmp op a b) σ H Q):Hc (JJ X.K op) (tD X F Φ a) (tD X F Φ b) σ H Q:=by
 obtain⟨R,τ,ρ,d,Si,ev,hq⟩:=hq;obtain⟨x,ex,ev⟩:=aH ev;obtain⟨y,ey,ev⟩:=aH ev;refine tD.intro Si ex λv H1 e1 r1=>tD.intro (Si.go e1) ey λu H2 e2 r2=>?_;have e:=e1.trans e2;have rv:=r1.go e2;have ru:=r2;obtain⟨τ1,f1,p1⟩:=rv;obtain⟨τ2,f2,p2⟩:=ru;have sq:∀{A:ai} {τ:Addr->Option bp} (q:bp) (p:Addr) (xs:af) (f:Fl),nd X.K R A τ H2 q p (.l xs) f->dO X.K H2 p xs:=λq p xs f h=>h.sq;cases op with
 |eq =>
  obtain⟨hc,ev⟩:=oU ev
  ·subst ev;rw[Bool.and_eq_true]at hc;exact⟨x,y,_,_,_,_,p1,p2,sq,sq,hc.1,hc.2,hq _ H2 e .bl⟩
 |ne =>
  obtain⟨hc,ev⟩:=oU ev
  ·subst ev;rw[Bool.and_eq_true]at hc;exact⟨x,y,_,_,_,_,p1,p2,sq,sq,hc.1,hc.2,hq _ H2 e .bl⟩
 |lt=>obtain⟨i,j,rfl,rfl⟩:=mI (by simp) ev;cases ev;exact⟨_,_,(r1.go e2).isInt,r2.isInt,hq _ H2 e .bl⟩
 |le=>obtain⟨i,j,rfl,rfl⟩:=mI (by simp) ev;cases ev;exact⟨_,_,(r1.go e2).isInt,r2.isInt,hq _ H2 e .bl⟩
 |gt=>obtain⟨i,j,rfl,rfl⟩:=mI (by simp) ev;cases ev;exact⟨_,_,(r1.go e2).isInt,r2.isInt,hq _ H2 e .bl⟩
 |ge=>obtain⟨i,j,rfl,rfl⟩:=mI (by simp) ev;cases ev;exact⟨_,_,(r1.go e2).isInt,r2.isInt,hq _ H2 e .bl⟩
 |FO =>
  simp only[ic]at ev;split at ev
  ·rename_i ds hi;split at ev
   ·rename_i hc;rw[Bool.and_eq_true]at hc;cases ev;cases p2 with
    |tup h rs=>cases hi;obtain⟨g1,g2⟩:=qA p1 hc.1 rs hc.2;exact⟨_,_,rfl,.inr h,pF p1 hc.1,g1,by rw[g2];exact hq _ H2 e .bl⟩
    |lst h rs=>cases hi;obtain⟨g1,g2⟩:=qA p1 hc.1 rs hc.2;exact⟨_,_,rfl,.inl h.sq,pF p1 hc.1,g1,by rw[g2];exact hq _ H2 e .bl⟩
    |_=>cases hi
   ·cases ev
  ·cases ev
theorem Ag{c:CE}{Q:Bool->Hp->Prop}(h:gI X F Φ c σ H Q):tB (tD X F Φ c) σ H Q:=by
 obtain⟨R,τ,ρ,b,Si,ev,hq⟩:=h;unfold ug at ev;obtain⟨d,ed,et⟩:=aH ev;refine tD.intro Si ed λv H' e r=>?_;cases d<;>simp[gG]at et;cases et;exact⟨_,r.yO,hq H' e⟩
theorem cH{c:CE}{e:Expr}(h:PE X e (tD X F Φ c))(he:∀whole,isTrue e X.env whole=(do let v <- whole;standAt e.pos;holding [v] (truthy v))):PT X e (gI X F Φ c) :=
 PT.imp (qE h he) λ_ _ _ h=>Ag h
theorem yo{op:zN}{a b:CE}{Q:Bool->Hp->Prop}(h:gI X F Φ (.cmp op a b) σ H Q):Hb (Hc (JJ X.K op) (tD X F Φ a) (tD X F Φ b)) σ H Q :=
 ux (Ag h)
theorem dictAt{pins:aj}{s:Shared}{p:Addr}{cs:aB}(I:Inv X pins σ H s)(h:H p=some (.ext (DO p cs as xs ep))):∃o,s.heap.get? p=some o/\o.cls=.type "dict":=by
 obtain⟨⟨zs,o,es,_,_,_,ho,hx,_⟩,_⟩:=(show cC X.prog X.w H s.heap p (.ext (DO p cs as xs ep)) from I.cB p _ h)
 exact⟨o,ho,hx.1⟩
theorem Kn(L:Lk X S k Φ)(t:Ty):fh X (.builtin "isinstance") (λxs H Q=>∃(x:V) (d:D) (N:gC) (k:bp),xs=[x,.ty (tyName t)]/\Rep (bh X.K H) N k x d/\(∀q p xs f,N q p (.l xs) f->dO X.K H p xs)/\(∀q p cs as xs ep f,N q p (.d cs as xs ep) f->H p=some (.ext (DO p cs as xs ep)))/\Q (.bl (cW t d)) H):=by
 intro pins s σ H xs us Q I r h;obtain⟨x,d,N,k,rfl,rp,hN,hND,q⟩:=h;obtain⟨u,w',rfl,ru,mm⟩:=vals2 r;cases (show w'=Value.type (tyName t) from mm);have kt:=FD X.K t;have fin:∀b:Bool,b=cW t d->∀tk,EP X pins σ Q (.bool b) { s with toks:=tk }:=λb e tk=>⟨.bl b,H,I.tok tk,rfl,by rw[e];exact q⟩
 cases rp with
 |bB=>cases ru;exact aaX PySem.W.kitx_none I.vG True.intro (kt "NoneType" (by simp[kinds])) (λz=>nomatch z) (fin _ (by cases t<;>rfl))
 |bl b=>cases ru;exact aaX PySem.W.kitx_bool I.vG True.intro (kt "bool" (by simp[kinds])) (λz=>nomatch z) (fin _ (by cases t<;>rfl))
 |int i=>obtain⟨t',rfl⟩:=ru;exact aaX PySem.W.kitx_int I.vG True.intro (kt "int" (by simp[kinds])) (λz=>nomatch z) (fin _ (by cases t<;>rfl))
 |str y=>obtain⟨t',rfl⟩:=ru;exact aaX PySem.W.kitx_str I.vG True.intro (kt "str" (by simp[kinds])) (λz=>nomatch z) (fin _ (by cases t<;>rfl))
 |tup h _ =>
  cases ru;obtain⟨aM,_,⟨o,h1,h2,_⟩,_⟩:=I.tuple h;exact aaX PySem.W.kitx_tuple I.vG ⟨o,h1,h2⟩ (kt "tuple" (by simp[kinds])) (λz=>nomatch z) (fin _ (by cases t<;>rfl))
 |lst h _ =>
  cases ru;obtain⟨aM,_,⟨o,n,h1,h2,_⟩,_⟩:=I.list (hN _ _ _ _ h);exact aaX PySem.W.kitx_list I.vG ⟨o,h1,h2⟩ (kt "list" (by simp[kinds])) (λz=>nomatch z) (fin _ (by cases t<;>rfl))
 |cJ h _ _ =>
  cases ru;obtain⟨o,h1,h2⟩:∃o,s.heap.get? _=some o/\o.cls=.type "dict":=dictAt I (hND _ _ _ _ _ _ _ h);exact aaX PySem.W.kitx_dict I.vG ⟨o,h1,h2⟩ (kt "dict" (by simp[kinds])) (λz=>nomatch z) (fin _ (by cases t<;>rfl))
theorem GN(t:Ty):bootBuiltins (tyName t:Str)=some (.type (tyName t)):=by
 cases t<;>decide +kernel
theorem o9(t:Ty):(tyName t:Str) ≠ "__name__" /\ ((tyName t:Str)==("__debug__" : Str))=false:=by
 cases t<;>decide +kernel
theorem Jw(L:Lk X S k Φ){a:CE}{t:Ty}{e:Expr}{p:Pos}(hf:gz S.sc ("isinstance" : Str)=true)(VA:("isinstance" : Str)∈S.bl)(hg:gz S.sc (tyName t:Str)=true)(Vx:(tyName t:Str)∈S.bl)
  (ha:PE X e (tD X F Φ a)) (j8:∀es,starEach (e::es) X.env=(false,eval e X.env)::starEach es X.env):PE X (.Call (.Name ("isinstance" : Str) p) [e,.Name (tyName t:Str) p'] [] pos) (tD X F Φ (.si a t)):=by
 have hT:PE X (.Name (tyName t:Str) p') (tC (.ty (tyName t))):=xb (L.gl hg) (L.bl _ Vx) (GN t) rfl (o9 t).1 (o9 t).2;refine PE.imp (cS (Kn L t) (L.gl hf) (L.bl _ VA) PyProof.Rows.boot_isinstance (bW ha (bW hT dF) (j8 _)) (he:=j8 _)) λσ H Q hq=>?_;obtain⟨R,τ,ρ,d,Si,ev,hq⟩:=hq;obtain⟨x,ex,ev⟩:=aH ev;cases ev;refine tD.intro Si ex λv H1 e1 r1=>?_;obtain⟨τ1,f1,p1⟩:=r1;exact⟨v,x,_,_,rfl,p1,λq p xs f h=>h.sq,λq p cs as xs ep f h=>h.dat,hq _ H1 e1 .bl⟩
theorem Ku:@DI.zC=@L2.zC:=rfl
set_option tactic.hygienic true in
theorem NL(L:Lk X S k Φ){a b:CE}{e i:Expr}(ha:PE X e (tD X F Φ a))(hb:PE X i (tD X F Φ b))(hp:iq i):PE X (.Subscript e i pos) (tD X F Φ (.ix a b)):=by
 refine PE.imp (AZ (xq.or Kt) ha hb hp) λσ H Q hq=>?_;obtain⟨R,τ,ρ,d,Si,ev,hq⟩:=hq;obtain⟨x,ex,ev⟩:=aH ev;obtain⟨y,ey,ev⟩:=aH ev;refine tD.intro Si ex λv H1 e1 r1=>tD.intro (Si.go e1) ey λu H2 e2 r2=>?_;have ee:=e1.trans e2;have rv:=(r1.go e2).mono (fv':=jr (.ix a b)) λj hj=>aaA _ hj;have item:∀{q:bp} {xs:af} {ds:aa} {τt:Addr->Option bp} {j:Int},(∀p q,τt p=some q->H p=none)->aG (bh X.K H2) (nd X.K R (jw (gP X F) τ (jr (.ix a b))) τt H2) q 0 xs ds->uG ds j=ok d->∃w,L2.Iu xs j=some w/\Q w H2:=by
  intro q xs ds τt j fr rs h;unfold uG at h;split at h
  ·rename_i d' hd;cases h;cases hx:DI.zC ds.length j with
   |none=>rw[hx]at hd;cases hd
   |some m =>
    rw[hx]at hd;obtain⟨w,hw,mm⟩:=rs.get (show ds[m]?=some d' from hd);refine⟨w,?_,hq w H2 ee ⟨λ_=>none,λ_ _ h=>by simp at h,mm.fZ Si fr⟩⟩;unfold L2.Iu;rw[<- Ku,rs.length,hx];exact hw
  ·cases h
 cases y with
 |int j =>
  obtain⟨τt,fr,rp⟩:=rv;cases r2.isInt;cases x with
  |tup ds =>
   cases rp with
   | @tup _ p xs _ h rs=>obtain⟨w,h1,h2⟩:=item fr rs ev;exact .inr ⟨p,xs,j,w,rfl,rfl,h,h1,h2⟩
  |lst f ds =>
   cases rp with
   | @lst _ p xs _ _ h rs=>obtain⟨w,h1,h2⟩:=item fr rs ev;exact .inl ⟨p,xs,j,w,rfl,rfl,h.sq,h1,h2⟩
  |_=>exact nk ev
 |_=>cases x<;>cases ev
theorem n9:∀(cs:az) {ρ:aZ} {ds:aa},bz Φ cs ρ=ok ds->ds.length=cs.length
 |[],_,_,h=>by cases h;rfl
 |c::cs,_,_,h=>by
  obtain⟨x,_,h⟩:=aH h;obtain⟨xs,hx,h⟩:=aH h;cases h;simp[n9 cs hx]
theorem Js{es:au}{n:Nat}(h:PA X es (oM X F Φ cs))(hl:cs.length<=1000):PE X (.Tuple es n pos) (tD X F Φ (.tup cs)):=by
 refine PE.imp (JR h) λσ H Q hq=>?_;obtain⟨R,τ,ρ,d,Si,ev,hq⟩:=hq;obtain⟨ds,LM,ev⟩:=aH ev;cases ev;refine⟨R,τ,ρ,ds,Si,LM,λvs H1 e1 r1=>?_⟩;obtain⟨τt,fr,rs⟩:=r1;have hz:sizeLine=16777216:=abh;refine⟨by rw[rs.length,n9 cs LM];left,λp hp=>?_⟩;have es:aK H1 (upd H1 p (.tup vs)):=aK.upd hp;exact hq _ _ (e1.trans es) ⟨τt,fr,.tup (bh.of aX) (rs.imp (λ_ _ h=>bh.same es h) λ_ _ _ _ h=>nd.same es h)⟩
theorem Jv{es:au}(h:PA X es (oM X F Φ cs))(hl:cs.length<=1000):PE X (.List es pos) (tD X F Φ (.lst cs)):=by
 refine PE.imp (qK h) λσ H Q hq=>?_;obtain⟨R,τ,ρ,d,Si,ev,hq⟩:=hq;obtain⟨ds,LM,ev⟩:=aH ev;cases ev;refine⟨R,τ,ρ,ds,Si,LM,λvs H1 e1 r1=>?_⟩;obtain⟨τt,fr,rs⟩:=r1;have hz:sizeLine=16777216:=abh;refine⟨by rw[rs.length,n9 cs LM];left,λp hp=>?_⟩;have es:aK H1 (upd H1 p (.lst vs)):=aK.upd hp;refine hq _ _ (e1.trans es) ⟨λq=>if q=p then some []else τt q,λq z hq=>?_,.lst ⟨aX,by simp⟩ (rs.imp (λ_ _ h=>bh.same es h) λc q xs f h=>?_)⟩
 ·by_cases vL:q=p
  ·subst vL;exact e1.free hp
  ·simp only[vL,if_false]at hq;exact fr q z hq
 ·have h':=nd.same es h;cases f with
  |ow =>
   have vL:q≠p:=by
    intro z;subst z;exact h.1.ne hp
   exact⟨h'.1,by simp only[vL,if_false];exact h'.2⟩
  |fz=>exact h'
  |al=>exact h'
  |sc=>exact h'
theorem EC(L:Lk X S k Φ){f:Nat}{x:Str}{y:Expr}{ys:au}{p:Pos}(hf:S.fn f=some x)(hg:gz S.sc x=true)(hn:nu x=true)(ha:PA X (y::ys) (oM X F Φ cs))
  (j8:∀es,starEach (y::es) X.env=(false,eval y X.env)::starEach es X.env) (hpl:∀pos,(backTo pos (starEach ys X.env)).any (·.1)=false):PE X (.Call (.Name x p) (y::ys) [] pos) (tD X F Φ (.call f cs)):=by
 obtain⟨a,fd,ps,Fo,hm,hk,hb,hl⟩:=(L.fn f x hf).ex;unfold nu at hn;simp only[Bool.and_eq_true,Bool.not_eq_true']at hn;refine PE.imp (qL Fo L.room (L.gl hg) hm hk hb .nil (xf (X:=X)) ha hn.1.1 (j8 _) (hpl _)) λσ H Q hq=>?_;obtain⟨R,τ,ρ,d,Si,ev,hq⟩:=hq;obtain⟨xs,cD,ev⟩:=aH ev;obtain⟨r,er,ev⟩:=aH ev;cases ev;refine⟨R,τ,ρ,xs,Si,cD,λvs H1 e1 r1=>?_⟩;obtain⟨τt,fr,rs⟩:=r1;have fresh:∀p,H p=none->jw (gP X F) τ (dg cs) p:=λp hp=>⟨.inr (Si.same.free hp),λc i e=>absurd hp (Si.th p _ e)⟩
 have hR:∀p,R p->jw (gP X F) τ (dg cs) p:=λp hp=>⟨Si.rf p hp,λc i e=>by rw[Si.rt p hp]at e;cases e⟩
 rw[List.append_nil];refine⟨jw (gP X F) τ (dg cs),ah aA xs,r,by rw[rs.length,<- hl _ _ er,aP,List.length_map],aG.gM (λ_ _ h=>h) (λk k' p xs f h=>?_) rs _ _,er,λv H2 e2 rr=>?_⟩
 ·cases f with
  |ow=>exact⟨h.1,fresh p (fr p _ h.2)⟩
  |fz=>exact⟨h.1,hR p h.2⟩
  |al=>exact h
  |sc=>exact h
 ·obtain⟨τ2,MP,rp⟩:=rr;refine hq v H2 (e1.trans e2) ⟨τ2,λp q h=>e1.free (MP p q h),Rep.map (q:=[]) (q':=[]) (λ_ _ h=>h) (λc p xs f h=>?_) rp [] rfl⟩;cases f with
  |ow=>exact h
  |fz=>exact⟨h.1,h.2.elim id λz=>fresh p (e1.free z)⟩
  |al=>exact h.2.elim
  |sc=>exact h
def Xm(K:aq)(f:Bf):af->Hp->VK->Prop:=match f with
 |.len=>λxs H Q=>∃p ys,xs=[.ref p]/\(dO K H p ys\/bh K H p ys)/\Q (.int ys.length) H
 |.abs=>λxs H Q=>∃i,xs=[.int i]/\Q (.int (if i<0 then -i else i)) H
 |.min2=>λxs H Q=>∃i j,xs=[.int i,.int j]/\Q (.int (if j<i then j else i)) H
 |.max2=>λxs H Q=>∃i j,xs=[.int i,.int j]/\Q (.int (if j>i then j else i)) H
 |.list1=>λxs H Q=>∃p ys,xs=[.ref p]/\(dO K H p ys\/bh K H p ys)/\∀l,H l=none->Q (.ref l) (upd H l (.lst ys))
 |.tuple1=>λxs H Q=>∃p ys,xs=[.ref p]/\((dO K H p ys/\∀l,H l=none->Q (.ref l) (upd H l (.tup ys)))\/(bh K H p ys/\Q (.ref p) H))
 |.sI=>λxs H Q=>∃(p:Addr) (ns:ae),xs=[.ref p]/\dO K H p (ns.map V.int)/\Q (.int ns.sum) H
 |.all1=>λxs H Q=>∃(p:Addr) (bs:List Bool),xs=[.ref p]/\dO K H p (bs.map V.bl)/\Q (.bl (bs.all id)) H
 |.hJ=>λxs H Q=>∃(p:Addr) (ns:ae),xs=[.ref p]/\(dO K H p (ns.map V.int)\/bh K H p (ns.map V.int))/\ns.length<64/\∀l,H l=none->Q (.ref l) (upd H l (.lst ((sortI ns).map V.int)))
theorem aG.one{N:gC}{k:bp}{n:Nat}{d:D}(h:aG T N k n vs [d]):∃v,vs=[v]/\Rep T N (n::k) v d:=by
 cases h with
 |cons h t=>cases t;exact⟨_,rfl,h⟩
theorem aG.two{N:gC}{k:bp}{n:Nat}{d e:D}(h:aG T N k n vs [d,e]):∃v w,vs=[v,w]/\Rep T N (n::k) v d/\Rep T N ((n+1)::k) w e:=by
 cases h with
 |cons h t=>obtain⟨w,rfl,h'⟩:=t.one;exact⟨_,_,rfl,h,h'⟩
theorem aG.ints1{N:gC}{k:bp}{n:Nat}{i:Int}(h:aG T N k n vs [.int i]):vs=[.int i]:=by
 obtain⟨v,rfl,z⟩:=h.one;cases z;rfl
theorem aG.ints2{N:gC}{k:bp}{n:Nat}{i j:Int}(h:aG T N k n vs [.int i,.int j]):vs=[.int i,.int j]:=by
 obtain⟨v,w,rfl,z,z'⟩:=h.two;cases z;cases z';rfl
noncomputable def Bf.one:Bf->Bool
 |.min2=>false
 |.max2=>false
 |_=>true
theorem L_{f:Bf}{xs:aa}{d:D}(hf:f.one=true)(h:rQ f xs=ok d):∃x,xs=[x]:=by
 cases xs with
 |nil=>cases f<;>exact nk h
 |cons x xs=>cases xs with
  |nil=>exact⟨x,rfl⟩
  |cons y ys=>cases f<;>first | (cases hf;done) | (cases x<;>exact nk h)
theorem bf2{xs:aa}{d:D}(h:rQ .min2 xs=ok d):∃i j,xs=[.int i,.int j]:=by
 cases xs with
 |nil=>cases h
 |cons x xs=>cases xs with
  |nil=>cases x<;>cases h
  |cons y ys=>cases ys with
   |cons z zs=>cases x<;>first | (cases h;done) | (cases y<;>cases h)
   |nil=>cases x<;>first | (cases h;done) | (cases y<;>first|exact⟨_,_,rfl⟩ | (cases h;done))
theorem bf3{xs:aa}{d:D}(h:rQ .max2 xs=ok d):∃i j,xs=[.int i,.int j]:=by
 cases xs with
 |nil=>cases h
 |cons x xs=>cases xs with
  |nil=>cases x<;>cases h
  |cons y ys=>cases ys with
   |cons z zs=>cases x<;>first | (cases h;done) | (cases y<;>cases h)
   |nil=>cases x<;>first | (cases h;done) | (cases y<;>first|exact⟨_,_,rfl⟩ | (cases h;done))
theorem aG.ofInts{T:md}{N:gC}{k:bp}:∀{ns:ae} {n:Nat} {vs:af},aG T N k n vs (ns.map D.int)->vs=ns.map V.int
 |[],_,_,h=>by cases h;rfl
 |i::ns,_,_,h=>by
  cases h with
  |cons h t=>cases h;rw[aG.ofInts t];rfl
theorem aG.HI{T:md}{N:gC}{k:bp}:∀{ns:List Bool} {n:Nat} {vs:af},aG T N k n vs (ns.map D.bl)->vs=ns.map V.bl
 |[],_,_,h=>by cases h;rfl
 |i::ns,_,_,h=>by
  cases h with
  |cons h t=>cases h;rw[aG.HI t];rfl
theorem pN{T:md}{N:gC}{k:bp}:∀(ns:ae) {n:Nat},aG T N k n (ns.map V.int) (ns.map D.int)
 |[],_=>.nil
 |i::ns,_=>.cons (.int i) (pN ns)
set_option tactic.hygienic true in
theorem GQ{f:Bf}(hq:tD X F Φ (.bf f cs) σ H Q):Np (Xm X.K f) (oM X F Φ cs) σ H Q:=by
 obtain⟨R,τ,ρ,d,Si,ev,hq⟩:=hq;obtain⟨xs,cD,ev⟩:=aH ev;refine⟨R,τ,ρ,xs,Si,cD,λvs H1 e1 r1=>?_⟩;obtain⟨τt,fr,rs⟩:=r1;cases f with
 |len =>
  obtain⟨x,rfl⟩:=L_ rfl ev;obtain⟨v,rfl,rv⟩:=rs.one;cases x with
  |tup ds=>cases ev;obtain⟨_,_,rfl,h,r⟩:=rv.M5;exact⟨_,_,rfl,.inr h,by rw[r.length];exact hq _ H1 e1 .int⟩
  |lst f ds=>cases ev;obtain⟨_,_,rfl,h,r⟩:=rv.uV;exact⟨_,_,rfl,.inl h.sq,by rw[r.length];exact hq _ H1 e1 .int⟩
  |_=>exact nk ev
 |abs =>
  obtain⟨x,rfl⟩:=L_ rfl ev;cases x with
  |int i=>cases ev;cases rs.ints1;exact⟨_,rfl,hq _ H1 e1 .int⟩
  |_=>exact nk ev
 |min2 =>
  obtain⟨i,j,rfl⟩:=bf2 ev;cases ev;cases rs.ints2;exact⟨_,_,rfl,hq _ H1 e1 .int⟩
 |max2 =>
  obtain⟨i,j,rfl⟩:=bf3 ev;cases ev;cases rs.ints2;exact⟨_,_,rfl,hq _ H1 e1 .int⟩
 |list1 =>
  obtain⟨x,rfl⟩:=L_ rfl ev;obtain⟨v,rfl,rv⟩:=rs.one;cases x with
  |tup ds =>
   cases ev;obtain⟨_,_,rfl,h,r⟩:=rv.M5;refine⟨_,_,rfl,.inr h,λl hl=>?_⟩;exact hq _ _ (e1.trans (aK.upd hl)) (cf.tM (e1.free hl) (e1.trans (aK.upd hl)) aX ((r.fZ Si fr).imp (λ_ _ h=>bh.same (aK.upd hl) h) λ_ _ _ _ h=>nd.same (aK.upd hl) h))
  |lst f ds =>
   cases ev;obtain⟨_,_,rfl,h,r⟩:=rv.uV;refine⟨_,_,rfl,.inl h.sq,λl hl=>?_⟩;exact hq _ _ (e1.trans (aK.upd hl)) (cf.tM (e1.free hl) (e1.trans (aK.upd hl)) aX ((r.fZ Si fr).imp (λ_ _ h=>bh.same (aK.upd hl) h) λ_ _ _ _ h=>nd.same (aK.upd hl) h))
  |_=>exact nk ev
 |tuple1 =>
  obtain⟨x,rfl⟩:=L_ rfl ev;obtain⟨v,rfl,rv⟩:=rs.one;cases x with
  |lst f ds =>
   cases ev;obtain⟨_,_,rfl,h,r⟩:=rv.uV;refine⟨_,_,rfl,.inl ⟨h.sq,λl hl=>?_⟩⟩;exact hq _ _ (e1.trans (aK.upd hl)) ⟨λ_=>none,λ_ _ h=>by simp at h,.tup (bh.of aX) ((r.fZ Si fr).imp (λ_ _ h=>bh.same (aK.upd hl) h) λ_ _ _ _ h=>nd.same (aK.upd hl) h)⟩
  |_=>exact nk ev
 |sI =>
  obtain⟨x,rfl⟩:=L_ rfl ev;obtain⟨v,rfl,rv⟩:=rs.one;cases x with
  |lst f ds =>
   have ev:(match intsOf ds with|some ns=>ok (.int ns.sum)|none=>none)=ok d:=ev;cases hn:intsOf ds with
   |none=>rw[hn]at ev;cases ev
   |some ns =>
    rw[hn]at ev;cases ev;cases dN hn;cases rv with
    |lst h r=>cases r.ofInts;exact⟨_,ns,rfl,h.sq,hq _ H1 e1 .int⟩
  |_=>exact nk ev
 |all1 =>
  obtain⟨x,rfl⟩:=L_ rfl ev;obtain⟨v,rfl,rv⟩:=rs.one;cases x with
  |lst f ds =>
   have ev:(match jb ds with|some bs=>ok (.bl (bs.all id))|none=>none)=ok d:=ev;cases hn:jb ds with
   |none=>rw[hn]at ev;cases ev
   |some ns =>
    rw[hn]at ev;cases ev;cases uB hn;cases rv with
    |lst h r=>cases r.HI;exact⟨_,ns,rfl,h.sq,hq _ H1 e1 .bl⟩
  |_=>exact nk ev
 |hJ =>
  obtain⟨x,rfl⟩:=L_ rfl ev;obtain⟨v,rfl,rv⟩:=rs.one;have fin:∀ds,sO ds=ok d->∃ns:ae,ds=ns.map D.int/\ns.length<64/\∀l,H1 l=none->Q (.ref l) (upd H1 l (.lst ((sortI ns).map V.int))):=by
   intro ds e;unfold sO at e;split at e
   ·rename_i ns hn;split at e
    ·rename_i uT;cases e;refine⟨ns,dN hn,uT,λl hl=>hq _ _ (e1.trans (aK.upd hl)) (cf.tM (e1.free hl) (e1.trans (aK.upd hl)) aX (pN _))⟩
    ·cases e
   ·cases e
  cases x with
  |tup ds =>
   obtain⟨ns,rfl,uT,q⟩:=fin ds ev;cases rv with
   |tup h r=>cases r.ofInts;exact⟨_,ns,rfl,.inr h,uT,q⟩
  |_=>exact nk ev
theorem NM(L:Lk X S k Φ){f:Bf}{y:Expr}{ys:au}{p:Pos}(hg:gz S.sc (rP f:Str)=true)(hb:(rP f:Str)∈S.bl)(ha:PA X (y::ys) (oM X F Φ cs))
  (j8:∀es,starEach (y::es) X.env=(false,eval y X.env)::starEach es X.env) (hpl:∀pos,(backTo pos (starEach ys X.env)).any (·.1)=false):PE X (.Call (.Name (rP f:Str) p) (y::ys) [] pos) (tD X F Φ (.bf f cs)):=by
 refine PE.imp (t:=Np (Xm X.K f) (oM X F Φ cs)) ?_ λσ H Q hq=>GQ hq;cases f with
 |len=>exact cS rN (L.gl hg) (L.bl _ hb) PySem.boot_len ha (he:=j8 _) (hpl:=hpl _)
 |abs=>exact cS Dk (L.gl hg) (L.bl _ hb) (by decide +kernel) ha (he:=j8 _) (hpl:=hpl _)
 |min2=>exact cS (zl L.calm) (L.gl hg) (L.bl _ hb) (by decide +kernel) ha (he:=j8 _) (hpl:=hpl _)
 |max2=>exact cS (zo L.calm) (L.gl hg) (L.bl _ hb) (by decide +kernel) ha (he:=j8 _) (hpl:=hpl _)
 |list1=>exact kZ rM (L.gl hg) (L.bl _ hb) (by decide +kernel) ha (he:=j8 _) (hpl:=hpl _)
 |tuple1=>exact kZ o4 (L.gl hg) (L.bl _ hb) (by decide +kernel) ha (he:=j8 _) (hpl:=hpl _)
 |sI=>exact cS (zk L.calm) (L.gl hg) (L.bl _ hb) (by decide +kernel) ha (he:=j8 _) (hpl:=hpl _)
 |hJ=>exact cS rL (L.gl hg) (L.bl _ hb) (by decide +kernel) ha (he:=j8 _) (hpl:=hpl _)
 |all1=>exact cS (zp L.calm) (L.gl hg) (L.bl _ hb) (by decide +kernel) ha (he:=j8 _) (hpl:=hpl _)
set_option tactic.hygienic true in
theorem Ez(L:Lk X S k Φ){a:CE}{e:Expr}{p:Pos}(hf:gz S.sc ("len" : Str)=true)(VA:("len" : Str)∈S.bl)(hg:gz S.sc ("set" : Str)=true)(Vx:("set" : Str)∈S.bl)
  (ha:PE X e (tD X F Φ a)) (j8:∀es,starEach (e::es) X.env=(false,eval e X.env)::starEach es X.env):PE X (.Call (.Name ("len" : Str) p) [.Call (.Name ("set" : Str) p') [e] [] pos'] [] pos) (tD X F Φ (.kv a)):=by
 refine PE.imp (EW L.calm (L.gl hf) (L.bl _ VA) (L.gl hg) (L.bl _ Vx) (bW ha dF (j8 _)) j8) λσ H Q hq=>?_;obtain⟨R,τ,ρ,d,Si,ev,hq⟩:=hq;obtain⟨x,ex,ev⟩:=aH ev;refine tD.intro Si ex λv H1 e1 r1=>?_;obtain⟨τ1,f1,rv⟩:=r1;cases x with
 |tup ds =>
  simp only[xj]at ev;split at ev
  ·rename_i ns hn;split at ev
   ·rename_i hl;cases ev;cases dN hn;cases rv with
    |tup h r=>cases r.ofInts;exact⟨_,ns,rfl,h,hl,hq _ H1 e1 .int⟩
   ·cases ev
  ·cases ev
 |_=>exact nk ev
theorem Jt{a:CE}{e:Expr}(h:PE X e (tD X F Φ a)):PE X (.UnaryOp .Not e pos) (tD X F Φ (.not a)):=by
 refine PE.imp (JS h) λσ H Q hq=>?_;obtain⟨R,τ,ρ,d,Si,ev,hq⟩:=hq;obtain⟨b,eb,ev⟩:=aH ev;obtain⟨x,ex,eb⟩:=aH eb;cases ev;refine tD.intro Si ex λv H1 e1 r1=>?_;cases x<;>simp[gG]at eb;cases eb;exact⟨_,r1.yO,hq _ H1 e1 .bl⟩
theorem Jk{a:CE}{e:Expr}(h:PT X e (gI X F Φ a)):PT X (.UnaryOp .Not e pos) (gI X F Φ (.not a)):=by
 refine PT.imp (qF h) λσ H Q hq=>?_;obtain⟨R,τ,ρ,b,Si,ev,hq⟩:=hq;unfold ug at ev;obtain⟨d,ed,ev⟩:=aH ev;obtain⟨c,ec,ed⟩:=aH ed;cases ed;have Wj:b=!c:=by
  have e2:ok (!c)=ok b:=ev;exact(Except.ok.inj (aat e2)).symm
 subst Wj;exact⟨R,τ,ρ,c,Si,ec,λH' e=>hq H' e⟩
theorem Ju{a:CE}{e:Expr}(h:PE X e (tD X F Φ a)):PE X (.UnaryOp .USub e pos) (tD X F Φ (.neg a)):=by
 refine PE.imp (N9 IY h) λσ H Q hq=>?_;obtain⟨R,τ,ρ,d,Si,ev,hq⟩:=hq;obtain⟨x,ex,ev⟩:=aH ev;refine tD.intro Si ex λv H1 e1 r1=>?_;cases x<;>simp[Fn]at ev;cases ev;exact⟨_,r1.isInt,hq _ H1 e1 .int⟩
theorem GV{c:CE}(hq:tD X F Φ (.and [c]) σ H Q):tD X F Φ c σ H Q:=by
 obtain⟨R,τ,ρ,d,Si,ev,hq⟩:=hq;obtain⟨b,eb,ev⟩:=aH ev;obtain⟨x,ex,eb⟩:=aH eb;cases ev;refine tD.intro Si ex λv H1 e1 r1=>?_;cases x<;>simp[gG]at eb;cases eb;rw[r1.yO];exact hq _ H1 e1 .bl
theorem JX{c:CE}(hq:tD X F Φ (.or [c]) σ H Q):tD X F Φ c σ H Q:=by
 obtain⟨R,τ,ρ,d,Si,ev,hq⟩:=hq;obtain⟨b,eb,ev⟩:=aH ev;obtain⟨x,ex,eb⟩:=aH eb;cases ev;refine tD.intro Si ex λv H1 e1 r1=>?_;cases x<;>simp[gG]at eb;cases eb;rw[r1.yO];exact hq _ H1 e1 .bl
theorem Dt{c:CE}{Q:Bool->Hp->Prop}(hq:gI X F Φ (.and [c]) σ H Q):gI X F Φ c σ H Q:=by
 obtain⟨R,τ,ρ,d,Si,ev,hq⟩:=hq;unfold ug at ev;obtain⟨b,eb,ev⟩:=aH ev;obtain⟨x,ex,eb⟩:=aH eb;cases eb;cases ev;exact⟨R,τ,ρ,_,Si,ex,hq⟩
theorem E6{c:CE}{Q:Bool->Hp->Prop}(hq:gI X F Φ (.or [c]) σ H Q):gI X F Φ c σ H Q:=by
 obtain⟨R,τ,ρ,d,Si,ev,hq⟩:=hq;unfold ug at ev;obtain⟨b,eb,ev⟩:=aH ev;obtain⟨x,ex,eb⟩:=aH eb;cases eb;cases ev;exact⟨R,τ,ρ,_,Si,ex,hq⟩
theorem Du{c:CE}(hq:tD X F Φ (.and (c::c'::cs)) σ H Q):Hf (tD X F Φ c) (tD X F Φ (.and (c'::cs))) σ H Q:=by
 obtain⟨R,τ,ρ,d,Si,ev,hq⟩:=hq;obtain⟨b,eb,ev⟩:=aH ev;obtain⟨x,ex,eb⟩:=aH eb;refine tD.intro Si ex λv H1 e1 r1=>?_;cases x<;>simp[gG]at eb;cases eb;refine⟨_,r1.yO,?_⟩;cases b with
 |true =>
  rw[if_pos rfl]at ev ⊢;exact tD.intro (Si.go e1) ev λv H' e r=>hq v H' (e1.trans e) ((r.old e1).mono λi hi=>aaq _ hi)
 |false =>
  rw[if_neg (by simp)]at ev ⊢;cases ev;exact hq _ H1 e1 .bl
theorem E_{c:CE}(hq:tD X F Φ (.or (c::c'::cs)) σ H Q):Nh (tD X F Φ c) (tD X F Φ (.or (c'::cs))) σ H Q:=by
 obtain⟨R,τ,ρ,d,Si,ev,hq⟩:=hq;obtain⟨b,eb,ev⟩:=aH ev;obtain⟨x,ex,eb⟩:=aH eb;refine tD.intro Si ex λv H1 e1 r1=>?_;cases x<;>simp[gG]at eb;cases eb;refine⟨_,r1.yO,?_⟩;cases b with
 |false =>
  rw[if_neg (by simp)]at ev ⊢;exact tD.intro (Si.go e1) ev λv H' e r=>hq v H' (e1.trans e) ((r.old e1).mono λi hi=>aaq _ hi)
 |true =>
  rw[if_pos rfl]at ev ⊢;cases ev;exact hq _ H1 e1 .bl
theorem zt{c:CE}{Q:Bool->Hp->Prop}(hq:gI X F Φ (.and (c::c'::cs)) σ H Q):Nt (gI X F Φ c) (gI X F Φ (.and (c'::cs))) σ H Q:=by
 obtain⟨R,τ,ρ,d,Si,ev,hq⟩:=hq;unfold ug at ev;obtain⟨x,ex,et⟩:=aH ev;obtain⟨b,eb,ev⟩:=aH ex;refine⟨R,τ,ρ,b,Si,eb,λH1 e1=>?_⟩;cases b with
 |true =>
  rw[if_pos rfl]at ev ⊢;exact⟨R,τ,ρ,d,Si.go e1,by unfold ug;rw[show bj Φ (.and (c'::cs)) ρ=ok x from ev];exact et,λH' e=>hq H' (e1.trans e)⟩
 |false =>
  rw[if_neg (by simp)]at ev ⊢;cases ev;cases et;exact hq H1 e1
theorem Ba{c:CE}{Q:Bool->Hp->Prop}(hq:gI X F Φ (.or (c::c'::cs)) σ H Q):Xf (gI X F Φ c) (gI X F Φ (.or (c'::cs))) σ H Q:=by
 obtain⟨R,τ,ρ,d,Si,ev,hq⟩:=hq;unfold ug at ev;obtain⟨x,ex,et⟩:=aH ev;obtain⟨b,eb,ev⟩:=aH ex;refine⟨R,τ,ρ,b,Si,eb,λH1 e1=>?_⟩;cases b with
 |false =>
  rw[if_neg (by simp)]at ev ⊢;exact⟨R,τ,ρ,d,Si.go e1,by unfold ug;rw[show bj Φ (.or (c'::cs)) ρ=ok x from ev];exact et,λH' e=>hq H' (e1.trans e)⟩
 |true =>
  rw[if_pos rfl]at ev ⊢;cases ev;cases et;exact hq H1 e1
theorem ki{Q:af->Hp->Prop}(hq:oM X F Φ [] σ H Q):Nk σ H Q:=by
 obtain⟨R,τ,ρ,d,Si,ev,hq⟩:=hq;cases ev;exact hq _ H (aK.refl H) .nil
theorem gH{c:CE}{Q:af->Hp->Prop}(hq:oM X F Φ (c::cs) σ H Q):He (tD X F Φ c) (oM X F Φ cs) σ H Q:=by
 obtain⟨R,τ,ρ,d,Si,ev,hq⟩:=hq;obtain⟨x,ex,ev⟩:=aH ev;obtain⟨xs,cD,ev⟩:=aH ev;cases ev;refine tD.intro Si ex λv H1 e1 r1=>⟨R,τ,ρ,xs,Si.go e1,cD,λvs H2 e2 r2=>hq _ H2 (e1.trans e2) (cI.cons e1 e2 (r1.mono λi hi=>aaA _ hi) (r2.mono λi hi=>aaq _ hi))⟩
theorem bx{c:CE}{e:Expr}(h:bZ S c e=true)(es:au)(env:Env):starEach (e::es) env=(false,eval e env)::starEach es env:=by
 cases e<;>first|rfl | (cases c<;>exact(aag h).elim)
theorem wb:∀{cs:az} {es:au},bG S cs es=true->∀(pos:Pos) (env:Env),(backTo pos (starEach es env)).any (·.1)=false
 |[],[],_,_,_=>rfl
 |[],_::_,h,_,_=>by exact(aag h).elim
 |_::_,[],h,_,_=>by exact(aag h).elim
 |c::cs,e::es,h,pos,env=>by
  replace h:=aC h;rw[bx h.1];have:=wb h.2 pos env;unfold backTo at this ⊢;simp only[List.map_cons,List.any_cons,Bool.false_or];exact this
theorem p9{c:CE}{e:Expr}(h:bZ S c e=true):iq e:=by
 intro o i;cases e<;>first|rfl | (cases c<;>exact(aag h).elim)
theorem Aw{j:Nat}:PE X (.Constant .none j pos) (tD X F Φ .bB):=PE.imp AY λσ H Q bK=>by obtain⟨R,τ,ρ,d,Si,ev,hq⟩:=bK;cases ev;exact hq _ H (aK.refl H) .bB
theorem Hi{b:Bool}{j:Nat}:PE X (.Constant (.bool b) j pos) (tD X F Φ (.bl b)):=PE.imp HE λσ H Q bK=>by obtain⟨R,τ,ρ,d,Si,ev,hq⟩:=bK;cases ev;exact hq _ H (aK.refl H) .bl
theorem Ax{i:Int}{j:Nat}:PE X (.Constant (.int i) j pos) (tD X F Φ (.int i)):=PE.imp JT λσ H Q bK=>by obtain⟨R,τ,ρ,d,Si,ev,hq⟩:=bK;cases ev;exact hq _ H (aK.refl H) .int
theorem Av{i:Str}{j:Nat}:PE X (.Constant (.str i) j pos) (tD X F Φ (.str i)):=PE.imp nh λσ H Q bK=>by obtain⟨R,τ,ρ,d,Si,ev,hq⟩:=bK;cases ev;exact hq _ H (aK.refl H) .str
theorem Ky(L:Lk X S k Φ){y:Expr}{p:Pos}(g1:gz S.sc ("range" : Str)=true)(g2:("range" : Str)∈S.bl)(pa:PA X [y] (oM X F Φ es))(kD:bG S es [y]=true)
  (pins:aj) (s:Shared) (σ:St) (H:Hp) (R:ai) (τ:Addr->Option bp) (ρ:aZ) (xs items:aa) (I:Inv X pins σ H s) (Si:SI X F R τ ρ σ H) (cD:bz Φ es ρ=ok xs) (mF:eF Φ .lW xs=ok items) (Rr:It->Hp->Prop)
  (hR:∀J H2,aK H H2->Yl X.K J (km X F τ (caps++dg es) H2) H2 items->Rr J H2) :
  wpAny (model X.prog X.w) X.A (eval (.Call (.Name ("range" : Str) p) [y] [] yP) X.env) (λv s1=>wpAny (model X.prog X.w) X.A (pyIter v) (DH X pins σ target Rr) X.xe s1) X.xe s:=by
 match es,kD with
 |[c],kD =>
  replace kD:=aC kD;refine pI (L.gl g1) (L.bl _ g2) pa (bx kD.1 _ _) pins s σ H Rr I ⟨R,τ,ρ,xs,Si,cD,λvs H1 e1 rv=>?_⟩;obtain⟨τt,fr,rs⟩:=rv;obtain⟨n,rfl⟩:∃n,xs=[.int n]:=by
   cases xs with
   |nil=>cases mF
   |cons x t=>cases x<;>first | (cases mF;done) | (cases t with|nil=>exact⟨_,rfl⟩|cons _ _=>cases mF)
  cases rs.ints1
  ·obtain⟨⟨c1,c2⟩,mF⟩:=oU mF;subst mF;have nL:(ej:Int)=1000000:=rfl;refine⟨n,rfl,by left,by left,hR _ H1 e1 ?_⟩;have:=zQ (X:=X) (lo:=0) (n:=n.toNat) (R:=km X F τ (caps++dg [c]) H1) (H1:=H1);simpa using this
 |[],kD=>exact(aag kD).elim
 |_::_::_,kD=>exact(aag (aC kD).2).elim
theorem FJ(L:Lk X S k Φ){y z:Expr}{p:Pos}(g1:gz S.sc ("range" : Str)=true)(g2:("range" : Str)∈S.bl)(pa:PA X [y,z] (oM X F Φ es))(kD:bG S es [y,z]=true)
  (pins:aj) (s:Shared) (σ:St) (H:Hp) (R:ai) (τ:Addr->Option bp) (ρ:aZ) (xs items:aa) (I:Inv X pins σ H s) (Si:SI X F R τ ρ σ H) (cD:bz Φ es ρ=ok xs) (mF:eF Φ .lV xs=ok items) (Rr:It->Hp->Prop)
  (hR:∀J H2,aK H H2->Yl X.K J (km X F τ (caps++dg es) H2) H2 items->Rr J H2) :
  wpAny (model X.prog X.w) X.A (eval (.Call (.Name ("range" : Str) p) [y,z] [] yP) X.env) (λv s1=>wpAny (model X.prog X.w) X.A (pyIter v) (DH X pins σ target Rr) X.xe s1) X.xe s:=by
 match es,kD with
 |[c,c'],kD =>
  replace kD:=And.intro (aC kD).1 (aC (aC kD).2);refine pH (L.gl g1) (L.bl _ g2) pa (by rw[bx kD.1,bx kD.2.1];rfl) (bx kD.2.1 _ _) pins s σ H Rr I ⟨R,τ,ρ,xs,Si,cD,λvs H1 e1 rv=>?_⟩;obtain⟨τt,fr,rs⟩:=rv;obtain⟨m,n,rfl⟩:∃m n,xs=[.int m,.int n]:=by
   cases xs with
   |nil=>cases mF
   |cons x t=>cases x<;>first | (cases mF;done) | (cases t with
    |nil=>cases mF
    |cons y u=>cases y<;>first | (cases mF;done) | (cases u with|nil=>exact⟨_,_,rfl⟩|cons _ _=>cases mF))
  cases rs.ints2
  ·obtain⟨⟨c1,c2,c3,c4⟩,mF⟩:=oU mF;subst mF;have nL:(ej:Int)=1000000:=rfl;exact⟨m,n,rfl,⟨by left,by left,by left,by left⟩,hR _ H1 e1 zQ⟩
 |[],kD=>exact(aag kD).elim
 |[_],kD=>exact(aag (aC kD).2).elim
 |_::_::_::_,kD=>exact(aag (aC (aC kD).2).2).elim
theorem Kx(L:Lk X S k Φ){c:CE}{y:Expr}(pe:PE X y (tD X F Φ c))
  (pins:aj) (s:Shared) (σ:St) (H:Hp) (R:ai) (τ:Addr->Option bp) (ρ:aZ) (xs items:aa) (I:Inv X pins σ H s) (Si:SI X F R τ ρ σ H) (cD:bz Φ [c] ρ=ok xs) (mF:eF Φ .seq xs=ok items) (Rr:It->Hp->Prop)
  (hR:∀J H2,aK H H2->Yl X.K J (km X F τ (caps++dg [c]) H2) H2 items->Rr J H2) :
  wpAny (model X.prog X.w) X.A (eval y X.env) (λv s1=>wpAny (model X.prog X.w) X.A (pyIter v) (DH X pins σ target Rr) X.xe s1) X.xe s:=by
 obtain⟨x,ex,cD⟩:=aH cD;obtain⟨xs',Wf,cD⟩:=aH cD;cases Wf;cases cD;have Yh:∀i∈jr c,i∈caps++dg [c]:=λi hi=>aaq _ (aaA _ hi);cases x with
 |tup ds =>
  cases mF;refine AS pe pins s σ H Rr I (tD.intro Si ex λv H1 e1 rv=>?_);obtain⟨τt,fr,rp⟩:=rv;cases rp with
  | @tup _ p ys _ hp rs=>exact⟨p,rfl,⟨ys,hp⟩,hR _ H1 e1 (IE (q:=[]) hp (aG.gM (λ_ _ h=>h) (vi Si fr Yh) rs _ _))⟩
 |lst f ds =>
  cases mF;refine wY pe pins s σ H Rr I (tD.intro Si ex λv H1 e1 rv=>?_);obtain⟨τt,fr,rp⟩:=rv;cases rp with
  | @lst _ p ys _ _ hp rs=>exact⟨p,rfl,⟨ys,hp.sq⟩,hR _ H1 e1 (D7 (q:=[]) hp.sq (aG.gM (λ_ _ h=>h) (vi Si fr Yh) rs _ _))⟩
 |_=>cases mF
theorem M0{xs:aa}{J:It}(Si:SI X F R τ ρ σ H)(hs:∀i∈fv,i∈fv')(r:cI X.K (gP X F) R τ fv H H2 vs xs)(y:Q5 X.K J H2 vs xs items):
  Yl X.K J (km X F τ fv' H2) H2 items:=by
 obtain⟨τt,fr,rs⟩:=r;have at':∀H',aK H2 H'->aG (bh X.K H') (nd X.K (km X F τ fv' H2) (λ_=>False) (λ_=>none) H') [] 0 vs (ah aA xs):=λH' e =>
  (aG.gM (T':=bh X.K H2) (λ_ _ h=>h) (vi Si fr hs) rs [] 0).imp (λ_ _ h=>bh.same e h) λ_ _ _ _ h=>nd.same e h
 have st:∀H',aK H2 H'->uJ X.K H2 vs xs H':=λH' e=>⟨⟨_,at' H2 (aK.refl H2),λp o _ h=>e p o h⟩,λ_ _ h=>bh.same e h⟩
 exact⟨λi H' e hi=>y.go i H' _ (st H' e) (at' H' e) hi,λi H' x jy e hi hy=>y.uQ i H' _ x jy (st H' e) (at' H' e) hi hy,λi H' e hi=>y.stop i H' _ (st H' e) (at' H' e) hi⟩
theorem Kz(L:Lk X S k Φ){p:Nat}{y:Expr}(hp:S.px.pi p S.sc S.bl y=some args)(ht:(decide (1100<=p)||iV target)=true)(hs:oH X F Φ es args)
  (pins:aj) (s:Shared) (σ:St) (H:Hp) (R:ai) (τ:Addr->Option bp) (ρ:aZ) (xs items:aa) (I:Inv X pins σ H s) (Si:SI X F R τ ρ σ H) (cD:bz Φ es ρ=ok xs) (mF:eF Φ (.cg p) xs=ok items) (Rr:It->Hp->Prop)
  (hR:∀J H2,aK H H2->Yl X.K J (km X F τ (caps++dg es) H2) H2 items->Rr J H2) :
  wpAny (model X.prog X.w) X.A (eval y X.env) (λv s1=>wpAny (model X.prog X.w) X.A (pyIter v) (DH X pins σ target Rr) X.xe s1) X.xe s:=by
 obtain⟨d,ed,ei⟩:=aH (show bd (Φ p xs) sV=ok items from mF);exact L.pr.i X _ _ k L.pX p y args hp F es target ht hs pins s σ H R τ ρ xs d items I Si cD ed ei Rr λJ H2 vs e2 r yz=>hR J H2 e2 (M0 Si (λi hi=>by simp[hi]) r yz)
theorem uu{S':Sx}{ifs:au}(h3:bL.length<=1)(h4:bG S' bL ifs=true)
  (nK:∀(X':Cx) (F':ai),Lk X' S' k Φ->∀(j:Nat) (c:CE) (e:Expr),bL[j]?=some c->ifs[j]?=some e->PE X' e (tD X' F' Φ c)/\PT X' e (gI X' F' Φ c)) :
  (bL=[]/\ifs=[])\/∃c e,bL=[c]/\ifs=[e]/\∀(X':Cx) (F':ai),Lk X' S' k Φ->PT X' e (gI X' F' Φ c):=by
 cases bL with
 |nil=>cases ifs with
  |nil=>exact .inl ⟨rfl,rfl⟩
  |cons _ _=>exact(aag h4).elim
 |cons c cs=>cases cs with
  |cons _ _=>simp at h3
  |nil=>cases ifs with
   |nil=>exact(aag h4).elim
   |cons e ifs=>cases ifs with
    |cons _ _=>exact(aag (aC h4).2).elim
    |nil=>exact .inr ⟨c,e,rfl,rfl,λX' F' L'=>(nK X' F' L' 0 c e rfl rfl).2⟩
def QN(S:Sx)(ik:IK)(es:az)(target iter:Expr):Bool:=match ik with
 |.lW=>bt (eX iter) λw=>decide (w.1=("range" : Str))&&gz S.sc w.1&&decide (w.1∈S.bl)&&bt (one w.2) λy=>bG S es [y]
 |.lV=>bt (eX iter) λw=>decide (w.1=("range" : Str))&&gz S.sc w.1&&decide (w.1∈S.bl)&&bt (two w.2) λy=>bG S es [y.1,y.2]
 |.seq=>bG S es [iter]
 |.cg p=>RL iter&&(decide (1100<=p)||iV target)&&bt (S.px.pi p S.sc S.bl iter) λxs=>bG S es xs
theorem BI(L:Lk X S k Φ){ik:IK}(kD:∀l,bG S es l=true->PA X l (oM X F Φ es))
  (nK:∀l,bG S es l=true->∀(j:Nat) (c:CE) (e:Expr),es[j]?=some c->l[j]?=some e->PE X e (tD X F Φ c)/\PT X e (gI X F Φ c)) (hpe:∀l,bG S es l=true->oH X F Φ es l) (h6:QN S ik es target iter=true) :
  ∀(pins:aj) (s:Shared) (σ:St) (H:Hp) (R:ai) (τ:Addr->Option bp) (ρ:aZ) (xs items:aa),Inv X pins σ H s->SI X F R τ ρ σ H->bz Φ es ρ=ok xs->eF Φ ik xs=ok items->∀(Rr:It->Hp->Prop),
   (∀J H2,aK H H2->Yl X.K J (km X F τ (caps++dg es) H2) H2 items->Rr J H2) ->
   wpAny (model X.prog X.w) X.A (eval iter X.env) (λv s1=>wpAny (model X.prog X.w) X.A (pyIter v) (DH X pins σ target Rr) X.xe s1) X.xe s:=by
 cases ik with
 |lW =>
  obtain⟨⟨x,as⟩,hv,h6⟩:=bq h6;obtain⟨p,yP,rfl⟩:=bU hv;obtain⟨Cj,g3⟩:=aC h6;obtain⟨Cg,g2⟩:=aC Cj;obtain⟨Cf,g1⟩:=aC Cg;obtain rfl:x=_:=aab Cf;obtain⟨y,hu,vR⟩:=bq g3;obtain rfl:as=[y]:=cE hu;exact Ky L g1 (aab g2) (kD _ vR) vR
 |lV =>
  obtain⟨⟨x,as⟩,hv,h6⟩:=bq h6;obtain⟨p,yP,rfl⟩:=bU hv;obtain⟨Cj,g3⟩:=aC h6;obtain⟨Cg,g2⟩:=aC Cj;obtain⟨Cf,g1⟩:=aC Cg;obtain rfl:x=_:=aab Cf;obtain⟨⟨y,z⟩,hu,vR⟩:=bq g3;obtain rfl:as=[y,z]:=g_ hu;exact FJ L g1 (aab g2) (kD _ vR) vR
 |seq =>
  have vN:=nK _ h6;cases es with
  |nil=>exact(aag h6).elim
  |cons c cs=>cases cs with
   |cons _ _=>exact(aag (aC h6).2).elim
   |nil=>exact Kx L (vN 0 c _ rfl rfl).1
 |cg p =>
  obtain⟨h6,g3⟩:=aC h6;obtain⟨xs,ha,vR⟩:=bq g3;exact Kz L ha (aC h6).2 (hpe _ vR)
mutual
theorem bA:∀(c:CE) (X:Cx) (S:Sx) (F:ai) (L:Lk X S k Φ) (e:Expr),bZ S c e=true->PE X e (tD X F Φ c)/\PT X e (gI X F Φ c)
 |.cg p cs,X,S,F,L,e,h=>by
  obtain⟨args,ha,hb⟩:=bq (aC h).2;exact L.pr.e X _ _ k L.pX p e args ha F cs (jk cs X S F L args hb)
 |.bB,X,S,F,L,e,h=>by
  obtain⟨c,hv,h_1⟩:=bq h;obtain⟨j,p,rfl⟩:=sD hv;obtain rfl:=yL h_1;exact⟨Aw,cH Aw λ_=>rfl⟩
 |.bl b,X,S,F,L,e,h=>by
  obtain⟨c,hv,h_1⟩:=bq h;obtain⟨j,p,rfl⟩:=sD hv;obtain rfl:=BN h_1;exact⟨Hi,cH Hi λ_=>rfl⟩
 |.int i,X,S,F,L,e,h=>by
  obtain⟨c,hv,h_1⟩:=bq h;obtain⟨j,p,rfl⟩:=sD hv;obtain rfl:=yM h_1;exact⟨Ax,cH Ax λ_=>rfl⟩
 |.str t,X,S,F,L,e,h=>by
  obtain⟨c,hv,h_1⟩:=bq h;obtain⟨j,p,rfl⟩:=sD hv;obtain rfl:=yK h_1;exact⟨Av,cH Av λ_=>rfl⟩
 |.v i,X,S,F,L,e,h=>by
  obtain⟨x,hv,h'⟩:=bq h;obtain⟨p,rfl⟩:=jK hv;have:=TU (F:=F) L h;exact⟨this,cH this λ_=>rfl⟩
 |.glo x i,X,S,F,L,e,h=>by
  obtain⟨y,hv,h_1⟩:=bq h;obtain⟨pos,rfl⟩:=jK hv;obtain⟨h_2,h3⟩:=aC h_1;obtain⟨rb,h2⟩:=aC h_2;obtain⟨FZ,h1⟩:=aC rb;obtain rfl:=aab FZ;obtain⟨u,hm,r⟩:=L.cs _ _ (aab h2);have this:PE X (.Name y pos) (tD X F Φ (.glo y i)):=PE.imp (mx (v:=.int i) (L.gl h1) hm r (dA h3)) λσ H Q bK=>by obtain⟨R,τ,ρ,d,Si,ev,hq⟩:=bK;cases ev;exact hq _ H (aK.refl H) .int
  exact⟨this,cH this λ_=>rfl⟩
 |.bin op a b,X,S,F,L,e,h=>by
  obtain⟨⟨l,o,r⟩,hv,h_1⟩:=bq h;obtain⟨pos,rfl⟩:=wJ hv;obtain⟨h_2,h2⟩:=aC h_1;obtain⟨rb,h1⟩:=aC h_2;obtain rfl:o=Oh op:=aab rb;have:=Jx (F:=F) (pos:=pos) L (op:=op) (bA a X S F L _ h1).1 (bA b X S F L _ h2).1;exact⟨this,cH this λ_=>rfl⟩
 |.neg a,X,S,F,L,e,h=>by
  obtain⟨⟨o,x⟩,hv,h_1⟩:=bq h;obtain⟨pos,rfl⟩:=zX hv;obtain⟨h_2,h1⟩:=aC h_1;obtain rfl:o=.USub:=aab h_2;have:=Ju (F:=F) (Φ:=Φ) (pos:=pos) (bA a X S F L _ h1).1;exact⟨this,cH this λ_=>rfl⟩
 |.not a,X,S,F,L,e,h=>by
  obtain⟨⟨o,x⟩,hv,h_1⟩:=bq h;obtain⟨pos,rfl⟩:=zX hv;obtain⟨h_2,h1⟩:=aC h_1;obtain rfl:o=.Not:=aab h_2;exact⟨Jt (bA a X S F L _ h1).1,Jk (bA a X S F L _ h1).2⟩
 |.and cs,X,S,F,L,e,h=>by
  obtain⟨⟨o,vs⟩,hv,h_1⟩:=bq h;obtain⟨pos,rfl⟩:=sE hv;obtain⟨h_2,h1⟩:=aC h_1;obtain rfl:o=.And:=aab h_2;exact⟨(kU cs X S F L vs h1 pos).1,(kU cs X S F L vs h1 pos).2.pt⟩
 |.or cs,X,S,F,L,e,h=>by
  obtain⟨⟨o,vs⟩,hv,h_1⟩:=bq h;obtain⟨pos,rfl⟩:=sE hv;obtain⟨h_2,h1⟩:=aC h_1;obtain rfl:o=.Or:=aab h_2;exact⟨(m5 cs X S F L vs h1 pos).1,(m5 cs X S F L vs h1 pos).2.pt⟩
 |.cmp op a b,X,S,F,L,e,h=>by
  obtain⟨⟨l,os,rs⟩,hv,h_1⟩:=bq h;obtain⟨pos,rfl⟩:=wI hv;obtain⟨h_2,h2⟩:=aC h_1;obtain⟨rb,h1⟩:=aC h_2;obtain⟨r,hr,VX⟩:=bq h2;obtain⟨Qc,h3⟩:=aC VX;obtain rfl:os=[Ut op]:=aab rb;obtain rfl:rs=[r]:=cE hr;exact⟨PE.imp (xa (Bc L op) (bA a X S F L _ h1).1 (bA b X S F L _ Qc).1 (Bp h3)) λ_ _ _ rb=>ux rb,PT.imp (wV (Bc L op) (bA a X S F L _ h1).1 (bA b X S F L _ Qc).1 (Bp h3)) λ_ _ _ rb=>yo rb⟩
 |.si a t,X,S,F,L,e,h=>by
  obtain⟨⟨f,as⟩,hv,h_1⟩:=bq h;obtain⟨p,pos,rfl⟩:=bU hv;obtain⟨h_2,h5⟩:=aC h_1;obtain⟨rb,h2⟩:=aC h_2;obtain⟨FZ,h1⟩:=aC rb;obtain rfl:f=_:=aab FZ;obtain⟨⟨e,g⟩,hw,F0⟩:=bq h5;obtain rfl:as=[e,g]:=g_ hw;obtain⟨P_,h6⟩:=aC F0;obtain⟨x,hn,Cj⟩:=bq h6;obtain⟨p',rfl⟩:∃p,g=.Name x p:=jK hn;obtain⟨Cg,h4⟩:=aC Cj;obtain⟨Cf,h3⟩:=aC Cg;obtain rfl:=aab Cf;have:=Jw (F:=F) (p:=p) (p':=p') (pos:=pos) L h1 (aab h2) h3 (aab h4) (bA a X S F L _ P_).1 (λes=>bx P_ es _);exact⟨this,cH this λ_=>rfl⟩
 |.call f cs,X,S,F,L,e,h=>by
  obtain⟨⟨x,as⟩,hv,h_1⟩:=bq h;obtain⟨p,pos,rfl⟩:=bU hv;obtain⟨h_2,h4⟩:=aC h_1;obtain⟨rb,h3⟩:=aC h_2;obtain⟨h1,h2⟩:=aC rb;obtain⟨⟨y,ys⟩,hu,rg⟩:=bq h4;obtain rfl:as=y::ys:=uY hu;cases cs with
  |nil=>exact(aag rg).elim
  |cons c Ik =>
   have Qa:=aC rg;have:=EC (F:=F) (p:=p) (pos:=pos) L (aab h1) h2 h3 (fN (c::Ik) X S F L (y::ys) rg) (λes=>bx Qa.1 es _) (λpos=>wb Qa.2 pos _);exact⟨this,cH this λ_=>rfl⟩
 |.bf f cs,X,S,F,L,e,h=>by
  obtain⟨⟨x,as⟩,hv,h_1⟩:=bq h;obtain⟨p,pos,rfl⟩:=bU hv;obtain⟨h_2,h4⟩:=aC h_1;obtain⟨rb,h3⟩:=aC h_2;obtain⟨FZ,h2⟩:=aC rb;obtain rfl:x=_:=aab FZ;obtain⟨⟨y,ys⟩,hu,rg⟩:=bq h4;obtain rfl:as=y::ys:=uY hu;cases cs with
  |nil=>exact(aag rg).elim
  |cons c Ik =>
   have Qa:=aC rg;have:=NM (F:=F) (p:=p) (pos:=pos) L h2 (aab h3) (fN (c::Ik) X S F L (y::ys) rg) (λes=>bx Qa.1 es _) (λpos=>wb Qa.2 pos _);exact⟨this,cH this λ_=>rfl⟩
 |.kv a,X,S,F,L,e,h=>by
  obtain⟨⟨x,as⟩,hv,h_1⟩:=bq h;obtain⟨p,pos,rfl⟩:=bU hv;obtain⟨h_2,h4⟩:=aC h_1;obtain⟨rb,h2⟩:=aC h_2;obtain⟨FZ,h1⟩:=aC rb;obtain rfl:x=_:=aab FZ;obtain⟨y,hu,rg⟩:=bq h4;obtain rfl:as=[y]:=cE hu;obtain⟨⟨z,bs⟩,hw,h4_3⟩:=bq rg;obtain⟨p',pos',rfl⟩:=bU hw;obtain⟨VT,h5⟩:=aC h4_3;obtain⟨VS,h6⟩:=aC VT;obtain⟨VR,h3⟩:=aC VS;obtain rfl:z=_:=aab VR;obtain⟨u,U9,F0⟩:=bq h5;obtain rfl:bs=[u]:=cE U9;have:=Ez (F:=F) (p:=p) (p':=p') (pos:=pos) (pos':=pos') L h1 (aab h2) h3 (aab h6) (bA a X S F L _ F0).1 (λes=>bx F0 es _);exact⟨this,cH this λ_=>rfl⟩
 |.ix a b,X,S,F,L,e,h=>by
  obtain⟨⟨l,r⟩,hv,h_1⟩:=bq h;obtain⟨pos,rfl⟩:=mh hv;obtain⟨h1,h2⟩:=aC h_1;have:=NL (F:=F) (pos:=pos) L (bA a X S F L _ h1).1 (bA b X S F L _ h2).1 (p9 h2);exact⟨this,cH this λ_=>rfl⟩
 |.tup cs,X,S,F,L,e,h=>by
  obtain⟨es,hv,h_1⟩:=bq h;obtain⟨n,pos,rfl⟩:=kf hv;obtain⟨h1,h2⟩:=aC h_1;have:=Js (F:=F) (n:=n) (pos:=pos) (fN cs X S F L es h1) (aab h2);exact⟨this,cH this λ_=>rfl⟩
 |.lst cs,X,S,F,L,e,h=>by
  obtain⟨es,hv,h_1⟩:=bq h;obtain⟨pos,rfl⟩:=Eb hv;obtain⟨h1,h2⟩:=aC h_1;have:=Jv (F:=F) (pos:=pos) (fN cs X S F L es h1) (aab h2);exact⟨this,cH this λ_=>rfl⟩
 |.comp n t caps ik es bL elt,X,S,F,L,e,h=>by
  obtain⟨⟨jv,gens,sc⟩,hv,h_1⟩:=bq h;obtain⟨pos,rfl⟩:=zZ hv;obtain⟨⟨target,iter,ifs,a⟩,hg,h_2⟩:=bq h_1;obtain rfl:gens=_:=cE hg;obtain⟨rb,h6⟩:=aC h_2;obtain⟨FZ,h5⟩:=aC rb;obtain⟨h_5,h4⟩:=aC FZ;obtain⟨h_6,h3⟩:=aC h_5;obtain⟨h_7,h2⟩:=aC h_6;obtain⟨h_8,h1⟩:=aC h_7;obtain rfl:a=0:=aab h_8;have nK:=λ(X':Cx) (F':ai) (L':Lk X' (S.inner target caps sc) k Φ)=>iM bL X' _ F' L' ifs h4;have this:PE X (.ListComp jv [⟨target,iter,ifs,0⟩] sc pos) (tD X F Φ (.comp n t caps ik es bL elt)) :=
   EB L (p8 h1) h2 (λX' F' L'=>(bA elt X' _ F' L' jv h5).1) (uu (aab h3) h4 nK) (BI L (λl=>fN es X S F L l) (λl=>iM es X S F L l) (λl=>jk es X S F L l) h6)
  exact⟨this,cH this λ_=>rfl⟩
theorem iM:∀(cs:az) (X:Cx) (S:Sx) (F:ai) (L:Lk X S k Φ) (es:au),bG S cs es=true->∀(j:Nat) (c:CE) (e:Expr),cs[j]?=some c->es[j]?=some e->PE X e (tD X F Φ c)/\PT X e (gI X F Φ c)
 |[],X,S,F,L,_,_=>λj c e h _=>by simp at h
 |_::_,X,S,F,L,[],h=>by exact(aag h).elim
 |c::cs,X,S,F,L,e::es,h=>λj c' e' hc he=>by
  replace h:=aC h;cases j with
  |zero=>simp at hc he;subst hc he;exact bA c X S F L e h.1
  |succ j=>exact iM cs X S F L es h.2 j c' e' (by simpa using hc) (by simpa using he)
theorem jk:∀(cs:az) (X:Cx) (S:Sx) (F:ai) (L:Lk X S k Φ) (es:au),bG S cs es=true->oH X F Φ cs es
 |[],X,S,F,L,[],_=>trivial
 |[],X,S,F,L,_::_,h=>by exact(aag h).elim
 |_::_,X,S,F,L,[],h=>by exact(aag h).elim
 |c::cs,X,S,F,L,e::es,h=>by
  replace h:=aC h;exact⟨(bA c X S F L e h.1).1,λl=>bx h.1 l _,p9 h.1,jk cs X S F L es h.2⟩
theorem fN:∀(cs:az) (X:Cx) (S:Sx) (F:ai) (L:Lk X S k Φ) (es:au),bG S cs es=true->PA X es (oM X F Φ cs)
 |[],X,S,F,L,[],_=>PA.imp dF λ_ _ _ h=>ki h
 |[],X,S,F,L,_::_,h=>by exact(aag h).elim
 |_::_,X,S,F,L,[],h=>by exact(aag h).elim
 |c::cs,X,S,F,L,e::es,h=>by
  replace h:=aC h;exact PA.imp (bW (bA c X S F L e h.1).1 (fN cs X S F L es h.2) (bx h.1 es _)) λ_ _ _ h=>gH h
theorem kU:∀(cs:az) (X:Cx) (S:Sx) (F:ai) (L:Lk X S k Φ) (es:au),bG S cs es=true->∀pos,PE X (.BoolOp .And es pos) (tD X F Φ (.and cs))/\PW X (.BoolOp .And es pos) (gI X F Φ (.and cs))
 |[],X,S,F,L,_,_,pos=>⟨λ_ _ _ _ _ _ ⟨_,_,_,_,_,ev,_⟩=>(by cases ev),λ_ _ _ _ _ _ _ bK=>by obtain⟨_,_,_,_,_,ev,_⟩:=bK;cases ev⟩
 |[c],X,S,F,L,[e],h,pos=>by
  replace h:=aC h;exact⟨PE.imp (AX (bA c X S F L e h.1).1) λ_ _ _ h=>GV h,PW.imp (wU (bA c X S F L e h.1).2) λ_ _ _ h=>Dt h⟩
 |[_],X,S,F,L,[],h,_=>by exact(aag h).elim
 |[_],X,S,F,L,_::_::_,h,_=>by exact(aag (aC h).2).elim
 |_::_::_,X,S,F,L,[],h,_=>by exact(aag h).elim
 |_::_::_,X,S,F,L,[_],h,_=>by exact(aag (aC h).2).elim
 |c::c'::cs,X,S,F,L,e::e'::es,h,pos=>by
  replace h:=aC h;have r:=kU (c'::cs) X S F L (e'::es) h.2 pos;exact⟨PE.imp (JU (bA c X S F L e h.1).1 r.1) λ_ _ _ h=>Du h,PW.imp (AL (bA c X S F L e h.1).2 r.2) λ_ _ _ h=>zt h⟩
theorem m5:∀(cs:az) (X:Cx) (S:Sx) (F:ai) (L:Lk X S k Φ) (es:au),bG S cs es=true->∀pos,PE X (.BoolOp .Or es pos) (tD X F Φ (.or cs))/\PW X (.BoolOp .Or es pos) (gI X F Φ (.or cs))
 |[],X,S,F,L,_,_,pos=>⟨λ_ _ _ _ _ _ ⟨_,_,_,_,_,ev,_⟩=>(by cases ev),λ_ _ _ _ _ _ _ bK=>by obtain⟨_,_,_,_,_,ev,_⟩:=bK;cases ev⟩
 |[c],X,S,F,L,[e],h,pos=>by
  replace h:=aC h;exact⟨PE.imp (AX (bA c X S F L e h.1).1) λ_ _ _ h=>JX h,PW.imp (AK (bA c X S F L e h.1).2) λ_ _ _ h=>E6 h⟩
 |[_],X,S,F,L,[],h,_=>by exact(aag h).elim
 |[_],X,S,F,L,_::_::_,h,_=>by exact(aag (aC h).2).elim
 |_::_::_,X,S,F,L,[],h,_=>by exact(aag h).elim
 |_::_::_,X,S,F,L,[_],h,_=>by exact(aag (aC h).2).elim
 |c::c'::cs,X,S,F,L,e::e'::es,h,pos=>by
  replace h:=aC h;have r:=m5 (c'::cs) X S F L (e'::es) h.2 pos;exact⟨PE.imp (N_ (bA c X S F L e h.1).1 r.1) λ_ _ _ h=>E_ h,PW.imp (Hl (bA c X S F L e h.1).2 r.2) λ_ _ _ h=>Ba h⟩
end
theorem gv(L:Lk X S k Φ)(c:CE)(e:Expr)(h:bZ S c e=true):PE X e (tD X F Φ c)/\PT X e (gI X F Φ c):=bA c X S F L e h
theorem mZ(L:Lk X S k Φ)(cs:az)(es:au)(h:bG S cs es=true):oH X F Φ cs es:=jk cs X S F L es h
theorem jm(L:Lk X S k Φ)(cs:az)(es:au)(h:bG S cs es=true):PA X es (oM X F Φ cs):=fN cs X S F L es h
end
section
variable {T T':md}{N N':gC}
theorem aG.child{q:bp}(hT:∀p xs,T p xs->T' p xs)(hN:∀c m p xs f,N (c++(m::q)) p xs f->N' (c++(m::q)) p xs f):∀{n:Nat} {vs:af} {ds:aa},aG T N q n vs ds->aG T' N' q n vs ds
 |_,_,_,.nil=>.nil
 |n,_,_,.cons h t=>.cons (Rep.imp (q:=n::q) (q':=n::q) hT (λc p xs f h=>hN c n p xs f h) h) (aG.child hT hN t)
theorem aG.Hh{q:bp}{v:V}{d:D}:∀{n:Nat} {vs:af} {ds:aa},aG T N q n vs ds->Rep T N ((n+ds.length)::q) v d->aG T N q n (vs++[v]) (ds++[d])
 |n,_,_,.nil,h=>.cons (by simpa using h) .nil
 |n,_,_,.cons (ds:=ds) h t,h'=>.cons h (aG.Hh t (by
   have e:n+(ds.length+1)=n+1+ds.length:=by left
   rw[List.length_cons,e]at h';exact h'))
theorem aG.setAt{q:bp}{v:V}{d:D}:∀{n j:Nat} {vs:af} {ds:aa},aG T N q n vs ds->Rep T N ((n+j)::q) v d->aG T N q n (vs.set j v) (ds.set j d)
 |_,_,_,_,.nil,_=>by simp;exact .nil
 |_,0,_,_,.cons _ t,h'=>.cons (by simpa using h') t
 |n,j+1,_,_,.cons h t,h'=>.cons h (aG.setAt (j:=j) t (by
   have e:n+(j+1)=n+1+j:=by left
   rw[e]at h';exact h'))
end
variable {d0 d1:D}{n':Nd}
section
variable {X:Cx}{F R:ai}{τ:Addr->Option bp}{ρ:aZ}{σ:St}{H:Hp}
theorem SI.own{i:Nat}(Si:SI X F R τ ρ σ H)(hi:ρ[i]?=some (some (.lst .ow ds))):∃p xs,σ[i]?=some (some (.ref p))/\H p=some (.lst xs)/\xs.length=ds.length/\τ p=some [i]/\aG (bh X.K H) (nd X.K R (λ_=>False) τ H) [i] 0 xs ds:=by
 obtain⟨v,hv,rp⟩:=Si.rep i _ hi;cases rp with
 |lst h r=>exact⟨_,_,hv,h.1,r.length,h.2,r⟩
theorem Aj{H:Hp}{p:Addr}{n:Nd}{o:HO}(hp:fA H p n){a:Addr}{ys:af}(h:bh K H a ys):bh K (upd H p o) a ys:=by
 obtain⟨o0,BZ,Pg,MD⟩:=fA.some hp;have nO:∀a u,H a=some u->u≠o0->a≠p:=λa u e h z=>by subst z;rw[BZ]at e;cases e;exact h rfl
 rcases h with (h|⟨o',h⟩)|h
 ·exact .inl (.inl (by rw[aW (nO a _ h λz=>Pg _ z.symm)];exact h))
 ·exact .inl (.inr ⟨o',by rw[aW (nO a _ h λz=>MD _ _ z.symm)];exact h⟩)
 ·exact .inr h
theorem SI.Uh{i m:Nat}{v:V}{d:D}{p:Addr}{n:Nd}{o:HO}(Si:SI X F R τ ρ σ H)(hi:ρ[i]?=some (some d0))(hv:σ[i]?=some (some (.ref p)))(hp:fA H p n)(ht:τ p=some [i])
  (rs:aG (bh X.K H) (nd X.K R (λ_=>False) τ H) [i] 0 xs ds) (rk:iJ X R τ H v d) (qY:fA (upd H p o) p n')
  (mk:∀{N:gC},N [i] p n' .ow->aG (bh X.K (upd H p o)) N [i] 0 xs' ds'->Rep (bh X.K (upd H p o)) N [i] (.ref p) d1)
  (hb:∀{N:gC},aG (bh X.K (upd H p o)) N [i] 0 xs ds->Rep (bh X.K (upd H p o)) N (m::[i]) v d->aG (bh X.K (upd H p o)) N [i] 0 xs' ds') :
  ∃τ',SI X F R τ' (ρ.set i (some d1)) σ (upd H p o)/\τ' p=some [i]/\aG (bh X.K (upd H p o)) (nd X.K R (λ_=>False) τ' (upd H p o)) [i] 0 xs' ds':=by
 obtain⟨τt,hτ,rp⟩:=rk;have Yd:i<ρ.length:=by
  by_cases z:i<ρ.length
  ·exact z
  ·rw[List.getElem?_eq_none (by left)]at hi;cases hi
 obtain⟨o0,BZ,Pg,MD⟩:=fA.some hp;have nR:∀a,R a->a≠p:=λa ha e=>by subst e;rw[Si.rt _ ha]at ht;cases ht
 have nT:∀a q,τt a=some q->a≠p:=λa q e z=>by subst z;rw[(hτ _ q e).1]at ht;cases ht
 have nO:∀a u,H a=some u->u≠o0->a≠p:=λa u e h z=>by subst z;rw[BZ]at e;cases e;exact h rfl
 have keep:∀a,a≠p->(upd H p o) a=H a:=λa h=>aW h;have K4:∀a ys,bh X.K H a ys->bh X.K (upd H p o) a ys:=λa ys h=>by
  rcases h with (h|⟨o',h⟩)|h
  ·exact .inl (.inl (by rw[keep a (nO a _ h λz=>Pg _ z.symm)];exact h))
  ·exact .inl (.inr ⟨o',by rw[keep a (nO a _ h λz=>MD _ _ z.symm)];exact h⟩)
  ·exact .inr h
 have Sg:∀a (z:Nd),a≠p->fA H a z->fA (upd H p o) a z:=λa z ne h=>h.at λu e=>by rw[keep a ne];exact e
 have Ys:∀{τ1:Addr->Option bp} q q' a (z:Nd),nd X.K R (λ_=>False) τ1 H q a z .sc->∀τ2,nd X.K R (λ_=>False) τ2 (upd H p o) q' a z .sc:=λq q' a z h τ2=>by
  obtain⟨ys,rfl,h⟩:=h.Hj;exact h.elim (λ⟨o',w⟩=>.inl ⟨o',by rw[keep a (nO a _ w λz=>MD _ _ z.symm)];exact w⟩) .inr
 have Yu:∀q a ys f,q≠[i]->nd X.K R (λ_=>False) τ H q a ys f->nd X.K R (λ_=>False) (λa=>match τt a with|some q=>some (q++[m,i])|none=>τ a) (upd H p o) q a ys f:=λq a ys f hq h=>by
  cases f with
  |ow =>
   have ne:a≠p:=λz=>by
    subst z;have:=h.2.symm.trans ht;exact hq (aat this)
   refine⟨Sg a ys ne h.1,?_⟩;cases z:τt a with
   |none=>simp only[z];exact h.2
   |some k=>have:=(hτ a k z).1;rw[h.2]at this;cases this
  |fz=>exact⟨Sg a ys (nR a h.2) h.1,h.2⟩
  |al=>exact h.2.elim
  |sc=>exact Ys q q a ys h _
 have R9:(match τt p with|some q=>some (q++[m,i])|none=>τ p)=some [i]:=by
  cases z:τt p with
  |none=>exact ht
  |some k=>exact absurd rfl (nT p k z)
 have Yt:aG (bh X.K (upd H p o)) (nd X.K R (λ_=>False) (λa=>match τt a with|some q=>some (q++[m,i])|none=>τ a) (upd H p o)) [i] 0 xs' ds':=hb (aG.child K4 (λc n a ys f h=>Yu _ a ys f (λz=>by
  have:=aaW List.length z;simp at this) h) rs) (rp.imp (q:=[]) (q':=[m,i]) K4 λc a ys f h=>by
  cases f with
  |ow =>
   rw[List.append_nil]at h;exact⟨Sg a ys (nT a _ h.2) h.1,by simp only[h.2]⟩
  |fz=>exact⟨Sg a ys (nR a h.2) h.1,h.2⟩
  |al=>exact h.2.elim
  |sc=>exact Ys _ _ a ys h _)
 refine⟨λa=>match τt a with|some q=>some (q++[m,i])|none=>τ a,⟨by simp[Si.len],λj d' hj=>?_,λa ha=>?_,λa ha=>?_,Si.rf,λa q hq=>?_,λa q hq=>?_,?_⟩,R9,Yt⟩
 ·by_cases jq:j=i
  ·subst jq;rw[List.getElem?_set_self Yd]at hj;cases hj;exact⟨.ref p,hv,mk ⟨qY,R9⟩ Yt⟩
  ·rw[List.getElem?_set_ne (Ne.symm jq)]at hj;obtain⟨u,hu,ru⟩:=Si.rep j d' hj;refine⟨u,hu,ru.imp (q:=[j]) (q':=[j]) K4 λc a ys f h=>Yu _ a ys f (λz=>?_) h⟩;have:=aaW List.getLast? z;simp at this;exact jq this
 ·cases z:τt a with
  |none=>simp only[z];exact Si.rt a ha
  |some k=>exact absurd ha (hτ a k z).2.1
 ·rw[keep a (nR a ha)];exact Si.rh a ha
 ·by_cases Yr:a=p
  ·subst Yr;rw[aX];simp
  ·rw[keep a Yr];cases z:τt a with
   |none=>simp only[z]at hq;exact Si.th a q hq
   |some k=>exact(hτ a k z).2.2.2
 ·cases z:τt a with
  |none=>simp only[z]at hq;exact Si.t0 a q hq
  |some k=>exact(hτ a k z).2.2.1
 ·intro a u e;have ne:a≠p:=λz=>by subst z;rw[Si.t0 _ _ ht]at e;cases e
  rw[keep a ne];exact Si.same a u e
theorem SI.N6{i m:Nat}{v:V}{d:D}{p:Addr}{n:Nd}{o:HO}(Si:SI X F R τ ρ σ H)(hi:ρ[i]?=some (some d0))(hv:σ[i]?=some (some (.ref p)))(hp:fA H p n)(ht:τ p=some [i])
  (rs:aG (bh X.K H) (nd X.K R (λ_=>False) τ H) [i] 0 xs ds) (rk:iJ X R τ H v d) (qY:fA (upd H p o) p n')
  (mk:∀{N:gC},N [i] p n' .ow->aG (bh X.K (upd H p o)) N [i] 0 xs' ds'->Rep (bh X.K (upd H p o)) N [i] (.ref p) d1)
  (hb:∀{N:gC},aG (bh X.K (upd H p o)) N [i] 0 xs ds->Rep (bh X.K (upd H p o)) N (m::[i]) v d->aG (bh X.K (upd H p o)) N [i] 0 xs' ds') :
  ∃τ',SI X F R τ' (ρ.set i (some d1)) σ (upd H p o):=(Si.Uh hi hv hp ht rs rk qY mk hb).imp λ_ h=>h.1
theorem SI.put{i m:Nat}{v:V}{d:D}{g:af->af}{p:Addr}(Si:SI X F R τ ρ σ H)(hi:ρ[i]?=some (some (.lst .ow ds)))(hv:σ[i]?=some (some (.ref p)))(hp:H p=some (.lst xs))(ht:τ p=some [i])
  (rs:aG (bh X.K H) (nd X.K R (λ_=>False) τ H) [i] 0 xs ds) (rk:iJ X R τ H v d)
  (hb:∀{N:gC},aG (bh X.K (upd H p (.lst (g xs)))) N [i] 0 xs ds->Rep (bh X.K (upd H p (.lst (g xs)))) N (m::[i]) v d->aG (bh X.K (upd H p (.lst (g xs)))) N [i] 0 (g xs) ds') :
  ∃τ',SI X F R τ' (ρ.set i (some (.lst .ow ds'))) σ (upd H p (.lst (g xs))) :=
 Si.N6 (n:=.l xs) (n':=.l (g xs)) hi hv hp ht rs rk aX (λh r=>.lst h r) hb
end
section
variable {X:Cx}{S:Sx}{k:Nat}{F:ai}{Φ:bg}
set_option tactic.hygienic true in
theorem vg(L:Lk X S k Φ)(c:CE)(e:Expr)(h:bZ S c e=true):PE X e (tK X F Φ c):=by
 by_cases hv:∃i,c=.v i
 ·obtain⟨i,rfl⟩:=hv;obtain⟨x,hx,ha⟩:=bq h;obtain⟨p,rfl⟩:=jK hx;obtain⟨hb,h3⟩:=aC ha;obtain⟨h1,h2⟩:=aC hb;unfold nu at h3;simp only[Bool.and_eq_true,Bool.not_eq_true']at h3;refine PE.imp (hX (i:=i) (by rw[L.N];exact aab h1) (L.Rk h2) h3.1.1 h3.1.2) λσ H Q hq=>?_;obtain⟨R,τ,ρ,r,Si,ev,hq⟩:=hq;simp only[ju]at ev;split at ev
  ·rename_i d hd;split at ev
   ·cases ev;obtain⟨v,τ',hv,gq,rk⟩:=Si.move hd;exact⟨v,hv,hq v H R τ' (aK.refl H) (λ_ h=>h) gq rk⟩
   ·rename_i ho;cases ev;obtain⟨v,hv,rp⟩:=Si.rep i d hd;exact⟨v,hv,hq v H R τ (aK.refl H) (λ_ h=>h) Si (yW rp (by simpa using ho))⟩
  ·cases ev
 ·refine PE.imp (gv (F:=F) L c e h).1 λσ H Q hq=>?_;obtain⟨R,τ,ρ,r,Si,ev,hq⟩:=hq;have Wj:bd (bj Φ c ρ) (λd=>ok (keep c d ρ))=ok r:=by
   cases c<;>first|exact ev|exact absurd ⟨_,rfl⟩ hv
  obtain⟨d,ed,er⟩:=aH Wj;cases er;refine tD.intro Si ed λv H' e' r'=>?_;obtain⟨R',τ',h1,h2,h3⟩:=HN Si e' r';exact hq v H' R' τ' e' h1 h2 h3
end
structure Kp(R:ai)(H:Hp)(R':ai)(H':Hp):Prop where
 r:∀p,R p->R' p
 l:∀p (o:HO),R p->H p=some o->H' p=some o
 t:∀p xs,H p=some (.tup xs)->H' p=some (.tup xs)
 z:∀p o u,H p=some (.iK o u)->H' p=some (.iK o u)
theorem Kp.refl(R:ai)(H:Hp):Kp R H R H:=⟨λ_ h=>h,λ_ _ _ h=>h,λ_ _ h=>h,λ_ _ _ h=>h⟩
theorem Kp.of(e:aK H H')(h:∀p,R p->R' p):Kp R H R' H':=⟨h,λp xs _ h=>e _ _ h,λp xs h=>e _ _ h,λp o u h=>e _ _ h⟩
theorem Kp.trans{R2:Addr->Prop}(a:Kp R H R1 H1)(b:Kp R1 H1 R2 H2):Kp R H R2 H2 :=
 ⟨λp h=>b.r p (a.r p h),λp xs h e=>b.l p xs (a.r p h) (a.l p xs h e),λp xs h=>b.t p xs (a.t p xs h),λp o u h=>b.z p o u (a.z p o u h)⟩
theorem Kp.Rv(a:Kp R H R' H'){p:Addr}(h:bh K H p xs):bh K H' p xs:=by
 rcases h with (h|⟨o,h⟩)|h
 ·exact .inl (.inl (a.t p xs h))
 ·exact .inl (.inr ⟨o,a.z p o _ h⟩)
 ·exact .inr h
theorem Kp.nd{K:aq}{R R':ai}{H H':Hp}(a:Kp R H R' H'){q:bp}{p:Addr}{xs:Nd}{f:Fl}(h:DI.nd K R (λ_=>False) (λ_=>none) H q p xs f):DI.nd K R' (λ_=>False) (λ_=>none) H' q p xs f:=by
 cases f with
 |ow=>exact nomatch h.2
 |fz=>exact⟨h.1.at λo e=>a.l p o h.2 e,a.r p h.2⟩
 |al=>exact h.2.elim
 |sc =>
  obtain⟨ys,rfl,h⟩:=h.Hj;exact h.elim (λ⟨o,h⟩=>.inl ⟨o,a.z p o _ h⟩) .inr
theorem Kp.rep(a:Kp R H R' H'){k:bp}{v:V}{d:D}(h:Rep (bh K H) (DI.nd K R (λ_=>False) (λ_=>none) H) k v d):Rep (bh K H') (DI.nd K R' (λ_=>False) (λ_=>none) H') k v d :=
 h.imp (λ_ _ h=>a.Rv h) λ_ _ _ _ h=>a.nd h
theorem Kp.T4(a:Kp R H R' H'){k:bp}{n:Nat}{v:af}{d:aa}(h:aG (bh K H) (DI.nd K R (λ_=>False) (λ_=>none) H) k n v d):aG (bh K H') (DI.nd K R' (λ_=>False) (λ_=>none) H') k n v d :=
 h.imp (λ_ _ h=>a.Rv h) λ_ _ _ _ h=>a.nd h
def DF(X:Cx)(F:ai)(H':Hp)(v:V)(d:D):Prop:=∃τt:Addr->Option bp,(∀p q,τt p=some q->X.H₀ p=none)/\Rep (bh X.K H') (nd X.K (gP X F) (λ_=>False) τt H') [] v d
theorem iJ.ret{v:V}{d:D}(Si:SI X F R τ ρ σ H)(h:iJ X R τ H v d):DF X F H v d:=by
 obtain⟨τt,ht,rp⟩:=h;exact⟨τt,λp q e=>(ht p q e).2.2.1,rp.imp (λ_ _ h=>h) λ_ _ _ _ h=>h.mono (λh=>Si.rf _ h) id id⟩
def lN(X:Cx)(F:ai)(D:Ends)(R:ai)(H:Hp):Fo×aZ->Prop
 | (.nx,ρ')=>∀σ' H' R' τ',SI X F R' τ' ρ' σ' H'->Kp R H R' H'->D.nx σ' H'
 | (.rt d,_)=>∀v H',aK X.H₀ H'->DF X F H' v d->D.rt v H'
def qp(X:Cx)(F:ai)(Φ:bg)(c:CS):TS:=λD σ H=>∃R τ ρ r,SI X F R τ ρ σ H/\i0 Φ c ρ=ok r/\lN X F D R H r
def oN(X:Cx)(F:ai)(Φ:bg)(cs:ao):TS:=λD σ H=>∃R τ ρ r,SI X F R τ ρ σ H/\bF Φ cs ρ=ok r/\lN X F D R H r
noncomputable def Kj(sc:Scope)(x:Str):Bool:=decide (sc.names.lookup x=some .local)||decide (sc.names.lookup x=some .cell)
def o3(S:Sx)(i:Nat):Expr->Bool
 |.Name x _=>decide (S.N[i]?=some x)&&Kj S.sc x
 |_=>false
def Xv:Expr->Bool
 |.Name x _=>nu x
 |_=>true
def De(S:Sx):aQ->au->Bool
 |[],es=>match es with
  |[]=>true
  |_::_=>false
 |i::is,es=>match es with
  |[]=>false
  |e::es=>o3 S i e&&De S is es
def zf(S:Sx):Tg->Expr->Bool
 |.nm i,e=>o3 S i e
 |.tp is,e=>bt (yi e) λes=>De S is es
noncomputable def iW(e:Expr):Bool:=decide (e.ctorIdx=8)
noncomputable def isTup:Expr->Bool
 |.Tuple _ _ _=>true
 |_=>false
noncomputable def TF(S:Sx)(tg v:Expr):Bool:=match tg,v with
 |.Name x p,.ListComp _ _ sc pos=>(S.sc.names.lookup x==some .local)&&(p.line==pos.line)&&!(sc.names.any λ(n,k)=>n==x&&(k==.local||k==.cell))
 |_,_=>false
noncomputable def IQ(e:Expr):Option (Str×Pos):=if h:e.ctorIdx=23 then Expr.Name.elim (motive_1:=λ_=>Option (Str×Pos)) e h (λx p=>some (x,p))else none
theorem wF{e:Expr}{x:Str}{p:Pos}(h:IQ e=some (x,p)):e=.Name x p:=by
 obtain⟨k,h⟩:=dI h;exact Expr.Name.elim (motive_1:=λe=>∀k:e.ctorIdx=23,Expr.Name.elim (motive_1:=λ_=>Option (Str×Pos)) e k (λx p=>some (x,p))=some (x,p)->e=.Name x p) e k (λ_ _ _ h=>by cases h;rfl) k h
def Dd(S:Sx)(i j:Nat)(tg v:Expr):Bool :=
 bt (yi tg) λts=>bt (two ts) λt=>bt (IQ t.1) λx=>bt (IQ t.2) λy=>bt (yi v) λvs=>bt (two vs) λw =>
  decide (S.N[i]?=some x.1)&&decide (S.N[j]?=some y.1)&&decide (i≠j)&&decide (S.sc.names.lookup x.1=some .local)&&decide (S.sc.names.lookup y.1=some .local)&&decide (x.1≠y.1) &&
   decide (x.2.line=y.2.line)&&!([w.1,w.2].all (foldedForSure 8))&&!([w.1,w.2].all (constantsAlone 8))&&decide (([w.1,w.2].any λe=>match e with|.Starred ..=>true|_=>false)=false)
def QO(S:Sx)(it:CI)(e:Expr):Bool:=match it with
 |.lW a=>bt (eX e) λw=>decide (w.1=("range" : Str))&&gz S.sc w.1&&decide (w.1∈S.bl)&&bt (one w.2) λy=>bZ S a y
 |.lV a b=>bt (eX e) λw=>decide (w.1=("range" : Str))&&gz S.sc w.1&&decide (w.1∈S.bl)&&bt (two w.2) λy=>bZ S a y.1&&bZ S b y.2
 |.seq a=>bZ S a e&&pK e
 |.JQ p es=>RL e&&bt (S.px.pi p S.sc S.bl e) λxs=>bG S es xs
noncomputable def Bj:CI->Bool
 |.JQ p _=>decide (1100<=p)
 |_=>true
noncomputable def Ee(s:Stmt):Option (au×Expr):=if h:s.ctorIdx=5 then Stmt.Assign.elim (motive_2:=λ_=>Option (au×Expr)) s h (λts v _=>some (ts,v))else none
theorem mi{s:Stmt}{ts:au}{v:Expr}(h:Ee s=some (ts,v)):∃p,s=.Assign ts v p:=by
 obtain⟨k,h⟩:=dI h;exact Stmt.Assign.elim (motive_2:=λs=>∀k:s.ctorIdx=5,Stmt.Assign.elim (motive_2:=λ_=>Option (au×Expr)) s k (λts v _=>some (ts,v))=some (ts,v)->∃p,s=.Assign ts v p) s k (λ_ _ _ _ h=>by cases h;exact⟨_,rfl⟩) k h
noncomputable def M8(s:Stmt):Option (Option Expr):=if h:s.ctorIdx=3 then Stmt.Return.elim (motive_2:=λ_=>Option (Option Expr)) s h (λv _=>some v)else none
theorem wD{s:Stmt}{v:Option Expr}(h:M8 s=some v):∃p,s=.Return v p:=by
 obtain⟨k,h⟩:=dI h;exact Stmt.Return.elim (motive_2:=λs=>∀k:s.ctorIdx=3,Stmt.Return.elim (motive_2:=λ_=>Option (Option Expr)) s k (λv _=>some v)=some v->∃p,s=.Return v p) s k (λ_ _ _ h=>by cases h;exact⟨_,rfl⟩) k h
noncomputable def Rl(s:Stmt):Option Expr:=if h:s.ctorIdx=24 then Stmt.Expr.elim (motive_2:=λ_=>Option Expr) s h (λv _=>some v)else none
theorem ql{s:Stmt}{v:Expr}(h:Rl s=some v):∃p,s=.Expr v p:=by
 obtain⟨k,h⟩:=dI h;exact Stmt.Expr.elim (motive_2:=λs=>∀k:s.ctorIdx=24,Stmt.Expr.elim (motive_2:=λ_=>Option Expr) s k (λv _=>some v)=some v->∃p,s=.Expr v p) s k (λ_ _ _ h=>by cases h;exact⟨_,rfl⟩) k h
noncomputable def S0(s:Stmt):Option (Expr×Operator×Expr):=if h:s.ctorIdx=7 then Stmt.AugAssign.elim (motive_2:=λ_=>Option (Expr×Operator×Expr)) s h (λo p v _=>some (o,p,v))else none
theorem Rm{s:Stmt}{v:Expr}{p:Operator}(h:S0 s=some (o,p,v)):∃q,s=.AugAssign o p v q:=by
 obtain⟨k,h⟩:=dI h;exact Stmt.AugAssign.elim (motive_2:=λs=>∀k:s.ctorIdx=7,Stmt.AugAssign.elim (motive_2:=λ_=>Option (Expr×Operator×Expr)) s k (λo p v _=>some (o,p,v))=some (o,p,v)->∃q,s=.AugAssign o p v q) s k (λ_ _ _ _ _ h=>by cases h;exact⟨_,rfl⟩) k h
noncomputable def IT(s:Stmt):Option (Expr×aS×aS):=if h:s.ctorIdx=12 then Stmt.If.elim (motive_2:=λ_=>Option (Expr×aS×aS)) s h (λt x y _=>some (t,x,y))else none
theorem wH{s:Stmt}{t:Expr}{x y:aS}(h:IT s=some (t,x,y)):∃q,s=.If t x y q:=by
 obtain⟨k,h⟩:=dI h;exact Stmt.If.elim (motive_2:=λs=>∀k:s.ctorIdx=12,Stmt.If.elim (motive_2:=λ_=>Option (Expr×aS×aS)) s k (λt x y _=>some (t,x,y))=some (t,x,y)->∃q,s=.If t x y q) s k (λ_ _ _ _ _ h=>by cases h;exact⟨_,rfl⟩) k h
noncomputable def M7(s:Stmt):Option (Expr×aS×aS):=if h:s.ctorIdx=11 then Stmt.While.elim (motive_2:=λ_=>Option (Expr×aS×aS)) s h (λt x y _=>some (t,x,y))else none
theorem Ea{s:Stmt}{t:Expr}{x y:aS}(h:M7 s=some (t,x,y)):∃q,s=.While t x y q:=by
 obtain⟨k,h⟩:=dI h;exact Stmt.While.elim (motive_2:=λs=>∀k:s.ctorIdx=11,Stmt.While.elim (motive_2:=λ_=>Option (Expr×aS×aS)) s k (λt x y _=>some (t,x,y))=some (t,x,y)->∃q,s=.While t x y q) s k (λ_ _ _ _ _ h=>by cases h;exact⟨_,rfl⟩) k h
noncomputable def IU(s:Stmt):Option (Expr×Expr×aS×aS):=if h:s.ctorIdx=9 then Stmt.For.elim (motive_2:=λ_=>Option (Expr×Expr×aS×aS)) s h (λtg it x y _=>some (tg,it,x,y))else none
theorem Ec{s:Stmt}{it:Expr}{x y:aS}(h:IU s=some (tg,it,x,y)):∃q,s=.For tg it x y q:=by
 obtain⟨k,h⟩:=dI h;exact Stmt.For.elim (motive_2:=λs=>∀k:s.ctorIdx=9,Stmt.For.elim (motive_2:=λ_=>Option (Expr×Expr×aS×aS)) s k (λtg it x y _=>some (tg,it,x,y))=some (tg,it,x,y)->∃q,s=.For tg it x y q) s k (λ_ _ _ _ _ _ h=>by cases h;exact⟨_,rfl⟩) k h
noncomputable def z5(e:Expr):Option (Expr×Str×Pos):=if h:e.ctorIdx=20 then Expr.Attribute.elim (motive_1:=λ_=>Option (Expr×Str×Pos)) e h (λo a p=>some (o,a,p))else none
theorem sF{e:Expr}{a:Str}{p:Pos}(h:z5 e=some (o,a,p)):e=.Attribute o a p:=by
 obtain⟨k,h⟩:=dI h;exact Expr.Attribute.elim (motive_1:=λe=>∀k:e.ctorIdx=20,Expr.Attribute.elim (motive_1:=λ_=>Option (Expr×Str×Pos)) e k (λo a p=>some (o,a,p))=some (o,a,p)->e=.Attribute o a p) e k (λ_ _ _ _ h=>by cases h;rfl) k h
noncomputable def uX(e:Expr):Option (Expr×au×List Keyword×Pos):=if h:e.ctorIdx=16 then Expr.Call.elim (motive_1:=λ_=>Option (Expr×au×List Keyword×Pos)) e h (λf as ks p=>some (f,as,ks,p))else none
theorem o8{e f:Expr}{as:au}{ks:List Keyword}{p:Pos}(h:uX e=some (f,as,ks,p)):e=.Call f as ks p:=by
 obtain⟨k,h⟩:=dI h;exact Expr.Call.elim (motive_1:=λe=>∀k:e.ctorIdx=16,Expr.Call.elim (motive_1:=λ_=>Option (Expr×au×List Keyword×Pos)) e k (λf as ks p=>some (f,as,ks,p))=some (f,as,ks,p)->e=.Call f as ks p) e k (λ_ _ _ _ _ h=>by cases h;rfl) k h
noncomputable def isNil{α:Type}:List α->Bool
 |[]=>true
 |_::_=>false
theorem kC{α:Type}{l:List α}(h:isNil l=true):l=[]:=by cases l<;>first|rfl|cases h
noncomputable def FL:Stmt->Bool
 |.Raise _ _ _=>true
 |_=>false
noncomputable def KC(s:Stmt):Bool:=decide (s.ctorIdx=25)
theorem Mx{s:Stmt}(h:KC s=true):∃p,s=.Pass p:=Stmt.Pass.elim (motive_2:=λs=>∃p,s=.Pass p) s (aab h) λp=>⟨p,rfl⟩
noncomputable def O5(s:Stmt):Bool:=decide (s.ctorIdx=26)
theorem O3{s:Stmt}(h:O5 s=true):∃p,s=.Break p:=Stmt.Break.elim (motive_2:=λs=>∃p,s=.Break p) s (aab h) λp=>⟨p,rfl⟩
noncomputable def UU(s:Stmt):Bool:=decide (s.ctorIdx=27)
theorem R4{s:Stmt}(h:UU s=true):∃p,s=.Continue p:=Stmt.Continue.elim (motive_2:=λs=>∃p,s=.Continue p) s (aab h) λp=>⟨p,rfl⟩
theorem xU{i:Nat}{e:Expr}(h:o3 S i e=true):∃x p,e=.Name x p:=by
 cases e<;>first|exact⟨_,_,rfl⟩|exact(aag h).elim
theorem yN{e:Expr}(h:iW e=true):∃x g sc p,e=.ListComp x g sc p:=Expr.ListComp.elim (motive_1:=λe=>∃x g sc p,e=.ListComp x g sc p) e (aab h) λ_ _ _ _=>⟨_,_,_,_,rfl⟩
mutual
noncomputable def zg(S:Sx):CS->Stmt->Bool
 |.asg t e,s0=>bt (Ee s0) λz=>bt (one z.1) λtg=>bZ S e z.2&&zf S t tg&&!(isTup z.2&&isTup tg)&&(!iW z.2||isNm tg)
 |.par i j a b,s0=>bt (Ee s0) λz=>bt (one z.1) λtg=>bZ S (.tup [a,b]) z.2&&Dd S i j tg z.2
 |.ret e,s0=>bt (M8 s0) λz=>bt z λv=>bZ S e v
 |.rs _,s0=>FL s0
 |.mut p i es,s0=>bt (S.px.pm p S.sc S.bl s0) λz=>o3 S i z.1&&Xv z.1&&bG S es z.2
 |.app i e,s0=>bt (Rl s0) λc=>bt (uX c) λz=>isNil z.2.2.1&&bt (z5 z.1) λa=>decide (a.2.1=("append" : Str))&&o3 S i a.1&&Xv a.1&&(a.2.2.endLine==z.2.2.2.line)&&bt (one z.2.1) λv=>bZ S e v
 |.ex e,s0=>bt (Rl s0) λv=>bZ S e v&&!iW v
 |.ifs c a b,s0=>bt (IT s0) λz=>bZ S c z.1&&ja S a z.2.1&&ja S b z.2.2
 |.G7 c b,s0=>bt (M7 s0) λz=>isNil z.2.2&&bZ S c z.1&&ja S b z.2.1
 |.fr t it b,s0=>bt (IU s0) λz=>isNil z.2.2.2&&zf S t z.1&&QO S it z.2.1&&(iV z.1||Bj it)&&ja S b z.2.2.1
noncomputable def ja(S:Sx):ao->aS->Bool
 |[],ss=>match ss with
  |[]=>true
  |_::_=>false
 |c::cs,ss=>match ss with
  |[]=>false
  |s::ss=>zg S c s&&ja S cs ss
end
structure DG(px:Px)(Φ:bg):Prop where
 m:∀(X:Cx) (sc:Scope) (bl:ag) (k:Nat),PX X sc bl k->X.N.Nodup->(∀x,X.fn x=true)->∀(p:Nat) (st:Stmt) (x:Str) (pos:Pos) (args:au),px.pm p sc bl st=some (.Name x pos,args)->∀(i:Nat),X.N[i]?=some x->L2.Loc X.env.scope x->PE X (.Name x pos) (mW i) ->
  ∀(F:ai) (cs:az),oH X F Φ cs args->PS X st (qp X F Φ (.mut p i cs))
structure oI(X:Cx)(S:Sx)(k:Nat)(Φ:bg):Prop extends Lk X S k Φ where
 oX:∀x,X.fn x=true
 px:PassesOwn (model X.prog X.w) X.A X.env X.xe
 fk:S.sc.kind=.function
 pm:DG S.px Φ
section
variable {X:Cx}{S:Sx}{k:Nat}{F:ai}{Φ:bg}
theorem oI.loc(L:oI X S k Φ){x:Str}(h:Kj S.sc x=true):L2.Loc X.env.scope x:=by
 unfold L2.Loc;rw[L.sc];unfold Kj at h;rw[Bool.or_eq_true]at h;exact h.imp aab aab
theorem Hg(L:oI X S k Φ){x:Str}{p:Pos}{l:Nat}{elt:Expr}{gens:List Comprehension}{sc:Scope}:swapsWith (.ListComp elt gens sc pos) (some (.Name x p)) l X.env=pure (TF S (.Name x p) (.ListComp elt gens sc pos)):=by
 have hb:X.env.blockKind=.function:=by unfold Env.blockKind;rw[L.sc,L.fk];rfl
 have hk:(X.env.kindOf x==some .local)=(S.sc.names.lookup x==some .local):=by
  unfold Env.kindOf;rw[L.sc]
 unfold swapsWith TF;simp only[hb,hk];rfl
theorem kK{c:CE}{e:Expr}(h:bZ S c e=true)(hc:iW e=false)(t:Option Expr)(l:Nat)(env:Env):swapsWith e t l env=pure false:=by
 cases e<;>first|rfl | (cases hc;done) | (cases c<;>exact(aag h).elim)
def Sj:aQ->G1
 |[]=>La
 |i::is=>Cw (nQ i) (Sj is)
theorem AW(L:oI X S k Φ){i:Nat}{e:Expr}(h:o3 S i e=true):PG X e (nQ i):=by
 cases e<;>try (exact(aag h).elim;done)
 replace h:=aC h;exact qJ L.nd (by rw[L.N];exact aab h.1) (L.loc h.2) (.inl (L.oX _))
theorem Fm{i:Nat}{e:Expr}(h:o3 S i e=true)(es:au)(env:Env):assignEach (e::es) env=(false,assign e env)::assignEach es env:=by
 cases e<;>first|rfl | (exact(aag h).elim;done)
theorem AV(L:oI X S k Φ):∀{is:aQ} {es:au},De S is es=true->MW X es (Sj is)/\(assignEach es X.env).length=is.length/\(assignEach es X.env).findIdx? (·.1)=none
 |[],[],_=>⟨wZ,rfl,rfl⟩
 |[],_::_,h=>by exact(aag h).elim
 |_::_,[],h=>by exact(aag h).elim
 |i::is,e::es,h=>by
  replace h:=aC h;obtain⟨h1,h2,h3⟩:=AV L h.2;have he:=Fm h.1 es X.env;refine⟨tu (AW L h.1) h1 (by rw[he];rfl),by rw[he];simp[h2],?_⟩;rw[he,List.findIdx?_cons];simp[h3]
theorem sS{H:Hp}{R:ai}{Q:St->Hp->Prop}:∀{is:aQ} {vs:af} {ds:aa} {kp:bp} {n:Nat} {σ:St} {τ:Addr->Option bp} {ρ ρ':aZ},aG (bh X.K H) (nd X.K R (λ_=>False) (λ_=>none) H) kp n vs ds->SI X F R τ ρ σ H->gK is ds ρ=ok ρ' ->
  (∀σ' τ',SI X F R τ' ρ' σ' H->Q σ' H)->Sj is vs σ H Q
 |[],_,_,_,_,σ,τ,_,_,.nil,Si,e,hq=>by
  cases e;exact⟨rfl,hq σ τ Si⟩
 |[],_,_,_,_,_,_,_,_,.cons _ _,_,e,_=>by cases e
 |_::_,_,_,_,_,_,_,_,_,.nil,_,e,_=>by cases e
 |i::is,_,_,_,_,σ,τ,ρ,_,.cons (v:=v) (d:=d) h t,Si,e,hq=>by
  change (if _ then _ else _)=_ at e;split at e
  ·rename_i hi;obtain⟨τ',gq⟩:=Si.set (i:=i) (mv (τ':=τ) (Rep.qQ h)) hi;exact⟨_,_,rfl,sS t gq e hq⟩
  ·cases e
noncomputable def Ae(n:Nat)(τt:Addr->Option bp):Addr->Option bp:=λp=>match τt p with|some q=>if q.getLast?=some n then some q.dropLast else none|none=>none
noncomputable def Ad(n:Nat)(τt:Addr->Option bp):Addr->Option bp:=λp=>match τt p with|some q=>if q.getLast?=some n then none else some q|none=>none
theorem Ek{n:Nat}{p:Addr}{q:bp}(h:Ae n τt p=some q):τt p=some (q++[n]):=by
 unfold Ae at h;cases e:τt p with
 |none=>rw[e]at h;cases h
 |some k =>
  rw[e]at h;by_cases c:k.getLast?=some n
  ·simp only[c,if_true]at h;cases h;obtain⟨ys,rfl⟩:=List.getLast?_eq_some_iff.mp c;simp
  ·simp only[c,if_false]at h;cases h
theorem Ej{n:Nat}{p:Addr}{q:bp}(h:Ad n τt p=some q):τt p=some q/\q.getLast?≠some n:=by
 unfold Ad at h;cases e:τt p with
 |none=>rw[e]at h;cases h
 |some k =>
  rw[e]at h;by_cases c:k.getLast?=some n
  ·simp only[c,if_true]at h;cases h
  ·simp only[c,if_false]at h;cases h;exact⟨rfl,c⟩
theorem pC{H:Hp}{R:ai}{τt:Addr->Option bp}{n:Nat}:∀{vs:af} {ds:aa} {m:Nat},n<m->aG (bh X.K H) (nd X.K R (λ_=>False) τt H) [] m vs ds->aG (bh X.K H) (nd X.K R (λ_=>False) (Ad n τt) H) [] m vs ds
 |_,_,_,_,.nil=>.nil
 |_,_,m,hm,.cons h t=>.cons (h.imp (q':=[m]) (λ_ _ h=>h) λc p xs f h=>by
   cases f with
   |ow =>
    refine⟨h.1,?_⟩;have e:=h.2;unfold Ad;rw[e];have:(c++[m]).getLast?≠some n:=by rw[List.getLast?_append];simp;left
    simp only[this,if_false]
   |fz=>exact h
   |al=>exact h
   |sc=>exact h) (pC (by left) t)
theorem yu{H:Hp}{R:ai}{Q:St->Hp->Prop}:∀{is:aQ} {vs:af} {ds:aa} {n:Nat} {σ:St} {τ τt:Addr->Option bp} {ρ ρ':aZ},(∀p q,τt p=some q->τ p=none/\¬ R p/\X.H₀ p=none/\H p≠none)->aG (bh X.K H) (nd X.K R (λ_=>False) τt H) [] n vs ds->SI X F R τ ρ σ H->gK is ds ρ=ok ρ' ->
  (∀σ' τ',SI X F R τ' ρ' σ' H->Q σ' H)->Sj is vs σ H Q
 |[],_,_,_,σ,τ,_,_,_,_,.nil,Si,e,hq=>by
  cases e;exact⟨rfl,hq σ τ Si⟩
 |[],_,_,_,_,_,_,_,_,_,.cons _ _,_,e,_=>by cases e
 |_::_,_,_,_,_,_,_,_,_,_,.nil,_,e,_=>by cases e
 |i::is,_,_,n,σ,τ,τt,ρ,_,ht,.cons (v:=v) (d:=d) h t,Si,e,hq=>by
  change (if _ then _ else _)=_ at e;split at e
  ·rename_i hi;have gq:=Si.NI (i:=i) (τt:=Ae n τt) (λp q hp=>ht p _ (Ek hp)) (h.imp (q':=[]) (λ_ _ h=>h) λc p xs f h=>by
    cases f with
    |ow =>
     refine⟨h.1,?_⟩;have e:=h.2;unfold Ae;rw[e,List.append_nil];simp
    |fz=>exact h
    |al=>exact h
    |sc=>exact h) hi
   refine⟨_,_,rfl,yu (τt:=Ad n τt) (λp q hp=>?_) (pC (aaR n) t) gq e hq⟩;obtain⟨h1,h2⟩:=Ej hp;obtain⟨g1,g2⟩:=ht p q h1;refine⟨?_,g2⟩;unfold vd Ae;rw[h1];simp only[h2,if_false];exact g1
  ·cases e
set_option tactic.hygienic true in
theorem Ac(L:oI X S k Φ){t:Tg}(h:zf S t tg=true):∃g,PG X tg g/\∀(v:V) (σ:St) (H:Hp) (Q:St->Hp->Prop) (R:ai) (τ:Addr->Option bp) (ρ ρ':aZ) (d:D),SI X F R τ ρ σ H->iJ X R τ H v d->cK t d ρ=ok ρ' ->
  (∀σ' τ',SI X F R τ' ρ' σ' H->Q σ' H)->g v σ H Q:=by
 cases t with
 |nm i =>
  refine⟨nQ i,AW L h,λv σ H Q R τ ρ ρ' d Si rk e hq=>?_⟩;simp only[cK]at e;split at e
  ·rename_i hi;cases e;obtain⟨τ',gq⟩:=Si.set rk hi;exact hq _ τ' gq
  ·cases e
 |tp is =>
  obtain⟨es,hx,ha⟩:=bq h;obtain⟨nn,pp,rfl⟩:=kf hx;obtain⟨h1,h2,h3⟩:=AV L ha;refine⟨_,AU L.calm h1 h2 h3,λv σ H Q R τ ρ ρ' d Si rk e hq=>?_⟩;cases d<;>try (simp[cK]at e;done)
  rename_i ds;simp only[cK]at e;split at e
  ·cases e
  ·rename_i ho;obtain⟨τt,ht,rp⟩:=rk;cases rp with
   | @tup _ p xs _ hp rs =>
    have yy:aG (bh X.K H) (nd X.K R (λ_=>False) (λ_=>none) H) [] 0 xs ds:=aG.without (P:=eG) (λ_ _ h=>h) (λk k' p xs f hf h=>by
     cases f with
     |ow=>cases hf
     |fz=>exact h
     |al=>exact h.2.elim
     |sc=>exact h) rs (by simpa using ho) _ _
    refine⟨p,xs,rfl,hp,?_,sS yy Si e hq⟩;rw[rs.length];have:∀(is:aQ) (ds:aa) (ρ ρ':aZ),gK is ds ρ=ok ρ'->ds.length=is.length:=by
     intro is;induction is with
     |nil=>intro ds ρ ρ' e;cases ds with|nil=>rfl|cons _ _=>cases e
     |cons i is ih=>intro ds ρ ρ' e;cases ds with
      |nil=>cases e
      |cons d ds =>
       change (if _ then _ else _)=_ at e;split at e
       ·simp[ih ds _ _ e]
       ·cases e
    exact this _ _ _ _ e
end
section
variable {X:Cx}{S:Sx}{k:Nat}{F:ai}{Φ:bg}
theorem Ai(L:oI X S k Φ){t:Tg}{e:CE}{v:Expr}(he:bZ S e v=true)(ht:zf S t tg=true)(hp:(isTup v&&isTup tg)=false)(KI:swapsWithSole [tg] v pos.line X.env=pure false):PS X (.Assign [tg] v pos) (qp X F Φ (.asg t e)):=by
 obtain⟨g,hg,B8⟩:=Ac (F:=F) L ht;have G_:(∃x p,tg=.Name x p)\/∃es n p,tg=.Tuple es n p:=by
  cases t with
  |nm i=>cases tg<;>first|exact .inl ⟨_,_,rfl⟩|exact(aag ht).elim
  |tp is=>cases tg<;>first|exact .inr ⟨_,_,_,rfl⟩|exact(aag ht).elim
 have each:(assignEach [tg] X.env).map (·.2)=[assign tg X.env]:=by
  rcases G_ with ⟨x,p,rfl⟩|⟨es,n,p,rfl⟩<;>rfl
 have hw:swappedStores [tg] v X.env=pure none:=by
  rcases G_ with ⟨x,p,rfl⟩|⟨es,n,p,rfl⟩
  ·first|rfl | (cases v<;>rfl)
  ·cases v<;>first|rfl|exact absurd hp (by simp[isTup])
 refine PS.imp (JN (vg (F:=F) L.toLk e v he) hg KI hw each) λD σ H hq=>?_;obtain⟨R,τ,ρ,r,Si,ev,hq⟩:=hq;obtain⟨r1,zL,ev⟩:=aH ev;obtain⟨ρ',eρ,ev⟩:=aH ev;cases ev;exact⟨R,τ,ρ,r1,Si,zL,λv H' R' τ' es hR gq rk=>B8 v σ H' _ R' τ' r1.2 ρ' r1.1 gq rk eρ λσ' zO Mf=>hq σ' H' R' zO Mf (Kp.of es hR)⟩
theorem Es(L:oI X S k Φ){i n:Nat}{t:Tg}{ik:IK}{x:Str}{p NF:Pos}{gens:List Comprehension}{sc:Scope}
  (he:bZ S (.comp n t caps ik es bL elt) (.ListComp jv gens sc pos)=true) (hn:o3 S i (.Name x p)=true) (KI:swapsWith (.ListComp jv gens sc pos) (some (.Name x p)) NF.line X.env=pure true) :
  PS X (.Assign [.Name x p] (.ListComp jv gens sc pos) NF) (qp X F Φ (.asg (.nm i) (.comp n t caps ik es bL elt))):=by
 intro pins s σ H D I hq;obtain⟨R,τ,ρ,r,Si,ev,hq⟩:=hq;obtain⟨r1,zL,ev⟩:=aH ev;obtain⟨ρ',eρ,ev⟩:=aH ev;cases ev;have zL:bd (bj Φ (.comp n t caps ik es bL elt) ρ) (λd=>ok (keep (.comp n t caps ik es bL elt) d ρ))=ok r1:=zL;obtain⟨d,ed,zL⟩:=aH zL;cases zL;have hg:=AW L hn;rw[exec_Assign_Name_used _ _ _ _ KI];refine aaa (ach (aaa ?_));obtain⟨⟨e0,g0,s0⟩,hv0,MA⟩:=bq he;cases hv0;obtain⟨⟨target,iter,ifs,a⟩,zI,hz⟩:=bq MA;obtain rfl:gens=_:=cE zI;obtain⟨hz,h6⟩:=aC hz;obtain⟨hz,h5⟩:=aC hz;obtain⟨hz,h4⟩:=aC hz;obtain⟨hz,h3⟩:=aC hz;obtain⟨hz,h2⟩:=aC hz;obtain⟨hz,h1⟩:=aC hz;obtain rfl:a=0:=aab hz;have hC:=uu (aab h3) h4 (λ(X':Cx) (F':ai) (L':Lk X' (S.inner target caps sc) k Φ)=>iM bL X' _ F' L' ifs h4);have run:wpAny (model X.prog X.w) X.A (comprehension (.ListComp jv [⟨target,iter,ifs,0⟩] sc pos) sc X.env (firstIterPos [⟨target,iter,ifs,0⟩] pos) (newList []) false (eval iter X.env) (some (assign (.Name x p) X.env))) (λ_ s'=>SP X pins D .next s') X.xe s:=by
  refine uw (F:=F) (k:=k) L.toLk (p8 h1) h2 (λX' F' L'=>(gv (F:=F') L' elt jv h5).1) hC ?_ (use:=some (assign (.Name x p) X.env)) (Post:=λ_ s'=>SP X pins D .next s') I Si ed ?_
  ·exact BI L.toLk (λl=>jm (F:=F) L.toLk es l) (λl=>iM es X S F L.toLk l) (λl=>mZ L.toLk es l) h6
  ·intro acc C H1 s1 m zF hc IX sm rt;obtain⟨c1,c2,c3,c4,c5⟩:=hc;obtain⟨R',τ',hR,gq,rk⟩:=HN (e:=.comp n t caps ik es bL elt) Si sm rt;have I1:Inv X pins σ H1 s1:=IX s1.heap (.refl ..);obtain⟨oC,esC,epC,hoC,Ym,hrC⟩:=zF;have cfs:C∉X.fs:=λz=>by
    obtain⟨_,o,ho,_⟩:=I1.ok.jP.mem z;exact absurd (aap (aaj ho) c2) (aay _)
   have I2:Inv X ((C,oC)::pins) σ H1 s1:=I1.jn λq hq=>by
    rcases List.mem_cons.mp hq with rfl|hq
    ·exact⟨hoC,c5,c1,cfs,λv z=>by rw[Ym]at z;cases z⟩
    ·exact I1.pin q (aaq _ hq)
   simp only[cK]at eρ;split at eρ
   ·rename_i hi;cases eρ;obtain⟨τ2,yd⟩:=gq.set rk hi;show wpAny _ _ (assign (.Name x p) X.env (.ref acc)) _ _ _;refine aav (hg ((C,oC)::pins) s1 σ H1 (.ref acc) (.ref acc) (λσ' H'=>σ'=σ.set i (some (.ref acc))/\H'=H1) I2 rfl ⟨rfl,rfl⟩) (λ_ s2 h2=>?_) λ_ _ z=>z;obtain⟨σ',H',I3,rfl,rfl⟩:=h2;have hC3:=(I3.pin (C,oC) (aaq _ aai)).1;refine⟨m,⟨oC,esC,epC,hC3,Ym,hrC⟩,λh' BU=>?_⟩;have I4:Inv X pins (σ.set i (some (.ref acc))) H' s2:=I3.jn λq hq=>I3.pin q (aaq _ (aal _ hq));have I5:=I4.turned (t':=s2.toks) (h':=h') (it:=C) (λb o hb e=>(BU.2 b hb).trans e) c5 c1 (.inr c2) c3 c4;exact⟨_,H',I5,hq _ H' R' τ2 yd (Kp.of sm hR)⟩
   ·cases eρ
 exact aaa (aav run (λ_ s' h=>aah (aah h)) λ_ _ z=>z)
theorem Jm(L:oI X S k Φ){e:CE}{v:Expr}(he:bZ S e v=true):PS X (.Return (some v) pos) (qp X F Φ (.ret e)):=by
 refine PS.imp (kY (vg (F:=F) L.toLk e v he)) λD σ H hq=>?_;obtain⟨R,τ,ρ,r,Si,ev,hq⟩:=hq;obtain⟨r1,zL,ev⟩:=aH ev;cases ev;exact⟨R,τ,ρ,r1,Si,zL,λv H' R' τ' es hR gq rk=>hq v H' gq.same (rk.ret gq)⟩
theorem ND(L:oI X S k Φ){e:CE}{v:Expr}(he:bZ S e v=true)(hnc:iW v=false):PS X (.Expr v pos) (qp X F Φ (.ex e)):=by
 refine PS.imp (kn (gv (F:=F) L.toLk e v he).1 (kK he hnc _ _ _)) λD σ H hq=>?_;obtain⟨R,τ,ρ,r,Si,ev,hq⟩:=hq;obtain⟨d,ed,ev⟩:=aH ev;cases ev;exact tD.intro Si ed λv H' es rv=>hq σ H' R τ (Si.go es) (Kp.of es λ_ h=>h)
theorem lN.from{D:Ends}{r:Fo×aZ}(h:lN X F D R H r)(kp:Kp R H R1 H1):lN X F D R1 H1 r:=by
 obtain⟨fo,ρ'⟩:=r;cases fo with
 |nx=>exact λσ' H' R' τ' Si k2=>h σ' H' R' τ' Si (kp.trans k2)
 |rt d=>exact h
theorem NC(L:oI X S k Φ){c:CE}{a b:ao}{t:Expr}{x y:aS}(hc:bZ S c t=true)(ha:ir X x (oN X F Φ a))(hb:ir X y (oN X F Φ b)):PS X (.If t x y pos) (qp X F Φ (.ifs c a b)):=by
 refine PS.imp (wW (gv (F:=F) L.toLk c t hc).2 ha hb) λD σ H hq=>?_;obtain⟨R,τ,ρ,r,Si,ev,hq⟩:=hq;obtain⟨w,ew,ev⟩:=aH ev;refine⟨R,τ,ρ,w,Si,ew,λH1 e1=>?_⟩;cases w with
 |true=>rw[if_pos rfl]at ev ⊢;exact⟨R,τ,ρ,r,Si.go e1,ev,hq.from (Kp.of e1 λ_ h=>h)⟩
 |false=>rw[if_neg (by simp)]at ev ⊢;exact⟨R,τ,ρ,r,Si.go e1,ev,hq.from (Kp.of e1 λ_ h=>h)⟩
theorem Ah(L:oI X S k Φ){c:CE}{b:ao}{t:Expr}{x:aS}(hc:bZ S c t=true)(hb:ir X x (oN X F Φ b)):PS X (.While t x [] pos) (qp X F Φ (.G7 c b)):=by
 refine PS.imp (AM L.px (gv (F:=F) L.toLk c t hc).2 hb) λD σ H hq=>?_;obtain⟨R,τ,ρ,r,Si,ev,hq⟩:=hq;obtain⟨n,hn⟩:=k7 ev;refine⟨λm σ' H'=>∃R' τ' ρ',SI X F R' τ' ρ' σ' H'/\Kp R H R' H'/\cV m _ ρ'=ok r,⟨n,R,τ,ρ,Si,Kp.refl R H,hn⟩,?_⟩;rintro m σ1 H1 ⟨R1,τ1,ρ1,Dz,k1,e1⟩;cases m with
 |zero=>simp[cV]at e1
 |succ m =>
  rw[cV]at e1;obtain⟨st,es,e1⟩:=aH e1;obtain⟨w,ew,es⟩:=aH es;refine⟨R1,τ1,ρ1,w,Dz,ew,λH2 e2=>?_⟩;cases w with
  |false =>
   rw[if_neg (by simp)]at es ⊢;cases es;cases e1;exact hq σ1 H2 R1 τ1 (Dz.go e2) (k1.trans (Kp.of e2 λ_ h=>h))
  |true =>
   rw[if_pos rfl]at es ⊢;obtain⟨⟨fo,ρ2⟩,eb,es⟩:=aH es;refine⟨λσ' H'=>∃R' τ' ρ',SI X F R' τ' ρ' σ' H'/\Kp R H R' H'/\cV m _ ρ'=ok r,λσ' H' h=>⟨m,aaR m,h⟩,R1,τ1,ρ1,(fo,ρ2),Dz.go e2,eb,?_⟩;have k2:Kp R H R1 H2:=k1.trans (Kp.of e2 λ_ h=>h);cases fo with
   |nx=>cases es;exact λσ' H' R' τ' gq k3=>⟨R',τ',ρ2,gq,k2.trans k3,e1⟩
   |rt d=>cases es;cases e1;exact hq
def kQ(X:Cx)(F:ai)(Φ:bg)(t:Tg)(b:ao)(R1:ai)(H1:Hp)(r:Fo×aZ)(items:List DI.D)(i:Nat)(σ:St)(H:Hp):Prop :=
 ∃R' τ' ρ',SI X F R' τ' ρ' σ H/\Kp R1 H1 R' H/\fm (λd ρ=>cK t d ρ) (λρ=>bF Φ b ρ) (items.drop i) ρ'=ok r
theorem nY{g:TG}{t:Tg}{b:ao}{D:Ends}{r:Fo×aZ}{items:List DI.D}{q:bp}
  (B8:∀(v:V) (σ:St) (H:Hp) (Q:St->Hp->Prop) (R:ai) (τ:Addr->Option bp) (ρ ρ':aZ) (d:DI.D),SI X F R τ ρ σ H->iJ X R τ H v d->cK t d ρ=ok ρ'->(∀σ' τ',SI X F R τ' ρ' σ' H->Q σ' H)->g v σ H Q)
  (rs:aG (bh X.K H1) (nd X.K R1 (λ_=>False) (λ_=>none) H1) q 0 xs items) (hq:lN X F D R1 H1 r) (i:Nat) (x:V) (σ:St) (H:Hp) (hx:xs[i]?=some x) (h:kQ X F Φ t b R1 H1 r items i σ H) :
  g x σ H λσ2 H2=>oN X F Φ b { D with nx:=kQ X F Φ t b R1 H1 r items (i+1),ct:=kQ X F Φ t b R1 H1 r items (i+1),bk:=D.nx } σ2 H2:=by
 obtain⟨R',τ',ρ',Si,kp,ef⟩:=h;obtain⟨d,hd,rd⟩:=rs.y4 hx;have hi:i<items.length:=by
  by_cases hi:i<items.length
  ·exact hi
  ·rw[List.getElem?_eq_none (by left)]at hd;cases hd
 have tY:items.drop i=d::items.drop (i+1):=by
  rw[List.drop_eq_getElem_cons hi];rw[List.getElem?_eq_getElem hi]at hd;cases hd;rfl
 rw[tY,fm]at ef;obtain⟨ρ1,e1,ef⟩:=aH ef;obtain⟨⟨fo,ρ2⟩,e2,ef⟩:=aH ef;refine B8 x σ H _ R' τ' ρ' ρ1 d Si (mv (Rep.qQ (kp.rep rd))) e1 λσ' zO gq=>⟨R',zO,ρ1,(fo,ρ2),gq,e2,?_⟩
 cases fo with
 |nx=>exact λσ3 H3 R3 τ3 Q_ k3=>⟨R3,τ3,ρ2,Q_,kp.trans k3,ef⟩
 |rt d=>cases ef;exact hq
theorem mE{t:Tg}{b:ao}{D:Ends}{r:Fo×aZ}{items:List DI.D}{n:Nat}(hn:n=items.length)(hq:lN X F D R1 H1 r)(σ:St)(H:Hp)(h:kQ X F Φ t b R1 H1 r items n σ H):D.nx σ H:=by
 obtain⟨R',τ',ρ',Si,kp,ef⟩:=h;subst hn;rw[List.drop_length,fm]at ef;cases ef;exact hq σ H R' τ' Si kp
theorem xG(ρ:aZ):iK [] ρ=ρ:=by
 unfold iK;apply List.ext_getElem?;intro i;rw[List.getElem?_mapIdx];cases ρ[i]? with
 |none=>rfl
 |some o=>simp
theorem xJ{v:V}{d:DI.D}(Si:SI X F R τ ρ σ H)(es:aK H H')(r:cf X.K (gP X F) R τ fv H H' v d):
  ∃R' τ',(∀p,R p->R' p)/\SI X F R' τ' (if bo bX d then iK fv ρ else ρ) σ H'/\Rep (bh X.K H') (nd X.K R' (λ_=>False) (λ_=>none) H') [] v (aw aA d):=by
 by_cases ha:bo bX d=true
 ·rw[if_pos ha];exact rm Si es r
 ·rw[if_neg ha];have r':cf X.K (gP X F) R τ [] H H' v d:=by
   obtain⟨τt,fr,rp⟩:=r;exact⟨τt,fr,Rep.kb (P:=bX) (λ_ _ h=>h) (λk p xs f hf h=>by
    cases f with
    |ow=>exact h
    |fz=>exact h
    |al=>cases hf
    |sc=>exact h) rp (by simpa using ha)⟩
  have:=rm Si es r';rw[xG]at this;exact this
theorem CA{ds:List DI.D}(Si:SI X F R τ ρ σ H)(es:aK H H')(r:cI X.K (gP X F) R τ fv H H' vs ds):
  ∃R' τ',(∀p,R p->R' p)/\SI X F R' τ' (if a_ bX ds then iK fv ρ else ρ) σ H'/\aG (bh X.K H') (nd X.K R' (λ_=>False) (λ_=>none) H') [] 0 vs (ah aA ds):=by
 by_cases ha:a_ bX ds=true
 ·rw[if_pos ha];exact uc Si es r
 ·rw[if_neg ha];have r':cI X.K (gP X F) R τ [] H H' vs ds:=by
   obtain⟨τt,fr,rp⟩:=r;exact⟨τt,fr,aG.kb (P:=bX) (λ_ _ h=>h) (λk p xs f hf h=>by
    cases f with
    |ow=>exact h
    |fz=>exact h
    |al=>cases hf
    |sc=>exact h) rp (by simpa using ha)⟩
  have:=uc Si es r';rw[xG]at this;exact this
def Zb(X:Cx)(F:ai)(Φ:bg)(p:Nat)(cs:az):TI:=λσ H Rr=>∃R τ ρ xs d items,SI X F R τ ρ σ H/\bz Φ cs ρ=ok xs/\Φ p xs=ok d/\sV d=ok items /\
 ∀J H2 vs,aK H H2->cI X.K (gP X F) R τ (dg cs) H H2 vs xs->Q5 X.K J H2 vs xs items->Rr J H2
theorem Ep(L:oI X S k Φ){t:Tg}{p:Nat}{b:ao}{x:aS}(ht:zf S t tg=true)(hi:S.px.pi p S.sc S.bl iter=some args)(hc:bG S cs args=true)(BY:RL iter=true)(htu:(decide (1100<=p)||iV tg)=true)(hb:ir X x (oN X F Φ b)):PS X (.For tg iter x [] pos) (qp X F Φ (.fr t (.JQ p cs) b)):=by
 obtain⟨g,hg,B8⟩:=Ac (F:=F) L ht;have lH:∀y,foldedSetIterable iter X.env y=pure y:=by
  intro y;cases iter<;>first|rfl | (cases BY;done)
 have pi:PI X tg iter (Zb X F Φ p cs):=λpins s σ H Rr I ⟨R,τ,ρ,xs,d,items,Si,cD,ed,ei,hR⟩ =>
  L.pr.i X _ _ k L.toLk.pX p iter args hi F cs tg htu (mZ L.toLk cs args hc) pins s σ H R τ ρ xs d items I Si cD ed ei Rr hR
 refine PS.imp (m_ L.px L.calm pi hg hb lH) λD σ H hq=>?_;obtain⟨R,τ,ρ,r,Si,ev,hq⟩:=hq;obtain⟨⟨items,ρ1⟩,ei,ef⟩:=aH ev;obtain⟨xs,cD,ei⟩:=aH ei;obtain⟨d,ed,ei⟩:=aH ei;obtain⟨UM,ei',ei⟩:=aH ei;cases ei;refine⟨R,τ,ρ,xs,d,items,Si,cD,ed,ei',λJ H2 vs e2 EI yz=>?_⟩;obtain⟨R',τ',hR,gq,rs⟩:=CA Si e2 EI;have yU:=hq.from (Kp.of e2 hR);refine⟨λi m σ' H'=>m=items.length - i/\i<=items.length/\kQ X F Φ t b R' H2 r items i σ' H',⟨_,rfl,aaJ _,R',τ',_,gq,Kp.refl R' H2,by rw[List.drop_zero];exact ef⟩,?_⟩;rintro i m σ1 H1 ⟨rfl,Yd,hf⟩;obtain⟨R1,τ1,ρ2,Dz,k1,e1⟩:=id hf;have NS:=k1.T4 rs;have TM:uJ X.K H2 vs xs H1:=⟨⟨R',rs,k1.l⟩,λa ys h=>k1.Rv h⟩
 by_cases gX:i<items.length
 ·refine .inr ⟨yz.go i H1 R1 TM NS gX,λσ' H'=>kQ X F Φ t b R' H2 r items (i+1) σ' H',λσ' H' h=>⟨items.length - (i+1),by left,rfl,gX,h⟩,λv H3 hy=>?_⟩;obtain⟨e3,dd,hd,rd⟩:=yz.uQ i H1 R1 v H3 TM NS gX hy;have tY:items.drop i=dd::items.drop (i+1):=by
   rw[List.drop_eq_getElem_cons gX];rw[List.getElem?_eq_getElem gX]at hd;cases hd;rfl
  rw[tY,fm]at e1;obtain⟨ρ3,eb,e1⟩:=aH e1;obtain⟨⟨fo,ρ4⟩,e4,e1⟩:=aH e1;have k3:Kp R' H2 R1 H3:=k1.trans (Kp.of e3 λ_ h=>h);refine B8 v σ1 H3 _ R1 τ1 ρ2 ρ3 dd (Dz.go e3) (mv rd) eb λσ' zO Mf=>⟨R1,zO,ρ3,(fo,ρ4),Mf,e4,?_⟩
  cases fo with
  |nx=>exact λσ3 H4 R3 τ3 Q_ k4=>⟨R3,τ3,ρ4,Q_,k3.trans k4,e1⟩
  |rt d=>cases e1;exact yU
 ·exact .inl ⟨yz.stop i H1 R1 TM NS (by left),mE (n:=i) (by left) yU σ1 H1 hf⟩
theorem aG.ints{T:md}{N:gC}:∀(is:ae) {k:bp} {n:Nat},aG T N k n (is.map V.int) (is.map DI.D.int)
 |[],_,_=>.nil
 |i::is,_,_=>.cons (.int i) (aG.ints is)
set_option tactic.hygienic true in
theorem Jo(L:oI X S k Φ){t:Tg}{it:CI}{b:ao}{x:aS}(ht:zf S t tg=true)(hi:QO S it iter=true)(hnp:(iV tg||Bj it)=true)(hb:ir X x (oN X F Φ b)):PS X (.For tg iter x [] pos) (qp X F Φ (.fr t it b)):=by
 obtain⟨g,hg,B8⟩:=Ac (F:=F) L ht;have lH:∀y,foldedSetIterable iter X.env y=pure y:=by
  intro y;cases iter<;>first|rfl | (cases it<;>first|exact(aag hi).elim|exact(aag (aC hi).2).elim)
 have lW:∀{lo:Int} {n:Nat} {D:Ends} {R:ai} {τ:Addr->Option bp} {ρ:aZ} {σ:St} {H H1:Hp} {r:Fo×aZ},SI X F R τ ρ σ H->aK H H1->lN X F D R H r ->
   fm (λd ρ=>cK t d ρ) (λρ=>bF Φ b ρ) ((List.range n).map λ(k:Nat)=>DI.D.int (lo+(k:Int))) ρ=ok r ->
   ∃W:Nat->Nat->L2.St->Hp->Prop,(∃m,W 0 m σ H1)/\∀i m σ H,W i m σ H ->
    ((zx lo n).stop i H/\D.nx σ H)\/((zx lo n).go i H/\∃N:L2.St->Hp->Prop,(∀σ' H',N σ' H'->∃m',m'<m/\W (i+1) m' σ' H')/\∀x H',(zx lo n).uQ i H x H'->g x σ H' λσ2 H2=>oN X F Φ b { D with nx:=N,ct:=N,bk:=D.nx } σ2 H2):=by
  intro lo n D R τ ρ σ H H1 r Si e1 hq ef;have rs:aG (bh X.K H1) (nd X.K R (λ_=>False) (λ_=>none) H1) [] 0 ((List.range n).map λ(k:Nat)=>V.int (lo+(k:Int))) ((List.range n).map λ(k:Nat)=>DI.D.int (lo+(k:Int))):=by
   have:=aG.ints (T:=bh X.K H1) (N:=nd X.K R (λ_=>False) (λ_=>none) H1) ((List.range n).map λ(k:Nat)=>lo+(k:Int)) (k:=[]) (n:=0);rw[List.map_map,List.map_map]at this;exact this
  have yU:=hq.from (Kp.of e1 (R':=R) λ_ h=>h);refine y7 (kQ X F Φ t b R H1 r _) ⟨R,τ,ρ,Si.go e1,Kp.refl R H1,by rw[List.drop_zero];exact ef⟩ (λi σ' H' Pz h=>?_) (λσ' H' h=>mE (by simp) yU σ' H' h);exact nY B8 rs yU i (.int (lo+i)) σ' H' (by rw[List.getElem?_map,List.getElem?_range Pz];rfl) h
 intro pins s σ H D I R_;cases it with
 |JQ p cs =>
  obtain⟨BY,hz⟩:=aC hi;obtain⟨args,ha,BQ⟩:=bq hz;exact Ep L ht ha BQ BY (by rw[Bool.or_comm];exact hnp) hb pins s σ H D I R_
 |lW a =>
  obtain⟨R,τ,ρ,r,Si,ev,hq⟩:=R_;obtain⟨⟨items,ρ1⟩,ei,ef⟩:=aH ev;obtain⟨⟨y,as⟩,hv,hz⟩:=bq hi;obtain⟨p,yP,rfl⟩:=bU hv;obtain⟨R7,BQ⟩:=aC hz;obtain⟨U4,h2⟩:=aC R7;obtain⟨U3,h1⟩:=aC U4;obtain rfl:y=_:=aab U3;obtain⟨e,hu,h3⟩:=bq BQ;obtain rfl:as=[e]:=cE hu;have pa:PA X [e] (oM X F Φ [a]):=PA.imp (bW (gv (F:=F) L.toLk a e h3).1 dF (bx h3 _ _)) λ_ _ _ h=>by
   have:=gH h;obtain⟨R,τ,ρ,d,Si,ev,hq⟩:=this;exact⟨R,τ,ρ,d,Si,ev,λv H' e r=>ki (hq v H' e r)⟩
  refine m_ L.px L.calm (pI (L.gl h1) (L.bl _ (aab h2)) pa (bx h3 _ _)) hg hb lH pins s σ H D I ?_;obtain⟨d,ed,ei⟩:=aH ei;cases d<;>try (simp at ei;done)
  rename_i n;simp at ei;obtain⟨⟨c1,c2⟩,rfl,rfl⟩:=ei;have nL:(ej:Int)=1000000:=rfl;refine⟨R,τ,ρ,[.int n],Si,by show bd (bj Φ a ρ) _=_;rw[ed];rfl,λvs H1 e1 rv=>?_⟩;obtain⟨τt,fr,rs⟩:=rv;cases rs.ints1
  ·refine⟨n,rfl,by left,by left,?_⟩;refine lW (lo:=0) Si e1 hq ?_;simpa using ef
 |lV a c =>
  obtain⟨R,τ,ρ,r,Si,ev,hq⟩:=R_;obtain⟨⟨items,ρ1⟩,ei,ef⟩:=aH ev;obtain⟨⟨y,as⟩,hv,hz⟩:=bq hi;obtain⟨p,yP,rfl⟩:=bU hv;obtain⟨R7,BQ⟩:=aC hz;obtain⟨U4,h2⟩:=aC R7;obtain⟨U3,h1⟩:=aC U4;obtain rfl:y=_:=aab U3;obtain⟨⟨e,e'⟩,hu,h34⟩:=bq BQ;obtain rfl:as=[e,e']:=g_ hu;obtain⟨h3,h4⟩:=aC h34;have pa:PA X [e,e'] (oM X F Φ [a,c]):=jm L.toLk [a,c] [e,e'] (by show(bZ S a e&&(bZ S c e'&&true))=true;rw[h3,h4];rfl);refine m_ L.px L.calm (pH (L.gl h1) (L.bl _ (aab h2)) pa (by rw[bx h3,bx h4];rfl) (bx h4 _ _)) hg hb lH pins s σ H D I ?_;obtain⟨d,ed,ei⟩:=aH ei;obtain⟨d',Wx,ei⟩:=aH ei;cases d<;>try (simp at ei;done)
  cases d'<;>try (simp at ei;done)
  rename_i m _ n;simp at ei;obtain⟨⟨c1,c2,c3,c4⟩,rfl,rfl⟩:=ei;have nL:(ej:Int)=1000000:=rfl;refine⟨R,τ,ρ,[.int m,.int n],Si,by show bd (bj Φ a ρ) _=_;rw[ed];show bd (bd (bj Φ c ρ) _) _=_;rw[Wx];rfl,λvs H1 e1 rv=>?_⟩;obtain⟨τt,fr,rs⟩:=rv;cases rs.ints2
  ·refine⟨m,n,rfl,⟨by left,by left,by left,by left⟩,?_⟩;exact lW (lo:=m) Si e1 hq ef
 |seq a =>
  obtain⟨R,τ,ρ,r,Si,ev,hq⟩:=R_;obtain⟨⟨items,ρ1⟩,ei,ef⟩:=aH ev;replace hi:=aC hi;obtain⟨d,ed,ei⟩:=aH ei;have pe:=(gv (F:=F) L.toLk a iter hi.1).1;cases d<;>try (simp at ei;done)
  ·rename_i ds;simp at ei;obtain⟨rfl,rfl⟩:=ei;refine m_ L.px L.calm (AS pe) hg hb lH pins s σ H D I (tD.intro Si ed λv H1 e1 rv=>?_);obtain⟨R',τ',hR,gq,rp⟩:=xJ Si e1 rv;rw[aw]at rp;cases rp with
   | @tup _ p xs _ hp rs =>
    have yU:=hq.from (Kp.of e1 hR);refine⟨p,rfl,⟨xs,hp⟩,F7 (xs:=xs) (kQ X F Φ t b R' H1 r (ah aA ds)) ⟨R',τ',_,gq,Kp.refl R' H1,by rw[List.drop_zero];exact ef⟩ (λi σ' H' _ h=>?_) (λi x σ' H' hx h=>nY B8 rs yU i x σ' H' hx h) (λσ' H' h=>mE (rs.length) yU σ' H' h)⟩;obtain⟨R2,τ2,ρ2,_,kp,_⟩:=h;exact kp.Rv hp
  ·rename_i f ds;simp at ei;obtain⟨rfl,rfl⟩:=ei;refine m_ L.px L.calm (wY pe) hg hb lH pins s σ H D I (tD.intro Si ed λv H1 e1 rv=>?_);obtain⟨R',τ',hR,gq,rp⟩:=xJ Si e1 rv;rw[aw]at rp;obtain⟨p,xs,rfl,hp,rs⟩:=rp.uV;have yU:=hq.from (Kp.of e1 hR);refine⟨p,rfl,⟨xs,hp.sq⟩,CG (xs:=xs) (kQ X F Φ t b R' H1 r (ah aA ds)) ⟨R',τ',_,gq,Kp.refl R' H1,by rw[List.drop_zero];exact ef⟩ (λi σ' H' _ h=>?_) (λi x σ' H' hx h=>nY B8 rs yU i x σ' H' hx h) (λσ' H' h=>mE (rs.length) yU σ' H' h)⟩;obtain⟨R2,τ2,ρ2,_,kp,_⟩:=h;exact(kp.nd hp).sq
theorem BD{ρ':aZ}{p:Addr}{q:bp}{n:Nd}{o:HO}(Si:SI X F R' τ' ρ' σ H1)(es:aK H H1)(hR:∀p,R p->R' p)(hp:fA H1 p n)(ht:τ' p=some q):Kp R H R' (upd H1 p o):=by
 obtain⟨o0,BZ,Pg,MD⟩:=fA.some hp;exact⟨hR,λa u ha e=>by
  have ne:a≠p:=λz=>by subst z;rw[Si.rt _ (hR _ ha)]at ht;cases ht
  rw[aW ne];exact es _ _ e,λa zs e=>by
  have e1:=es _ _ e;have ne:a≠p:=λz=>by subst z;rw[BZ]at e1;cases e1;exact Pg _ rfl
  rw[aW ne];exact e1,λa o u e=>by
  have e1:=es _ _ e;have ne:a≠p:=λz=>by subst z;rw[BZ]at e1;cases e1;exact MD _ _ rfl
  rw[aW ne];exact e1⟩
theorem iJ.go{v:V}{d:DI.D}(h:iJ X R τ H v d)(e:aK H H'):iJ X R τ H' v d :=
 let ⟨τt,h1,h2⟩:=h;⟨τt,λp q z=>let ⟨a,b,c,d⟩:=h1 p q z;⟨a,b,c,aK.ne e d⟩,h2.imp (λ_ _ h=>bh.same e h) λ_ _ _ _ h=>nd.same e h⟩
set_option tactic.hygienic true in
theorem Xu(L:oI X S k Φ){i:Nat}(h:o3 S i o=true)(hv:∀x p,o=.Name x p->nu x=true):∃x p,o=.Name x p/\X.N[i]?=some x/\L2.Loc X.env.scope x/\PE X o (mW i):=by
 cases o<;>try (exact(aag h).elim;done)
 rename_i x p;have hn:=hv x p rfl;replace h:=aC h;unfold nu at hn;simp only[Bool.and_eq_true,Bool.not_eq_true']at hn;have hN:X.N[i]?=some x:=by rw[L.N];exact aab h.1
 have hl:=L.loc h.2;exact⟨x,p,rfl,hN,hl,hX hN (hl.imp id .inl) hn.1.1 hn.1.2⟩
theorem F_{e:CE}{r:DI.D×aZ}{i:Nat}{ds:List DI.D}(h:ju Φ e ρ=ok r)(ho:r.2[i]?=some (some (.lst .ow ds))):ρ[i]?=some (some (.lst .ow ds)):=by
 by_cases hv:∃j,e=.v j
 ·obtain⟨j,rfl⟩:=hv;simp only[ju]at h;split at h
  ·split at h
   ·cases h;by_cases jq:i=j
    ·subst jq;rw[List.getElem?_set]at ho;simp at ho
    ·rw[List.getElem?_set_ne (Ne.symm jq)]at ho;exact ho
   ·cases h;exact ho
  ·cases h
 ·have h':bd (bj Φ e ρ) (λd=>ok (keep e d ρ))=ok r:=by
   cases e<;>first|exact h|exact absurd ⟨_,rfl⟩ hv
  obtain⟨d,_,er⟩:=aH h';cases er;unfold keep at ho;split at ho
  ·obtain⟨d',h1,h2⟩:=xH _ _ _ _ ho;split at h2
   ·cases d'<;>simp[aw]at h2;rename_i f ds';cases f<;>simp[aA]at h2
   ·rw[h2];exact h1
  ·exact ho
set_option tactic.hygienic true in
theorem Jp(L:oI X S k Φ){i:Nat}{e:CE}{x:Str}{v:Expr}{p p1 p2:Pos}(hn:o3 S i (.Name x p)=true)(hx:nu x=true)(he:bZ S e v=true)(DR:(p1.endLine==p2.line)=true):PS X (.Expr (.Call (.Attribute (.Name x p) ("append" : Str) p1) [v] [] p2) pos) (qp X F Φ (.app i e)):=by
 obtain⟨_,_,z,hN,hl,pe⟩:=Xu L hn (λy q e=>by cases e;exact hx);cases z;refine PS.imp (kn (HD PySem.F.plainAttrs_list PySem.F.slot_list_append PySem.F.type_list_append yE pe (bW (vg (F:=F) L.toLk e v he) dF (bx he _ _)) (hfew:=by rw[bx he];rfl) (hline:=DR) (hs:=bx he _ _))) λD σ H hq=>?_;obtain⟨R,τ,ρ,r,Si,ev,hq⟩:=hq;obtain⟨r1,zL,ev⟩:=aH ev;split at ev
 ·rename_i ds ho;split at ev
  ·rename_i hc;cases ev;have ho:=EZ ho;obtain⟨a,xs,hv,ha,hxl,hta,_⟩:=Si.own (F_ zL ho);refine⟨.ref a,hv,.inl ⟨rfl,_,dO.of ha⟩,R,τ,ρ,r1,Si,zL,λw H1 R1 τ1 es hR Dz rk=>?_⟩;obtain⟨a1,Y6,R8,VJ,aao,Pa,NS⟩:=Dz.own ho;rw[hv]at R8;cases R8;have hz:sizeLine=16777216:=abh;have nL:ej=1000000:=rfl;refine⟨a,Y6,w,rfl,rfl,VJ,by left,?_⟩;obtain⟨τ2,yd⟩:=Dz.put (m:=ds.length) (g:=λys=>ys++[w]) ho hv VJ Pa NS rk λrs r=>aG.Hh rs (by simpa using r);exact hq σ _ R1 τ2 yd (BD (n:=.l _) Dz es hR VJ Pa)
  ·cases ev
 ·cases ev
end
section
variable {X:Cx}{S:Sx}{k:Nat}{F:ai}{Φ:bg}
theorem JO(x:Str)(p:Pos):(Expr.Name x p).pos=p:=rfl
theorem vf{x y:Str}{px py pt Mq:Pos}{kt:Nat}{a b:Expr}(hk:env.scope.kind=.function)(hx:env.scope.names.lookup x=some .local)(hy:env.scope.names.lookup y=some .local)(XZ:x≠y)(hl:px.line=py.line)
  (h1:[a,b].all (foldedForSure 8)=false) (h2:[a,b].all (constantsAlone 8)=false) (h3:([a,b].any λe=>match e with|.Starred ..=>true|_=>false)=false) :
  swappedStores [.Tuple [.Name x px,.Name y py] kt pt] (.Tuple [a,b] k2 Mq) env=pure (some [x,y]):=by
 have hb:env.blockKind=.function:=by unfold Env.blockKind;rw[hk];rfl
 have kx:env.kindOf x=some .local:=hx;have ky:env.kindOf y=some .local:=hy;have e1:([x,y].eraseDups.length != [x,y].length)=false:=by
  have:¬ (y==x)=true:=by simp;exact λz=>XZ z.symm
  have h':(y==x)=false:=by simpa using this
  simp[List.eraseDups_cons,List.filter,h',XZ]
 unfold swappedStores;simp only[hb,h3,List.filterMap_cons,List.filterMap_nil,kx,ky,hl,JO,List.head?_cons,Option.map_some,Option.getD_some,h1,h2];simp only[beq_self_eq_true,Bool.and_self,if_true];rw[if_neg (by simp)];refine(aco ?_).trans ?_
 ·intro z;exact aag (h3.symm.trans z)
 rw[if_neg (by
  rw[e1];simp),if_neg Bool.false_ne_true,if_neg Bool.false_ne_true]
theorem m9{kp:bp}{v:V}{d:DI.D}(h:Rep (bh X.K H) (nd X.K R A τ H) kp v d)(hf:bo anyF d=false):iJ X R' τ' H v d :=
 ⟨λ_=>none,λ_ _ h=>by simp at h,Rep.without (P:=anyF) (λ_ _ h=>h) (λk k' p xs f hf h=>by cases hf) h hf _⟩
theorem Jn(L:oI X S k Φ){i j:Nat}{a b:CE}{v:Expr}(he:bZ S (.tup [a,b]) v=true)(hp:Dd S i j tg v=true):PS X (.Assign [tg] v pos) (qp X F Φ (.par i j a b)):=by
 obtain⟨ts,R8,q1⟩:=bq hp;obtain⟨kt,pt,rfl⟩:=kf R8;obtain⟨⟨t1,t2⟩,hv2,q2⟩:=bq q1;obtain rfl:ts=[t1,t2]:=g_ hv2;obtain⟨⟨x,px⟩,hv3,q3⟩:=bq q2;obtain rfl:t1=_:=wF hv3;obtain⟨⟨y,py⟩,hv4,q4⟩:=bq q3;obtain rfl:t2=_:=wF hv4;obtain⟨vs,hv5,q5⟩:=bq q4;obtain⟨k2,Mq,rfl⟩:=kf hv5;obtain⟨⟨ea,eb⟩,hv6,q6⟩:=bq q5;obtain rfl:vs=[ea,eb]:=g_ hv6
 ·obtain⟨q7,Qh⟩:=aC q6;obtain⟨q8,h9⟩:=aC q7;obtain⟨q9,h8⟩:=aC q8;obtain⟨Ug,h7⟩:=aC q9;obtain⟨ZU,h6⟩:=aC Ug;obtain⟨ZT,h5⟩:=aC ZU;obtain⟨ZS,h4⟩:=aC ZT;obtain⟨ZR,h3⟩:=aC ZS;obtain⟨h1,h2⟩:=aC ZR;replace h1:S.N[i]?=some x:=aab h1;replace h2:S.N[j]?=some y:=aab h2;replace h3:=aab h3;replace h4:=aab h4;replace h5:=aab h5;replace h6:=aab h6;replace h7:=aab h7;replace h8:=dA h8;replace h9:=dA h9;replace Qh:=aab Qh;replace he:=aC he;have pa:=jm (F:=F) L.toLk [a,b] [ea,eb] he.1;refine PS.imp (JM L.calm L.nd (by rw[L.N];exact h1) (by rw[L.N];exact h2) h3 (by rw[L.sc];exact h4) (by rw[L.sc];exact h5) pa (vf (by rw[L.sc];exact L.fk) (by rw[L.sc];exact h4) (by rw[L.sc];exact h5) h6 h7 h8 h9 Qh)) λD σ H hq=>?_;obtain⟨R,τ,ρ,r,Si,ev,hq⟩:=hq;obtain⟨d1,ed1,ev⟩:=aH ev;obtain⟨d2,ed2,ev⟩:=aH ev;simp only[HR]at ev;obtain⟨⟨f1,f2,l1,l2⟩,rfl⟩:=ev;refine⟨R,τ,ρ,[d1,d2],Si,by show bd (bj Φ a ρ) _=_;rw[ed1];show bd (bd (bj Φ b ρ) _) _=_;rw[ed2];rfl,λvs H1 e1 rv=>?_⟩;obtain⟨τt,fr,rs⟩:=rv;obtain⟨v1,v2,rfl,r1,r2⟩:=rs.two
  ·obtain⟨τ1,S1⟩:=(Si.go e1).set (i:=i) (m9 r1 f1) l1;obtain⟨τ2,S2⟩:=S1.set (i:=j) (m9 r2 f2) (by simpa using l2);exact⟨v1,v2,rfl,hq _ H1 R τ2 S2 (Kp.of e1 λ_ h=>h)⟩
theorem yF{α β:Type}(f:α->β):∀(ms:List α) (m:Nat),(ms.map f).eraseIdx m=(ms.eraseIdx m).map f
 |[],_=>rfl
 |_::_,0=>rfl
 |x::ms,m+1=>by
  show f x::(ms.map f).eraseIdx m=f x::(ms.eraseIdx m).map f;rw[yF f ms m]
theorem aG.QK{T:md}{N:gC}:∀{k:bp} {n:Nat} {vs:af} {ds:aa},aG T N k n vs ds->aG T N k n vs.dropLast ds.dropLast
 |_,_,_,_,.nil=>.nil
 |_,_,_,_,.cons _ .nil=>.nil
 |_,_,_,_,.cons h (.cons h' t)=>.cons h (aG.QK (.cons h' t))
mutual
theorem Al(L:oI X S k Φ):∀(c:CS) (st:Stmt),zg S c st=true->PS X st (qp X F Φ c)
 |.asg t e,st,h=>by
  obtain⟨⟨G_,v⟩,v1,q1⟩:=bq h;obtain⟨pos,rfl⟩:=mi v1;obtain⟨tg,v2,q2⟩:=bq q1;obtain rfl:G_=[tg]:=cE v2;obtain⟨q3,h4⟩:=aC q2;obtain⟨q4,h3⟩:=aC q3;obtain⟨h1,h2⟩:=aC q4;have h1:bZ S e v=true:=h1;replace h3:(isTup v&&isTup tg)=false:=dA h3;cases hc:iW v with
  |false=>exact Ai L h1 h2 h3 (kK h1 hc _ _ _)
  |true =>
   have h4:(!iW v||isNm tg)=true:=h4;rw[hc]at h4;obtain⟨x,p,rfl⟩:=mB h4;obtain⟨jv,gens,sc,M6,rfl⟩:=yN hc;cases e<;>try (exact(aag h1).elim)
   cases t with
   |tp is=>exact(aag h2).elim
   |nm i =>
    cases hb:TF S (.Name x p) (.ListComp jv gens sc M6)with
    |true=>exact Es L h1 h2 (by rw[Hg L,hb])
    |false=>exact Ai L h1 h2 h3 (by
      show swapsWith (.ListComp jv gens sc M6) (some (.Name x p)) pos.line X.env=_;rw[Hg L,hb])
 |.par i j a b,st,h=>by
  obtain⟨⟨G_,v⟩,v1,q1⟩:=bq h;obtain⟨pos,rfl⟩:=mi v1;obtain⟨tg,v2,q2⟩:=bq q1;obtain rfl:G_=[tg]:=cE v2;exact Jn L (aC q2).1 (aC q2).2
 |.ret e,st,h=>by
  obtain⟨z,v1,q1⟩:=bq h;obtain⟨pos,rfl⟩:=wD v1;obtain⟨v,v2,q2⟩:=bq q1;obtain rfl:z=some v:=v2;exact Jm L q2
 |.rs c,st,h=>λ_ _ _ _ _ _ bK=>by obtain⟨R,τ,ρ,r,Si,ev,hq⟩:=bK;cases ev
 |.ex e,st,h=>by
  obtain⟨v,v1,q1⟩:=bq h;obtain⟨pos,rfl⟩:=ql v1;exact ND L (aC q1).1 (dA (aC q1).2)
 |.mut p i es,st,h=>by
  obtain⟨⟨o,args⟩,ha,q1⟩:=bq h;obtain⟨q2,h3⟩:=aC q1;obtain⟨h1,h2⟩:=aC q2;obtain⟨x,pp,rfl,hN,hl,pe⟩:=Xu L h1 (λy q e=>by cases e;exact h2);exact L.pm.m X _ _ k L.toLk.pX L.nd L.oX p st x pp args ha i hN hl pe F es (mZ L.toLk es args h3)
 |.app i e,st,h=>by
  obtain⟨c,v1,q1⟩:=bq h;obtain⟨pos,rfl⟩:=ql v1;obtain⟨⟨fn,as,ks,p2⟩,v2,q2⟩:=bq q1;obtain rfl:c=_:=o8 v2;obtain⟨q3,q4⟩:=aC q2;obtain rfl:ks=[]:=kC q3;obtain⟨⟨o,a,p1⟩,v3,q5⟩:=bq q4;obtain rfl:fn=_:=sF v3;obtain⟨q6,q7⟩:=aC q5;obtain⟨v,v4,h4⟩:=bq q7;obtain rfl:as=[v]:=cE v4;obtain⟨q8,h5⟩:=aC q6;obtain⟨q9,h2⟩:=aC q8;obtain⟨Ug,h1⟩:=aC q9;obtain rfl:a=_:=aab Ug;obtain⟨x,p,rfl⟩:∃x p,o=.Name x p:=xU h1;exact Jp L h1 h2 h4 h5
 |.ifs c a b,st,h=>by
  obtain⟨⟨t,x,y⟩,v1,q1⟩:=bq h;obtain⟨pos,rfl⟩:=wH v1;obtain⟨q2,h3⟩:=aC q1;obtain⟨h1,h2⟩:=aC q2;exact NC L h1 (ji L a _ h2) (ji L b _ h3)
 |.G7 c b,st,h=>by
  obtain⟨⟨t,x,y⟩,v1,q1⟩:=bq h;obtain⟨pos,rfl⟩:=Ea v1;obtain⟨q2,h3⟩:=aC q1;obtain⟨h1,h2⟩:=aC q2;obtain rfl:y=[]:=kC h1;exact Ah L h2 (ji L b _ h3)
 |.fr t it b,st,h=>by
  obtain⟨⟨tg,iter,x,y⟩,v1,q1⟩:=bq h;obtain⟨pos,rfl⟩:=Ec v1;obtain⟨q2,h5⟩:=aC q1;obtain⟨q3,h4⟩:=aC q2;obtain⟨q4,h3⟩:=aC q3;obtain⟨h1,h2⟩:=aC q4;obtain rfl:y=[]:=kC h1;exact Jo L h2 h3 h4 (ji L b _ h5)
theorem ji(L:oI X S k Φ):∀(cs:ao) (sJ:aS),ja S cs sJ=true->ir X sJ (oN X F Φ cs)
 |[],[],_=>ir.imp qG λD σ H bK=>by obtain⟨R,τ,ρ,r,Si,ev,hq⟩:=bK;cases ev;exact hq σ H R τ Si (Kp.refl R H)
 |[],_::_,h=>by exact(aag h).elim
 |_::_,[],h=>by exact(aag h).elim
 |c::cs,st::sJ,h=>by
  replace h:=aC h;have h1:PS X st (qp X F Φ c):=Al L c st h.1;have h2:ir X sJ (oN X F Φ cs):=ji L cs sJ h.2;refine ir.imp (cx h1 h2) λD σ H hq=>?_;obtain⟨R,τ,ρ,r,Si,ev,hq⟩:=hq;obtain⟨⟨fo,ρ1⟩,e1,ev⟩:=aH ev;refine⟨R,τ,ρ,(fo,ρ1),Si,e1,?_⟩;cases fo with
  |nx=>exact λσ' H' R' τ' gq kp=>⟨R',τ',ρ1,r,gq,ev,hq.from kp⟩
  |rt d=>cases ev;exact hq
end
end
variable {mg:Str->Option Value}{ps:ag}{qual:Str}
theorem ue{x:Str}{f:Addr}{fd:FuncData}{k:Nat}{N bl:ag}{cs:List (Str×GK)}{px:Px}{oX:Nat->Option Str}{m:aI}{body:ao}
  (Fu:zy K x qual st f fd) (Sc:eW N ps (aE st)) (Ca:ja ⟨aE st,N,oX,bl,cs,px⟩ body (bw st)=true) (BY:mf px Φ) (MC:DG px Φ)
  (q_:∀y∈bl,mg y=none) (nK:∀y i,(y,i)∈cs->∃u,mg y=some u/\wz K i u)
  (xB:∀g y,oX g=some y->∃(f:Addr) (fd:FuncData) (ps:ag),fB P w K mg base so k f fd ps (Ak K ps.length (Φ g))/\mg y=some (.ref f)/\PySem.W.keepIn K (.ref f)=true/\Binds K fd ps []/\∀ds r,Φ g ds=ok r->ds.length=ps.length)
  (hm:∀ds r,m ds=ok r->ds.length=ps.length/\qy Φ N.length body ds=ok r):fB P w K mg base so (k+1) f fd ps (Ak K ps.length m):=by
 refine Fu.ok (N:=N) Sc (λvs H Q E ⟨_,_,_,h,_⟩=>h) λfG A outer s H vs Q E hr sj=>?_;obtain⟨F,ds,r,hl,rs,er,hq⟩:=sj;obtain⟨PK,BV⟩:=hm ds r er
 let X:=(iH so P w K mg base N qual (aE st) f fG A outer s H E).Bi
 have L:oI X ⟨aE st,N,oX,bl,cs,px⟩ k Φ:=⟨⟨rfl,rfl,Sc.nd,rfl,hr,q_,λg y h=>⟨xB g y h⟩,nK,BY⟩,λ_=>rfl,PassesOwn.never,Sc.kind,MC⟩
 refine⟨oN X F Φ body,ji L body _ Ca,?_⟩;unfold qy at BV;obtain⟨⟨fo,ρ'⟩,eb,BV⟩:=aH BV;have hpl:ps.length<=N.length:=by have:=aaW List.length Sc.pre;rw[List.length_take]at this;left
 have FP:vs.length=ds.length:=rs.length;refine⟨λp=>F p/\H p≠none,λ_=>none,_,(fo,ρ'),⟨?_,λi d hi=>?_,λ_ _=>rfl,λp h=>h.2,λp h=>.inl h.1,λ_ _ h=>by simp at h,λ_ _ h=>by simp at h,aK.refl H⟩,eb,?_⟩
 ·unfold L2.start;simp[FP]
 ·have PB:i<ds.length:=by
   by_cases lG:i<ds.length
   ·exact lG
   ·rw[List.getElem?_append_right (by simpa using lG)]at hi;rw[List.getElem?_replicate]at hi;split at hi<;>simp at hi
  rw[List.getElem?_append_left (by simpa using PB),List.getElem?_map]at hi;have hd:ds[i]?=some d:=by
   cases q:ds[i]? with
   |none=>rw[q]at hi;cases hi
   |some z=>rw[q]at hi;simp at hi;rw[hi]
  obtain⟨v,hv,rv⟩:=rs.get hd;refine⟨v,?_,rv.imp (q:=[0+i]) (q':=[i]) (λ_ _ h=>h) λc p xs f h=>?_⟩
  ·unfold L2.start;rw[List.getElem?_append_left (by rw[List.length_map,FP];exact PB),List.getElem?_map,hv];rfl
  ·cases f with
   |ow=>exact nomatch h.2
   |fz=>exact⟨h.1,h.2,h.1.ne⟩
   |al=>exact h.2.elim
   |sc=>exact h
 ·cases fo with
  |nx =>
   cases BV;exact λσ' H' R' τ' gq kp=>hq .bB H' gq.same ⟨λ_=>none,λ_ _ h=>by simp at h,.bB⟩
  |rt d =>
   cases BV;exact λv H' es rr=>hq v H' es rr
structure Ent(P:aF)(w:World)(K:aq)(mg:aR)(base:Heap)(k:Nat)(y:Str)(m:aI):Prop where
 ex:∃(f:Addr) (fd:FuncData) (ps:ag),fB P w K mg base so k f fd ps (Ak K ps.length m)/\mg y=some (.ref f)/\PySem.W.keepIn K (.ref f)=true/\Binds K fd ps []/\∀ds r,m ds=ok r->ds.length=ps.length
theorem Ent.up{k k':Nat}{y:Str}{m:aI}(h:Ent P w K mg base k y m)(hk:k<=k'):Ent P w K mg base k' y m:=by
 obtain⟨f,fd,ps,h1,h2⟩:=h.ex;exact⟨f,fd,ps,h1.mono hk,h2⟩
theorem ent{x:Str}{f:Addr}{fd:FuncData}{k:Nat}{N bl:ag}{cs:List (Str×GK)}{px:Px}{oX:Nat->Option Str}{m:aI}{body:ao}
  (Fu:zy K x qual st f fd) (hmg:mg x=some (.ref f)) (hb:Binds K fd ps []) (Sc:eW N ps (aE st)) (Ca:ja ⟨aE st,N,oX,bl,cs,px⟩ body (bw st)=true) (BY:mf px Φ) (MC:DG px Φ) (q_:∀y∈bl,mg y=none) (nK:∀y i,(y,i)∈cs->∃u,mg y=some u/\wz K i u)
  (xB:∀g y,oX g=some y->Ent P w K mg base k y (Φ g)) (hm:∀ds r,m ds=ok r->ds.length=ps.length/\qy Φ N.length body ds=ok r):Ent P w K mg base (k+1) x m :=
 ⟨f,fd,ps,ue Fu Sc Ca BY MC q_ nK (λg y h=>(xB g y h).ex) hm,hmg,Fu.kp,hb,λds r h=>(hm ds r h).1⟩
noncomputable def bO{α:Type}(P:α->Prop):List α->Prop
 |[]=>True
 |a::l=>P a/\bO P l
theorem bO.mem{α:Type}{P:α->Prop}:∀{l:List α},bO P l->∀a∈l,P a
 |[],_,_,h=>by cases h
 |_::_,h,_,hm=>(List.mem_cons.mp hm).elim (λe=>e▸h.1) (bO.mem h.2 _)
theorem bO.tab{β:Type}{P:Nat->β->Prop}:∀{l:List (Nat×β)},bO (λp=>P p.1 p.2) l->∀g y,l.lookup g=some y->P g y
 |[],_,_,_,h=>by cases h
 | (k,b)::l,h,g,y,e=>by
  rw[List.lookup_cons]at e;cases hg:g==k with
  |true=>rw[hg]at e;cases e;rw[eq_of_beq hg];exact h.1
  |false=>rw[hg]at e;exact bO.tab h.2 g y e
theorem bO.two{β γ:Type}{P:β->γ->Prop}{l:List (β×γ)}(h:bO (λp=>P p.1 p.2) l)(y:β)(i:γ)(hm:(y,i)∈l):P y i:=bO.mem h _ hm
theorem OM{α:Type}{l:List α}(h:l.length=1):∃a,l=[a]:=List.length_eq_one_iff.mp h
theorem FC{α:Type}{l:List α}(h:l.length=2):∃a b,l=[a,b]:=by
 cases l with
 |nil=>cases h
 |cons a l=>obtain⟨b,rfl⟩:=OM (acq h);exact⟨a,b,rfl⟩
theorem FA{α:Type}{l:List α}(h:l.length=3):∃a b c,l=[a,b,c]:=by
 cases l with
 |nil=>cases h
 |cons a l=>obtain⟨b,c,rfl⟩:=FC (acq h);exact⟨a,b,c,rfl⟩
theorem Fz{α:Type}{l:List α}(h:l.length=4):∃a b c d,l=[a,b,c,d]:=by
 cases l with
 |nil=>cases h
 |cons a l=>obtain⟨b,c,d,rfl⟩:=FA (acq h);exact⟨a,b,c,d,rfl⟩
theorem OL{α:Type}{l:List α}(h:l.length=5):∃a b c d e,l=[a,b,c,d,e]:=by
 cases l with
 |nil=>cases h
 |cons a l=>obtain⟨b,c,d,e,rfl⟩:=Fz (acq h);exact⟨a,b,c,d,e,rfl⟩
noncomputable def nI:aa->Option (ae)
 |[]=>some []
 |.int i::ds=>(nI ds).map (i :: ·)
 |_::_=>none
theorem nH:∀ns:ae,nI (ns.map D.int)=some ns
 |[]=>rfl
 |n::ns=>by simp[nI,nH ns]
theorem tG:∀{ds:aa} {ns:ae},nI ds=some ns->ds=ns.map D.int
 |[],ns,h=>by simp[nI]at h;subst h;rfl
 |d::ds,ns,h=>by
  cases d<;>simp[nI]at h;obtain⟨ms,h1,rfl⟩:=h;rw[tG h1];rfl
def qR:aI
 |[.lst .sc ds]=>match nI ds with
  |some ns=>if ns.length<=63 then ok (.bl true)else none
  |none=>none
 |_=>none
theorem Fw(h:ns.length<=63):qR [.lst .sc (ns.map D.int)]=ok (.bl true):=by
 simp[qR,nH,h]
set_option tactic.hygienic true in
theorem Bw{n:Nat}{b:ao}(h:∀ns:ae,ns.length<=63->qy Φ n b [.lst .sc (ns.map D.int)]=ok (.bl true)):∀ds r,qR ds=ok r->ds.length=1/\qy Φ n b ds=ok r:=by
 intro ds r e
 match ds,e with
 |[.lst .sc ds],e =>
  simp only[qR]at e;split at e
  ·rename_i ns zF;split at e
   ·rename_i hl;cases e;obtain rfl:=tG zF;exact⟨rfl,h ns hl⟩
   ·cases e
  ·cases e
theorem Km(K:aq)(H:Hp)(a:Addr)(ns:ae)(m:aI)(hm:m [.lst .sc (ns.map D.int)]=ok (.bl true))(hO:G4 H)(hS:dO K H a (ns.map V.int)):Ak K 1 m [.ref a] H (λv _=>v=.bl true) λ_ _ _=>False:=by
 refine⟨λ_=>True,_,.bl true,rfl,.cons (.lst ?_ (aG.ints ns)) .nil,hm,λv H' _ bK=>by obtain⟨τt,_,rp⟩:=bK;cases rp;rfl⟩;rcases hS with (h|h)|h
 ·rcases hO a with z|⟨o,xs,z⟩
  ·rw[h]at z;cases z
  ·rw[h]at z;cases z
 ·exact .inl h
 ·exact .inr h
section
variable {X:Cx}{pins:aj}{σ:St}{H:Hp}{s:Shared}{h':Heap}
theorem Eg(I:Inv X pins σ H s)(hf:∀b∈ch,oD X pins H b)(k:∀b u,b∉ch->s.heap.get? b=some u->h'.get? b=some u):Inv X pins σ H { s with heap:=h',toks:=t' }:=by
 have HJ:∀b u,H b=some u->b∉ch:=λb u e z=>by rw[(hf b z).1]at e;cases e
 refine I.step (g':=s.gens) (d':=s.drawn) (ch:=ch) (λb hb=>⟨(hf b hb).2.2.2.1,(hf b hb).2.1,(hf b hb).2.2.2.2.1,(hf b hb).2.2.2.2.2⟩) (λb o _ _ hc e _=>k b o hc e) (λb o _ _ hc e _=>⟨o.slots,k b o hc e⟩) (λ_ _ _ _ n=>n)
  (λb o hc e=>⟨o,k b o hc e⟩) (λ_ _ e=>e) (λ_ _ _ e=>e) (λb ps e=>⟨#[],by rw[e];simp⟩) (λm hm=>?_) (λb u e=>?_) I.bare
 ·obtain⟨o,es,ep,ho,r⟩:=hm;exact⟨o,es,ep,k _ o (λz=>(hf _ z).2.1 rfl) ho,r⟩
 ·refine(I.cB b u e).kl (λc v hc q=>k c v ?_ q) (λ_ q=>q) λ_ _ q=>q;rcases hc with z|z
  ·rw[z];exact HJ b u e
  ·exact HJ c _ z
theorem Eh{T:Addr}{o:HO}(I:Inv X pins σ H s)(hf:∀b∈ch,oD X pins H b)(k:∀b u,b∉ch->s.heap.get? b=some u->h'.get? b=some u)(hT:s.heap.objs.size<=T)(new:cC X.prog X.w (upd H T o) h' T o):
  Inv X pins σ (upd H T o) { s with heap:=h',toks:=t' }:=by
 have HJ:∀b u,H b=some u->b∉ch:=λb u e z=>by rw[(hf b z).1]at e;cases e
 have hn:H T=none:=I.cB.fresh hT;have ne:∀b (u:Obj),s.heap.get? b=some u->b≠T:=λb u e z=>absurd (aaj e) (by rw[z];exact Nat.not_lt.mpr hT);have up:∀b u,H b=some u->upd H T o b=some u:=λb u e=>by rw[aW (bQ e hn)];exact e
 refine I.step (g':=s.gens) (d':=s.drawn) (ch:=ch) (λb hb=>⟨(hf b hb).2.2.2.1,(hf b hb).2.1,(hf b hb).2.2.2.2.1,(hf b hb).2.2.2.2.2⟩) (λb o _ _ hc e _=>k b o hc e) (λb o _ _ hc e _=>⟨o.slots,k b o hc e⟩) (λb u _ e n=>by rw[aW (ne b u e)];exact n)
  (λb o hc e=>⟨o,k b o hc e⟩) (λ_ _ e=>up _ _ e) (λ_ _ _ e=>up _ _ e) (λb ps e=>⟨#[],by rw[up _ _ e];simp⟩) (λm hm=>?_) (xy (λb u e=>?_) hn new) I.bare
 ·obtain⟨o,es,ep,ho,r⟩:=hm;exact⟨o,es,ep,k _ o (λz=>(hf _ z).2.1 rfl) ho,r⟩
 ·refine(I.cB b u e).kl (λc v hc q=>k c v ?_ q) (λ_ q=>q) λ_ _ q=>q;rcases hc with z|z
  ·rw[z];exact HJ b u e
  ·exact HJ c _ z
end
def W0(K:aq)(a b:Addr):It :=
  ⟨λi H=>∃xs ys x y,dO K H a xs/\dO K H b ys/\xs[i]?=some x/\ys[i]?=some y,
   λi H v H'=>∃T x y,(∀xs,dO K H a xs->xs[i]?=some x)/\(∀ys,dO K H b ys->ys[i]?=some y)/\H T=none/\v=.ref T/\H'=upd H T (.tup [x,y]),
   λi H=>∃xs ys,dO K H a xs/\dO K H b ys/\(xs.length<=i\/ys.length<=i)⟩
theorem wL{T:Addr}{x y:V}{u v:Value}(rx:RelV x u)(ry:RelV y v)(e:h.get? T=some { cls:=.type "tuple",data:=.seq #[u,v] }):cC P w H h T (.tup [x,y]) :=
 ⟨by rw[sizeLine_eq];simp,[u,v],.cons rx (.cons ry .nil),⟨_,e,rfl,_,rfl⟩⟩
theorem cZ{a b:Addr}{o u:Obj}(ha:h.get? a=some o)(hb:h.get? b=some u)(hc:o.cls≠u.cls):a≠b:=λz=>by
 subst z;rw[ha]at hb;cases hb;exact hc rfl
theorem z7{tp:Pos}{a b z TI TO:Addr}(hTT:TI≠TO)(MN:i1≠i2):
  Turn P w K (.Tuple elts n1 tp) (W0 K a b) [z,TI,TO,i1,i2] z (λi h=>IsZip h z TI TO .none/\IsPair h TI (.ref i1) (.ref i2)/\(∃x y,IsPair h TO x y)/\h.IsListIter i1 a i/\h.IsListIter i2 b i):=by
 have apart:∀{h:Heap} {x y:Value} {xs ys:aV} {i:Nat},IsZip h z TI TO .none->IsPair h TI (.ref i1) (.ref i2)->IsPair h TO x y->h.IsListIter i1 a i->h.IsListIter i2 b i->h.IsList a xs->h.IsList b ys->ZipApart z TI TO i1 i2 a b:=by
  intro h x y xs ys i hz hI hO l1 l2 ha hb;obtain⟨o1,e1,c1,_⟩:=l1;obtain⟨o2,e2,c2,_⟩:=l2;obtain⟨oa,ea,ca,_⟩:=ha;obtain⟨ob,eb,cb,_⟩:=hb;exact⟨cZ hI hz (by simp),cZ hO hz (by simp),cZ e1 hz (by rw[c1];simp),cZ e2 hz (by rw[c2];simp),hTT,cZ hI e1 (by rw[c1];simp),cZ hI e2 (by rw[c2];simp),cZ hO e1 (by rw[c1];simp),cZ hO e2 (by rw[c2];simp),MN,
   cZ ea hz (by rw[ca];simp),cZ ea hO (by rw[ca];simp),cZ ea e1 (by rw[ca,c1];simp),cZ ea e2 (by rw[ca,c2];simp),cZ eb hz (by rw[cb];simp),cZ eb hO (by rw[cb];simp),cZ eb e1 (by rw[cb,c1];simp),cZ eb e2 (by rw[cb,c2];simp)⟩
 refine⟨by simp,λi h st c hc=>?_,λi h h' st k=>?_,?_,?_,λA i s Q E st hQ=>wpAny_pyIter_zip st.1 hQ⟩
 ·obtain⟨hz,hI,⟨x,y,hO⟩,⟨o1,e1,_,d1⟩,⟨o2,e2,_,d2⟩⟩:=st;simp only[List.mem_cons,List.not_mem_nil,or_false]at hc;rcases hc with rfl|rfl|rfl|rfl|rfl
  ·exact⟨_,hz,λv q=>by cases q⟩
  ·exact⟨_,hI,λv q=>by cases q⟩
  ·exact⟨_,hO,λv q=>by cases q⟩
  ·exact⟨o1,e1,λv q=>by rw[d1]at q;cases q⟩
  ·exact⟨o2,e2,λv q=>by rw[d2]at q;cases q⟩
 ·obtain⟨hz,hI,⟨x,y,hO⟩,l1,l2⟩:=st;exact⟨k z (by simp) _ hz,k TI (by simp) _ hI,⟨x,y,k TO (by simp) _ hO⟩,l1.at λo e=>k i1 (by simp) o e,l2.at λo e=>k i2 (by simp) o e⟩
 ·intro X hP hw hK hc i pins s σ H E I hf st hg;subst hP hw hK;obtain⟨xs,ys,x,y,q1,q2,ex,ey⟩:=hg;obtain⟨hz,hI,⟨x0,y0,hO⟩,l1,l2⟩:=st;obtain⟨aM,rv,p,_⟩:=I.list q1;obtain⟨its',zA,p',_⟩:=I.list q2;obtain⟨u,hu,ru⟩:=rv.get ex;obtain⟨u',Va,ZL⟩:=zA.get ey;have D:=apart hz hI hO l1 l2 p.isList p'.isList;refine wpAny_pyNext_zip_item D hz hI hO l1 l2 p.isList p'.isList (x:=u) (y:=u') (by simpa using hu) (by simpa using Va) λh1 z1 o1 a1 b1 t1 Rt k1=>⟨_,rfl,?_⟩
  refine wpAny_letOwnedTupleGo_zip z1 λh2 z2 Mp=>?_;have Y5:s.heap.objs.size≠z:=aaw (aaj hz);have kk:∀c o,c∉[z,TI,TO,i1,i2]->s.heap.get? c=some o->h2.get? c=some o:=λc o hc e=>by
   simp only[List.mem_cons,List.not_mem_nil,or_false,not_or]at hc;exact Mp.extBut c o hc.1 (k1 c o hc.1 hc.2.2.1 hc.2.2.2.1 hc.2.2.2.2 e)
  have hT:h2.get? s.heap.objs.size=some { cls:=.type "tuple",data:=.seq #[u,u'] }:=Mp.extBut _ _ Y5 t1;have hn:H s.heap.objs.size=none:=I.cB.fresh (aam _);refine⟨.ref s.heap.objs.size,upd H s.heap.objs.size (.tup [x,y]),Eh (s:=s) (h':=h2) (t':=s.toks) I hf kk (aam _) (wL ru ZL hT),rfl,⟨_,x,y,λzs hz=>by rw[I.kA hz q1];exact ex,λzs hz=>by rw[I.kA hz q2];exact ey,hn,rfl,rfl⟩,⟨z2,Mp.extBut _ _ D.TIz (k1 _ _ D.TIz D.TITO D.TIi1 D.TIi2 hI),⟨_,_,Mp.extBut _ _ D.TOz o1⟩,a1.extBut Mp.extBut D.i1z,b1.extBut Mp.extBut D.i2z⟩,λc hc=>?_⟩;rw[aW]
  ·exact(hf c hc).1
  ·intro z;subst z;simp only[List.mem_cons,List.not_mem_nil,or_false]at hc;rcases hc with e|e|e|e|e
   ·exact absurd (aaj hz) (by rw[<- e];exact aay _)
   ·exact absurd (aaj hI) (by rw[<- e];exact aay _)
   ·exact absurd (aaj hO) (by rw[<- e];exact aay _)
   ·obtain⟨_,w,_⟩:=l1;exact absurd (aaj w) (by rw[<- e];exact aay _)
   ·obtain⟨_,w,_⟩:=l2;exact absurd (aaj w) (by rw[<- e];exact aay _)
 ·intro X hP hw hK hc i pins s σ H E I hf st hg;subst hP hw hK;obtain⟨xs,ys,q1,q2,hl⟩:=hg;obtain⟨hz,hI,⟨x0,y0,hO⟩,l1,l2⟩:=st;obtain⟨aM,rv,p,_⟩:=I.list q1;obtain⟨its',zA,p',_⟩:=I.list q2;have e1:=rv.length;have e2:=zA.length;refine wpAny_pyNext_zip_end (I.ok.hd hc) (apart hz hI hO l1 l2 p.isList p'.isList) hz hI hO l1 l2 p.isList p'.isList (by simp;left) λh1 k1=>⟨rfl,Eg (t':=s.toks) I hf λc o hc e=>?_⟩
  simp only[List.mem_cons,List.not_mem_nil,or_false,not_or]at hc;exact k1 c o hc.1 hc.2.2.1 hc.2.2.2.1 hc.2.2.2.2 e
variable {ta:TA}
theorem JP{tp p:Pos}(hg:Gl X "zip")(hm:X.mg "zip" = none)(ha:PA X [e1,e2] ta)(hs:∀es,starEach (e1::es) X.env=(false,eval e1 X.env)::starEach es X.env)(MB:∀es,starEach (e2::es) X.env=(false,eval e2 X.env)::starEach es X.env):
  PI X (.Tuple elts n1 tp) (.Call (.Name "zip" p) [e1,e2] [] pos) (λσ H R=>ta σ H λvs H1=>∃a b,vs=[.ref a,.ref b]/\(∃xs,dO X.K H1 a xs)/\(∃ys,dO X.K H1 b ys)/\R (W0 X.K a b) H1):=by
 intro pins s σ H R I h;refine Call_ (gx I hg hm boot_zip (aaD (cQ (ha pos pins s σ H _ I h) λus s1 bK=>?_) (hs _) (by rw[MB];rfl)));obtain⟨vs,H1,I1,r1,q1⟩:=bK;obtain⟨a,b,e,⟨xs,q1⟩,⟨ys,q2⟩,q⟩:=q1;subst e;obtain⟨u,v,rfl,ru,rv⟩:=vals2 r1;cases ru;cases rv;obtain⟨aM,_,p1,_⟩:=I1.list q1;obtain⟨its',_,p2,_⟩:=I1.list q2;refine call_zip_2 p1.isList p2.isList λh' z t o l1 l2 sz k=>wpAny_pyIter_zip z ?_;refine⟨s1.heap.objs.size+4,[s1.heap.objs.size+4,s1.heap.objs.size+2,s1.heap.objs.size+3,s1.heap.objs.size,s1.heap.objs.size+1],_,_,H1,rfl,I1.kept (t':=s1.toks) k,z7 (aan (aaR _)) (aan (aaR _)),⟨z,t,⟨_,_,o⟩,l1,l2⟩,λb hb=>?_,q⟩;have uS:s1.heap.objs.size<=b:=by
  simp only[List.mem_cons,List.not_mem_nil,or_false]at hb;rcases hb with rfl|rfl|rfl|rfl|rfl<;>first|exact Nat.le_add_right .. |exact aam _
 exact I1.F6 uS (I1.cB.fresh uS)
def ox(sc:Scope)(bl:ag)(e:Expr):Option (au):=(eX e).bind λz=>(two z.2).bind λ_=>if z.1=("zip" : Str)/\gz sc z.1=true/\z.1∈bl then some z.2 else none
theorem p_{sc:Scope}{bl:ag}{e:Expr}(h:ox sc bl e=some args):∃p pos a b,e=.Call (.Name ("zip" : Str) p) [a,b] [] pos/\args=[a,b]/\gz sc ("zip" : Str)=true/\("zip" : Str)∈bl:=by
 obtain⟨⟨x,as⟩,hv,h⟩:=bT h;obtain⟨⟨a,b⟩,hw,h⟩:=bT h;obtain⟨hc,h⟩:=gT h;cases h;obtain⟨rfl,h1,h2⟩:=hc;obtain⟨p,pos,rfl⟩:=bU hv;obtain rfl:=g_ hw;exact⟨p,pos,a,b,rfl,rfl,h1,h2⟩
theorem qM{a b:Expr}(h:oH X F Φ cs [a,b]):(∃c d,cs=[c,d]/\PE X a (tD X F Φ c)/\PE X b (tD X F Φ d))/\PA X [a,b] (oM X F Φ cs)/\(∀es,starEach (a::es) X.env=(false,eval a X.env)::starEach es X.env)/\(∀es,starEach (b::es) X.env=(false,eval b X.env)::starEach es X.env):=by
 match cs,h with
 |[c,d],h =>
  obtain⟨h1,h2,_,h3,h4,_,_⟩:=h;exact⟨⟨c,d,rfl,h1,h3⟩,PA.imp (bW h1 (PA.imp (bW h3 (PA.imp dF λ_ _ _ h=>ki h) (h4 _)) λ_ _ _ h=>gH h) (h2 _)) λ_ _ _ h=>gH h,h2,h4⟩
 |[],h=>exact h.elim
 |[_],h=>exact h.2.2.2.elim
 |_::_::_::_,h=>exact h.2.2.2.2.2.2.elim
theorem Rep.Xe{k:bp}{v:V}{d:D}(e:aK H H')(h:Rep (bh K H) (nd K R (λ_=>False) (λ_=>none) H) k v d):Rep (bh K H') (nd K R (λ_=>False) (λ_=>none) H') k' v d :=
 (Rep.qQ h (k':=k')).imp (λ_ _ h=>bh.same e h) λ_ _ _ _ h=>nd.same e h
theorem D5{p q:Addr}{f g:Fl}{a b:aa}:Q5 K (W0 K p q) H2 [.ref p,.ref q] [.lst f a,.lst g b] (ah aA (List.zipWith (λx y=>.tup [x,y]) a b)):=by
 have len:(ah aA (List.zipWith (λx y=>D.tup [x,y]) a b)).length=min a.length b.length:=by rw[aP];simp
 have two:∀{H':Hp} {R':ai},aG (bh K H') (nd K R' (λ_=>False) (λ_=>none) H') [] 0 [.ref p,.ref q] (ah aA [.lst f a,.lst g b]) ->
   ∃xs ys,dO K H' p xs/\dO K H' q ys/\aG (bh K H') (nd K R' (λ_=>False) (λ_=>none) H') [0] 0 xs (ah aA a)/\aG (bh K H') (nd K R' (λ_=>False) (λ_=>none) H') [1] 0 ys (ah aA b):=by
  intro H' R' h;rw[ah,aw,ah,aw,ah]at h;cases h with
  |cons h t=>cases t with
   |cons h' t=>cases h with
    |lst h r=>cases h' with
     |lst h' r'=>exact⟨_,_,h.sq,h'.sq,r,r'⟩
 refine⟨λi H' R' _ h hi=>?_,λi H' R' x jy _ h hi hy=>?_,λi H' R' _ h hi=>?_⟩
 ·obtain⟨xs,ys,h1,h2,r1,r2⟩:=two h;rw[len]at hi;have l1:=r1.length;have l2:=r2.length;rw[aP,List.length_map]at l1 l2;exact⟨xs,ys,xs[i]'(by left),ys[i]'(by left),h1,h2,aas _,aas _⟩
 ·obtain⟨xs,ys,h1,h2,r1,r2⟩:=two h;obtain⟨T,u,v,g1,g2,hn,rfl,rfl⟩:=hy;obtain⟨d1,e1,p1⟩:=r1.y4 (g1 xs h1);obtain⟨d2,e2,p2⟩:=r2.y4 (g2 ys h2);have es:aK H' (upd H' T (.tup [u,v])):=aK.upd hn;refine⟨es,.tup [d1,d2],?_,.tup (bh.of aX) (.cons (p1.Xe es) (.cons (p2.Xe es) .nil))⟩;rw[aP,List.getElem?_map]at e1 e2 ⊢;obtain⟨c1,q1,rfl⟩:=Option.map_eq_some_iff.mp e1;obtain⟨c2,q2,rfl⟩:=Option.map_eq_some_iff.mp e2;rw[List.getElem?_zipWith,q1,q2];simp[aw,ah]
 ·obtain⟨xs,ys,h1,h2,r1,r2⟩:=two h;rw[len]at hi;have l1:=r1.length;have l2:=r2.length;rw[aP,List.length_map]at l1 l2;exact⟨xs,ys,h1,h2,by left⟩
theorem ID{n:Nat}(hΦ:Φ n=D4){sc:Scope}{bl:ag}{k:Nat}(L:PX X sc bl k){e:Expr}(he:ox sc bl e=some args)(ht:iV tg=true)(hs:oH X F Φ cs args)
  {pins:aj} {s:Shared} {xs:aa} {d:D} (I:Inv X pins σ H s) (Si:SI X F R τ ρ σ H) (cD:bz Φ cs ρ=ok xs) (ed:Φ n xs=ok d) (ei:sV d=ok items) (Rr:It->Hp->Prop)
  (hR:∀J H2 vs,aK H H2->cI X.K (gP X F) R τ (dg cs) H H2 vs xs->Q5 X.K J H2 vs xs items->Rr J H2) :
  wpAny (model X.prog X.w) X.A (eval e X.env) (λv s1=>wpAny (model X.prog X.w) X.A (pyIter v) (DH X pins σ tg Rr) X.xe s1) X.xe s:=by
 obtain⟨p,pos,a,b,rfl,rfl,h1,h2⟩:=p_ he;cases tg<;>try (cases ht;done)
 obtain⟨_,pa,s1,s2⟩:=qM hs;refine JP (L.gl h1) (L.bl _ h2) pa s1 s2 pins s σ H Rr I ⟨R,τ,ρ,xs,Si,cD,λvs H1 e1 rv=>?_⟩;have ZI:=rv;obtain⟨τt,fr,rs⟩:=rv;rw[hΦ]at ed;unfold D4 at ed;split at ed
 ·cases ed;cases ei;obtain⟨v,w,rfl,rx,ry⟩:=rs.two;cases rx with
  |lst hx _=>cases ry with
   |lst hy _=>exact⟨_,_,rfl,⟨_,hx.sq⟩,⟨_,hy.sq⟩,hR _ H1 _ e1 ZI D5⟩
 ·cases ed
theorem aG.C2{T:md}{N:gC}{k:bp}:∀(j:Nat) {n:Nat} {vs:af} {ds:aa},aG T N k n vs ds->aG T N k (n+j) (vs.drop j) (ds.drop j)
 |0,_,_,_,h=>h
 |j+1,_,_,_,.nil=>.nil
 |j+1,n,_,_,.cons h t=>by
  rw[show n+(j+1)=n+1+j by left];exact aG.C2 j t
theorem aG.Ha{T:md}{N:gC}{k:bp}:∀(j:Nat) {n:Nat} {vs:af} {ds:aa},aG T N k n vs ds->aG T N k n (vs.take j) (ds.take j)
 |0,_,_,_,_=>by rw[List.take_zero,List.take_zero];exact .nil
 |j+1,_,_,_,.nil=>.nil
 |j+1,n,_,_,.cons h t=>.cons h (aG.Ha j t)
noncomputable def oZ{α:Type}(b:Bool)(k:Nat)(xs:List α):List α:=if b then xs.drop k else xs.take k
def NY(K:aq)(b:Bool):V->Option Int->Option Int->Hp->VK->Prop:=λx lo hi H Q=>∃(a:Addr) (xs:af) (k:Nat),x=.ref a/\dO K H a xs/\lo=(if b then some (k:Int)else none)/\hi=(if b then none else some (k:Int))/\∀p,H p=none->Q (.ref p) (upd H p (.lst (oZ b k xs)))
theorem qv(b:Bool):WV X (NY X.K b):=by
 intro pins s σ H x v vl vu lo hi sl Q I rx hs pl pu h;obtain⟨a,xs,k,rfl,hx,rfl,rfl,q⟩:=h;cases rx;obtain⟨aM,r,HB,hz⟩:=I.list hx;have hl:=dw HB;have hlen:aM.length=xs.length:=r.length.symm;refine⟨"list",_,slot_list_getitem.lookup,hl.typeIs,wpAny_getItem_list_slice hl hs pl pu .none (by simp) ?_ (by rw[List.size_toArray,hlen];exact hz)⟩;have e:slicePick aM.toArray (if b then some (k:Int)else none) (if b then none else some (k:Int)) none=(oZ b k aM).toArray:=by
  cases b with
  |true=>exact slicePick_from' aM.toArray k
  |false=>exact slicePick_upto' aM.toArray k
 have rc:Vals (oZ b k xs) (oZ b k aM):=by
  cases b with
  |true=>exact r.drop k
  |false=>exact r.take k
 have lc:(oZ b k xs).length<=xs.length:=by
  cases b with
  |true=>show(xs.drop k).length<=_;rw[List.length_drop];left
  |false=>show(xs.take k).length<=_;rw[List.length_take];left
 rw[e];exact⟨.ref s.heap.objs.size,_,I.Kk (t':=s.toks) rc (aaC lc hz),rfl,q _ I.fresh⟩
def cutD(b:Bool)(xs:aa):O D:=match two xs with
 |some z=>match z.1 with
  |.lst _ ds=>match z.2 with
   |.int k=>if 0<=k then ok (.lst .ow (ah aN (oZ b k.toNat ds)))else none
   |_=>none
  |_=>none
 |none=>none
set_option tactic.hygienic true in
theorem Gz{b:Bool}{x y d:D}(h:cutD b [x,y]=ok d):∃(f:Fl) (ds:aa) (k:Nat),x=.lst f ds/\y=.int k/\d=.lst .ow (ah aN (oZ b k ds)):=by
 cases x<;>first|exact nk h | (cases h;done) | (cases y<;>first|exact nk h | (cases h;done)|skip)
 obtain⟨h1,h3⟩:=oU h;rename_i f ds k;exact⟨f,ds,k.toNat,rfl,by rw[Int.toNat_of_nonneg h1],h3.symm⟩
noncomputable def M_(b:Bool)(e:Expr):Option Expr:=match e with
 |.Slice lo hi st _=>match st with
  |none=>match b with
   |true=>match hi with
    |none=>lo
    |some _=>none
   |false=>match lo with
    |none=>hi
    |some _=>none
  |some _=>none
 |_=>none
set_option tactic.hygienic true in
theorem Ed{b:Bool}{e k:Expr}(h:M_ b e=some k):∃p,e=.Slice (if b then some k else none) (if b then none else some k) none p:=by
 cases e<;>first|exact nk h | (cases h;done)|skip
 rename_i lo hi st p;cases st with
 |some _=>cases h
 |none=>cases b with
  |true=>cases hi with
   |some _=>cases h
   |none=>cases h;exact⟨p,rfl⟩
  |false=>cases lo with
   |some _=>cases h
   |none=>cases h;exact⟨p,rfl⟩
def lq(b:Bool)(_:Scope)(_:ag)(e:Expr):Option (au):=(yj e).bind λz=>(M_ b z.2).bind λk=>some [z.1,k]
theorem qa{b:Bool}{sc:Scope}{bl:ag}{e:Expr}(h:lq b sc bl e=some args):∃a k p pos,e=.Subscript a (.Slice (if b then some k else none) (if b then none else some k) none p) pos/\args=[a,k]:=by
 obtain⟨⟨a,s⟩,hv,h⟩:=bT h;obtain⟨k,hw,h⟩:=bT h;cases h;obtain⟨pos,rfl⟩:=mh hv;obtain⟨p,rfl⟩:=Ed hw;exact⟨a,k,p,pos,rfl,rfl⟩
theorem C7{b:Bool}{n:Nat}(hΦ:Φ n=cutD b){sc:Scope}{bl:ag}{k:Nat}(L:PX X sc bl k){e:Expr}(he:lq b sc bl e=some args)(hs:oH X F Φ cs args):PE X e (tD X F Φ (.cg n cs))/\PT X e (gI X F Φ (.cg n cs)):=by
 obtain⟨a,ke,p,pos,rfl,rfl⟩:=qa he;cases cs with
 |nil=>exact hs.elim
 |cons c cs=>cases cs with
  |nil=>exact hs.2.2.2.elim
  |cons c' cs=>cases cs with
   |cons _ _=>exact hs.2.2.2.2.2.2.elim
   |nil =>
    obtain⟨h1,_,_,h2,_,_,_⟩:=hs;have this:PE X (.Subscript a (.Slice (if b then some ke else none) (if b then none else some ke) none p) pos) (tD X F Φ (.cg n [c,c'])):=by
     have go:∀{tl th:TO},PO X (if b then some ke else none) tl->PO X (if b then none else some ke) th->(∀(H1:Hp) (R:ai) (τ:Addr->Option bp) (ρ:aZ) (k:Nat) (σ:St) (Q:Option Int->Option Int->Hp->Prop),SI X F R τ ρ σ H1->bj Φ c' ρ=ok (.int k)->(∀H2,aK H1 H2->Q (if b then some (k:Int)else none) (if b then none else some (k:Int)) H2)->tl σ H1 λl H2=>th σ H2 λu H3=>Q l u H3)->PE X (.Subscript a (.Slice (if b then some ke else none) (if b then none else some ke) none p) pos) (tD X F Φ (.cg n [c,c'])):=by
      intro tl th pl pu hh;refine PE.imp (tE (qv b) h1 pl pu) λσ H Q hq=>?_;obtain⟨R,τ,ρ,d,Si,ev,hq⟩:=hq;obtain⟨xs,cD,ev⟩:=aH ev;obtain⟨x,ex,cD⟩:=aH cD;obtain⟨ys,l9,cD⟩:=aH cD;cases cD;obtain⟨y,ey,l9⟩:=aH l9;cases l9;rw[hΦ]at ev;obtain⟨f,ds,j,rfl,rfl,rfl⟩:=Gz ev;refine tD.intro Si ex λv H1 e1 r1=>hh H1 R τ ρ j σ (λl u H3=>NY X.K b v l u H3 Q) (Si.go e1) ey λH2 e2=>?_;have r2:=(r1.go e2).mono (fv':=jr (.cg n [c,c'])) λi hi=>aaA _ hi;obtain⟨τt,fr,rp⟩:=r2;obtain⟨q,xs,rfl,hn,rs⟩:=rp.uV;have ee:=e1.trans e2;refine⟨q,xs,j,rfl,hn.sq,rfl,rfl,λl hl=>hq _ _ (ee.trans (aK.upd hl)) (cf.tM (ee.free hl) (ee.trans (aK.upd hl)) aX ?_)⟩;have rc:∃n',aG (bh X.K H2) (nd X.K R (jw (gP X F) τ (jr (.cg n [c,c']))) τt H2) [] n' (oZ b j xs) (oZ b j ds):=by
       cases b with
       |true=>exact⟨_,rs.C2 j⟩
       |false=>exact⟨_,rs.Ha j⟩
      obtain⟨n',rc⟩:=rc;exact(rc.fZ Si fr).imp (λ_ _ h=>bh.same (aK.upd hl) h) λ_ _ _ _ h=>nd.same (aK.upd hl) h
     cases b with
     |true =>
      refine go (qH h2) qI λH1 R τ ρ k σ Q Si ek hk=>tD.intro Si ek λv H2 e2 r2=>?_;cases r2.isInt;exact⟨k,rfl,hk H2 e2⟩
     |false =>
      refine go qI (qH h2) λH1 R τ ρ k σ Q Si ek hk=>tD.intro Si ek λv H2 e2 r2=>?_;cases r2.isInt;exact⟨k,rfl,hk H2 e2⟩
    exact⟨this,cH this λ_=>by cases b<;>rfl⟩
section
open PySem.SeqAt
open PySem.AutoSeq1 (wpAny_loadPart')
open PySem.MeetsSeq PySem.MeetsSeq2 PySem.MeetsSeq3
theorem AI(A:aJ)(s:Shared)(a:Int)(t:Tok)(c:Int)(u:Tok)(prog:aF)(w:World)(E:aD)(Q:aD)(h:Q (.bool (decide (a ≥ c))) s):wpAny (model prog w) A (richCompare .GtE (.int a t) (.int c u)) Q E s :=
 (PyProof.Rows.ge_int h:wpAny (model prog w) A (compareOp .GtE (.int a t) (.int c u)) Q E s)
theorem Fx{vs ws:ak}{ms:ae}{m n:Nat}(h1:IntsAre vs ns)(h2:IntsAre ws ms)(hz:vs.zip ws=[])(hl:ns.length+n=ms.length+m):(!HT.lexLt ns ms)=decide (m ≥ n):=by
 cases h1 with
 |nil=>cases h2 with
  |nil=>simp only[List.length_nil]at hl;exact(aaG (by left)).symm
  |cons c u h=>simp only[List.length_nil,List.length_cons]at hl;exact(aaV (by left)).symm
 |cons a t h=>cases h2 with
  |nil=>simp only[List.length_nil,List.length_cons]at hl;exact(aaG (by left)).symm
  |cons c u h=>rw[List.zip_cons_cons]at hz;cases hz
theorem oK(l b:Addr)(items dt:aV)(n n2:Nat)(dd v9:Option Addr)(sl uR:Array (Option Value))(ns ms:ae)(hi:IntsAre items.toList ns)(hj:IntsAre dt.toList ms):
  Meets (Builtin.«tuple.__ge__» ⟨[.ref l,.ref b],[]⟩) (λ_ R s=>s.heap.get? l=some { cls:=.type "tuple",dict:=dd,data:=.seq items n,slots:=sl }/\s.heap.get? b=some { cls:=.type "tuple",dict:=v9,data:=.seq dt n2,slots:=uR }/\R (.ok (.ret (.bool (!HT.lexLt ns ms)))) s) :=
 .of_wp λprog w A R s h=>by
  obtain⟨hp,g,d,tk,os⟩:=s;obtain⟨hl,hb,h⟩:=h;have f2:=AutoSeq1.sub_tuple_tuple;have z1:items.size=ns.length:=by rw[<- hi.length];simp
  have z2:dt.size=ms.length:=by rw[<- hj.length];simp
  wp_walk using wpAny_loadPart' hl,wpAny_loadPart' hb,wpAny_forIn_list _ (λrest b s'=>b.1=none/\s'=⟨hp,g,d,tk,os⟩/\∃(vs ws:ak) (kR zB:ae),rest=vs.zip ws/\IntsAre vs kR/\IntsAre ws zB/\kR.length+dt.size=zB.length+items.size/\R (.ok (.ret (.bool (!HT.lexLt kR zB)))) ⟨hp,g,d,tk,os⟩) _
  case turn =>
   rintro ⟨y,x⟩ rest b s' ⟨uS,rfl,vs,ws,kR,zB,hz,KH,HU,hlen,hR⟩;cases KH with
   |nil=>rw[List.zip_nil_left]at hz;cases hz
   |cons a t hvi'=>cases HU with
    |nil=>rw[List.zip_nil_right]at hz;cases hz
    |cons c u hwi' =>
     rw[List.zip_cons_cons]at hz;injection hz with U5 BW
     injection U5 with hy hx
     subst hy hx;rw[HT.dG]at hR;simp only[List.length_cons]at hlen;obtain⟨e,he,B6⟩:=HT.uj A.in1 ⟨hp,g,d,tk,os⟩ a t c u;refine aaa (he prog w _ _ ?_);cases e with
     |true =>
      rw[if_pos (B6.mp rfl)]at hR
      wp_walk
      exact⟨rfl,rfl,_,_,_,_,BW,hvi',hwi',by left,hR⟩
     |false =>
      have jE:¬ a=c:=λq=>absurd (B6.mpr q) aag;rw[if_neg jE,show(!decide (a<c))=decide (a ≥ c) by by_cases q:a<c<;>simp[q]<;>left]at hR;have Ve:=AI A.in1 ⟨hp,g,d,tk,os⟩ a t c u prog w
      wp_walk using Ve
      exact⟨_,rfl,by simpa using hR⟩
  case fin =>
   rintro ⟨b1,b2⟩ s' ⟨uS,rfl,vs,ws,kR,zB,hz,KH,HU,hlen,hR⟩;simp only at uS;subst uS;rw[Fx KH HU hz.symm hlen]at hR
   wp_walk
   exact⟨_,rfl,by simpa [Builtin.Tuple.tupleCompareSizes]using hR⟩
  case h=>exact⟨rfl,rfl,items.toList,dt.toList,ns,ms,rfl,hi,hj,by left,h⟩
end
def NX(K:aq):R2:=λx y H Q=>∃a b ns ms,x=.ref a/\y=.ref b/\bh K H a (ns.map V.int)/\bh K H b (ms.map V.int)/\Q (.bl (!HT.lexLt ns ms)) H
theorem Bb(hu:X.A.units<cLine):jG X (compareOp .GtE) (NX X.K):=by
 intro pins s σ H x y v u Q I rx ry h;obtain⟨a,b,ns,ms,rfl,rfl,ha,hb,q⟩:=h;cases rx;cases ry;obtain⟨aM,r1,⟨⟨cls,dd,data,sl⟩,ho,hc,n,hd⟩,_⟩:=I.tuple ha;obtain⟨vH,r2,⟨⟨GD,v9,data2,uR⟩,qW,hc2,n2,hd2⟩,_⟩:=I.tuple hb;simp only at hc hd hc2 hd2;subst hc hd hc2 hd2;exact richCompare_meets_room (op:=.GtE) ⟨_,ho,rfl⟩ ⟨_,qW,rfl⟩ PySem.F.slot_tuple_ge PySem.F.entry_tuple_ge (PySem.F.args_tuple_ge_2 _ _) (oK a b aM.toArray vH.toArray n n2 dd v9 sl uR ns ms (intsAre_of r1) (intsAre_of r2))
  ⟨ho,qW,show Value.bool (!HT.lexLt ns ms)≠Value.notImplemented/\EP X pins σ Q (.bool (!HT.lexLt ns ms)) s from⟨(λx=>nomatch x),⟨.bl _,H,I,rfl,q⟩⟩⟩ hu
def MO(xs:aa):O D:=match two xs with
 |some z=>match z.1 with
  |.tup a=>match z.2 with
   |.tup b=>match intsOf a with
    |some ns=>match intsOf b with
     |some ms=>ok (.bl (!HT.lexLt ns ms))
     |none=>none
    |none=>none
   |_=>none
  |_=>none
 |none=>none
set_option tactic.hygienic true in
theorem K9{x y d:D}(h:MO [x,y]=ok d):∃ns ms:ae,x=.tup (ns.map D.int)/\y=.tup (ms.map D.int)/\d=.bl (!HT.lexLt ns ms):=by
 cases x<;>first|exact nk h | (cases h;done) | (cases y<;>first|exact nk h | (cases h;done)|skip)
 rename_i a b;have h:(match intsOf a with|some ns=>(match intsOf b with|some ms=>ok (D.bl (!HT.lexLt ns ms))|none=>none)|none=>none)=ok d:=h;cases h1:intsOf a with
 |none=>rw[h1]at h;exact nk h
 |some ns=>cases h2:intsOf b with
  |none=>rw[h1,h2]at h;cases h
  |some ms =>
   rw[h1,h2]at h;cases h;exact⟨ns,ms,by rw[dN h1],by rw[dN h2],rfl⟩
def Dj(_:Scope)(_:ag)(e:Expr):Option (au):=(IV e).bind λz=>(one z.2.2).bind λr=>if z.2.1=[.GtE]then some [z.1,r]else none
theorem Di{sc:Scope}{bl:ag}{e:Expr}(h:Dj sc bl e=some args):∃l r p,e=.Compare l [.GtE] [r] p/\args=[l,r]:=by
 obtain⟨⟨l,os,rs⟩,hv,h⟩:=bT h;obtain⟨r,hw,h⟩:=bT h;obtain⟨hc,h⟩:=gT h;cases h;obtain rfl:=hc;obtain⟨p,rfl⟩:=wI hv;obtain rfl:=cE hw;exact⟨l,r,p,rfl,rfl⟩
theorem Qj{n:Nat}(hΦ:Φ n=MO){sc:Scope}{bl:ag}{k:Nat}(L:PX X sc bl k){e:Expr}(he:Dj sc bl e=some args)(hs:oH X F Φ cs args):PE X e (tD X F Φ (.cg n cs))/\PT X e (gI X F Φ (.cg n cs)):=by
 obtain⟨l,r,p,rfl,rfl⟩:=Di he;have hu:X.A.units<cLine:=by have:=L.room.units;left
 cases cs with
 |nil=>exact hs.elim
 |cons c cs=>cases cs with
  |nil=>exact hs.2.2.2.elim
  |cons c' cs=>cases cs with
   |cons _ _=>exact hs.2.2.2.2.2.2.elim
   |nil =>
    obtain⟨h1,_,_,h2,_,_,_⟩:=hs;have key:∀{σ:St} {H:Hp} {R:ai} {τ:Addr->Option bp} {ρ:aZ} {d:D} {Q:VK},SI X F R τ ρ σ H->bj Φ (.cg n [c,c']) ρ=ok d->(∀b H2,d=.bl b->aK H H2->Q (.bl b) H2)->Hc (NX X.K) (tD X F Φ c) (tD X F Φ c') σ H Q:=by
     intro σ H R τ ρ d Q Si ev hq;obtain⟨xs,cD,ev⟩:=aH ev;obtain⟨x,ex,cD⟩:=aH cD;obtain⟨ys,l9,cD⟩:=aH cD;cases cD;obtain⟨y,ey,l9⟩:=aH l9;cases l9;rw[hΦ]at ev;obtain⟨ns,ms,rfl,rfl,rfl⟩:=K9 ev;refine tD.intro Si ex λv H1 e1 r1=>tD.intro (Si.go e1) ey λu H2 e2 r2=>?_;obtain⟨_,_,p1⟩:=r1.go e2;obtain⟨_,_,p2⟩:=r2;cases p1 with
     |tup t1 s1=>cases p2 with
      |tup t2 s2 =>
       cases s1.ofInts;cases s2.ofInts;exact⟨_,_,ns,ms,rfl,rfl,t1,t2,hq _ H2 rfl (e1.trans e2)⟩
    refine⟨PE.imp (xa (Bb hu) h1 h2 (Bm _)) λσ H Q hq=>?_,PT.imp (wV (Bb hu) h1 h2 (Bm _)) λσ H Q hq=>?_⟩
    ·obtain⟨R,τ,ρ,d,Si,ev,hq⟩:=hq;exact key Si ev λb H2 e es=>hq _ H2 es (by subst e;exact .bl)
    ·obtain⟨R,τ,ρ,b,Si,ev,hq⟩:=hq;obtain⟨d,ed,et⟩:=aH ev;refine key Si ed λb' H2 e es=>?_;subst e;cases et;exact⟨_,rfl,hq H2 es⟩
noncomputable abbrev rW(h:Heap)(z TI TO a:Addr)(f:Bool):Prop :=
 h.get? z=some { cls:=.type "zip",dict:=none,data:=.fields #[rawInt a,.bool f,.bool false,.ref TI,.ref TO],slots:=#[] }
variable {oa:Obj}{ys:aV}
section
variable {prog:aF}{w:World}{A:aJ}{E:aD}{s:Shared}
theorem zP{a:Addr}{o:Obj}{Q:Option Obj->Shared->Prop}(ho:s.heap.get? a=some o)(h:Q (some o) s):wpAny (model prog w) A (loadIfAlive a) Q E s:=by
 have h':Q (s.heap.get? a) s:=by rw[ho];exact h
 exact λ_ _ _=>h'
theorem wB{z TI TO a:Addr}{f:Bool}{Q:Bool->Shared->Prop}(hz:rW s.heap z TI TO a f)(ha:s.heap.get? a=some oa)(hQ:∀h',rW h' z TI TO a true->Heap.SameBut z s.heap h'->Q false { s with heap:=h' }):
  wpAny (model prog w) A (Builtin.SmallTypes.ownedTupleIsFree (.ref z)) Q E s:=by
 unfold Builtin.SmallTypes.ownedTupleIsFree;refine aaa (abm hz rfl (x:=rawInt a) rfl ?_);show wpAny _ _ (loadIfAlive ((a:Int).toNat) >>= _) _ _ _;rw[Int.toNat_natCast];refine aaa (zP ha ?_);simp only[Option.isNone_some,Bool.false_eq_true,if_false];refine aaa (abm hz rfl (x:=.bool f) rfl ?_);cases f with
 |true =>
  rw[if_neg (show ¬ ((Value.bool true != Value.bool true)=true) from Bool.false_ne_true)];exact aah (hQ s.heap hz (Heap.SameBut.refl _ _))
 |false =>
  rw[if_pos (show(Value.bool false != Value.bool true)=true from rfl)];exact aaa (wpAny_setField_rec hz (by simp) λh₃ PJ lE=>aah (hQ h₃ PJ lE))
theorem sr{z TI TO a:Addr}{f:Bool}{xs:aV}{x y:Value}{Q:aD}(D:ZipApart z TI TO i1 i2 l1 l2)
  (hz:rW s.heap z TI TO a f) (ha:s.heap.get? a=some oa) (DT:IsPair s.heap TI (.ref i1) (.ref i2))
  (h1:s.heap.IsListIter i1 l1 k1) (h2:s.heap.IsListIter i2 l2 k2) (B4:s.heap.IsList l1 xs) (zH:s.heap.IsList l2 ys) (hx:xs[k1]?=some x) (hy:ys[k2]?=some y)
  (hQ:∀h',rW h' z TI TO a true->h'.IsListIter i1 l1 (k1+1)->h'.IsListIter i2 l2 (k2+1)->IsPair h' s.heap.objs.size x y->h'.objs.size=s.heap.objs.size+1 ->
   (∀c o,c≠z->c≠i1->c≠i2->s.heap.get? c=some o->h'.get? c=some o)->Q (.ref s.heap.objs.size) { s with heap:=h' }) :
  wpAny (model prog w) A (Builtin.«zip.__next__» ⟨[.ref z],[]⟩) (λfin s'=>∃v,fin=.done (.ret v)/\Q v s') E s:=by
 show wpAny _ _ (field (.ref z) 2 >>= _) _ _ _;refine aaa (abm hz rfl (x:=.bool false) rfl ?_);show wpAny _ _ (field (.ref z) 3 >>= _) _ _ _;refine aaa (abm hz rfl (x:=.ref TI) rfl ?_);refine aaa (wpAny_seqItems DT rfl ?_);show wpAny _ _ (Builtin.SmallTypes.ownedTupleIsFree (.ref z) >>= _) _ _ _;refine aaa (wB hz ha λh₁ HS fR=>?_);simp only[Bool.false_eq_true,if_false];refine aaa ?_;rw[<- Array.forIn_toList];simp only[List.forIn_cons,List.forIn_nil];refine aaa (aaa (aaF ?_));show wpAny _ _ (Builtin.SmallTypes.nextOf (.ref i1) >>= _) _ _ _;refine aaa (abD (h1.extBut fR.extBut D.i1z) (B4.extBut fR.extBut D.l1z) hx λh₂ HY iX=>aah ?_);refine aah ?_;refine aaa (aaa (aaF ?_));show wpAny _ _ (Builtin.SmallTypes.nextOf (.ref i2) >>= _) _ _ _;refine aaa (abD ((h2.extBut fR.extBut D.i2z).extBut iX.extBut D.i12.symm) ((zH.extBut fR.extBut D.l2z).extBut iX.extBut D.l2i1) hy λh₃ Qb lE=>aah ?_);refine aah ?_;refine aah ?_;have hsz:h₃.objs.size=s.heap.objs.size:=by rw[lE.1,iX.1,fR.1]
 refine aaa (wpAny_newTuple ?_ (by show 2<=_;rw[sizeLine_eq];decide));refine aah ⟨_,rfl,?_⟩;show Q (.ref h₃.objs.size) _;have gX:∀{c o},h₃.get? c=some o->c≠h₃.objs.size:=λe=>aan (aaj e);have hk:∀c o,c≠z->c≠i1->c≠i2->s.heap.get? c=some o->(h₃.push { cls:=.type "tuple",data:=.seq #[x,y] }).get? c=some o:=λc o c1 c2 c3 e=>aak _ (lE.extBut _ _ c3 (iX.extBut _ _ c2 (fR.extBut _ _ c1 e)));rw[hsz];refine hQ _ (aak _ (lE.extBut _ _ D.i2z.symm (iX.extBut _ _ D.i1z.symm HS))) ((HY.extBut lE.extBut D.i12).at λo e=>aak _ e) (Qb.at λo e=>aak _ e) ?_ (by rw[Heap.size_push,hsz]) hk;rw[<- hsz];exact aar _ rfl
theorem uU{z TI TO a:Addr}{f:Bool}{xs:aV}{Q:Fin->Shared->Prop}(hh:A.handled=none)(D:ZipApart z TI TO i1 i2 l1 l2)
  (hz:rW s.heap z TI TO a f) (ha:s.heap.get? a=some oa) (DT:IsPair s.heap TI (.ref i1) (.ref i2))
  (h1:s.heap.IsListIter i1 l1 k1) (h2:s.heap.IsListIter i2 l2 k2) (B4:s.heap.IsList l1 xs) (zH:s.heap.IsList l2 ys) (tX:xs[k1]?=none\/ys[k2]?=none)
  (hE:∀h' e,(∀c o,c≠z->c≠i1->c≠i2->s.heap.get? c=some o->h'.get? c=some o)->(∃o,h'.get? e=some o/\o.cls=.type "StopIteration")->E (.ref e) { s with heap:=h' }) :
  wpAny (model prog w) A (Builtin.«zip.__next__» ⟨[.ref z],[]⟩) Q E s:=by
 show wpAny _ _ (field (.ref z) 2 >>= _) _ _ _;refine aaa (abm hz rfl (x:=.bool false) rfl ?_);show wpAny _ _ (field (.ref z) 3 >>= _) _ _ _;refine aaa (abm hz rfl (x:=.ref TI) rfl ?_);refine aaa (wpAny_seqItems DT rfl ?_);show wpAny _ _ (Builtin.SmallTypes.ownedTupleIsFree (.ref z) >>= _) _ _ _;refine aaa (wB hz ha λh₁ HS fR=>?_);simp only[Bool.false_eq_true,if_false];refine aaa ?_;rw[<- Array.forIn_toList];simp only[List.forIn_cons,List.forIn_nil];refine aaa (aaa (aaF ?_));show wpAny _ _ (Builtin.SmallTypes.nextOf (.ref i1) >>= _) _ _ _;cases hx:xs[k1]? with
 |none =>
  refine aaa (wpAny_nextOf_list_end hh (h1.extBut fR.extBut D.i1z) (B4.extBut fR.extBut D.l1z) hx λh₂ e iX he=>?_);exact hE h₂ e (λc o c1 c2 c3 x=>iX _ _ c2 (fR.extBut _ _ c1 x)) he
 |some x =>
  have hy:ys[k2]?=none:=by rcases tX with h|h;rw[hx]at h;cases h;exact h
  refine aaa (abD (h1.extBut fR.extBut D.i1z) (B4.extBut fR.extBut D.l1z) hx λh₂ HY iX=>aah ?_);refine aah ?_;refine aaa (aaa (aaF ?_));show wpAny _ _ (Builtin.SmallTypes.nextOf (.ref i2) >>= _) _ _ _;refine aaa (wpAny_nextOf_list_end hh ((h2.extBut fR.extBut D.i2z).extBut iX.extBut D.i12.symm) ((zH.extBut fR.extBut D.l2z).extBut iX.extBut D.l2i1) hy λh₃ e lE he=>?_);exact hE h₃ e (λc o c1 c2 c3 x=>lE _ _ c3 (iX.extBut _ _ c2 (fR.extBut _ _ c1 x))) he
theorem mO{z TI TO a:Addr}{f:Bool}{xs:aV}{x y:Value}{Q:Option Value->Shared->Prop}(D:ZipApart z TI TO i1 i2 l1 l2)
  (hz:rW s.heap z TI TO a f) (ha:s.heap.get? a=some oa) (DT:IsPair s.heap TI (.ref i1) (.ref i2))
  (h1:s.heap.IsListIter i1 l1 k1) (h2:s.heap.IsListIter i2 l2 k2) (B4:s.heap.IsList l1 xs) (zH:s.heap.IsList l2 ys) (hx:xs[k1]?=some x) (hy:ys[k2]?=some y)
  (hQ:∀h',rW h' z TI TO a true->h'.IsListIter i1 l1 (k1+1)->h'.IsListIter i2 l2 (k2+1)->IsPair h' s.heap.objs.size x y->h'.objs.size=s.heap.objs.size+1 ->
   (∀c o,c≠z->c≠i1->c≠i2->s.heap.get? c=some o->h'.get? c=some o)->Q (some (.ref s.heap.objs.size)) { s with heap:=h' }) :
  wpAny (model prog w) A (pyNext (.ref z)) Q E s:=by
 have hT:s.TypeIs (.ref z) "zip":=⟨_,hz,rfl⟩
 unfold pyNext;exact aaa (abl (aaN (name:=Str.ofString "__next__") hT abj
  (aaH abj hT PySem.F.entry_zip_next
   (sr D hz ha DT h1 h2 B4 zH hx hy λh' a1 a2 a3 a4 a5 a6=>aah (hQ h' a1 a2 a3 a4 a5 a6)) (PySem.F.args_zip_next_1 _))))
theorem oJ{z TI TO a:Addr}{f:Bool}{xs:aV}{Q:Option Value->Shared->Prop}(hh:A.handled=none)(D:ZipApart z TI TO i1 i2 l1 l2)
  (hz:rW s.heap z TI TO a f) (ha:s.heap.get? a=some oa) (DT:IsPair s.heap TI (.ref i1) (.ref i2))
  (h1:s.heap.IsListIter i1 l1 k1) (h2:s.heap.IsListIter i2 l2 k2) (B4:s.heap.IsList l1 xs) (zH:s.heap.IsList l2 ys) (tX:xs[k1]?=none\/ys[k2]?=none)
  (hQ:∀h',(∀c o,c≠z->c≠i1->c≠i2->s.heap.get? c=some o->h'.get? c=some o)->Q none { s with heap:=h' }):wpAny (model prog w) A (pyNext (.ref z)) Q E s:=by
 have hT:s.TypeIs (.ref z) "zip":=⟨_,hz,rfl⟩
 unfold pyNext;refine aaa (abl (aaN (name:=Str.ofString "__next__") hT abj
  (aaH abj hT PySem.F.entry_zip_next (uU hh D hz ha DT h1 h2 B4 zH tX λh' e hk he=>?_) (PySem.F.args_zip_next_1 _))))
 obtain⟨o,ho,hc⟩:=he;refine aaa (wpAny_isInstance (T:="StopIteration") (b:=true) ⟨o,ho,hc⟩ isSubtype_stop ?_);exact aah (hQ _ hk)
end
theorem IC:typeLookup (.type "zip") "__len__" = pure none:=by rw[typeLookup_type,builtinLookup_eq_fast];kernel_rfl
theorem MZ:typeLookup (.type "zip") "__length_hint__" = pure none:=by rw[typeLookup_type,builtinLookup_eq_fast];kernel_rfl
section
variable {prog:aF}{w:World}{A:aJ}{E:aD}{s:Shared}
theorem D1{z:Addr}(hT:s.TypeIs (.ref z) "zip"){Q:Bool->Shared->Prop}(h:Q true s):wpAny (model prog w) A (Builtin.List.listLengthHint (.ref z)) Q E s:=by
 unfold Builtin.List.listLengthHint;refine aaa (wpAny_specialOf hT IC ?_);refine wpAny_ite_split (λvQ=>absurd vQ (by decide)) (λ_=>?_);refine wpAny_ite_split (λvQ=>absurd vQ (by decide)) (λ_=>?_);refine aaa (wpAny_specialOf hT MZ ?_);exact aah h
end
structure Zl(h:Heap)(z TI TO i1 i2 l1 l2 S:Addr)(xs ys:aV)(i:Nat):Prop where
 st:(IsZip h z TI TO .none/\∃a b,IsPair h TO a b)\/∃a f oa,rW h z TI TO a f/\h.get? a=some oa/\S<a
 ti:IsPair h TI (.ref i1) (.ref i2)
 w1:h.IsListIter i1 l1 i
 w2:h.IsListIter i2 l2 i
 q1:h.IsList l1 xs
 q2:h.IsList l2 ys
structure Below(z TI TO i1 i2 l1 l2 S:Addr):Prop where
 D:ZipApart z TI TO i1 i2 l1 l2
 z:z<S
 TI:TI<S
 TO:TO<S
 i1:i1<S
 i2:i2<S
 l1:l1<S
 l2:l2<S
section
variable {prog:aF}{w:World}{A:aJ}{E:aD}{s:Shared}{z TI TO i1 i2 l1 l2 S:Addr}{xs ys:aV}{i:Nat}
theorem Zl.keep(B:Below z TI TO i1 i2 l1 l2 S)(Z:Zl h z TI TO i1 i2 l1 l2 S xs ys i)(hk:∀b o,b≠S->h.get? b=some o->h'.get? b=some o):Zl h' z TI TO i1 i2 l1 l2 S xs ys i:=by
 have n:∀{b},b<S->b≠S:=λh=>aan h;refine⟨?_,hk _ _ (n B.TI) Z.ti,Z.w1.at λo e=>hk _ o (n B.i1) e,Z.w2.at λo e=>hk _ o (n B.i2) e,Z.q1.at λo e=>hk _ o (n B.l1) e,Z.q2.at λo e=>hk _ o (n B.l2) e⟩;rcases Z.st with ⟨h1,a,b,h2⟩|⟨a,f,oa,h1,h2,h3⟩
 ·exact .inl ⟨hk _ _ (n B.z) h1,a,b,hk _ _ (n B.TO) h2⟩
 ·exact .inr ⟨a,f,oa,hk _ _ (n B.z) h1,hk _ _ (aaw h3) h2,h3⟩
theorem DZ{x y:Value}{Q:Option Value->Shared->Prop}(B:Below z TI TO i1 i2 l1 l2 S)(Z:Zl s.heap z TI TO i1 i2 l1 l2 S xs ys i)(hS:S<s.heap.objs.size)(hx:xs[i]?=some x)(hy:ys[i]?=some y)
  (hQ:∀h',Zl h' z TI TO i1 i2 l1 l2 S xs ys (i+1)->IsPair h' s.heap.objs.size x y->h'.objs.size=s.heap.objs.size+1->(∀c o,c≠z->c≠TO->c≠i1->c≠i2->s.heap.get? c=some o->h'.get? c=some o)->Q (some (.ref s.heap.objs.size)) { s with heap:=h' }) :
  wpAny (model prog w) A (pyNext (.ref z)) Q E s:=by
 have D:=B.D;rcases Z.st with ⟨hz,a,b,MM⟩|⟨a,f,oa,hz,ha,hSa⟩
 ·refine wpAny_pyNext_zip_item D hz Z.ti MM Z.w1 Z.w2 Z.q1 Z.q2 hx hy λh' z1 o1 a1 b1 t1 Rt k1=>hQ h' ?_ t1 Rt k1;exact⟨.inr ⟨s.heap.objs.size,false,_,z1,t1,hS⟩,k1 _ _ D.TIz D.TITO D.TIi1 D.TIi2 Z.ti,a1,b1,Z.q1.at λo e=>k1 _ o D.l1z D.l1TO D.l1i1 D.l1i2 e,Z.q2.at λo e=>k1 _ o D.l2z D.l2TO D.l2i1 D.l2i2 e⟩
 ·refine mO D hz ha Z.ti Z.w1 Z.w2 Z.q1 Z.q2 hx hy λh' z1 a1 b1 t1 Rt k1=>hQ h' ?_ t1 Rt λc o c1 _ c3 c4 e=>k1 c o c1 c3 c4 e;have n:∀{b},b<S->a≠b:=λh=>aaw (abw h hSa);exact⟨.inr ⟨a,true,oa,z1,k1 _ _ (n B.z) (n B.i1) (n B.i2) ha,hSa⟩,k1 _ _ D.TIz D.TIi1 D.TIi2 Z.ti,a1,b1,Z.q1.at λo e=>k1 _ o D.l1z D.l1i1 D.l1i2 e,Z.q2.at λo e=>k1 _ o D.l2z D.l2i1 D.l2i2 e⟩
theorem D2{Q:Option Value->Shared->Prop}(hh:A.handled=none)(B:Below z TI TO i1 i2 l1 l2 S)(Z:Zl s.heap z TI TO i1 i2 l1 l2 S xs ys i)(tX:xs[i]?=none\/ys[i]?=none)
  (hQ:∀h',(∀c o,c≠z->c≠TO->c≠i1->c≠i2->s.heap.get? c=some o->h'.get? c=some o)->Q none { s with heap:=h' }):wpAny (model prog w) A (pyNext (.ref z)) Q E s:=by
 have D:=B.D;rcases Z.st with ⟨hz,a,b,MM⟩|⟨a,f,oa,hz,ha,hSa⟩
 ·exact wpAny_pyNext_zip_end hh D hz Z.ti MM Z.w1 Z.w2 Z.q1 Z.q2 tX hQ
 ·exact oJ hh D hz ha Z.ti Z.w1 Z.w2 Z.q1 Z.q2 tX λh' k=>hQ h' λc o c1 _ c3 c4 e=>k c o c1 c3 c4 e
end
structure Q4(xs ys:aV)(lo:Addr)(h:Heap)(as:bc):Prop where
 above:∀a∈as,lo<a
 nd:as.Nodup
 pairs:∀(j:Nat) (a:Addr),as[j]?=some a->∃x y,xs[j]?=some x/\ys[j]?=some y/\IsPair h a x y
section
variable {prog:aF}{w:World}{A:aJ}{s:Shared}{R:Result->Shared->Prop}{z TI TO i1 i2 l1 l2 S:Addr}{xs ys:aV}
theorem DY(hh:A.handled=none)(B:Below z TI TO i1 i2 l1 l2 S)(hn:min xs.size ys.size<=sizeLine)(res:Value) 
  (hR:∀h' tk acc c as,(∀b o,b≠S->b≠z->b≠TO->b≠i1->b≠i2->h₁.get? b=some o->h'.get? b=some o)->h'.get? S=some { cls:=.type "list",dict:=none,data:=.seq acc c,slots:=#[] }->as.length=min xs.size ys.size->Q4 xs ys S h' as ->
   acc.toList=as.map Value.ref->R (.ok (.ret res)) { s with heap:=h',toks:=tk }) :
  ∀(k i:Nat) (h:Heap) (tk c:Nat) (acc:aV) (as:bc),min xs.size ys.size - i=k->i<=min xs.size ys.size->Zl h z TI TO i1 i2 l1 l2 S xs ys i->(∀b o,b≠S->b≠z->b≠TO->b≠i1->b≠i2->h₁.get? b=some o->h.get? b=some o) ->
   h.get? S=some { cls:=.type "list",dict:=none,data:=.seq acc c,slots:=#[] }->acc.toList=as.map Value.ref->as.length=i->Q4 xs ys S h as ->
   codeAny (model prog w) A (.builtin "list.extend.loop" ⟨[.ref S,.ref z,res],[]⟩) R { s with heap:=h,toks:=tk }:=by
 have nz:S≠z:=aaw B.z;have nO:S≠TO:=aaw B.TO;have n1:S≠i1:=aaw B.i1;have n2:S≠i2:=aaw B.i2;have Xb:∀{a:Addr},S<a->a≠z/\a≠TO/\a≠i1/\a≠i2:=λh=>⟨aaw (abw B.z h),aaw (abw B.TO h),aaw (abw B.i1 h),aaw (abw B.i2 h)⟩
 intro k;induction k with
 |zero =>
  intro i h tk c acc as hk hi Z B5 hS h_ P7 hG;refine abe PySem.F.entry_extend_loop ?_;rw[Around.under_plainId PySem.F.plain_extend_loop _];show wpAny _ A.in1 (pyNext (.ref z) >>= _) _ _ _;have tX:xs[i]?=none\/ys[i]?=none:=by
   rcases Nat.le_total xs.size ys.size with q|q
   ·exact .inl (Array.getElem?_eq_none (by left))
   ·exact .inr (Array.getElem?_eq_none (by left))
  refine aaa (D2 (s:={ s with heap:=h,toks:=tk }) (A:=A.in1) hh B Z tX λh' he=>?_);refine aah (hR h' tk acc c as (λb o h1 h2 h3 h4 h5 e=>he b o h2 h3 h4 h5 (B5 b o h1 h2 h3 h4 h5 e)) (he S _ nz nO n1 n2 hS) (by left) ⟨hG.above,hG.nd,λj a hj=>?_⟩ h_);obtain⟨x,y,e1,e2,e3⟩:=hG.pairs j a hj;obtain⟨a1,a2,a3,a4⟩:=Xb (hG.above a (aaB hj));exact⟨x,y,e1,e2,he a _ a1 a2 a3 a4 e3⟩
 |succ k ih =>
  intro i h tk c acc as hk hi Z B5 hS h_ P7 hG;have gX:i<min xs.size ys.size:=by left
  have hx:xs[i]?=some (xs[i]'(by left)):=aaU _;have hy:ys[i]?=some (ys[i]'(by left)):=aaU _;have hsz:acc.size=i:=by rw[<- Array.length_toList,h_,List.length_map,P7]
  have VM:S<h.objs.size:=aaj hS;refine abe PySem.F.entry_extend_loop ?_;rw[Around.under_plainId PySem.F.plain_extend_loop _];show wpAny _ A.in1 (pyNext (.ref z) >>= _) _ _ _;refine aaa (DZ (s:={ s with heap:=h,toks:=tk }) B Z VM hx hy λh' Z' ht hz MH=>?_);dsimp only at ht hz MH ⊢;have y2:=MH S _ nz nO n1 n2 hS;have up:∀b o,b≠S->h'.get? b=some o->(h'.update S (Obj.mapSeq (·.push (Value.ref h.objs.size)))).get? b=some o:=λb o hb e=>(aaK _ _ (abi hb)).trans e;show wpAny _ A.in1 (updateSeq S (·.push (Value.ref h.objs.size)) >>= _) _ _ _;refine aaa ?_;refine abU y2 rfl (aah ⟨plainId_quiet PySem.F.plain_extend_loop _,ih (i+1) _ tk _ (acc.push (Value.ref h.objs.size)) (as++[h.objs.size]) (by left) gX (Z'.keep B up)
   (λb o h1 h2 h3 h4 h5 e=>up b o h1 (MH b o h2 h3 h4 h5 (B5 b o h1 h2 h3 h4 h5 e))) (aaS _ y2 rfl) (by rw[Array.toList_push,h_,List.map_append];rfl) (by rw[List.length_append,P7];rfl) ⟨?_,?_,?_⟩⟩) (by rw[hsz];left) (by show(acc.push (Value.ref h.objs.size)).size<=sizeLine+1;rw[Array.size_push,hsz];left)
  ·intro a ha;rcases List.mem_append.mp ha with ha|ha
   ·exact hG.above a ha
   ·rw[List.mem_singleton.mp ha];exact VM
  ·refine List.nodup_append.mpr ⟨hG.nd,List.nodup_cons.mpr ⟨acr,aa_⟩,λa ha b hb e=>?_⟩;rw[List.mem_singleton.mp hb]at e;subst e;obtain⟨j,hj⟩:=List.mem_iff_getElem?.mp ha;obtain⟨_,_,_,_,e⟩:=hG.pairs j _ hj;exact absurd (aaj e) (aay _)
  ·intro j b hj;rcases Nat.lt_trichotomy j as.length with q|q|q
   ·rw[List.getElem?_append_left q]at hj;obtain⟨x',y',e1,e2,e3⟩:=hG.pairs j b hj;have hb:=hG.above b (aaB hj);obtain⟨a1,a2,a3,a4⟩:=Xb hb;exact⟨x',y',e1,e2,up b _ (aaw hb) (MH b _ a1 a2 a3 a4 e3)⟩
   ·subst q;have hb:h.objs.size=b:=by simpa using hj
    subst hb;exact⟨_,_,by rw[P7];exact hx,by rw[P7];exact hy,up _ _ (aaw VM) ht⟩
   ·have Po:(as++[h.objs.size])[j]?=none:=List.getElem?_eq_none (by rw[List.length_append,List.length_singleton];left);rw[Po]at hj;exact nk hj
theorem yg(hh:A.handled=none)(B:Below z TI TO i1 i2 l1 l2 S)(hn:min xs.size ys.size<=sizeLine)(Z:Zl s.heap z TI TO i1 i2 l1 l2 S xs ys 0)(MA:IsZip s.heap z TI TO .none)(res:Value)(c₀:Nat)(hS:s.heap.get? S=some { cls:=.type "list",data:=.seq #[] c₀ })
  (hR:∀h' tk acc c as,(∀b o,b≠S->b≠z->b≠TO->b≠i1->b≠i2->s.heap.get? b=some o->h'.get? b=some o)->h'.get? S=some { cls:=.type "list",dict:=none,data:=.seq acc c,slots:=#[] }->as.length=min xs.size ys.size->Q4 xs ys S h' as ->
   acc.toList=as.map Value.ref->R (.ok (.ret res)) { s with heap:=h',toks:=tk }) :
  wpAny (model prog w) A.in1 (Builtin.List.listExtendWith (.ref S) (.ref z) res)
   (λfin s'=>match fin with|.done f=>R (.ok f) s'|.again c'=>c'.quiet=true/\codeAny (model prog w) A c' R s') (λe s'=>R (.error e) s') s:=by
 have hSz:S≠z:=aaw B.z;have hT:s.TypeIs (.ref z) "zip":=⟨_,MA,rfl⟩
 unfold Builtin.List.listExtendWith;refine aaa (wpAny_typeOf (T:="zip") hT ?_);have h1:Builtin.List.listSameRef (.ref S) (.ref z)=false:=by simp[Builtin.List.listSameRef,hSz]
 have h2:(Value.type "zip" == Value.type "list")=false:=by decide
 have h3:(Value.type "zip" == Value.type "tuple")=false:=by decide
 simp only[h1,h2,h3,Bool.or_false,Bool.false_eq_true,if_false];refine aaa (wpAny_pyIter_zip MA ?_);refine aaa (aaF (D1 hT ?_));refine wpAny_ite_split (λ_=>?_) (λvQ=>absurd rfl vQ);refine aaa (wpAny_rule ?_);refine aaa ?_;show wpAny _ _ (updateSeq S (·.push .none) >>= λ_=>updateSeq S (·.pop)) _ _ _;refine aaa (abU hS rfl ?_);have xD:=aaS (Obj.mapSeq (·.push Value.none)) hS rfl;refine abU (hz:=by seq_fits) xD rfl ?_;have P9:=aaS (Obj.mapSeq (·.pop)) xD rfl;have Mr:∀b o,b≠S->s.heap.get? b=some o->((s.heap.update S (Obj.mapSeq (·.push Value.none))).update S (Obj.mapSeq (·.pop))).get? b=some o:=λb o hb e=>(aaK _ _ (abi hb)).trans ((aaK _ _ (abi hb)).trans e);refine aah ⟨plainId_quiet PySem.F.plain_extend_loop _,?_⟩;exact DY hh B hn res (s:=s) (h₁:=s.heap) hR (min xs.size ys.size) 0 _ s.toks _ #[] [] (Nat.sub_zero _) (aaJ _) (Z.keep B Mr) (λb o h1 _ _ _ _ e=>Mr b o h1 e) P9 rfl rfl ⟨(λ_ ha=>nomatch ha),aa_,λj a hj=>by simp at hj⟩
theorem D0(hh:A.handled=none)(B:Below z TI TO i1 i2 l1 l2 S)(hn:min xs.size ys.size<=sizeLine)(Z:Zl s.heap z TI TO i1 i2 l1 l2 S xs ys 0)(MA:IsZip s.heap z TI TO .none)(hS:s.heap.get? S=some { cls:=.type "list",data:=.seq #[] })
  (hR:∀h' tk acc c as,(∀b o,b≠S->b≠z->b≠TO->b≠i1->b≠i2->s.heap.get? b=some o->h'.get? b=some o)->h'.get? S=some { cls:=.type "list",dict:=none,data:=.seq acc c,slots:=#[] }->as.length=min xs.size ys.size->Q4 xs ys S h' as ->
   acc.toList=as.map Value.ref->R (.ok (.ret .none)) { s with heap:=h',toks:=tk }) :
  wpAny (model prog w) A.in1 (Builtin.«list.__init__» ⟨[.ref S,.ref z],[]⟩)
   (λfin s'=>match fin with|.done f=>R (.ok f) s'|.again c'=>c'.quiet=true/\codeAny (model prog w) A c' R s') (λe s'=>R (.error e) s') s:=by
 show wpAny _ _ (do let old <- Builtin.List.listItems (.ref S);Builtin.List.listUpdate (.ref S) (λ_=>#[]);letGo old.toList.reverse;Builtin.List.listExtendWith (.ref S) (.ref z) .none) _ _ s;refine aaa ?_;unfold Builtin.List.listItems;refine aaa (wpAny_seqItems hS rfl (aah ?_));show wpAny _ _ (updateSeq S (λ_=>#[]) >>= λ_=>letGo (#[]:aV).toList.reverse >>= λ_=>Builtin.List.listExtendWith (.ref S) (.ref z) .none) _ _ s;refine aaa (abU hS rfl ?_);have xD:=aaS (Obj.mapSeq (λ_=>(#[]:aV))) hS rfl;have Mr:∀b o,b≠S->s.heap.get? b=some o->(s.heap.update S (Obj.mapSeq (λ_=>(#[]:aV)))).get? b=some o :=
  λb o hb e=>(aaK _ _ (abi hb)).trans e
 refine aaa (wpAny_letGo ?_);refine yg hh B hn (Z.keep B Mr) (Mr _ _ (aan B.z) MA) .none _ xD λh' tk acc c as hk y2 hl hG h_=>?_;exact hR h' tk acc c as (λb o h1 h2 h3 h4 h5 e=>hk b o h1 h2 h3 h4 h5 (Mr b o h1 e)) y2 hl hG h_
end
section
variable {prog:aF}{w:World}{A:aJ}{E:aD}{s:Shared}{z TI TO i1 i2 l1 l2:Addr}{xs ys:aV}
theorem D3{Q:aD}(hh:A.handled=none)(D:ZipApart z TI TO i1 i2 l1 l2)(hn:min xs.size ys.size<=sizeLine)(hz:IsZip s.heap z TI TO .none)(DT:IsPair s.heap TI (.ref i1) (.ref i2)){a b:Value}(MM:IsPair s.heap TO a b)(h1:s.heap.IsListIter i1 l1 0)(h2:s.heap.IsListIter i2 l2 0)(q1:s.heap.IsList l1 xs)(q2:s.heap.IsList l2 ys)
  (hQ:∀h' tk acc c as,(∀b o,b≠z->b≠TO->b≠i1->b≠i2->s.heap.get? b=some o->h'.get? b=some o)->h'.get? s.heap.objs.size=some { cls:=.type "list",dict:=none,data:=.seq acc c,slots:=#[] }->as.length=min xs.size ys.size->Q4 xs ys s.heap.objs.size h' as ->
   acc.toList=as.map Value.ref->Q (.ref s.heap.objs.size) { s with heap:=h',toks:=tk }) :
  wpAny (model prog w) A (call (.type "list") [.ref z]) Q E s:=by
 refine callType_codes (Q₁:=λobj s₁=>obj=.ref s.heap.objs.size/\s₁={ s with heap:=s.heap.push { cls:=.type "list",data:=.seq #[] } }) PySem.F.called_list (PySem.F.typeCall_list_1 _) PySem.F.entry_list_init
  (code_list_new _ ⟨rfl,rfl⟩) λobj s₁ h₁=>?_
 obtain⟨rfl,rfl⟩:=h₁;have hS:(s.heap.push { cls:=.type "list",data:=.seq #[] }).get? s.heap.objs.size=some { cls:=.type "list",data:=.seq #[] }:=aar _ rfl;have up:∀b o,s.heap.get? b=some o->(s.heap.push { cls:=.type "list",data:=.seq #[] }).get? b=some o:=λb o e=>aak _ e;have B:Below z TI TO i1 i2 l1 l2 s.heap.objs.size:=⟨D,aaj hz,aaj DT,aaj MM,(by obtain⟨_,e,_⟩:=h1;exact aaj e),(by obtain⟨_,e,_⟩:=h2;exact aaj e),(by obtain⟨_,e,_⟩:=q1;exact aaj e),(by obtain⟨_,e,_⟩:=q2;exact aaj e)⟩
 refine⟨⟨_,hS,rfl⟩,PySem.F.args_list_init_2 _ _,D0 (A:=A.in1) hh B hn ⟨.inl ⟨up _ _ hz,a,b,up _ _ MM⟩,up _ _ DT,h1.at λo e=>up _ o e,h2.at λo e=>up _ o e,q1.at λo e=>up _ o e,q2.at λo e=>up _ o e⟩ (up _ _ hz) hS λh' tk acc c as hk y2 hl hG h_=>?_⟩;exact⟨rfl,hQ h' tk acc c as (λb o h2 h3 h4 h5 e=>hk b o (aan (aaj e)) h2 h3 h4 h5 (up b o e)) y2 hl hG h_⟩
end
section
variable {X:Cx}
end
def jW(f:Str)(sc:Scope)(bl:ag)(e:Expr):Option (au):=(eX e).bind λz=>(one z.2).bind λ_=>if z.1=f/\gz sc z.1=true/\z.1∈bl then some z.2 else none
theorem lp{f:Str}{sc:Scope}{bl:ag}{e:Expr}(h:jW f sc bl e=some args):∃p pos a,e=.Call (.Name f p) [a] [] pos/\args=[a]/\gz sc f=true/\f∈bl:=by
 obtain⟨⟨x,as⟩,hv,h⟩:=bT h;obtain⟨a,hw,h⟩:=bT h;obtain⟨hc,h⟩:=gT h;cases h;obtain⟨rfl,h1,h2⟩:=hc;obtain⟨p,pos,rfl⟩:=bU hv;obtain rfl:=cE hw;exact⟨_,_,_,rfl,rfl,h1,h2⟩
theorem Inv.OQ{pins:aj}{s:Shared}(I:Inv X pins σ H s)(k:∀b u,s.heap.get? b=some u->h'.get? b=some u)(up:∀b u,H b=some u->H' b=some u)
  (nw:∀b u,H' b=some u->H b=some u\/(s.heap.objs.size<=b/\cC X.prog X.w H' h' b u)):Inv X pins σ H' { s with heap:=h',toks:=t' }:=by
 refine I.step (g':=s.gens) (d':=s.drawn) (ch:=[]) (λb hb=>nomatch hb) (λb o _ _ _ e _=>k b o e) (λb o _ _ _ e _=>⟨o.slots,k b o e⟩) (λb u _ e n=>?_)
  (λb o _ e=>⟨o,k b o e⟩) (λ_ _ e=>up _ _ e) (λ_ _ _ e=>up _ _ e) (λb ps e=>⟨#[],by rw[up _ _ e];simp⟩) (λm hm=>?_) (λb u e=>?_) I.bare
 ·cases q:H' b with
  |none=>rfl
  |some v =>
   rcases nw b v q with z|⟨z,_⟩
   ·rw[n]at z;exact nk z
   ·exact absurd (aaj e) (Nat.not_lt.mpr z)
 ·obtain⟨o,es,ep,ho,r⟩:=hm;exact⟨o,es,ep,k _ o ho,r⟩
 ·rcases nw b u e with e|⟨_,e⟩
  ·exact(I.cB b u e).kl (λc v _ q=>k c v q) (λ_ q=>up _ _ q) λ_ _ q=>up _ _ q
  ·exact e
def oT(H:Hp):List (Addr×V×V)->Hp
 |[]=>H
 |q::r=>upd (oT H r) q.1 (.tup [q.2.1,q.2.2])
theorem kB{H:Hp}{b:Addr}{u:HO}(e:H b=some u):∀{r:List (Addr×V×V)},(∀q∈r,H q.1=none)->oT H r b=some u
 |[],_=>e
 |q::r,h=>by
  have hn:b≠q.1:=λz=>by rw[z,h q List.mem_cons_self]at e;cases e
  show upd (oT H r) q.1 _ b=_;rw[aW hn];exact kB e λq hq=>h q (aal _ hq)
theorem xp{H:Hp}:∀{r:List (Addr×V×V)},(r.map (·.1)).Nodup->∀q∈r,oT H r q.1=some (.tup [q.2.1,q.2.2])
 |[],_,_,h=>nomatch h
 |q'::r,hn,q,h=>by
  show upd (oT H r) q'.1 _ q.1=_;have qY:=List.nodup_cons.mp hn;rcases List.mem_cons.mp h with rfl|h
  ·exact aX
  ·have:q.1≠q'.1:=λz=>qY.1 (by show q'.1∈_;rw[<- z];exact aaM h);rw[aW this];exact xp qY.2 q h
theorem tQ{H:Hp}{b:Addr}{u:HO}:∀{r:List (Addr×V×V)},oT H r b=some u->H b=some u\/∃q∈r,q.1=b/\u=.tup [q.2.1,q.2.2]
 |[],e=>.inl e
 |q::r,e=>by
  replace e:upd (oT H r) q.1 (.tup [q.2.1,q.2.2]) b=some u:=e;by_cases z:b=q.1
  ·subst z;rw[aX]at e;cases e;exact .inr ⟨q,aai,rfl,rfl⟩
  ·rw[aW z]at e;rcases tQ e with h|⟨q',h1,h2⟩
   ·exact .inl h
   ·exact .inr ⟨q',aal _ h1,h2⟩
def Zp(K:aq)(ta:TA):TE:=λσ H Q=>ta σ H λvs H1=>∃a b xs ys,vs=[.ref a,.ref b]/\dO K H1 a xs/\dO K H1 b ys /\
 ∀(l:Addr) (r:List (Addr×V×V)),H1 l=none->(∀q∈r,H1 q.1=none)->(r.map (·.1)).Nodup->l∉r.map (·.1)->r.map (·.2)=xs.zip ys->Q (.ref l) (upd (oT H1 r) l (.lst (r.map λq=>V.ref q.1)))
theorem EV{p:Pos}(hc:X.calm=true)(Vv:Gl X "list")(hml:X.mg "list" = none)(hg:Gl X "zip")(hm:X.mg "zip" = none)(ha:PA X [e1,e2] ta)(hs:∀es,starEach (e1::es) X.env=(false,eval e1 X.env)::starEach es X.env)(MB:∀es,starEach (e2::es) X.env=(false,eval e2 X.env)::starEach es X.env):
  PE X (.Call (.Name "list" p') [.Call (.Name "zip" p) [e1,e2] [] pos] [] pos') (Zp X.K ta):=by
 intro pins s σ H Q I h;refine aa4 (gx I Vv hml boot_list ?_);refine aaD ?_;show wpAny _ _ (spliced ((false,eval (.Call (.Name "zip" p) [e1,e2] [] pos) X.env)::backTo pos' (starEach [] X.env))) _ _ s;refine acd ?_;refine Call_ (gx I hg hm boot_zip (aaD (cQ (ha pos pins s σ H _ I h) λus s1 bK=>?_) (hs _) (by rw[MB];rfl)));obtain⟨vs,H1,I1,r1,q1⟩:=bK;obtain⟨a,b,xs,ys,e,q1,q2,hq⟩:=q1;subst e;obtain⟨u,v,rfl,ru,rv⟩:=vals2 r1;cases ru;cases rv;obtain⟨aM,rx,p1,R7⟩:=I1.list q1;obtain⟨its',ry,p2,BQ⟩:=I1.list q2;refine call_zip_2 p1.isList p2.isList λh' z t o l1 l2 sz k=>acm ?_;have B4:h'.IsList a aM.toArray:=p1.isList.at λo e=>k _ o e;have zH:h'.IsList b its'.toArray:=p2.isList.at λo e=>k _ o e;have cls:∀{x y:Addr} {o u:Obj},h'.get? x=some o->h'.get? y=some u->o.cls≠u.cls->x≠y:=λh1 h2 h3=>cZ h1 h2 h3;have al:@LT.lt Nat _ a s1.heap.objs.size:=by obtain⟨_,e,_⟩:=p1.isList;exact aaj e
 have bl:@LT.lt Nat _ b s1.heap.objs.size:=by obtain⟨_,e,_⟩:=p2.isList;exact aaj e
 have D:ZipApart (s1.heap.objs.size+4) (s1.heap.objs.size+2) (s1.heap.objs.size+3) s1.heap.objs.size (s1.heap.objs.size+1) a b:=by
  constructor<;>first|exact aan (by left)|exact aaw (by left)
 have lx:=rx.length;have ly:=ry.length;have hn:min aM.toArray.size its'.toArray.size<=sizeLine:=by simp;left
 refine D3 (s:={ s1 with heap:=h' }) (I1.ok.hd hc) D hn z t o l1 l2 B4 zH λYB tk acc c as hk hS hl hG h_=>?_;dsimp only at hk hS hG ⊢;have hlen:as.length=(xs.zip ys).length:=by rw[hl,List.length_zip];simp;left
 have keep:∀b o,s1.heap.get? b=some o->YB.get? b=some o:=λb o e=>by
  have:@LT.lt Nat _ b s1.heap.objs.size:=aaj e;exact hk b o (aan (by left)) (aan (by left)) (aan (by left)) (aan (by left)) (k b o e)
 have fresh:∀c,s1.heap.objs.size<=c->H1 c=none:=λc h=>I1.cB.fresh h;have hS5:h'.objs.size=s1.heap.objs.size+5:=sz
 let r:List (Addr×V×V):=as.zip (xs.zip ys)
 have r1:r.map (·.1)=as:=List.map_fst_zip (by left);have r2:r.map (·.2)=xs.zip ys:=List.map_snd_zip (by left);have vQ:∀c∈as,@LT.lt Nat _ h'.objs.size c:=hG.above;have Vd:∀q∈r,H1 q.1=none:=λq hq=>fresh _ (by have:=vQ q.1 (by rw[<- r1];exact aaM hq);left);have DR:H1 h'.objs.size=none:=fresh _ (by left);have KQ:h'.objs.size∉r.map (·.1):=by rw[r1];exact λz=>absurd (vQ _ z) (aay _)
 have zG:(r.map (·.1)).Nodup:=by rw[r1];exact hG.nd
 have B3:(as.map V.ref)=r.map λq=>V.ref q.1:=by rw[<- r1,List.map_map];rfl
 refine⟨.ref h'.objs.size,upd (oT H1 r) h'.objs.size (.lst (r.map λq=>V.ref q.1)),?_,rfl,hq _ r DR Vd zG KQ r2⟩;refine Inv.OQ (s:=s1) (t':=tk) I1 keep (λb u e=>?_) λb u e=>?_
 ·rw[aW λz=>by rw[z,DR]at e;cases e];exact kB e Vd
 ·by_cases zb:b=h'.objs.size
  ·subst zb;rw[aX]at e;cases e;refine .inr ⟨by left,?_,acc.toList,c,?_,by rw[Array.toArray_toList];exact hS⟩
   ·rw[<- B3,List.length_map,hlen,List.length_zip];left
   ·rw[<- B3,h_];clear h_ B3 hG hl hlen r1 vQ zG r r2 Vd KQ hS hk keep;induction as with
    |nil=>exact .nil
    |cons a as ih=>exact .cons rfl ih
  ·rw[aW zb]at e;rcases tQ e with e|⟨q,hq,rfl,rfl⟩
   ·exact .inl e
   ·have hm:q.1∈as:=by rw[<- r1];exact aaM hq
    refine .inr ⟨by have:=vQ _ hm;left,?_⟩;obtain⟨j,hj⟩:=List.mem_iff_getElem?.mp hq;have Pw:as[j]?=some q.1/\(xs.zip ys)[j]?=some q.2:=by
     have:=List.getElem?_zip_eq_some.mp hj;exact this
    obtain⟨x,y,ex,ey,hp⟩:=hG.pairs j q.1 Pw.1;obtain⟨e1,e2⟩:xs[j]?=some q.2.1/\ys[j]?=some q.2.2:=List.getElem?_zip_eq_some.mp Pw.2;obtain⟨u1,U_,ZK⟩:=rx.get e1;obtain⟨u2,hu2,ZJ⟩:=ry.get e2;rw[List.getElem?_toArray,U_]at ex;rw[List.getElem?_toArray,hu2]at ey;cases ex;cases ey;exact wL ZK ZJ hp
noncomputable def pairD(x y:D):D:=.tup [x,y]
def OI(xs:aa):O D:=match two xs with
 |some z=>match z.1 with
  |.lst _ a=>match z.2 with
   |.lst _ b=>ok (.lst .ow (ah aN (List.zipWith pairD a b)))
   |_=>none
  |_=>none
 |none=>none
theorem Kf{x y d:D}(h:OI [x,y]=ok d):∃f a g b,x=.lst f a/\y=.lst g b/\d=.lst .ow (ah aN (List.zipWith pairD a b)):=by
 cases x<;>first|exact nk h | (cases h;done)|skip
 cases y<;>first|exact nk h | (cases h;done)|skip
 cases h;exact⟨_,_,_,_,rfl,rfl,rfl⟩
def Dh(sc:Scope)(bl:ag)(e:Expr):Option (au):=(eX e).bind λz=>(one z.2).bind λi=>if z.1=("list" : Str)/\gz sc z.1=true/\z.1∈bl then ox sc bl i else none
theorem Dg{sc:Scope}{bl:ag}{e:Expr}(h:Dh sc bl e=some args):∃p pos i,e=.Call (.Name ("list" : Str) p) [i] [] pos/\gz sc ("list" : Str)=true/\("list" : Str)∈bl/\ox sc bl i=some args:=by
 obtain⟨⟨x,as⟩,hv,h⟩:=bT h;obtain⟨a,hw,h⟩:=bT h;obtain⟨hc,hz⟩:=gT h;obtain⟨rfl,h1,h2⟩:=hc;obtain⟨p,pos,rfl⟩:=bU hv;obtain rfl:=cE hw;exact⟨p,pos,a,rfl,h1,h2,hz⟩
theorem sY{T:md}{N:gC}(hN:∀k k' p xs f,N k p xs f->N k' p xs f):∀{r:List (Addr×V×V)} {xs ys:af} {a b:aa} {k1 k2 k:bp} {n1 n2 n:Nat},aG T N k1 n1 xs a->aG T N k2 n2 ys b->r.map (·.2)=xs.zip ys->(∀q∈r,T q.1 [q.2.1,q.2.2])->aG T N k n (r.map λq=>V.ref q.1) (List.zipWith pairD a b)
 |[],xs,ys,a,b,_,_,_,_,_,_,r1,r2,e,_=>by
  have l1:=r1.length;have l2:=r2.length;have e':=aaW List.length e;rw[List.length_zip]at e';have:List.zipWith pairD a b=[]:=List.eq_nil_of_length_eq_zero (by rw[List.length_zipWith];simp at e';left);rw[this];exact .nil
 |q::r,xs,ys,a,b,k1,k2,k,n1,n2,n,r1,r2,e,ht=>by
  cases r1 with
  |nil=>cases e
  |cons h1 t1=>cases r2 with
   |nil=>cases e
   |cons h2 t2 =>
    have e1:q.2=(_,_):=(aa7 e).1;have e2:=(aa7 e).2;refine .cons (.tup (ht q aai) ?_) (sY hN t1 t2 e2 λq hq=>ht q (aal _ hq));rw[e1];have m1:=Rep.gM (T':=T) (N':=N) (g:=id) (λ_ _ h=>h) hN h1 (0::n::k);have m2:=Rep.gM (T':=T) (N':=N) (g:=id) (λ_ _ h=>h) hN h2 (1::n::k);rw[eR]at m1 m2;exact .cons m1 (.cons m2 .nil)
theorem gj(g:Fl->Fl):∀a b:aa,ah g (List.zipWith pairD a b)=List.zipWith pairD (ah g a) (ah g b)
 |[],_=>by cases ‹aa› <;> rfl
 |_::_,[]=>rfl
 |x::a,y::b=>by
  show aw g (pairD x y)::ah g (List.zipWith pairD a b)=_;rw[gj g a b];rfl
theorem OH{n:Nat}(hΦ:Φ n=OI){sc:Scope}{bl:ag}{k:Nat}(L:PX X sc bl k){e:Expr}(he:Dh sc bl e=some args)(hs:oH X F Φ cs args):PE X e (tD X F Φ (.cg n cs))/\PT X e (gI X F Φ (.cg n cs)):=by
 obtain⟨p,pos,i,rfl,h1,h2,hz⟩:=Dg he;obtain⟨p',pos',a,b,rfl,rfl,h3,h4⟩:=p_ hz;obtain⟨⟨c,d,rfl,_,_⟩,pa,s1,s2⟩:=qM hs;have this:PE X (.Call (.Name ("list" : Str) p) [.Call (.Name ("zip" : Str) p') [a,b] [] pos'] [] pos) (tD X F Φ (.cg n [c,d])):=by
  refine PE.imp (EV L.calm (L.gl h1) (L.bl _ h2) (L.gl h3) (L.bl _ h4) pa s1 s2) λσ H Q hq=>?_;obtain⟨R,τ,ρ,d',Si,ev,hq⟩:=hq;obtain⟨xs,cD,ev⟩:=aH ev;rw[hΦ]at ev;refine⟨R,τ,ρ,xs,Si,cD,λvs H1 e1 r1=>?_⟩;obtain⟨τt,fr,rs⟩:=r1;have hl:∃x y,xs=[x,y]:=by
   unfold OI at ev;cases hw:two xs with
   |none=>rw[hw]at ev;exact nk ev
   |some z=>exact⟨z.1,z.2,g_ hw⟩
  obtain⟨x,y,rfl⟩:=hl;obtain⟨f,da,g,db,rfl,rfl,rfl⟩:=Kf ev;obtain⟨v,w,rfl,rx,ry⟩:=rs.two;cases rx with
  |lst hx ax=>cases ry with
   |lst hy ay =>
    refine⟨_,_,_,_,rfl,hx.sq,hy.sq,λl r hl hr hn KQ hz=>hq _ _ ?_ ?_⟩
    ·intro b o e;have e':=e1 b o e;rw[aW λz=>by rw[z,hl]at e';cases e'];exact kB e' hr
    ·have sm:aK H1 (upd (oT H1 r) l (.lst (r.map λq=>V.ref q.1))):=λb o e=>by
      rw[aW λz=>by rw[z,hl]at e;cases e];exact kB e hr
     refine cf.tM (e1.free hl) (e1.trans sm) aX ?_;rw[gj];refine sY nd.pU ((ax.fZ Si fr (k':=[]) (n':=0)).imp (λ_ _ h=>bh.same sm h) λ_ _ _ _ h=>nd.same sm h) ((ay.fZ Si fr (k':=[]) (n':=0)).imp (λ_ _ h=>bh.same sm h) λ_ _ _ _ h=>nd.same sm h) hz λq hq=>?_;have yU:q.1≠l:=λz=>KQ (by rw[<- z];exact aaM hq);exact bh.of (by rw[aW yU];exact xp hn q hq)
 exact⟨this,cH this λ_=>rfl⟩
section
variable {prog:aF}{w:World}{A:aJ}{E:aD}{s:Shared}
def rX(h:Heap)(vs:ak)(nss:aB):Prop:=vs.length=nss.length/\∀(i:Nat) (ns:ae),nss[i]?=some ns->∃t aM,vs[i]?=some (.ref t)/\IsTup h t aM.toArray/\IntsAre aM ns/\ns≠[]
theorem tO{fin:Bool}{Q:Bool->Shared->Prop}:∀{aM FE:ak} {ns ms:ae} (i:Nat),IntsAre aM ns->IntsAre FE ms->fin=decide (aM.length<FE.length)->Q (HT.lexLt ns ms) s->PySem.W.KatLex prog w A true fin Q (aM.zip FE) i s
 |_,_,_,_,i,.nil,.nil,hf,h=>by subst hf;exact h
 |_,_,_,_,i,.nil,.cons _ _ _,hf,h=>by subst hf;exact h
 |_,_,_,_,i,.cons _ _ _,.nil,hf,h=>by subst hf;exact h
 |_,_,_,_,i,.cons (ns:=ns) a t h1,.cons (ns:=ms) b u h2,hf,h=>by
  rw[HT.dG]at h;refine PySem.W.kat_cons (wpAny_eqBool_int (PySem.W.kat_go (λe=>?_) λe=>?_))
  ·have e:a=b:=by simpa using e
   rw[if_pos e]at h;exact PySem.W.kat_yes (tO (i+1) h1 h2 (by rw[hf];simp) h)
  ·have e:¬ a=b:=by simpa using e
   rw[if_neg e]at h;refine PySem.W.kat_no ?_;rw[Bool.true_and];cases i==0 with
   |true=>exact oneLt_int h
   |false=>exact PySem.W.kat_one _ _ (lt_int h)
theorem rX.mono{vs:ak}{nss:aB}(k:∀b o,h.get? b=some o->h'.get? b=some o)(t:rX h vs nss):rX h' vs nss :=
 ⟨t.1,λi ns e=>let ⟨a,aM,e1,⟨o,ho,r⟩,e3⟩:=t.2 i ns e;⟨a,aM,e1,⟨o,k _ _ ho,r⟩,e3⟩⟩
end
noncomputable def iO(ns:ae):D:=.tup (ns.map D.int)
set_option tactic.hygienic true in
theorem Fp{n i:Nat}{xs:aa}{r:Fo×aZ}(ev:vp Φ n i (nF cs xs ρ)=ok r)(ha:a_ bX xs=false):∃d d',ρ[i]?=some (some d)/\Φ n (d::xs)=ok d'/\r=(.nx,ρ.set i (some d')):=by
 unfold nF at ev;rw[if_neg (by rw[ha];exact Bool.false_ne_true)]at ev;unfold vp at ev;split at ev
 ·rename_i d hd;obtain⟨d',h1,h2⟩:=aH ev;cases h2;exact⟨d,d',hd,h1,rfl⟩
 ·cases ev
set_option tactic.hygienic true in
theorem Ka{n i:Nat}{xs:aa}{r:Fo×aZ}(ev:vp Φ n i (nF cs xs ρ)=ok r)(ha:a_ bX xs=true):∃d d',Φ n (d::ah aA xs)=ok d':=by
 unfold nF at ev;rw[if_pos ha]at ev;unfold vp at ev;split at ev
 ·rename_i d hd;obtain⟨d',h1,h2⟩:=aH ev;exact⟨d,d',h1⟩
 ·cases ev
def wG(m:Str)(st:Stmt):Option (Expr×au):=(Rl st).bind λc=>(uX c).bind λz=>(z5 z.1).bind λy=>if y.2.1=m/\z.2.2.1.isEmpty=true/\(y.2.2.endLine==z.2.2.2.line)=true then some (y.1,z.2.1)else none
theorem sC{m:Str}{as:au}(h:wG m st=some (o,as)):∃p1 p2 pos,st=.Expr (.Call (.Attribute o m p1) as [] p2) pos/\(p1.endLine==p2.line)=true:=by
 obtain⟨c,h1,h⟩:=bT h;obtain⟨⟨f,Q2,ks,p2⟩,h2,h⟩:=bT h;obtain⟨⟨o',a,p1⟩,h3,h⟩:=bT h;obtain⟨hc,h⟩:=gT h;cases h;obtain⟨pos,rfl⟩:=ql h1;obtain rfl:=o8 h2;obtain rfl:=sF h3;obtain rfl:=Oq hc.2.1;obtain rfl:=hc.1;exact⟨p1,p2,pos,rfl,hc.2.2⟩
section
variable {α β:Type}
noncomputable def du:aB->List α->ae->Option α
 |c'::cs,v::vs,c=>if c'=c then some v else du cs vs c
 |_,_,_=>none
noncomputable def setC:aB->List α->ae->α->List α
 |c'::cs,v'::vs,c,v=>(if c'=c then v else v')::setC cs vs c v
 |_,_,_,_=>[]
noncomputable def bJ(cs:aB)(c:ae):aB:=if c∈cs then cs else cs++[c]
noncomputable def uI(cs:aB)(as:List α)(c:ae)(a:α):List α:=if c∈cs then as else as++[a]
def bS(cs:aB)(vs:List α)(c:ae)(v:α):List α:=if c∈cs then setC cs vs c v else vs++[v]
end
section
variable {zs:List (ae×Addr×Value)}{c:ae}
theorem qh:∀(zs:List (ae×Addr×Value)) (c:ae),(atKey zs c).map (·.2)=du (zs.map (·.1)) (zs.map (·.2.2)) c
 |[],_=>rfl
 |z::zs,c=>by
  have ih:=qh zs c;unfold atKey at ih ⊢;rw[List.find?_cons];show _=if z.1=c then some z.2.2 else du (zs.map (·.1)) (zs.map (·.2.2)) c
  by_cases e:z.1=c
  ·rw[decide_eq_true e,if_pos e];rfl
  ·rw[decide_eq_false e,if_neg e];exact ih
theorem eL:∀(zs:List (ae×Addr×Value)) (c:ae),(atKey zs c).isSome=true ↔ c∈zs.map (·.1)
 |[],c=>by simp[atKey]
 |z::zs,c=>by
  have ih:=eL zs c;unfold atKey at ih ⊢;rw[List.find?_cons,List.map_cons,List.mem_cons];by_cases e:z.1=c
  ·rw[decide_eq_true e];simp[e]
  ·rw[decide_eq_false e];rw[ih];exact⟨.inr,λh=>h.resolve_left λz=>e z.symm⟩
theorem lB(a:Addr)(v:Value):(storedH zs c a v).map (·.1)=bJ (zs.map (·.1)) c:=by
 unfold storedH bJ;by_cases h:c∈zs.map (·.1)
 ·rw[if_pos ((eL zs c).mpr h),if_pos h,List.map_map];refine aau λz _=>?_;show(putAt c v z).1=z.1;unfold putAt;split<;>rfl
 ·rw[if_neg (λz=>h ((eL zs c).mp z)),if_neg h,List.map_append];rfl
theorem sM(a:Addr)(v:Value):(storedH zs c a v).map (·.2.1)=uI (zs.map (·.1)) (zs.map (·.2.1)) c a:=by
 unfold storedH uI;by_cases h:c∈zs.map (·.1)
 ·rw[if_pos ((eL zs c).mpr h),if_pos h,List.map_map];refine aau λz _=>?_;show(putAt c v z).2.1=z.2.1;unfold putAt;split<;>rfl
 ·rw[if_neg (λz=>h ((eL zs c).mp z)),if_neg h,List.map_append];rfl
theorem tq(v:Value):∀zs:List (ae×Addr×Value),(zs.map (putAt c v)).map (·.2.2)=setC (zs.map (·.1)) (zs.map (·.2.2)) c v
 |[]=>rfl
 |z::zs=>by
  show(putAt c v z).2.2::((zs.map (putAt c v)).map (·.2.2))=(if z.1=c then v else z.2.2)::setC (zs.map (·.1)) (zs.map (·.2.2)) c v;rw[tq v zs];unfold putAt;by_cases e:z.1=c
  ·rw[if_pos e,if_pos e]
  ·rw[if_neg e,if_neg e]
theorem sL(a:Addr)(v:Value):(storedH zs c a v).map (·.2.2)=bS (zs.map (·.1)) (zs.map (·.2.2)) c v:=by
 unfold storedH bS;by_cases h:c∈zs.map (·.1)
 ·rw[if_pos ((eL zs c).mpr h),if_pos h];exact tq v zs
 ·rw[if_neg (λz=>h ((eL zs c).mp z)),if_neg h,List.map_append];rfl
end
theorem sy{c:ae}{v:V}{u:Value}(r:RelV v u):∀{cs:aB} {xs:af} {us:ak},Vals xs us->Vals (setC cs xs c v) (setC cs us c u)
 |[],_,_,h=>by cases h<;>exact .nil
 |c'::cs,_,_,h=>by
  cases h with
  |nil=>exact .nil
  |cons h t =>
   refine .cons ?_ (sy r t);show RelV (if c'=c then v else _) (if c'=c then u else _);by_cases e:c'=c
   ·rw[if_pos e,if_pos e];exact r
   ·rw[if_neg e,if_neg e];exact h
theorem o7{v:V}{u:Value}(r:RelV v u):∀{xs:af} {us:ak},Vals xs us->Vals (xs++[v]) (us++[u])
 |_,_,.nil=>.cons r .nil
 |_,_,.cons h t=>.cons h (o7 r t)
theorem zW{cs:aB}{us:ak}(h:Vals xs us){c:ae}{v:V}{u:Value}(r:RelV v u):Vals (bS cs xs c v) (bS cs us c u):=by
 unfold bS;by_cases e:c∈cs
 ·rw[if_pos e,if_pos e];exact sy r h
 ·rw[if_neg e,if_neg e];exact o7 r h
theorem sA:∀{cs:aB} {xs:af} {us:ak} (_:Vals xs us) (c:ae),wx (du cs xs c) (du cs us c)
 |[],_,_,_,_=>by cases ‹Vals _ _› <;> exact True.intro
 |c'::cs,_,_,h,c=>by
  cases h with
  |nil=>exact True.intro
  |cons h t =>
   show wx (if c'=c then some _ else _) (if c'=c then some _ else _);by_cases e:c'=c
   ·rw[if_pos e,if_pos e];exact h
   ·rw[if_neg e,if_neg e];exact sA t c
section
variable {X:Cx}{pins:aj}{σ:St}{H:Hp}{s:Shared}{p b:Addr}{cs:aB}{as:bc}{xs:af}{ep:Nat}{c:ae}{A:aJ}{E:aD}
theorem items_int:∀{c:ae} {aM:ak},Vals (c.map V.int) aM->ItemsAre (intKind X.prog X.w) c aM
 |[],_,h=>by cases h;exact .nil
 |i::c,_,h=>by
  cases h with
  |cons h t =>
   obtain⟨t',rfl⟩:=h;exact .cons (by simp[intKind,Value.isInt]) (items_int t)
theorem vE(I:Inv X pins σ H s)(h:bh X.K H b (c.map V.int)):(tupleKind (intKind X.prog X.w)).is s.heap c b:=by
 obtain⟨aM,rv,⟨o,h1,h2,n,h3⟩,_⟩:=I.tuple h;exact⟨o,aM.toArray,n,h1,h2,h3,by simpa using items_int rv⟩
theorem xR(I:Inv X pins σ H s)(h:H p=some (.ext (DO p cs as xs ep)))(k:gf (bh X.K H) as cs):
  ∃(zs:List (ae×Addr×Value)) (o:Obj) (es:Array DictEntry),zs.map (·.1)=cs/\zs.map (·.2.1)=as/\Vals xs (zs.map (·.2.2))/\s.heap.get? p=some o/\o.ExactDict/\o.data=.dict es ep /\
   s.heap.DictOfH (tupleKind (intKind X.prog X.w)) p zs/\es.toList=zs.map (entryOfKey (tupleKind (intKind X.prog X.w)))/\cs.length<=sizeLine/\(p==sysModules)=false:=by
 obtain⟨⟨zs,o,es,e1,e2,e3,ho,hx,hd,he,hn,hl,hs⟩,_⟩:=(show cC X.prog X.w H s.heap p (.ext (DO p cs as xs ep)) from I.cB p _ h)
 refine⟨zs,o,es,e1,e2,e3,ho,hx,hd,⟨o,es,ep,ho,hx,hd,he,λz hz=>?_,by rw[e1];exact hn⟩,he,hl,hs⟩;obtain⟨j,hj⟩:=List.mem_iff_getElem?.mp hz;exact vE I (k.tup j z.2.1 z.1 (by rw[<- e2,List.getElem?_map,hj];rfl) (by rw[<- e1,List.getElem?_map,hj];rfl))
theorem dict_cls(I:Inv X pins σ H s)(h:H p=some (.ext (DO p cs as xs ep))):s.TypeIs (.ref p) "dict" /\ ∀b,Value.ref p=.ref b->∃ob,s.heap.get? b=some ob/\ob.dict=none:=by
 obtain⟨⟨zs,o,es,e1,e2,e3,ho,hx,_⟩,_⟩:=(show cC X.prog X.w H s.heap p (.ext (DO p cs as xs ep)) from I.cB p _ h)
 exact⟨⟨o,ho,hx.1⟩,λb q=>by cases q;exact⟨o,ho,hx.2.1⟩⟩
theorem v7{v:V}{r:Value}{Q:Unit->Shared->Prop}(hu:A.units+1<cLine)(I:Inv X pins σ H s)(h:H p=some (.ext (DO p cs as xs ep)))(k:gf (bh X.K H) as cs)(hb:bh X.K H b (c.map V.int))(rv:RelV v r)(gX:cs.length<sizeLine)
  (hQ:∀xN s',Inv X pins σ (upd H p (.ext (DO p (bJ cs c) (uI cs as c b) (bS cs xs c v) xN))) s'->Q () s') :
  wpAny (model X.prog X.w) A (setItem (.ref p) (.ref b) r) Q E s:=by
 obtain⟨zs,o,es,e1,e2,e3,ho,hx,hd,dd,_,hl,hs⟩:=xR I h k;have hz:zs.length<=sizeLine:=by rw[<- e1,List.length_map]at hl;exact hl
 refine wpAny_setItem_heap (hsz:=hz) (tupleKind_room_in1 hu) (vE I hb) dd λh' WH BU=>?_;obtain⟨q,Qx,xN,hq,h2,h3,h4,_,h5⟩:=WH;refine hQ xN _ (I.write (x:=p) (e:=p) (by rw[h];exact True.intro) (.inl rfl) (λb q hb z=>(BU.2 b hb).trans z) ⟨q,hq⟩ ⟨⟨storedH zs c b r,q,Qx,?_,?_,?_,hq,h2,h3,h4,?_,?_,hs⟩,⟨q,hq⟩,?_⟩)
 ·rw[lB,e1]
 ·rw[sM,e1,e2]
 ·rw[sL,e1];exact zW e3 rv
 ·rw[<- e1,<- lB (zs:=zs) (c:=c) b r];exact h5
 ·unfold bJ;split
  ·exact hl
  ·rw[List.length_append,List.length_singleton];left
 ·rintro h1 Qd ⟨Rh,o',es'',f1,f2,f3,f4,f5⟩ kk;exact⟨Rh,o',es'',f1,f2,f3,kk _ f4,f5⟩
theorem EX:PE X (.Dict [] [] pos) (λ_ H Q=>∀p,H p=none->Q (.ref p) (upd H p (.ext (DO p [] [] [] 0)))):=λpins s σ H Q I h=>by
 have VG:sysModules<s.heap.objs.size:=abw (by decide) (show mainGlobals<s.heap.objs.size from(I.mod.glob.keeps I.bk).lt);refine wpAny_Dict_empty ⟨.ref s.heap.objs.size,_,I.laid (a:=s.heap.objs.size) (o:=.ext (DO s.heap.objs.size [] [] [] 0)) (t':=s.toks) (λ_ _ q=>aak _ q) (aam _) ?_,rfl,h _ (I.cB.fresh (aam _))⟩;have hg:(s.heap.push { cls:=.type "dict",data:=.dict #[] }).get? s.heap.objs.size=some { cls:=.type "dict",data:=.dict #[] }:=aar _ rfl;refine⟨⟨[],_,#[],rfl,rfl,.nil,hg,⟨rfl,rfl,rfl⟩,rfl,rfl,aa_,aaJ _,beq_eq_false_iff_ne.mpr (abi (aan VG))⟩,⟨_,hg⟩,?_⟩;rintro h1 Qd ⟨Rh,o',es'',f1,f2,f3,f4,f5⟩ kk;exact⟨Rh,o',es'',f1,f2,f3,kk _ f4,f5⟩
end
theorem qB{N:gC}{k:bp}{v:V}{d:D}(h:Rep T N k v d)(hf:bo anyF d=false):Rep T N' k' v d:=by
 have:=Rep.gen (T':=T) (N':=N') (g:=id) (P:=anyF) (C:=λ_ _=>True) (I:=λ_ _=>True) (λ_ _ h=>h) trivial (λ_ _ e=>e) (λ_ _ _ _ e _=>e) (λk k' p xs f _ hz _=>nomatch hz) h (k':=k') trivial hf;rw[eR]at this;exact this
theorem s_{T:md}{N:gC}:∀{cs:aB} {k:bp} {n:Nat} {xs:af} {ds:aa} (_:aG T N k n xs ds) (c:ae),(du cs xs c=none/\du cs ds c=none)\/∃v d k',du cs xs c=some v/\du cs ds c=some d/\Rep T N k' v d/\d∈ds
 |[],_,_,_,_,_,_=>by cases ‹aG _ _ _ _ _ _› <;> exact .inl ⟨rfl,rfl⟩
 |c'::cs,_,_,_,_,r,c=>by
  cases r with
  |nil=>exact .inl ⟨rfl,rfl⟩
  | @cons _ _ v d vs ds h t =>
   by_cases e:c'=c
   ·exact .inr ⟨v,d,_,aaQ e,aaQ e,h,aai⟩
   ·have e1:∀{α:Type} (a:α) (l:List α),du (c'::cs) (a::l) c=du cs l c:=λa l=>aco e;rw[e1,e1];rcases s_ (cs:=cs) t c with h|⟨v',d',k',h1,h2,h3,h4⟩
    ·exact .inl h
    ·exact .inr ⟨v',d',k',h1,h2,h3,aal _ h4⟩
theorem sZ{T:md}{N:gC}{c:ae}{v:V}{d:D}(hv:∀k,Rep T N k v d):∀{cs:aB} {k:bp} {n:Nat} {xs:af} {ds:aa},aG T N k n xs ds->aG T N k n (setC cs xs c v) (setC cs ds c d)
 |[],_,_,_,_,r=>by cases r<;>exact .nil
 |c'::cs,_,_,_,_,r=>by
  cases r with
  |nil=>exact .nil
  |cons h t =>
   refine .cons ?_ (sZ hv t);show Rep _ _ _ (if c'=c then v else _) (if c'=c then d else _);by_cases e:c'=c
   ·rw[if_pos e,if_pos e];exact hv _
   ·rw[if_neg e,if_neg e];exact h
theorem pB{T:md}{N:gC}{v:V}{d:D}(hv:∀k,Rep T N k v d):∀{k:bp} {n:Nat} {xs:af} {ds:aa},aG T N k n xs ds->aG T N k n (xs++[v]) (ds++[d])
 |_,_,_,_,.nil=>.cons (hv _) .nil
 |_,_,_,_,.cons h t=>.cons h (pB hv t)
theorem AF{N:gC}{c:ae}{v:V}{d:D}(hv:∀k,Rep T N k v d){cs:aB}{k:bp}{n:Nat}(r:aG T N k n xs ds):aG T N k n (bS cs xs c v) (bS cs ds c d):=by
 unfold bS;by_cases e:c∈cs
 ·rw[if_pos e,if_pos e];exact sZ hv r
 ·rw[if_neg e,if_neg e];exact pB hv r
theorem BF{cs:aB}(k:gf T as cs){b:Addr}{c:ae}(hb:T b (c.map V.int)):gf T (uI cs as c b) (bJ cs c):=by
 unfold uI bJ;by_cases e:c∈cs
 ·rw[if_pos e,if_pos e];exact k
 ·rw[if_neg e,if_neg e];refine⟨by rw[List.length_append,List.length_append,k.len];rfl,λj a c' ha hc=>?_⟩;by_cases hj:j<as.length
  ·rw[List.getElem?_append_left hj]at ha;rw[List.getElem?_append_left (by rw[<- k.len];exact hj)]at hc;exact k.tup j a c' ha hc
  ·rw[List.getElem?_append_right (by left)]at ha;rw[List.getElem?_append_right (by rw[<- k.len];left),<- k.len]at hc;cases hz:j - as.length with
   |zero =>
    rw[hz]at ha hc;cases ha;cases hc;exact hb
   |succ m=>rw[hz]at ha;cases ha
theorem cf.newD{p:Addr}(hp:H p=none)(hl:H' p=some (.ext (DO p [] [] [] 0))):cf K G R τ fv H H' (.ref p) (.cJ .ow [] []):=by
 refine⟨λq=>if q=p then some []else none,λq k hq=>?_,.cJ (ep:=0) (as:=[]) (xs:=[]) ⟨hl,by simp⟩ ⟨rfl,λj a c h=>by simp at h⟩ .nil⟩;by_cases vL:q=p
 ·subst vL;exact hp
 ·simp[vL]at hq
noncomputable def um(xs:aa):O D:=match xs with
 |[]=>ok (.cJ .ow [] [])
 |_::_=>none
noncomputable def rG(_:Scope)(_:ag)(e:Expr):Option (au):=match e with
 |.Dict [] [] _=>some []
 |_=>none
theorem Gu{n:Nat}(hΦ:Φ n=um){sc:Scope}{bl:ag}{k:Nat}(L:PX X sc bl k){e:Expr}(he:rG sc bl e=some args)(hs:oH X F Φ cs args):PE X e (tD X F Φ (.cg n cs))/\PT X e (gI X F Φ (.cg n cs)):=by
 have h1:∃pos,e=.Dict [] [] pos/\args=[]:=by
  unfold rG at he;split at he
  ·cases he;exact⟨_,rfl,rfl⟩
  ·cases he
 obtain⟨pos,rfl,rfl⟩:=h1;cases cs with
 |cons _ _=>exact hs.elim
 |nil =>
  have this:PE X (.Dict [] [] pos) (tD X F Φ (.cg n [])):=by
   refine PE.imp (EX (X:=X) (pos:=pos)) λσ H Q hq p hp=>?_;obtain⟨R,τ,ρ,d,Si,ev,hq⟩:=hq;have ev:Φ n []=ok d:=ev;rw[hΦ]at ev;cases ev;exact hq _ _ (aK.upd hp) (cf.newD hp aX)
  exact⟨this,cH this λ_=>rfl⟩
noncomputable def three{α:Type}:List α->Option (α×α×α)
 |[a,b,c]=>some (a,b,c)
 |_=>none
theorem Ab{α:Type}{l:List α}{z:α×α×α}(h:three l=some z):l=[z.1,z.2.1,z.2.2]:=by
 rcases l with _|⟨a,_|⟨b,_|⟨c,_|⟨d,l⟩⟩⟩⟩<;>cases h;rfl
noncomputable def iC:D->Option (aB×aa)
 |.cJ _ cs vs=>some (cs,vs)
 |_=>none
def keyOf:D->Option (ae)
 |.tup ks=>intsOf ks
 |_=>none
theorem oo{d:D}{z:aB×aa}(h:iC d=some z):∃f,d=.cJ f z.1 z.2:=by
 cases d<;>first | (cases h;done) | (cases h;exact⟨_,rfl⟩)
theorem tR{d:D}{c:ae}(h:keyOf d=some c):d=.tup (c.map D.int):=by
 cases d<;>first | (cases h;done)|skip
 rw[dN (show intsOf _=some c from h)]
def vZ(xs:aa):O D:=match two xs with
 |some z=>match iC z.1 with
  |some d=>match keyOf z.2 with
   |some c=>match du d.1 d.2 c with
    |some v=>if bo anyF v=false then ok v else none
    |none=>none
   |none=>none
  |none=>none
 |none=>none
theorem Gx{xs:aa}{r:D}(h:vZ xs=ok r):∃f cs vs c,xs=[.cJ f cs vs,.tup (c.map D.int)]/\du cs vs c=some r/\bo anyF r=false:=by
 unfold vZ at h;cases h1:two xs with
 |none=>rw[h1]at h;cases h
 |some z =>
  rw[h1]at h;have h:(match iC z.1 with|some d=>(match keyOf z.2 with|some c=>(match du d.1 d.2 c with|some v=>if bo anyF v=false then ok v else none|none=>none)|none=>none)|none=>none)=ok r:=h;cases h2:iC z.1 with
  |none=>rw[h2]at h;cases h
  |some d =>
   rw[h2]at h;have h:(match keyOf z.2 with|some c=>(match du d.1 d.2 c with|some v=>if bo anyF v=false then ok v else none|none=>none)|none=>none)=ok r:=h;cases h3:keyOf z.2 with
   |none=>rw[h3]at h;cases h
   |some c =>
    rw[h3]at h;have h:(match du d.1 d.2 c with|some v=>if bo anyF v=false then ok v else none|none=>none)=ok r:=h;cases h4:du d.1 d.2 c with
    |none=>rw[h4]at h;cases h
    |some v =>
     rw[h4]at h;obtain⟨hf,rfl⟩:=oU (show(if bo anyF v=false then ok v else none)=ok r from h);obtain⟨f,e1⟩:=oo h2;exact⟨f,d.1,d.2,c,by rw[g_ h1,e1,tR h3],h4,hf⟩
def T_(K:aq):R2:=λx y H Q=>∃p b cs as xs ep c v,x=.ref p/\y=.ref b/\H p=some (.ext (DO p cs as xs ep))/\gf (bh K H) as cs/\bh K H b (c.map V.int)/\du cs xs c=some v/\Q v H
theorem FG(hu:X.A.units+1<cLine):IB X (T_ X.K):=by
 intro value slice pins s σ H x y v u Q I rx ry h hs;obtain⟨p,b,cs,as,xs,ep,c,w,rfl,rfl,hp,hk,hb,hg,q⟩:=h;cases rx;cases ry;obtain⟨zs,o,es,e1,e2,e3,ho,hx,hd,dd,_,hl,BR⟩:=xR I hp hk;have MI:=sA (cs:=cs) e3 c;rw[hg]at MI;obtain⟨u,Va,ru⟩:=wx.some_of MI;have:(atKey zs c).map (·.2)=some u:=by rw[qh,e1];exact Va
 obtain⟨q',hq',rfl⟩:=Option.map_eq_some_iff.mp this;exact abC (x:=q'.2) dd.typeIs PySem.F.slot_dict_getitem.lookup
  (wpAny_getItem_heap (Q:=λr s'=>r=q'.2/\EP X pins σ Q r s') (tupleKind_room_in1 hu) (vE I hb) dd hq' ⟨rfl,w,H,I.tok _,ru,q⟩) hs
def wg(_:Scope)(_:ag)(e:Expr):Option (au):=match yj e with
 |some z=>some [z.1,z.2]
 |none=>none
theorem LX{n:Nat}(hΦ:Φ n=vZ){sc:Scope}{bl:ag}{k:Nat}(L:PX X sc bl k){e:Expr}(he:wg sc bl e=some args)(hs:oH X F Φ cs args):PE X e (tD X F Φ (.cg n cs))/\PT X e (gI X F Φ (.cg n cs)):=by
 unfold wg at he;cases h1:yj e with
 |none=>rw[h1]at he;cases he
 |some z =>
  rw[h1]at he;cases he;obtain⟨pos,rfl⟩:=mh h1;obtain⟨⟨c1,c2,rfl,p1,p2⟩,_⟩:=qM hs;have this:PE X (.Subscript z.1 z.2 pos) (tD X F Φ (.cg n [c1,c2])):=by
   refine PE.imp (AZ (FG (HV L.room)) p1 p2 hs.2.2.2.2.2.1) λσ H Q hq=>?_;obtain⟨R,τ,ρ,d,Si,ev,hq⟩:=hq;obtain⟨xs,cD,ev⟩:=aH ev;rw[hΦ]at ev;obtain⟨f,cs,vs,c,rfl,hg,hf⟩:=Gx ev;obtain⟨x,ex,cD⟩:=aH cD;obtain⟨ys,l9,cD⟩:=aH cD;obtain⟨y,ey,We⟩:=aH l9;cases We;cases cD;refine tD.intro Si ex λv H1 e1 r1=>tD.intro (Si.go e1) ey λu H2 e2 r2=>?_;obtain⟨τ1,f1,q1⟩:=r1;obtain⟨τ2,f2,q2⟩:=r2;cases q1 with
   |cJ hn hk hr=>cases q2 with
    |tup ht Vf =>
     cases Vf.ofInts;rcases s_ hr c with ⟨_,hz⟩|⟨w,d',k',g1,g2,g3,_⟩
     ·rw[hg]at hz;cases hz
     ·rw[hg]at g2;cases g2;refine⟨_,_,_,_,_,_,c,w,rfl,rfl,e2 _ _ hn.dat,hk.imp λ_ _ h=>bh.same e2 h,ht,g1,hq w H2 (e1.trans e2) ⟨λ_=>none,λ_ _ h=>by simp at h,?_⟩⟩;exact(qB (N':=nd X.K R (jw (gP X F) τ (jr (.cg n [c1,c2]))) (λ_=>none) H1) (k':=[]) g3 hf).imp (λ_ _ h=>bh.same e2 h) λ_ _ _ _ h=>nd.same e2 h
  exact⟨this,cH this λ_=>rfl⟩
def Ij(xs:aa):O D:=match three xs with
 |some z=>match iC z.1 with
  |some d=>match keyOf z.2.1 with
   |some c=>if a_ anyF d.2=false/\bo anyF z.2.2=false then ok ((du d.1 d.2 c).getD z.2.2)else none
   |none=>none
  |none=>none
 |none=>none
def oj(xs:aa):O D:=match three xs with
 |some z=>match z.1 with
  |.cJ f cs vs=>match keyOf z.2.2 with
   |some c=>if eG f=true/\bo anyF z.2.1=false/\cs.length<ej then ok (.cJ .ow (bJ cs c) (bS cs vs c z.2.1))else none
   |none=>none
  |_=>none
 |none=>none
set_option tactic.hygienic true in
theorem uk{d:D}{xs:aa}{r:D}(h:oj (d::xs)=ok r):∃cs vs c x,d=.cJ .ow cs vs/\xs=[x,.tup (c.map D.int)]/\bo anyF x=false/\cs.length<ej/\r=.cJ .ow (bJ cs c) (bS cs vs c x):=by
 unfold oj at h;cases h1:three (d::xs)with
 |none=>rw[h1]at h;cases h
 |some z =>
  rw[h1]at h;have e0:=Ab h1;obtain⟨d',x,y⟩:=z;obtain⟨rfl,rfl⟩:d=d'/\xs=[x,y]:=aa7 e0;cases d<;>first | (cases h;done)|skip
  rename_i f cs vs;have h:(match keyOf y with|some c=>if eG f=true/\bo anyF x=false/\cs.length<ej then ok (D.cJ .ow (bJ cs c) (bS cs vs c x))else none|none=>none)=ok r:=h;cases h3:keyOf y with
  |none=>rw[h3]at h;cases h
  |some c =>
   rw[h3]at h;obtain⟨⟨hf,hx,hl⟩,rfl⟩:=oU (show(if eG f=true/\bo anyF x=false/\cs.length<ej then ok (D.cJ .ow (bJ cs c) (bS cs vs c x))else none)=ok r from h);cases f<;>first | (cases hf;done)|exact⟨cs,vs,c,x,rfl,by rw[tR h3],hx,hl,rfl⟩
def rF(_:Scope)(_:ag)(st:Stmt):Option (Expr×au):=(Ee st).bind λz=>(one z.1).bind λt=>(yj t).bind λy=>some (y.1,[z.2,y.2])
theorem we{sc:Scope}{bl:ag}(h:rF sc bl st=some (o,args)):∃v i pos' pos,st=.Assign [.Subscript o i pos'] v pos/\args=[v,i]:=by
 obtain⟨⟨ts,v⟩,h1,h⟩:=bT h;obtain⟨t,h3,h⟩:=bT h;obtain⟨⟨o',i⟩,h5,h⟩:=bT h;cases h;obtain rfl:=cE h3;obtain⟨pos,rfl⟩:=mi h1;obtain⟨pos',rfl⟩:=mh h5;exact⟨v,i,pos',pos,rfl,rfl⟩
mutual
theorem any_map(g:Fl->Fl):∀d:D,bo anyF (aw g d)=bo anyF d
 |.bB=>rfl
 |.bl _=>rfl
 |.int _=>rfl
 |.str _=>rfl
 |.tup ds=>uH g ds
 |.lst _ ds=>rfl
 |.cJ _ _ ds=>rfl
theorem uH(g:Fl->Fl):∀ds:aa,a_ anyF (ah g ds)=a_ anyF ds
 |[]=>rfl
 |d::ds=>by show(bo _ _||a_ _ _)=(bo _ d||a_ _ ds);rw[any_map g d,uH g ds]
end
mutual
theorem wt:∀d:D,bo anyF d=false->bo bX d=false
 |.bB,_=>rfl
 |.bl _,_=>rfl
 |.int _,_=>rfl
 |.str _,_=>rfl
 |.tup ds,h=>yb ds h
 |.lst _ ds,h=>nomatch h
 |.cJ _ _ ds,h=>nomatch h
theorem yb:∀ds:aa,a_ anyF ds=false->a_ bX ds=false
 |[],_=>rfl
 |d::ds,h=>by
  have h:=JY h;show(bo _ d||a_ _ ds)=false;rw[wt d h.1,yb ds h.2];rfl
end
theorem any_ints:∀c:ae,a_ anyF (c.map D.int)=false
 |[]=>rfl
 |i::c=>any_ints c
theorem Je{i:Expr}{l:Nat}:swapsWith value (some (.Subscript o i pos')) l env=pure false:=by
 unfold swapsWith;cases value<;>rfl
theorem AO{x:Str}{p0:Pos}{i:Expr}{tv to ti:TE}(hu:X.A.units+1<cLine)(hv:PE X value tv)(ho:PE X (.Name x p0) to)(hi:PE X i ti):
  PS X (.Assign [.Subscript (.Name x p0) i pos'] value pos) (λD σ H=>tv σ H λv H1=>to σ H1 λo H2=>ti σ H2 λy H3=>∃q b cs as xs ep c,o=.ref q/\y=.ref b/\H3 q=some (.ext (DO q cs as xs ep))/\gf (bh X.K H3) as cs/\bh X.K H3 b (c.map V.int)/\cs.length<sizeLine /\
   ∀xN,D.nx σ (upd H3 q (.ext (DO q (bJ cs c) (uI cs as c b) (bS cs xs c v) xN)))):=by
 intro pins s σ H D I h;refine wpAny_Assign_Subscript (cQ (hv pins s σ H _ I h) λr s1 ⟨v,H1,I1,rv,q1⟩=>cQ (ho pins s1 σ H1 _ I1 q1) λu s2 ⟨o,H2,I2,rx,q2⟩=>cQ (hi pins s2 σ H2 _ I2 q2) λiv s3 bK=>?_) Je;obtain⟨y,H3,I3,ry,q,b,cs,as,xs,ep,c,eo,ey,hd,hk,hb,hl,q3⟩:=bK;subst eo ey;obtain rfl:u=Value.ref q:=rx;obtain rfl:iv=Value.ref b:=ry;exact v7 hu I3 hd hk hb rv hl λxN s4 I4=>⟨σ,_,I4,q3 xN⟩
theorem SI.Oc{i:Nat}{cs:aB}(Si:SI X F R τ ρ σ H)(hi:ρ[i]?=some (some (.cJ .ow cs ds))):
  ∃p as xs ep,σ[i]?=some (some (.ref p))/\H p=some (.ext (DO p cs as xs ep))/\τ p=some [i]/\gf (bh X.K H) as cs/\aG (bh X.K H) (nd X.K R (λ_=>False) τ H) [i] 0 xs ds:=by
 obtain⟨v,hv,rp⟩:=Si.rep i _ hi;cases rp with
 |cJ h k r=>exact⟨_,_,_,_,hv,h.1,h.2,k,r⟩
theorem Gs{n:Nat}(hΦ:Φ n=oj){sc:Scope}{bl:ag}{k:Nat}(L:PX X sc bl k)(hN:X.N.Nodup)(xB:∀x,X.fn x=true){x:Str}(he:rF sc bl st=some (.Name x pos,args))
  {i:Nat} (hi:X.N[i]?=some x) (hl:L2.Loc X.env.scope x) (pe:PE X (.Name x pos) (mW i)) (hs:oH X F Φ cs args):PS X st (qp X F Φ (.mut n i cs)):=by
 obtain⟨v,ix,p1,p2,rfl,rfl⟩:=we he;obtain⟨⟨c1,c2,rfl,h1,h2⟩,_⟩:=qM hs;refine PS.imp (AO (HV L.room) h1 pe h2) λD σ H hq=>?_;obtain⟨R,τ,ρ,r,Si,ev,hq⟩:=hq;obtain⟨xs,cD,ev⟩:=aH ev;obtain⟨y,ey,cD⟩:=aH cD;obtain⟨ys,l9,cD⟩:=aH cD;cases cD;obtain⟨kd,ek,We⟩:=aH l9;cases We;have key:∃cs vs c,kd=.tup (c.map DI.D.int)/\ρ[i]?=some (some (.cJ .ow cs vs))/\bo anyF y=false/\cs.length<ej/\r=(.nx,ρ.set i (some (.cJ .ow (bJ cs c) (bS cs vs c y)))):=by
  cases hz:a_ bX [y,kd]with
  |true =>
   obtain⟨d,d',h⟩:=Ka ev hz;rw[hΦ]at h;obtain⟨cs,vs,c,x',_,e1,e2,_⟩:=uk h;have e3:aw aA y=x'/\aw aA kd=.tup (c.map DI.D.int):=by
    have:=aa7 e1;exact⟨this.1,(aa7 this.2).1⟩
   have a1:bo bX y=false:=wt y (by rw[<- any_map aA y,e3.1];exact e2);have a2:bo bX kd=false:=wt kd (by rw[<- any_map aA kd,e3.2];exact any_ints c);have:a_ bX [y,kd]=false:=by show(bo bX y||(bo bX kd||false))=false;rw[a1,a2];rfl
   rw[this]at hz;cases hz
  |false =>
   obtain⟨d,d',h,h',rfl⟩:=Fp ev hz;rw[hΦ]at h';obtain⟨cs,vs,c,x',rfl,e1,e2,e3,rfl⟩:=uk h';cases e1;exact⟨cs,vs,c,rfl,h,e2,e3,rfl⟩
 obtain⟨cs,vs,c,rfl,ho,hf,hc,rfl⟩:=key;obtain⟨p,as,zs,ep,hv,hd,ht,hk,rs⟩:=Si.Oc ho;refine tD.intro Si ey λu H1 e1 ru=>⟨.ref p,hv,tD.intro (Si.go e1) ek λw H2 e2 mm=>?_⟩
 obtain⟨τ1,f1,q1⟩:=ru;obtain⟨τ2,f2,q2⟩:=mm;cases q2 with
 | @tup _ b _ _ hb Vf =>
  cases Vf.ofInts;have es:=e1.trans e2;have yd:=Si.go es;have hd2:=es _ _ hd;have nL:ej=1000000:=rfl;have hz:sizeLine=16777216:=abh;refine⟨p,b,cs,as,zs,ep,c,rfl,rfl,hd2,hk.imp λ_ _ h=>bh.same es h,hb,by left,λxN=>?_⟩;have hn:fA H2 p (.d cs as zs ep):=hd2;have rk:iJ X R τ H2 u y:=m9 ((qB (N':=nd X.K R (λ_=>False) τ H1) (k':=[]) q1 hf).imp (λ_ _ h=>bh.same e2 h) λ_ _ _ _ h=>nd.same e2 h) hf;obtain⟨p',Q2,Rh,abA,X0,oW,ht',Pu,yy⟩:=yd.Oc ho;rw[hv]at X0;cases X0;rw[hd2]at oW;obtain⟨τ3,Q_⟩:=yd.N6 (m:=0) (n':=.d (bJ cs c) (uI cs as c b) (bS cs zs c u) xN) (o:=.ext (DO p (bJ cs c) (uI cs as c b) (bS cs zs c u) xN)) (d1:=.cJ .ow (bJ cs c) (bS cs vs c y)) (xs':=bS cs zs c u) (ds':=bS cs vs c y) ho hv hn ht (rs.imp (λ_ _ h=>bh.same es h) λ_ _ _ _ h=>nd.same es h) rk aX
   (λhN r=>.cJ hN (BF ((hk.imp λ_ _ h=>bh.same es h).imp λ_ _ h=>Aj hn h) (Aj hn hb)) r) (λrs r=>AF (λk=>qB r hf) rs)
  exact hq σ _ R τ3 Q_ (BD yd es (λ_ h=>h) hn ht)
end DI
end
section
namespace DI
open PySem PySem.Spec PyProof.Rows L2 PySem.W
noncomputable def cR{α:Type}(lt:Nat->Nat->Bool):KasT α->α
 |.ret a=>a
 |.ask i j k=>cR lt (k (lt i j))
theorem gQ{α β:Type}(lt:Nat->Nat->Bool)(f:α->KasT β):∀t:KasT α,cR lt (t.bind f)=cR lt (f (cR lt t))
 |.ret a=>rfl
 |.ask i j k=>gQ lt f (k (lt i j))
section
noncomputable def jA{α:Type}(n:Nat)(lt:Nat->Nat->Bool):KasT α->Prop
 |.ret _=>True
 |.ask i j k=>i<n/\j<n/\jA n lt (k (lt i j))
end
theorem x9{α:Type}{cmp:Nat->Nat->(Bool->Shared->Prop)->Shared->Prop}{lt:Nat->Nat->Bool}{s:Shared}{n:Nat}(hc:∀i j C,i<n->j<n->C (lt i j) s->cmp i j C s){Q:α->Shared->Prop}:
  ∀(t:KasT α),jA n lt t->Q (cR lt t) s->t.kasWp cmp Q s
 |.ret a,_,h=>h
 |.ask i j k,⟨h1,h2,h3⟩,h=>hc i j _ h1 h2 (x9 hc (k (lt i j)) h3 h)
theorem fK{α β:Type}{lt:Nat->Nat->Bool}{n:Nat}{f:α->KasT β}:∀{t:KasT α},jA n lt t->jA n lt (f (cR lt t))->jA n lt (t.bind f)
 |.ret _,_,h=>h
 |.ask i j k,⟨h1,h2,h3⟩,h=>⟨h1,h2,fK h3 h⟩
structure Ord(lt:Nat->Nat->Bool)(n:Nat):Prop where
 tr:∀a b c,a<n->b<n->c<n->lt a b=true->lt b c=true->lt a c=true
 as:∀a b,a<n->b<n->lt a b=true->lt b a=false
 Rp:∀a b,a<n->b<n->a≠b->lt a b=true\/lt b a=true
structure Arr(p:Array Nat)(n:Nat):Prop where
 sz:p.size=n
 pm:p.toList.Perm (List.range n)
section
variable {lt:Nat->Nat->Bool}{n:Nat}{p:Array Nat}
theorem Arr.bd(h:Arr p n){i:Nat}(hi:i<n):p.getD i 0<n:=by
 have lG:i<p.size:=by rw[h.sz];exact hi
 have:p.getD i 0=p[i]:=by simp[Array.getD,lG]
 rw[this];have hm:p[i]∈p.toList:=Array.getElem_mem_toList lG;exact List.mem_range.mp (h.pm.mem_iff.mp hm)
theorem Arr.inj(h:Arr p n){i j:Nat}(hi:i<n)(hj:j<n)(e:p.getD i 0=p.getD j 0):i=j:=by
 have lG:i<p.toList.length:=by rw[Array.length_toList,h.sz];exact hi
 have Pw:j<p.toList.length:=by rw[Array.length_toList,h.sz];exact hj
 have nd:p.toList.Nodup:=h.pm.nodup_iff.mpr List.nodup_range;have e1:p.getD i 0=p.toList[i]:=by simp[Array.getD,show i<p.size by rw[h.sz];exact hi]
 have e2:p.getD j 0=p.toList[j]:=by simp[Array.getD,show j<p.size by rw[h.sz];exact hj]
 rw[e1,e2]at e;exact(abG nd).mp e
def Up(lt:Nat->Nat->Bool)(p:Array Nat)(k:Nat):Prop:=∀i j,i<j->j<k->lt (p.getD i 0) (p.getD j 0)=true
def Dn(lt:Nat->Nat->Bool)(p:Array Nat)(k:Nat):Prop:=∀i j,i<j->j<k->lt (p.getD j 0) (p.getD i 0)=true
theorem Up.snoc(O:Ord lt n)(h:Arr p n){k:Nat}(hk:k<n)(h1:1<=k)(u:Up lt p k)(hl:lt (p.getD (k - 1) 0) (p.getD k 0)=true):Up lt p (k+1):=λi j jq hj=>by
 by_cases e:j=k
 ·subst e;by_cases e2:i=j - 1
  ·subst e2;exact hl
  ·exact O.tr _ _ _ (h.bd (by left)) (h.bd (by left)) (h.bd hk) (u i (j - 1) (by left) (by left)) hl
 ·exact u i j jq (by left)
theorem Dn.snoc(O:Ord lt n)(h:Arr p n){k:Nat}(hk:k<n)(h1:1<=k)(u:Dn lt p k)(hl:lt (p.getD k 0) (p.getD (k - 1) 0)=true):Dn lt p (k+1):=λi j jq hj=>by
 by_cases e:j=k
 ·subst e;by_cases e2:i=j - 1
  ·subst e2;exact hl
  ·exact O.tr _ _ _ (h.bd hk) (h.bd (by left)) (h.bd (by left)) hl (u i (j - 1) (by left) (by left))
 ·exact u i j jq (by left)
theorem rT(O:Ord lt n)(h:Arr p n):∀(f k:Nat),1<=k->k+f<=n->Up lt p k->jA n lt (kas_asc p f k)/\k<=cR lt (kas_asc p f k)/\cR lt (kas_asc p f k)<=k+f/\Up lt p (cR lt (kas_asc p f k))
 |0,k,_,_,u=>⟨trivial,aam _,aam _,u⟩
 |f+1,k,h1,hf,u=>by
  have a1:p.getD k 0<n:=h.bd (by left);have a2:p.getD (k - 1) 0<n:=h.bd (by left);cases c:lt (p.getD k 0) (p.getD (k - 1) 0)with
  |true =>
   have e:cR lt (kas_asc p (f+1) k)=k:=by
    show cR lt (if lt (p.getD k 0) (p.getD (k - 1) 0)=true then .ret k else kas_asc p f (k+1))=k;rw[c];rfl
   refine⟨⟨a1,a2,?_⟩,by rw[e];exact aam _,by rw[e];left,by rw[e];exact u⟩;show jA n lt (if lt (p.getD k 0) (p.getD (k - 1) 0)=true then .ret k else kas_asc p f (k+1));rw[c];trivial
  |false =>
   have e:cR lt (kas_asc p (f+1) k)=cR lt (kas_asc p f (k+1)):=by
    show cR lt (if lt (p.getD k 0) (p.getD (k - 1) 0)=true then .ret k else kas_asc p f (k+1))=_;rw[c];rfl
   have hl:lt (p.getD (k - 1) 0) (p.getD k 0)=true:=by
    rcases O.Rp _ _ a2 a1 (λz=>absurd (h.inj (by left) (by left) z) (by left))with z|z
    ·exact z
    ·rw[c]at z;cases z
   obtain⟨b1,b2,b3,b4⟩:=rT O h f (k+1) (by left) (by left) (u.snoc O h (by left) h1 hl);refine⟨⟨a1,a2,?_⟩,by rw[e];left,by rw[e];left,by rw[e];exact b4⟩;show jA n lt (if lt (p.getD k 0) (p.getD (k - 1) 0)=true then .ret k else kas_asc p f (k+1));rw[c];exact b1
theorem xS(O:Ord lt n)(h:Arr p n):∀(f k:Nat),1<=k->k+f<=n->Dn lt p k->jA n lt (kas_desc f p k 0)/\∃m,cR lt (kas_desc f p k 0)=(p,m,0)/\k<=m/\m<=k+f/\Dn lt p m
 |0,k,_,_,u=>⟨trivial,k,rfl,aam _,aam _,u⟩
 |f+1,k,h1,hf,u=>by
  have a1:p.getD k 0<n:=h.bd (by left);have a2:p.getD (k - 1) 0<n:=h.bd (by left);cases c:lt (p.getD k 0) (p.getD (k - 1) 0)with
  |true =>
   obtain⟨b1,m,b2,b3,b4,b5⟩:=xS O h f (k+1) (by left) (by left) (u.snoc O h (by left) h1 c);have e:kas_desc (f+1) p k 0=.ask (p.getD k 0) (p.getD (k - 1) 0) λc=>if c=true then(if (0:Nat)>0 then kas_desc f (kas_rev p (k - (0+1)) k) (k+1) 0 else kas_desc f p (k+1) 0)else .ask (p.getD (k - 1) 0) (p.getD k 0) λd=>if d=true then .ret (p,k,0)else kas_desc f p (k+1) (0+1):=rfl
   rw[e];refine⟨⟨a1,a2,?_⟩,m,?_,by left,by left,b5⟩
   ·rw[c];exact b1
   ·show cR lt (if lt (p.getD k 0) (p.getD (k - 1) 0)=true then _ else _)=_;rw[c];exact b2
  |false =>
   have hl:lt (p.getD (k - 1) 0) (p.getD k 0)=true:=by
    rcases O.Rp _ _ a2 a1 (λz=>absurd (h.inj (by left) (by left) z) (by left))with z|z
    ·exact z
    ·rw[c]at z;cases z
   have e:kas_desc (f+1) p k 0=.ask (p.getD k 0) (p.getD (k - 1) 0) λc=>if c=true then(if (0:Nat)>0 then kas_desc f (kas_rev p (k - (0+1)) k) (k+1) 0 else kas_desc f p (k+1) 0)else .ask (p.getD (k - 1) 0) (p.getD k 0) λd=>if d=true then .ret (p,k,0)else kas_desc f p (k+1) (0+1):=rfl
   rw[e];refine⟨⟨a1,a2,?_⟩,k,?_,aam _,by left,u⟩
   ·rw[c];exact⟨a2,a1,by rw[hl];trivial⟩
   ·show cR lt (if lt (p.getD k 0) (p.getD (k - 1) 0)=true then _ else _)=_;rw[c];show cR lt (if lt (p.getD (k - 1) 0) (p.getD k 0)=true then _ else _)=_;rw[hl];rfl
theorem mC{p q:Array Nat}{i j:Nat}(h:p[i]?=q[j]?):p.getD i 0=q.getD j 0:=by
 rw[Array.getD_eq_getD_getElem?,Array.getD_eq_getD_getElem?,h]
theorem JE(h:Arr p n){m:Nat}(hm:m<=n):Arr (kas_rev p 0 m) n/\(Dn lt p m->Up lt (kas_rev p 0 m) m):=by
 have hs:(kas_rev p 0 m).size=p.size:=mirror_size _ _ _ _;refine⟨⟨by rw[hs];exact h.sz,?_⟩,λu i j jq hj=>?_⟩
 ·have:=(mirror_perm p 0 m ((m - 0) / 2)).toList;exact this.trans h.pm
 ·have g:∀k,k<m->(kas_rev p 0 m).getD k 0=p.getD (m - 1 - k) 0:=λk hk=>by
   refine mC ?_;rw[show kas_rev p 0 m=mirror p 0 m ((m - 0) / 2) from rfl,getElem?_mirror_all (by rw[h.sz];exact hm),if_pos ⟨Nat.zero_le _,hk⟩];congr 1;left
  rw[g i (by left),g j hj];exact u (m - 1 - j) (m - 1 - i) (by left) (by left)
theorem Af(O:Ord lt n)(h:Arr p n){m:Nat}(h1:1<=m)(hm:m<=n)(u:Dn lt p m):jA n lt (kas_tail3 m n p)/\∃r,cR lt (kas_tail3 m n p)=r/\Arr r.2 n/\1<=r.1/\r.1<=n/\Up lt r.2 r.1:=by
 obtain⟨a1,a2⟩:=JE (lt:=lt) h hm;obtain⟨b1,b2,b3,b4⟩:=rT O a1 (n - m) m h1 (by left) (a2 u);unfold kas_tail3;refine⟨fK b1 trivial,_,rfl,?_⟩;rw[gQ];exact⟨a1,aaC h1 b2,by show cR lt _<=n;left,b4⟩
theorem C_(O:Ord lt n)(h:Arr p n)(hn:2<=n):jA n lt (kas_count n p)/\∃r,cR lt (kas_count n p)=r/\Arr r.2 n/\1<=r.1/\r.1<=n/\Up lt r.2 r.1:=by
 obtain⟨b1,b2,b3,b4⟩:=rT O h (n - 1) 1 (aam _) (by left) (λi j _ _=>by left);generalize hk:cR lt (kas_asc p (n - 1) 1)=k at *;have key:∀t:KasT (Nat×Array Nat),t=(if (k==n)=true then .ret (k,p)else if k>1 then .ask (p.getD 0 0) (p.getD (k - 1) 0) λc=>if c=true then .ret (k,p)else kas_descPart k n (kas_rev p 0 k)else kas_descPart k n p) ->
   jA n lt t/\∃r,cR lt t=r/\Arr r.2 n/\1<=r.1/\r.1<=n/\Up lt r.2 r.1:=by
  intro t ht;by_cases e:k=n
  ·rw[if_pos (by simpa using e)]at ht;subst ht;exact⟨trivial,(k,p),rfl,h,b2,by show k<=n;left,b4⟩
  ·rw[if_neg (by simpa using e)]at ht;by_cases e1:k>1
   ·rw[if_pos e1]at ht;subst ht;have hl:lt (p.getD 0 0) (p.getD (k - 1) 0)=true:=b4 0 (k - 1) (by left) (by left);refine⟨⟨h.bd (by left),h.bd (by left),by rw[hl];trivial⟩,(k,p),?_,h,b2,by left,b4⟩;show cR lt (if lt (p.getD 0 0) (p.getD (k - 1) 0)=true then _ else _)=_;rw[hl];rfl
   ·rw[if_neg e1]at ht;have hk1:k=1:=by left
    subst hk1;subst ht;have hl:lt (p.getD 1 0) (p.getD 0 0)=true:=by
     have a1:p.getD 1 0<n:=h.bd (by left);have a0:p.getD 0 0<n:=h.bd (by left);cases c:lt (p.getD 1 0) (p.getD 0 0)with
     |true=>rfl
     |false =>
      exfalso;obtain⟨f,hf⟩:∃f,n - 1=f+1:=⟨n - 2,by left⟩
      rw[hf]at hk;have e':cR lt (kas_asc p (f+1) 1)=cR lt (kas_asc p f 2):=by
       show cR lt (if lt (p.getD 1 0) (p.getD (1 - 1) 0)=true then .ret 1 else kas_asc p f 2)=_;rw[show(1 - 1:Nat)=0 from rfl,c];rfl
      rw[e']at hk;have u2:Up lt p 2:=λi j jq hj=>by
       have:i=0/\j=1:=by left
       obtain⟨rfl,rfl⟩:=this;rcases O.Rp _ _ a0 a1 (λz=>absurd (h.inj (by left) (by left) z) (by left))with z|z
       ·exact z
       ·rw[c]at z;cases z
      obtain⟨_,c2,_,_⟩:=rT O h f 2 (by left) (by left) u2;left
    have d2:Dn lt p 2:=λi j jq hj=>by
     have:i=0/\j=1:=by left
     obtain⟨rfl,rfl⟩:=this;exact hl
    obtain⟨c1,m,c2,c3,c4,c5⟩:=xS O h (n - 2) 2 (by left) (by left) d2;obtain⟨t1,r,t2,t3⟩:=Af O h (m:=m) (by left) (by left) c5;unfold kas_descPart;refine⟨fK c1 ?_,r,?_,t3⟩
    ·rw[show(1+1:Nat)=2 from rfl,show n - 2=n - 2 from rfl,c2];exact t1
    ·rw[gQ,show(1+1:Nat)=2 from rfl,c2];exact t2
 have e:=key _ rfl;refine⟨?_,?_⟩
 ·unfold kas_count;exact fK b1 (by rw[hk];exact e.1)
 ·unfold kas_count;rw[gQ,hk];exact e.2
theorem Arr.or(O:Ord lt n)(h:Arr p n){i j:Nat}(hi:i<n)(hj:j<n)(e:i≠j)(c:lt (p.getD i 0) (p.getD j 0)=false):lt (p.getD j 0) (p.getD i 0)=true:=by
 rcases O.Rp _ _ (h.bd hi) (h.bd hj) (λz=>e (h.inj hi hj z))with z|z
 ·rw[c]at z;cases z
 ·exact z
theorem nc(O:Ord lt n)(h:Arr p n){k:Nat}(hk:k<n)(u:Up lt p k):∀(f l r:Nat),l<=r->r<=k->r - l<=f->(∀i,i<l->lt (p.getD i 0) (p.getD k 0)=true)->(∀i,r<=i->i<k->lt (p.getD k 0) (p.getD i 0)=true) ->
  jA n lt (kas_place p k f l r)/\∃m,cR lt (kas_place p k f l r)=m/\m<=k/\(∀i,i<m->lt (p.getD i 0) (p.getD k 0)=true)/\∀i,m<=i->i<k->lt (p.getD k 0) (p.getD i 0)=true
 |0,l,r,hl,hr,hf,a,b=>by
  have:l=r:=by left
  subst this;exact⟨trivial,l,rfl,hr,a,b⟩
 |f+1,l,r,hl,hr,hf,a,b=>by
  have e:kas_place p k (f+1) l r=if l ≥ r then .ret l else .ask (p.getD k 0) (p.getD ((l+r) / 2) 0) λc=>if c=true then kas_place p k f l ((l+r) / 2)else kas_place p k f ((l+r) / 2+1) r:=rfl
  rw[e];by_cases KQ:l ≥ r
  ·rw[if_pos KQ];have:l=r:=by left
   subst this;exact⟨trivial,l,rfl,hr,a,b⟩
  ·rw[if_neg KQ];have hm:l<=(l+r) / 2/\(l+r) / 2<r:=by left
   generalize (l+r) / 2=m at *;have b1:p.getD k 0<n:=h.bd hk;have b2:p.getD m 0<n:=h.bd (by left);cases c:lt (p.getD k 0) (p.getD m 0)with
   |true =>
    obtain⟨c1,m',c2,c3⟩:=nc O h hk u f l m hm.1 (by left) (by left) a λi h1 h2=>by
     by_cases e:i=m
     ·subst e;exact c
     ·exact O.tr _ _ _ b1 b2 (h.bd (by left)) c (u m i (by left) h2)
    refine⟨⟨b1,b2,by rw[c];exact c1⟩,m',?_,c3⟩;show cR lt (if lt (p.getD k 0) (p.getD m 0)=true then _ else _)=_;rw[c];exact c2
   |false =>
    have oG:=h.or O hk (by left) (by left) c;obtain⟨c1,m',c2,c3⟩:=nc O h hk u f (m+1) r (by left) hr (by left) (λi hi=>by
     by_cases e:i=m
     ·subst e;exact oG
     ·exact O.tr _ _ _ (h.bd (by left)) b2 b1 (u i m (by left) (by left)) oG) b
    refine⟨⟨b1,b2,by rw[c];exact c1⟩,m',?_,c3⟩;show cR lt (if lt (p.getD k 0) (p.getD m 0)=true then _ else _)=_;rw[c];exact c2
theorem zq(h:Arr p n){k m:Nat}(hk:k<n)(hm:m<=k)(u:Up lt p k)(a:∀i,i<m->lt (p.getD i 0) (p.getD k 0)=true)(b:∀i,m<=i->i<k->lt (p.getD k 0) (p.getD i 0)=true):
  Arr (bubble p k (k - m)) n/\Up lt (bubble p k (k - m)) (k+1):=by
 have hs:(bubble p k (k - m)).size=p.size:=bubble_size _ _ _;refine⟨⟨by rw[hs];exact h.sz,(bubble_perm p k (k - m)).toList.trans h.pm⟩,λi j jq hj=>?_⟩;have g:∀t,(bubble p k (k - m)).getD t 0=if t=m then p.getD k 0 else if m<t/\t<=k then p.getD (t - 1) 0 else p.getD t 0:=λt=>by
  have e:=getElem?_bubble (xs:=p) (src:=k) (by rw[h.sz];exact hk) (k - m) (Nat.sub_le _ _) t;rw[show k - (k - m)=m by left]at e;by_cases h1:t=m
  ·rw[if_pos h1]at e ⊢;exact mC e
  ·rw[if_neg h1]at e ⊢;by_cases h2:m<t/\t<=k
   ·rw[if_pos h2]at e ⊢;exact mC e
   ·rw[if_neg h2]at e ⊢;exact mC e
 rw[g i,g j];by_cases i1:i=m
 ·rw[if_pos i1,if_neg (by left),if_pos (by left)];exact b (j - 1) (by left) (by left)
 ·rw[if_neg i1];by_cases i2:m<i/\i<=k
  ·rw[if_pos i2,if_neg (by left),if_pos (by left)];exact u (i - 1) (j - 1) (by left) (by left)
  ·rw[if_neg i2];by_cases j1:j=m
   ·rw[if_pos j1];exact a i (by left)
   ·rw[if_neg j1];by_cases j2:m<j/\j<=k
    ·rw[if_pos j2];by_cases e:i=j - 1
     ·left
     ·exact u i (j - 1) (by left) (by left)
    ·rw[if_neg j2];exact u i j jq (by left)
end
theorem Dm{lt:Nat->Nat->Bool}{n:Nat}(O:Ord lt n):∀(f:Nat) {p:Array Nat} {k:Nat},Arr p n->k+f=n->Up lt p k->jA n lt (kas_bin f p k)/\Arr (cR lt (kas_bin f p k)) n/\Up lt (cR lt (kas_bin f p k)) n
 |0,p,k,h,hk,u=>⟨trivial,h,by rw[<- hk];exact u⟩
 |f+1,p,k,h,hk,u=>by
  obtain⟨a1,m,a2,a3,a4,a5⟩:=nc O h (k:=k) (by left) u k 0 k (aaJ _) (aam _) (aam _) (λi hi=>by left) (λi h1 h2=>by left);obtain⟨b1,b2⟩:=zq h (by left) a3 u a4 a5;obtain⟨c1,c2,c3⟩:=Dm O f b1 (by left) b2;have e:kas_bin (f+1) p k=(kas_place p k k 0 k).bind λl=>kas_bin f (bubble p k (k - l)) (k+1):=rfl;rw[e];refine⟨fK a1 (by rw[a2];exact c1),?_⟩;rw[gQ,a2];exact⟨c2,c3⟩
theorem Ex{lt:Nat->Nat->Bool}{n:Nat}(O:Ord lt n)(hn:2<=n):jA n lt (kas_sort n)/\Arr (cR lt (kas_sort n)) n/\Up lt (cR lt (kas_sort n)) n:=by
 have h0:Arr (List.toArray (List.range n)) n:=⟨by simp,by simp⟩
 obtain⟨a1,r,a2,a3,a4,a5,a6⟩:=C_ O h0 hn;unfold kas_sort;have key:∀t,t=(if r.1<n then kas_bin (n - max r.1 1) r.2 (max r.1 1)else .ret r.2)->jA n lt t/\Arr (cR lt t) n/\Up lt (cR lt t) n:=by
  intro t ht;by_cases h:r.1<n
  ·rw[if_pos h]at ht;subst ht;rw[show max r.1 1=r.1 by left];exact Dm O _ a3 (by left) a6
  ·rw[if_neg h]at ht;subst ht;have:r.1=n:=by left
   exact⟨trivial,a3,by rw[this]at a6;exact a6⟩
 have e:=key _ rfl;refine⟨fK a1 (by rw[a2];exact e.1),?_⟩;rw[gQ,a2];exact e.2
end DI
end
section
namespace DI
open PySem PySem.Spec PyProof.Rows L2
def o5(h:Heap)(vs:ak)(nss:aB):Prop:=vs.length=nss.length/\∀(i:Nat) (ns:ae),nss[i]?=some ns->∃t aM,vs[i]?=some (.ref t)/\IsTup h t aM.toArray/\IntsAre aM ns
variable {h h':Heap}{nss:aB}{vs:ak}
theorem o5.mono(k:∀b o,h.get? b=some o->h'.get? b=some o)(t:o5 h vs nss):o5 h' vs nss :=
 ⟨t.1,λi ns e=>let ⟨a,aM,e1,⟨o,ho,r⟩,e3⟩:=t.2 i ns e;⟨a,aM,e1,⟨o,k _ _ ho,r⟩,e3⟩⟩
theorem o5.mem(t:o5 h vs nss){v:Value}(hv:v∈vs):∃a aM ns,v=.ref a/\IsTup h a aM.toArray/\IntsAre aM ns:=by
 obtain⟨i,hi⟩:=List.mem_iff_getElem?.mp hv;have hl:i<nss.length:=by rw[<- t.1];exact(List.getElem?_eq_some_iff.mp hi).1
 obtain⟨a,aM,e1,e2,e3⟩:=t.2 i _ (aas hl);rw[hi]at e1;cases e1;exact⟨a,aM,_,rfl,e2,e3⟩
variable {ns:ae}
section
variable {prog:aF}{w:World}{A:aJ}{E:aD}{s:Shared}
theorem n8:∀{vs:ak} {nss:aB} {Q:List (Option Value)->Shared->Prop},o5 s.heap vs nss->(∀fs:List (Option Value),fs.length=vs.length->(∀f∈fs,∀v,f=some v->∃n t,v=.int n t)->Q fs s)->wpAny (model prog w) A (vs.mapM firstOfTuple') Q E s
 |[],_,_,_,h=>by rw[List.mapM_nil];exact aah (h [] rfl λ_ h=>nomatch h)
 |v::vs,[],_,t,_=>by have:=t.1;simp at this
 |v::vs,ns::nss,Q,t,h=>by
  obtain⟨a,aM,e,⟨o,ho,hc,n,hd⟩,hi⟩:=t.2 0 ns rfl;cases e;rw[List.mapM_cons];refine aaa ?_;rw[PySem.W.kas_first_eq];refine aaa (PySem.W.Looks.here (show PySem.W.Looks (model prog w) s.heap (typeOf (.ref a)) o.cls from(PySem.W.Looks.ld ho).andThen .now) ?_);rw[hc,if_neg (by first|decide|simp)];refine aaa (listItems_at ho hd (aah ?_));refine aaa (n8 (vs:=vs) (nss:=nss) ⟨by simpa using t.1,λi ms e=>t.2 (i+1) ms e⟩ λfs h1 h2=>aah (h _ (by simp[h1]) λf hf v hv=>?_));rcases List.mem_cons.mp hf with rfl|hf
  ·cases hi with
   |nil=>simp at hv
   |cons a' tk hi=>simp at hv;exact⟨_,_,hv.symm⟩
  ·exact h2 f hf v hv
def DL(κ:SortKind):Prop:=κ=tuples' true\/κ=general'\/κ=oneType'
theorem kind_any{Q:SortKind->Shared->Prop}(t:o5 s.heap vs nss)(jE:vs≠[])(h:∀κ,DL κ->Q κ s):wpAny (model prog w) A (keyKind' vs.toArray) Q E s:=by
 obtain⟨v0,vr,rfl⟩:∃v0 vr,vs=v0::vr:=by
  cases vs with
  |nil=>exact absurd rfl jE
  |cons v0 vr=>exact⟨v0,vr,rfl⟩
 rw[kat_kind_eq,List.mapM_toArray,map_eq_pure_bind];refine aaa (aaa (n8 t λfs hl hf=>aah ?_));by_cases ha:(fs.toArray.all λx=>x.isSome)=true
 ·rw[if_pos ha];refine aaa (wpAny_rule ?_);obtain⟨gs,hg,hgi⟩:∃gs:ak,fs=gs.map some/\∀v∈gs,∃n t,v=.int n t:=by
   clear h hl t;induction fs with
   |nil=>exact⟨[],rfl,λ_ h=>nomatch h⟩
   |cons f fs ih =>
    simp only[List.all_toArray,List.all_cons,Bool.and_eq_true]at ha;obtain⟨gs,e1,e2⟩:=ih (λf PH=>hf f (aal _ PH)) (by simpa using ha.2);cases f with
    |none=>simp at ha
    |some v =>
     exact⟨v::gs,by rw[e1];rfl,λu hu=>by
      rcases List.mem_cons.mp hu with rfl|hu
      ·exact hf _ aai _ rfl
      ·exact e2 u hu⟩
  subst hg;obtain⟨g0,gr,rfl⟩:∃g0 gr,gs=g0::gr:=by
   cases gs with
   |nil=>simp at hl
   |cons a b=>exact⟨a,b,rfl⟩
  have hfm:(((g0::gr).map some).toArray.filterMap id)=(g0::gr).toArray:=by simp
  rw[hfm,oneTypeOnly'_eq,List.mapM_toArray,map_eq_pure_bind];refine aaa (aaa (aaa (PySem.W.kas_mapM (r:=Value.type "int") _ (λv hv Q' hq=>by
   obtain⟨n,t,rfl⟩:=hgi v hv;exact(PySem.W.Looks.of_pure (M:=model prog w) rfl).here hq) (aah ?_))))
  have Cd:((List.map (λ_=>Value.type "int") (g0::gr)).toArray.all λx=>x==Value.type "int")=true:=by
   simp only[List.all_toArray,List.all_map,List.all_eq_true];intro _ _;show(Value.type "int" == Value.type "int")=true;decide
  have h0:(List.map (λ_=>Value.type "int") (g0::gr)).toArray[0]?=some (Value.type "int"):=by simp
  rw[h0];simp only[Cd,if_true];exact aah (aah (h _ (.inl rfl)))
 ·rw[if_neg ha];by_cases hb:((fs.toArray[0]?.bind id).isSome)=true
  ·rw[if_pos hb];exact aah (h _ (.inr (.inl rfl)))
  ·rw[if_neg hb];rw[oneTypeOnly'_eq,List.mapM_toArray,map_eq_pure_bind];refine aaa (aaa (aaa (PySem.W.kas_mapM (r:=Value.type "tuple") _ (λv hv Q' hq=>by
    obtain⟨a,aM,ns,rfl,⟨o,ho,hc,_⟩,_⟩:=t.mem hv;refine PySem.W.Looks.here (show PySem.W.Looks (model prog w) s.heap (typeOf (.ref a)) o.cls from(PySem.W.Looks.ld ho).andThen .now) ?_;rw[hc];exact hq) (aah ?_))))
   have Cd:((List.map (λ_=>Value.type "tuple") (v0::vr)).toArray.all λx=>x==Value.type "tuple")=true:=by
    simp only[List.all_toArray,List.all_map,List.all_eq_true];intro _ _;show(Value.type "tuple" == Value.type "tuple")=true;decide
   have h0:(List.map (λ_=>Value.type "tuple") (v0::vr)).toArray[0]?=some (Value.type "tuple"):=by simp
   rw[h0];simp only[Cd,if_true];exact aah (aah (h _ (.inr (.inr rfl))))
theorem Kg{κ:SortKind}(hk:DL κ)(hu:A.units<cLine){a b:Addr}{aM FE:ak}{ms:ae}{Q:Bool->Shared->Prop}(ha:IsTup s.heap a aM.toArray)(hb:IsTup s.heap b FE.toArray)(hi:IntsAre aM ns)(hj:IntsAre FE ms)(h:Q (HT.lexLt ns ms) s):
  wpAny (model prog w) A (keyLt' κ (.ref a) (.ref b)) Q E s:=by
 rcases hk with rfl|rfl|rfl
 ·obtain⟨o,ho,_,n,hd⟩:=ha;obtain⟨o',fJ,_,n',oW⟩:=hb;exact PySem.W.kat_lt ho hd fJ oW (tO 0 hi hj (by simp) h)
 ·exact PySem.W.kat_one _ _ (HT.vx ha hb (by simpa using hi) (by simpa using hj) hu h)
 ·show wpAny (model prog w) A (oneLt' true (.ref a) (.ref b)) Q E s;rw[oneLt'_eq];simp only[if_true];refine aaa (wpAny_cRoomFor hu ?_);obtain⟨⟨cls,dd,data,sl⟩,ho,hc,n,hd⟩:=id ha;obtain⟨⟨GD,v9,data2,uR⟩,qW,hc2,n2,hd2⟩:=id hb;simp only at hc hd hc2 hd2;subst hc hd hc2 hd2;refine aaa (wpAny_callSpecialIfBound?_slot (name:=Str.ofString "__lt__") ⟨_,ho,rfl⟩ abH (abx abH ⟨_,ho,rfl⟩ PySem.F.entry_tuple_lt (PySem.F.args_tuple_lt_2 _ _) (HT.jB a b _ _ n n2 dd v9 sl uR ns ms (by simpa using hi) (by simpa using hj)) ⟨ho,qW,?_⟩));exact aaO h
end
def jx(h:Heap)(d:Addr)(es:Array DictEntry)(ep:Nat):Prop:=∃o,h.get? d=some o/\o.ExactDict/\o.data=.dict es ep
variable {Q:Value->Shared->Prop}
section
variable {prog:aF}{w:World}{A:aJ}{E:aD}{s:Shared}{d it:Addr}{es:Array DictEntry}{ep i:Nat}
theorem jx.typeIs(h:jx s.heap d es ep):s.TypeIs (.ref d) "dict":=let ⟨o,ho,hx,_⟩:=h;⟨o,ho,hx.1⟩
theorem Gw(hd:(d==sysModules)=false)(hm:jx s.heap d es ep)
  (hQ:Q (.ref s.heap.objs.size) { s with heap:=s.heap.push { cls:=.type "dict_keyiterator",data:=.fields #[.ref d,.int 0 0,.int es.size 0,.int ep 0] } }):wpAny (model prog w) A (pyIter (.ref d)) Q E s:=by
 have hT:=hm.typeIs;obtain⟨o,ho,hx,B9⟩:=hm;refine wpAny_pyIter_slot hT PySem.F.slot_dict_iter (aaH PySem.F.slot_dict_iter hT PySem.F.entry_dict_iter ?_ (PySem.F.args_dict_iter_1 _));unfold Builtin.«dict.__iter__» Builtin.Dict.dictSlotNone;refine aaa (aaa (wpAny_notOrdered_dict hT (aah ?_)));show wpAny _ _ (Builtin.Dict.showsAll d >>= _) _ _ s;unfold Builtin.Dict.showsAll;rw[if_neg (by rw[hd];exact Bool.false_ne_true)];refine aaa (aah (aaa (aa9 ho B9 (aaa (abf ho B9 ?_)))));exact aaa (aaL (aah ⟨_,rfl,"dict_keyiterator",_,⟨_,aar _ rfl,rfl⟩,PySem.F.slot_dict_keyiterator_next.lookup,hQ⟩))
theorem Gv{Q:Option Value->Shared->Prop}(hit:s.heap.IsKeyIter it d i es.size ep)(hm:jx s.heap d es ep)(gX:i<es.size)
  (hQ:∀h',h'.IsKeyIter it d (i+1) es.size ep->Heap.SameBut it s.heap h'->Q (some es[i].key) { s with heap:=h' }):wpAny (model prog w) A (pyNext (.ref it)) Q E s:=by
 obtain⟨o,ho,hc,hd⟩:=id hit;obtain⟨od,B1,tZ,xC⟩:=hm;unfold pyNext;refine aaa (abl (aaN (name:=Str.ofString "__next__") hit.typeIs aaP (aaH aaP hit.typeIs PySem.F.entry_dict_keyiterator_next ?_ (PySem.F.args_dict_keyiterator_next_1 _))));refine aaa (aah (aaa (aaa ?_)))
 first|refine aaa (aa0 hit.typeIs (aah ?_))|refine aaa (abb hit.typeIs (aah ?_))
 refine aaa (ab_ ho hd ?_);simp only[show Builtin.Dict_items.ownsTuple "dict_keyiterator" = false by decide,abg,acu];show wpAny _ _ (if (Value.ref d==Value.none)=true then _ else _) _ _ s;rw[if_neg (show ¬ ((Value.ref d==Value.none)=true) from Bool.false_ne_true)];refine aaa (aah (aaa (aa9 B1 xC ?_)));rw[if_neg (by simp)];refine aaa (aah (aaa (abf B1 xC ?_)));rw[if_neg (by simp)];refine aah ?_;simp only[show ¬ ((i:Int)<0) from by left,if_false,Int.toNat_natCast,Array.getElem?_eq_getElem gX];refine aaa ?_
 first|refine aaa (aa0 hit.typeIs (aah ?_))|refine aaa (abb hit.typeIs (aah ?_))
 refine aaa (wpAny_isOneOf_keyiter hit.typeIs ?_);show wpAny _ _ (setField (.ref it) 1 (rawInt ((i:Int)+1)) >>= _) _ _ s;refine aaa (aca ho hd (by simp) ?_);have oV:(s.heap.update it (Obj.mapFields (·.setIfInBounds 1 (rawInt ((i:Int)+1))))).IsKeyIter it d (i+1) es.size ep :=
  ⟨_,aaS _ ho (Obj.isFreed_of_fields (Obj.data_mapFields hd _)),(Obj.cls_mapFields ..).trans hc,by rw[Obj.data_mapFields hd];simp[rawInt]⟩
 refine aaa (aaF (aaa (wpAny_isOneOf_keyiter (s:={ s with heap:=s.heap.update it (Obj.mapFields (·.setIfInBounds 1 (rawInt ((i:Int)+1)))) }) oV.typeIs ?_)));show wpAny _ _ (pure es[i].key) _ _ _;exact aah (aah ⟨_,rfl,aah (hQ _ oV (abn ..))⟩)
theorem LV{Q:Option Value->Shared->Prop}(hh:A.handled=none)(hit:s.heap.IsKeyIter it d i es.size ep)(hm:jx s.heap d es ep)(Vw:es.size<=i)
  (hQ:∀h',Heap.ExtBut it s.heap h'->Q none { s with heap:=h' }):wpAny (model prog w) A (pyNext (.ref it)) Q E s:=by
 obtain⟨o,ho,hc,hd⟩:=id hit;obtain⟨od,B1,tZ,xC⟩:=hm;unfold pyNext;refine aaa (abl (aaN (name:=Str.ofString "__next__") hit.typeIs aaP (aaH aaP hit.typeIs PySem.F.entry_dict_keyiterator_next ?_ (PySem.F.args_dict_keyiterator_next_1 _))));refine aaa (aah (aaa (aaa ?_)))
 first|refine aaa (aa0 hit.typeIs (aah ?_))|refine aaa (abb hit.typeIs (aah ?_))
 refine aaa (ab_ ho hd ?_);simp only[show Builtin.Dict_items.ownsTuple "dict_keyiterator" = false by decide,abg,acu];show wpAny _ _ (if (Value.ref d==Value.none)=true then _ else _) _ _ s;rw[if_neg (show ¬ ((Value.ref d==Value.none)=true) from Bool.false_ne_true)];refine aaa (aah (aaa (aa9 B1 xC ?_)));rw[if_neg (by simp)];refine aaa (aah (aaa (abf B1 xC ?_)));rw[if_neg (by simp)];refine aah ?_;simp only[show ¬ ((i:Int)<0) from by left,if_false,Int.toNat_natCast,Array.getElem?_eq_none Vw];refine aaa ?_
 first|refine aaa (aa0 hit.typeIs (aah ?_))|refine aaa (abb hit.typeIs (aah ?_))
 show wpAny _ _ (setField (.ref it) 0 .none >>= _) _ _ s;refine aaa (aca ho hd (by simp) ?_);show wpAny _ _ (newExc (.type "StopIteration") [] >>= _) _ _ _;refine aaa ?_;simp only[newExc,newTuple];refine aaa (aaL ?_ (by size_fits));refine aaa (m:=firstArgMember _ _) (wpAny_of_eq (a:=Value.none) (by first|rfl | (simp only[firstArgMember];rfl)) ?_);refine aaL ?_ (by size_fits);simp only[raiseNew];refine aaa (wpAny_handled ?_);rw[show A.in1.handled=none from hh];refine aaa (aah (wpAny_throw ?_));refine aaa (wpAny_isInstance (T:="StopIteration") (b:=true) ⟨_,aar _ rfl,rfl⟩ isSubtype_stop ?_);exact aah (hQ _ (((abn ..).extBut.push _).push _))
end
theorem vD:∀a b c:ae,HT.lexLt a b=true->HT.lexLt b c=true->HT.lexLt a c=true
 |[],[],_,h,_=>by rw[HT.jD]at h;cases h
 |[],_::_,[],_,h=>by rw[HT.cT]at h;cases h
 |[],_::_,_::_,_,_=>rfl
 |_::_,[],_,h,_=>by rw[HT.cT]at h;cases h
 |_::_,_::_,[],_,h=>by rw[HT.cT]at h;cases h
 |x::a,y::b,z::c,h1,h2=>by
  rw[HT.dG]at *;by_cases e1:x=y
  ·subst e1;rw[if_pos rfl]at h1;by_cases e2:x=z
   ·subst e2;rw[if_pos rfl]at h2 ⊢;exact vD a b c h1 h2
   ·rw[if_neg e2]at h2 ⊢;exact h2
  ·rw[if_neg e1]at h1;have l1:x<y:=aab h1;by_cases e2:y=z
   ·subst e2;rw[if_neg (by left)];exact aaG l1
   ·rw[if_neg e2]at h2;have l2:y<z:=aab h2;rw[if_neg (by left)];exact aaG (by left)
theorem qU:∀a b:ae,HT.lexLt a b=true->HT.lexLt b a=false
 |[],[],_=>rfl
 |[],_::_,_=>rfl
 |_::_,[],h=>by rw[HT.cT]at h;cases h
 |x::a,y::b,h=>by
  rw[HT.dG]at *;by_cases e:x=y
  ·subst e;rw[if_pos rfl]at h ⊢;exact qU a b h
  ·rw[if_neg e]at h;have l:x<y:=aab h;rw[if_neg (by left)];exact aaV (by left)
theorem mz:∀a b:ae,a≠b->HT.lexLt a b=true\/HT.lexLt b a=true
 |[],[],h=>absurd rfl h
 |[],_::_,_=>.inl rfl
 |_::_,[],_=>.inr rfl
 |x::a,y::b,h=>by
  rw[HT.dG,HT.dG];by_cases e:x=y
  ·subst e;rw[if_pos rfl,if_pos rfl];exact mz a b λz=>h (by rw[z])
  ·rw[if_neg e,if_neg (Ne.symm e)];rcases Int.lt_or_gt_of_ne e with l|l
   ·exact .inl (aaG l)
   ·exact .inr (aaG l)
def bP(nss:aB):aB:=nss.mergeSort λa b=>!HT.lexLt b a
def zu(nss:aB):Prop:=nss.Pairwise λa b=>HT.lexLt a b=true
theorem wQ:∀{l m:aB},zu l->zu m->l.Perm m->l=m
 |[],m,_,_,p=>(List.perm_nil.mp p.symm).symm
 |a::l,[],_,_,p=>by have:=p.length_eq;simp at this
 |a::l,b::m,h1,h2,p=>by
  have e:a=b:=by
   have ha:a∈b::m:=p.mem_iff.mp aai;have hb:b∈a::l:=p.mem_iff.mpr aai;rcases List.mem_cons.mp ha with e|ha
   ·exact e
   ·rcases List.mem_cons.mp hb with e|hb
    ·exact e.symm
    ·have l1:=(List.pairwise_cons.mp h2).1 a ha;have l2:=(List.pairwise_cons.mp h1).1 b hb;rw[qU _ _ l1]at l2;cases l2
  subst e;rw[wQ (List.pairwise_cons.mp h1).2 (List.pairwise_cons.mp h2).2 (List.perm_cons a |>.mp p)]
theorem jM(h:nss.Nodup):zu (bP nss):=by
 have p:(bP nss).Perm nss:=aa3 _ _;have nd:(bP nss).Nodup:=p.nodup_iff.mpr h;have sd:(bP nss).Pairwise λa b=>(!HT.lexLt b a)=true:=List.pairwise_mergeSort (λa b c h1 h2=>by
  cases e:HT.lexLt c a with
  |false=>rfl
  |true =>
   exfalso;by_cases vQ:b=c
   ·subst vQ;rw[e]at h1;cases h1
   ·rcases mz b c vQ with l|l
    ·rw[vD _ _ _ l e]at h1;cases h1
    ·rw[l]at h2;cases h2) (λa b=>by
  cases e:HT.lexLt b a with
  |false=>rfl
  |true=>rw[qU _ _ e];rfl) nss
 exact(sd.and nd).imp λ{a b} ⟨h1,h2⟩=>by
  rcases mz a b h2 with l|l
  ·exact l
  ·rw[l]at h1;cases h1
theorem Ao{l:aB}(h:nss.Nodup)(hr:zu l)(p:l.Perm nss):l=bP nss:=wQ hr (jM h) (p.trans (aa3 _ _).symm)
def ltN(nss:aB)(i j:Nat):Bool:=HT.lexLt (nss.getD i []) (nss.getD j [])
theorem JW(h:nss.Nodup):Ord (ltN nss) nss.length :=
 ⟨λa b c _ _ _ h1 h2=>vD _ _ _ h1 h2,λa b _ _ h=>qU _ _ h,λa b ha hb vQ=>mz _ _ λe=>vQ (by
  have e1:nss.getD a []=nss[a]:=by simp[ha]
  have e2:nss.getD b []=nss[b]:=by simp[hb]
  rw[e1,e2]at e;exact(abG h).mp e)⟩
theorem ph(h:nss.Nodup){p:Array Nat}(ha:Arr p nss.length)(hu:Up (ltN nss) p nss.length):(p.toList.map λi=>nss.getD i [])=bP nss:=by
 refine Ao h ?_ ?_
 ·refine List.pairwise_iff_getElem.mpr λi j hi hj jq=>?_;simp only[List.length_map,Array.length_toList]at hi hj;have:=hu i j jq (by rw[<- ha.sz];exact hj);unfold ltN at this;have e:∀k (hk:k<p.size),p.getD k 0=p[k]:=λk hk=>by simp[Array.getD,hk]
  rw[e i hi,e j hj]at this;simpa using this
 ·have e:nss=(List.range nss.length).map λi=>nss.getD i []:=by
   refine acp (by simp) λi h1 h2=>?_;simp[h1]
  refine(ha.pm.map λi=>nss.getD i []).trans ?_;rw[<- e]
variable {ep:Nat}
section
variable {prog:aF}{w:World}{A:aJ}{E:aD}{s:Shared}
theorem Am{a:Addr}{n:Nat}{P:PySem.Fin->Shared->Prop}(ho:s.heap.get? a=some (seqObj "list" vs.toArray n))(uT:vs.length<64)(zG:nss.Nodup)
  (hl:vs.length=nss.length) (KP:SortKind->Prop) (hkd:vs≠[]->∀(Q:SortKind->Shared->Prop),(∀κ,KP κ->Q κ { s with heap:=(((s.heap.update a (Obj.mapSeq λ_=>#[])).push (seqObj "tuple" vs.toArray 0)).push (seqObj "list" #[] 0)) })->wpAny (model prog w) A (keyKind' vs.toArray) Q E { s with heap:=(((s.heap.update a (Obj.mapSeq λ_=>#[])).push (seqObj "tuple" vs.toArray 0)).push (seqObj "list" #[] 0)) })
  (gX:∀κ,KP κ->∀(i j:Nat) (hi:i<nss.length) (hj:j<nss.length) (E':aD) (Q:Bool->Shared->Prop),Q (HT.lexLt nss[i] nss[j]) { s with heap:=(((s.heap.update a (Obj.mapSeq λ_=>#[])).push (seqObj "tuple" vs.toArray 0)).push (seqObj "list" #[] 0)) }->wpAny (model prog w) A (keyLt' κ (vs.getD i Value.none) (vs.getD j Value.none)) Q E' { s with heap:=(((s.heap.update a (Obj.mapSeq λ_=>#[])).push (seqObj "tuple" vs.toArray 0)).push (seqObj "list" #[] 0)) })
  (h:∀p:Array Nat,Arr p vs.length->(p.toList.map λi=>nss.getD i [])=bP nss->P (.done (.ret .none)) { s with heap:=sortedHeap s.heap a vs (List.toArray (p.toList.map λi=>vs.getD i Value.none)) }) :
  wpAny (model prog w) A (Builtin.«list.sort» ⟨[.ref a],[]⟩) P E s:=by
 rw[list_sort_plain];have ha:a<s.heap.objs.size:=aaj ho;have hsz:vs.toArray.size=vs.length:=by simp
 have hz:vs.length<=sizeLine:=by rw[sizeLine_eq];left
 refine aaa (listItems_at ho rfl (aaa (listUpdate_at ho rfl ?_ (by rw[hsz];exact hz) (aaJ _))));obtain⟨e1,ME⟩:∃e1,(s.heap.update a (Obj.mapSeq λ_=>#[])).get? a=some (seqObj "list" #[] e1):=⟨_,get?_update_seq ho (λ_=>#[])⟩
 refine aaa (seqEpoch_at ME rfl (aaa (wpAny_newTuple (aaa (aci (aaF ?_) (aaJ _))) (by simpa using hz))));have X7:(((s.heap.update a (Obj.mapSeq λ_=>#[])).push (seqObj "tuple" vs.toArray 0)).push (seqObj "list" #[] 0)).get? a=some (seqObj "list" #[] e1):=aak _ (aak _ ME);show wpAny (model prog w) A _ P E ({ s with heap:=((s.heap.update a (Obj.mapSeq λ_=>#[])).push (seqObj "tuple" vs.toArray 0)).push (seqObj "list" #[] 0) }:Shared);dsimp only;have fin:∀(oO:SortSt) (p:Array Nat),Arr p vs.length->(p.toList.map λi=>nss.getD i [])=bP nss->(arrOf oO).map (·.2)=List.toArray (p.toList.map λi=>vs.getD i Value.none)->failedOf oO=none->wpAny (model prog w) A (do
   let touched:=(<- seqEpoch a) != e1
   Builtin.List.listUpdate (.ref a) λ_=>(arrOf oO).map (·.2)
   if let some e:=failedOf oO then rule "list.sort.comparison-raised";throw e
   if touched then rule "list.sort.modified";raiseError "ValueError" "list modified during sort"
   ret .none) P E ({ s with heap:=((s.heap.update a (Obj.mapSeq λ_=>#[])).push (seqObj "tuple" vs.toArray 0)).push (seqObj "list" #[] 0) }:Shared):=by
  intro oO p hp hs hA hF;refine aaa (seqEpoch_at X7 rfl ?_);rw[hA];refine aaa (listUpdate_at X7 rfl ?_ (aaJ _) (by rw[List.size_toArray,List.length_map,Array.length_toList,hp.sz];exact acn hz));rw[hF];simp only[bne_self_eq_false,Bool.false_eq_true,if_false];exact aah (h p hp hs)
 by_cases h2:vs.toArray.size<2
 ·rw[if_pos h2,if_pos h2];refine aaa (aah ?_);rw[StateT.run_pure];refine aaa (aah ?_);rw[hsz]at h2;have VL:Arr (List.toArray (List.range vs.length)) vs.length:=⟨by simp,by simp⟩
  refine fin (SortSt.mk' general' (vs.toArray.zip vs.toArray) #[] 7 none) (List.toArray (List.range vs.length)) VL ?_ ?_ rfl
  ·rw[hl]at VL ⊢;exact ph zG VL λi j jq hj=>by left
  ·apply Array.toList_inj.mp;show(Array.map (·.2) (vs.toArray.zip vs.toArray)).toList=_;rw[Array.toList_map,show(vs.toArray.zip vs.toArray)=pairsOf vs from rfl,pairsOf_toList,List.map_snd_zip (Nat.le_refl _)];refine acp (by simp) λi h1 h2=>?_;simp[h1]
 ·rw[if_neg h2,if_neg h2];rw[hsz]at h2;refine aaa (hkd (λz=>by rw[z]at h2;simp at h2) _ λκ hk=>?_);have ok:=Ex (JW zG) (by rw[<- hl];left);refine aaa (aav (PySem.W.kat_run (ks:=vs) (vs:=vs) (κ:=κ) (Q:=λoO s'=>s'=({ s with heap:=((s.heap.update a (Obj.mapSeq λ_=>#[])).push (seqObj "tuple" vs.toArray 0)).push (seqObj "list" #[] 0) }:Shared)/\∃p,Arr p vs.length/\(p.toList.map λi=>nss.getD i [])=bP nss/\(arrOf oO).map (·.2)=List.toArray (p.toList.map λi=>vs.getD i Value.none)/\failedOf oO=none)
   (G:=λp s'=>s'=({ s with heap:=((s.heap.update a (Obj.mapSeq λ_=>#[])).push (seqObj "tuple" vs.toArray 0)).push (seqObj "list" #[] 0) }:Shared)/\Arr p vs.length/\(p.toList.map λi=>nss.getD i [])=bP nss) rfl (by left) uT (λp oO s' hps har hf hG=>⟨hG.1,p,hG.2.1,hG.2.2,PySem.W.kat_snds rfl har,hf⟩) ?_) (λr s' ⟨e,p,hp,hs,hA,hF⟩=>?_) λ_ _ e=>e)
  rotate_left
  ·subst e;exact fin r.2 p hp hs hA hF
  ·rw[hl];refine x9 (lt:=ltN nss) (n:=nss.length) (λi j C hi hj hC=>?_) _ ok.1 ⟨rfl,ok.2.1,ph zG ok.2.1 ok.2.2⟩;unfold PySem.W.kas_ask;have e3:nss.getD i []=nss[i]:=by simp[hi]
   have e4:nss.getD j []=nss[j]:=by simp[hj]
   have Yy:C (HT.lexLt (nss.getD i []) (nss.getD j [])) _:=hC;rw[e3,e4]at Yy;exact gX κ hk i j hi hj _ _ Yy
theorem An{a:Addr}{n:Nat}{P:PySem.Fin->Shared->Prop}(hu:A.units<cLine)(ho:s.heap.get? a=some (seqObj "list" vs.toArray n))(uT:vs.length<64)(zG:nss.Nodup)
  (ht:o5 (((s.heap.update a (Obj.mapSeq λ_=>#[])).push (seqObj "tuple" vs.toArray 0)).push (seqObj "list" #[] 0)) vs nss)
  (h:∀p:Array Nat,Arr p vs.length->(p.toList.map λi=>nss.getD i [])=bP nss->P (.done (.ret .none)) { s with heap:=sortedHeap s.heap a vs (List.toArray (p.toList.map λi=>vs.getD i Value.none)) }) :
  wpAny (model prog w) A (Builtin.«list.sort» ⟨[.ref a],[]⟩) P E s :=
 Am ho uT zG ht.1 DL (λjE Q hQ=>kind_any ht jE hQ) (λκ hk i j hi hj E' Q hq=>by
  obtain⟨x,aM,e1,i1,i2⟩:=ht.2 i _ (aas hi);obtain⟨y,FE,e2,j1,j2⟩:=ht.2 j _ (aas hj);rw[show vs.getD i Value.none=.ref x by simp[e1],show vs.getD j Value.none=.ref y by simp[e2]];exact Kg hk hu i1 j1 i2 j2 hq) h
theorem C3{es:Array DictEntry}(hh:A.handled=none)(I d:Addr)(jE:d≠I):Walks prog w A I [I,d] [I] es.size (λi v=>∃e,es[i]?=some e/\v=e.key) (λi h=>h.IsKeyIter I d i es.size ep/\jx h d es ep) where
 sub:=λb hb=>by simp at hb;simp[hb]
 frame:=λ_ _ _ st hk=>⟨st.1.at λo e=>hk I (by simp) o e,let ⟨o,ho,r⟩:=st.2;⟨o,hk d (by simp) o ho,r⟩⟩
 item:=λi s Q E hi st hQ=>Gv st.1 st.2 hi λh' oV DQ=>hQ _ h' s.toks ⟨es[i],aaU hi,rfl⟩ ⟨oV,let ⟨o,ho,r⟩:=st.2;⟨o,DQ.extBut d o jE ho,r⟩⟩ λb o hb e=>DQ.extBut b o (λh=>hb (by simp[h])) e
 done:=λs Q E st hQ=>LV hh st.1 st.2 (aam _) λh' VC=>hQ h' s.toks λb o hb e=>VC b o (λh=>hb (by simp[h])) e
 self:=λ_ _ _ _ st hQ=>wpAny_pyIter_keyiter st.1 hQ
theorem LU{d:Addr}{es:Array DictEntry}(lo:(d==sysModules)=false):PySem.W.KdlSrc prog w "dict" d d es.size (λi v=>∃e,es[i]?=some e/\v=e.key) (λh=>jx h d es ep) where
 type:=λ_ hm=>hm.typeIs
 there:=λ_ hm=>let ⟨_,ho,_⟩:=hm;⟨aaj ho,aaj ho⟩
 keep:=λ_ _ hm hk=>let ⟨o,ho,r⟩:=hm;⟨o,hk d (.inl rfl) o ho,r⟩
 notList:=by decide
 notTuple:=by decide
 hint:=λ_ _ _ _ hm hq=>PySem.W.kdl_hint_dict hm.typeIs hq
 iter:=λ_ _ hh hm=>⟨_,_,(λ_ _ hq=>Gw lo hm hq),C3 hh _ d (let ⟨_,ho,_⟩:=hm;aan (aaj ho)),⟨⟨_,aar _ rfl,rfl,rfl⟩,let ⟨o,ho,r⟩:=hm;⟨o,aak _ ho,r⟩⟩⟩
theorem sN{d:Addr}{es:Array DictEntry}(hh:A.handled=none)(hu:A.units+2<cLine)(lo:(d==sysModules)=false)(hm:jx s.heap d es ep)(uT:es.size<64)(zG:nss.Nodup)(ht:o5 s.heap (es.toList.map (·.key)) nss)
  (h:∀(S:Addr) (h':Heap) (tk e:Nat) (p:Array Nat),s.heap.get? S=none->(∀b o,s.heap.get? b=some o->h'.get? b=some o)->Arr p es.size->(p.toList.map λi=>nss.getD i [])=bP nss ->
   h'.get? S=some (seqObj "list" (List.toArray (p.toList.map λi=>(es.toList.map (·.key)).getD i Value.none)) e)->Q (.ref S) { s with heap:=h',toks:=tk }) :
  wpAny (model prog w) A (call (.builtin "sorted") [.ref d]) Q E s:=by
 refine Calls.call_function_entry kind_sorted plain_sorted entry_sorted (args_sorted1 _) ?_;unfold Builtin.«sorted»;have hz:es.size<=sizeLine:=by rw[sizeLine_eq];left
 refine aaa (m:=checkCount "sorted" 1 1 _) (aah (aaa (PySem.W.kdu_collect (A:=A.in1) (LU lo) hh hm hz λh1 tk acc hk h_=>?_)));have P8:acc.toList=es.toList.map (·.key):=by
  refine List.ext_getElem? λi=>?_;rw[List.getElem?_map,Array.getElem?_toList,Array.getElem?_toList];by_cases hi:i<es.size
  ·have Ye:i<acc.size:=by rw[h_.1];exact hi
   obtain⟨e,he,hv⟩:=h_.2 i acc[i] (aaU Ye);rw[Array.getElem?_eq_getElem Ye,he,hv];rfl
  ·rw[Array.getElem?_eq_none (by rw[h_.1];left),Array.getElem?_eq_none (by left)];rfl
 rw[P8];generalize U8:es.toList.map (·.key)=vs at *;have FP:vs.length=es.size:=by rw[<- U8];simp
 refine aaa (aci ?_ (by rw[FP];exact hz));show wpAny _ _ _ _ _ ({ s with heap:=h1.push (seqObj "list" vs.toArray 0),toks:=tk }:Shared);have Pn:(h1.push (seqObj "list" vs.toArray 0)).get? h1.objs.size=some (seqObj "list" vs.toArray 0):=aar _ rfl;have k6:∀b o,s.heap.get? b=some o->((((h1.push (seqObj "list" vs.toArray 0)).update h1.objs.size (Obj.mapSeq λ_=>#[])).push (seqObj "tuple" vs.toArray 0)).push (seqObj "list" #[] 0)).get? b=some o:=λb o e=>by
  refine aak _ (aak _ ?_);rw[Heap.get?_update_other _ _ (Nat.ne_of_gt (Heap.lt_size (hk b o e)))];exact aak _ (hk b o e)
 have hle:s.heap.get? h1.objs.size=none:=by
  cases q:s.heap.get? h1.objs.size with
  |none=>rfl
  |some o=>exact absurd (aaj (hk _ o q)) (aay _)
 refine aaa (aaF (aaH slot_list_sort ⟨_,Pn,rfl⟩ entry_list_sort (An (s:={ s with heap:=h1.push (seqObj "list" vs.toArray 0),toks:=tk }) (nss:=nss) (show A.in1.in1.units<cLine by show A.units+1+1<cLine;left) Pn (by rw[FP];exact uT) zG (ht.mono k6) λp hp hs=>⟨_,rfl,?_⟩) (args_list_sort _)));obtain⟨e,he⟩:=sortedHeap_at (out:=List.toArray (p.toList.map λi=>vs.getD i Value.none)) Pn;refine aah ⟨_,rfl,h h1.objs.size _ tk e p hle (λb o e=>?_) (by rw[<- FP];exact hp) hs he⟩;have gX:=aaj (hk b o e);rw[sortedHeap_old (Nat.ne_of_lt gX) (by rw[size_push'];exact Nat.lt_succ_of_lt gX)];exact aak _ (hk b o e)
end
variable {H:Hp}
theorem J4{P:aF}{w:World}{a:Addr}{o:HO}(x:cC P w H h a o):∃u,h.get? a=some u:=by
 cases o with
 |lst xs=>obtain⟨_,_,_,_,e⟩:=x;exact⟨_,e⟩
 |tup xs=>obtain⟨_,_,_,o,e,_⟩:=x;exact⟨_,e⟩
 |dK lZ=>obtain⟨_,_,_,_,o,_,_,e,_⟩:=x;exact⟨_,e⟩
 |dT lZ=>obtain⟨_,_,_,_,o,_,_,e,_⟩:=x;exact⟨_,e⟩
 |set S n=>obtain⟨o,_,_,_,e,_⟩:=x;exact⟨_,e⟩
 |ins C dx fs=>obtain⟨_,_,_,e,_⟩:=x;exact⟨_,e⟩
 |own y=>exact x
 |xd fs=>obtain⟨_,⟨o,_,_,e,_⟩,_⟩:=x;exact⟨_,e⟩
 |lW lo hi=>obtain⟨_,_,_,e⟩:=x;exact⟨_,e⟩
 |iK o u=>exact⟨_,x.1⟩
 |Ei ps=>exact⟨_,x⟩
 |met f y=>exact⟨_,x⟩
 |ext φ=>exact x.2.1
variable {X:Cx}
theorem Inv.OP{pins:aj}{σ:St}{s:Shared}{t':Nat}{a:Addr}{o:HO}(I:Inv X pins σ H s)(k:∀b u,s.heap.get? b=some u->h'.get? b=some u)(ha:s.heap.get? a=none)(new:cC X.prog X.w (upd H a o) h' a o):
  H a=none/\Inv X pins σ (upd H a o) { s with heap:=h',toks:=t' }:=by
 have hn:H a=none:=by
  cases q:H a with
  |none=>rfl
  |some u =>
   obtain⟨z,hz⟩:=J4 (I.cB a u q);rw[ha]at hz;exact nk hz
 have up:∀b u,H b=some u->upd H a o b=some u:=λb u e=>by rw[aW (bQ e hn)];exact e
 refine⟨hn,I.step (g':=s.gens) (d':=s.drawn) (ch:=[]) (λb hb=>nomatch hb) (λb o _ _ _ e _=>k b o e) (λb o _ _ _ e _=>⟨o.slots,k b o e⟩) (λb u _ e n=>?_)
  (λb o _ e=>⟨o,k b o e⟩) (λ_ _ e=>up _ _ e) (λ_ _ _ e=>up _ _ e) (λb ps e=>⟨#[],by rw[up _ _ e];simp⟩) (λm hm=>?_) (λb u e=>?_) I.bare⟩
 ·rw[aW λz=>by rw[z,ha]at e;cases e];exact n
 ·obtain⟨o,es,ep,ho,r⟩:=hm;exact⟨o,es,ep,k _ o ho,r⟩
 ·by_cases z:b=a
  ·subst z;rw[aX]at e;cases e;exact new
  ·rw[aW z]at e;exact(I.cB b u e).kl (λc v _ q=>k c v q) (λ_ q=>up _ _ q) λ_ _ q=>up _ _ q
section
variable {X:Cx}{pins:aj}{σ:St}{H:Hp}{s:Shared}{d:Addr}{cs:aB}{as:bc}{xs:af}{ep:Nat}
theorem JH(I:Inv X pins σ H s)(h:H d=some (.ext (DO d cs as xs ep))):∃es:Array DictEntry,jx s.heap d es ep/\es.size=as.length/\es.toList.map (·.key)=as.map Value.ref/\cs.Nodup/\as.length=cs.length/\(d==sysModules)=false:=by
 obtain⟨⟨zs,o,es,e1,e2,e3,ho,hx,hd,he,hn,hl,hs⟩,_⟩:=(show cC X.prog X.w H s.heap d (.ext (DO d cs as xs ep)) from I.cB d _ h)
 refine⟨es,⟨o,ho,hx,hd⟩,?_,?_,hn,?_,hs⟩
 ·rw[<- Array.length_toList,he,<- e2,List.length_map,List.length_map]
 ·rw[he,<- e2,List.map_map,List.map_map];rfl
 ·rw[<- e1,<- e2,List.length_map,List.length_map]
end
def LS(xs:aa):O D:=match one xs with
 |some d=>match iC d with
  |some z=>ok (.lst .ow (z.1.map iO))
  |none=>none
 |none=>none
theorem lD(g:Fl->Fl):∀cs:aB,ah g (cs.map iO)=cs.map iO
 |[]=>rfl
 |c::cs=>by
  show aw g (iO c)::ah g (cs.map iO)=_;rw[lD g cs];have:∀c:ae,ah g (c.map D.int)=c.map D.int:=λc=>by
   induction c with
   |nil=>rfl
   |cons i c ih=>show D.int i::ah g (c.map D.int)=_;rw[ih];rfl
  show D.tup (ah g (c.map D.int))::_=_;rw[this];rfl
theorem EJ{T:md}{N:gC}{k:bp}{a:Addr}{c:ae}(h:T a (c.map V.int)):Rep T N k (.ref a) (iO c):=.tup h (aG.ints c)
theorem wm(hc:X.calm=true)(hu:X.A.units+2<cLine):fh X (.builtin "sorted") (λxs H Q=>∃(d:Addr) (cs:aB) (as:bc) (ys:af) (ep:Nat),xs=[.ref d]/\H d=some (.ext (DO d cs as ys ep))/\gf (bh X.K H) as cs/\cs.length<64 /\
  ∀(l:Addr) (bs:bc),H l=none->gf (bh X.K H) bs (bP cs)->Q (.ref l) (upd H l (.lst (bs.map V.ref)))):=by
 intro pins s σ H xs us Q I r h;obtain⟨d,cs,as,ys,ep,rfl,hd,hk,uT,q⟩:=h;obtain⟨u,rfl,ru⟩:=r.one;cases ru;obtain⟨es,BX,hz,xA,Vp,hlen,BR⟩:=JH I hd;have ht:o5 s.heap (es.toList.map (·.key)) cs:=by
  rw[xA];refine⟨by rw[List.length_map,hlen],λi ns e=>?_⟩;have hi:i<as.length:=by rw[hlen];exact(List.getElem?_eq_some_iff.mp e).1
  obtain⟨FE,rj,ij,_⟩:=I.tuple (hk.tup i as[i] ns (aas hi) e);exact⟨as[i],FE,by rw[List.getElem?_map,List.getElem?_eq_getElem hi];rfl,ij,dW rj⟩
 refine sN (I.ok.hd hc) hu BR BX (by rw[hz,hlen];exact uT) Vp ht λS h' tk e p hS MH hp hs hl=>?_;rw[xA]at hl;have Vi:(p.toList.map λi=>(as.map Value.ref).getD i Value.none)=(p.toList.map λi=>as.getD i 0).map Value.ref:=by
  rw[List.map_map];refine aau λi hi=>?_;have lG:i<as.length:=by
   have:=List.mem_range.mp (hp.pm.mem_iff.mp hi);left
  simp[lG]
 rw[Vi]at hl;have VF:gf (bh X.K H) (p.toList.map λi=>as.getD i 0) (bP cs):=by
  rw[<- hs];refine⟨by simp,λj a c h1 h2=>?_⟩;rw[List.getElem?_map]at h1 h2;cases hj:p.toList[j]? with
  |none=>rw[hj]at h1;exact nk h1
  |some i =>
   rw[hj]at h1 h2;have lG:i<as.length:=by
    have:=List.mem_range.mp (hp.pm.mem_iff.mp (aaB hj));left
   cases h1;cases h2;exact hk.tup i _ _ (by simp[lG]) (by simp[show i<cs.length by left])
 have xx:∀l:bc,Vals (l.map V.ref) (l.map Value.ref):=λl=>by
  induction l with
  |nil=>exact .nil
  |cons a l ih=>exact .cons rfl ih
 have hsz:sizeLine=16777216:=abh;obtain⟨hn,I'⟩:=Inv.OP (t':=tk) (o:=.lst ((p.toList.map λi=>as.getD i 0).map V.ref)) I MH hS ⟨by rw[List.length_map,List.length_map,Array.length_toList,hp.sz];left,_,e,xx _,hl⟩;exact⟨.ref S,_,I',rfl,q S _ hn VF⟩
def jU(xs:aa):O D:=match one xs with
 |some d=>match iC d with
  |some z=>if z.1.length<64 then ok (.lst .ow ((bP z.1).map iO))else none
  |none=>none
 |none=>none
variable {xs:aa}
theorem zc{r:D}(h:jU xs=ok r):∃f cs vs,xs=[.cJ f cs vs]/\cs.length<64/\r=.lst .ow ((bP cs).map iO):=by
 unfold jU at h;cases h1:one xs with
 |none=>rw[h1]at h;exact nk h
 |some d =>
  rw[h1]at h;have h:(match iC d with|some z=>if z.1.length<64 then ok (D.lst .ow ((bP z.1).map iO))else none|none=>none)=ok r:=h;cases h2:iC d with
  |none=>rw[h2]at h;exact nk h
  |some z =>
   rw[h2]at h;obtain⟨hl,rfl⟩:=oU (show(if z.1.length<64 then ok (D.lst .ow ((bP z.1).map iO))else none)=ok r from h);obtain⟨f,e⟩:=oo h2;exact⟨f,z.1,z.2,by rw[cE h1,e],hl,rfl⟩
theorem pE{T:md}{N:gC}:∀{bs:bc} {cs:aB} {k:bp} {n:Nat},gf T bs cs->aG T N k n (bs.map V.ref) (cs.map iO)
 |[],[],_,_,_=>.nil
 |[],_::_,_,_,h=>by have:=h.len;simp at this
 |_::_,[],_,_,h=>by have:=h.len;simp at this
 |b::bs,c::cs,_,_,h=>.cons (EJ (h.tup 0 b c rfl rfl)) (pE ⟨by have:=h.len;simpa using this,λj a c' h1 h2=>h.tup (j+1) a c' h1 h2⟩)
variable {F:Addr->Prop}{args:au}{cs:az}{Φ:bg}
theorem C1{n:Nat}(hΦ:Φ n=jU){sc:Scope}{bl:ag}{k:Nat}(L:PX X sc bl k){e:Expr}(he:jW ("sorted" : Str) sc bl e=some args)(hs:oH X F Φ cs args):PE X e (tD X F Φ (.cg n cs))/\PT X e (gI X F Φ (.cg n cs)):=by
 obtain⟨p,pos,a,rfl,rfl,h1,h2⟩:=lp he;cases cs with
 |nil=>exact hs.elim
 |cons c cs=>cases cs with
  |cons _ _=>exact hs.2.2.2.elim
  |nil =>
   have pa:PA X [a] (oM X F Φ [c]):=PA.imp (bW hs.1 (PA.imp dF λ_ _ _ h=>ki h) (hs.2.1 _)) λ_ _ _ h=>gH h;have hu:X.A.units+2<cLine:=aaz (Nat.add_le_add_left (by decide:2<=64) _) L.room.units;have this:PE X (.Call (.Name ("sorted" : Str) p) [a] [] pos) (tD X F Φ (.cg n [c])):=by
    refine PE.imp (cS (wm L.calm hu) (L.gl h1) (L.bl _ h2) (by decide +kernel) pa (he:=hs.2.1 _)) λσ H Q hq=>?_;obtain⟨R,τ,ρ,d,Si,ev,hq⟩:=hq;obtain⟨xs,cD,ev⟩:=aH ev;rw[hΦ]at ev;obtain⟨f,ks,vs,rfl,hl,rfl⟩:=zc ev;refine⟨R,τ,ρ,_,Si,cD,λus H1 e1 r1=>?_⟩;obtain⟨τt,fr,rs⟩:=r1;obtain⟨v,rfl,rv⟩:=rs.one;cases rv with
    |cJ hn hk hr =>
     refine⟨_,ks,_,_,_,rfl,hn.dat,hk,hl,λl bs oG VF=>hq _ _ (e1.trans (aK.upd oG)) (cf.tM (e1.free oG) (e1.trans (aK.upd oG)) aX ?_)⟩;exact pE (VF.imp λ_ _ h=>bh.same (aK.upd oG) h)
   exact⟨this,cH this λ_=>rfl⟩
section
variable {prog:aF}{w:World}{A:aJ}{E:aD}{s:Shared}{d it:Addr}{es:Array DictEntry}{ep i:Nat}
end
section
variable {X:Cx}{pins:aj}{σ:St}{H:Hp}{s:Shared}{d:Addr}{cs:aB}{as:bc}{xs:af}{ep:Nat}
theorem NV(I:Inv X pins σ H s)(h:H d=some (.ext (DO d cs as xs ep))):∃es:Array DictEntry,jx s.heap d es ep/\es.size=as.length/\es.toList.map (·.key)=as.map Value.ref/\Vals xs (es.toList.map (·.val))/\as.length=cs.length/\(d==sysModules)=false:=by
 obtain⟨⟨zs,o,es,e1,e2,e3,ho,hx,hd,he,hn,hl,hs⟩,_⟩:=(show cC X.prog X.w H s.heap d (.ext (DO d cs as xs ep)) from I.cB d _ h)
 refine⟨es,⟨o,ho,hx,hd⟩,?_,?_,?_,?_,hs⟩
 ·rw[<- Array.length_toList,he,<- e2,List.length_map,List.length_map]
 ·rw[he,<- e2,List.map_map,List.map_map];rfl
 ·rw[he,List.map_map];exact e3
 ·rw[<- e1,<- e2,List.length_map,List.length_map]
end
section
variable {prog:aF}{w:World}{A:aJ}{E:aD}{s:Shared}{d it:Addr}{es:Array DictEntry}{ep i:Nat}
theorem CZ(d:Addr)(hd:(d==sysModules)=false):MeetsIn prog w (Builtin.«dict.values» ⟨[.ref d],[]⟩) (λ_ R s=>(∃es ep,jx s.heap d es ep)/\R (.ok (.ret (.ref s.heap.objs.size))) { s with heap:=s.heap.push { cls:=.type "dict_values",data:=.fields #[.ref d] } }) :=
 .of_wp λA R s bK=>by
  obtain⟨⟨_,_,hm⟩,h⟩:=bK;refine aaa ?_;unfold Builtin.Dict.noArgs;refine aaa (wpAny_notOrdered_dict hm.typeIs ?_);show wpAny _ _ (pure d) _ _ s;refine aah ?_;show wpAny _ _ (Builtin.Dict.showsAll d >>= _) _ _ s;unfold Builtin.Dict.showsAll;rw[if_neg (by rw[hd];exact Bool.false_ne_true)];exact aaa (aah (aaa (aaL (aah ⟨_,rfl,h⟩))))
theorem Gp{v:Addr}(hv:s.heap.IsValuesView v d)(hm:jx s.heap d es ep)
  (hQ:Q (.ref s.heap.objs.size) { s with heap:=s.heap.push { cls:=.type "dict_valueiterator",data:=.fields #[.ref d,.int 0 0,.int es.size 0,.int ep 0] } }):wpAny (model prog w) A (pyIter (.ref v)) Q E s:=by
 obtain⟨ov,hov,hcv,hdv⟩:=id hv;obtain⟨o,ho,hx,B9⟩:=hm;refine wpAny_pyIter_slot hv.typeIs F.slot_dict_values_iter (aaH F.slot_dict_values_iter hv.typeIs F.entry_dict_values_iter ?_ (F.args_dict_values_iter_1 _));unfold Builtin.«dict_values.__iter__»;refine aaa (aah (aaa ?_));unfold Builtin.Dict_items.dictOf;refine aaa (abm hov hdv (x:=.ref d) rfl (aah (aaa ?_)));unfold Builtin.Dict_items.newIterator;refine aaa (aa9 ho B9 (aaa (abf ho B9 ?_)));simp only[show Builtin.Dict_items.ownsTuple "dict_valueiterator" = false by decide,abg,acu];refine aaL (aah ⟨_,rfl,"dict_valueiterator",_,⟨_,aar _ rfl,rfl⟩,F.slot_dict_valueiterator_next.lookup,?_⟩);simpa [rawInt]using hQ
theorem Gn{Q:Option Value->Shared->Prop}(hit:s.heap.IsValIter it d i es.size ep)(hm:jx s.heap d es ep)(gX:i<es.size)
  (hQ:∀h',h'.IsValIter it d (i+1) es.size ep->Heap.SameBut it s.heap h'->Q (some es[i].val) { s with heap:=h' }):wpAny (model prog w) A (pyNext (.ref it)) Q E s:=by
 obtain⟨o,ho,hc,hd⟩:=id hit;obtain⟨od,B1,tZ,xC⟩:=hm;unfold pyNext;refine aaa (abl (aaN (name:=Str.ofString "__next__") hit.typeIs aaY (aaH aaY hit.typeIs F.entry_dict_valueiterator_next ?_ (F.args_dict_valueiterator_next_1 _))));refine aaa (aah (aaa (aaa ?_)))
 first|refine aaa (aa1 hit.typeIs (aah ?_))|refine aaa (abc hit.typeIs (aah ?_))
 refine aaa (ab_ ho hd ?_);simp only[show Builtin.Dict_items.ownsTuple "dict_valueiterator" = false by decide,abg,acu];show wpAny _ _ (if (Value.ref d==Value.none)=true then _ else _) _ _ s;rw[if_neg (show ¬ ((Value.ref d==Value.none)=true) from Bool.false_ne_true)];refine aaa (aah (aaa (aa9 B1 xC ?_)));rw[if_neg (by simp)];refine aaa (aah (aaa (abf B1 xC ?_)));rw[if_neg (by simp)];refine aah ?_;simp only[show ¬ ((i:Int)<0) from by left,if_false,Int.toNat_natCast,Array.getElem?_eq_getElem gX];refine aaa ?_
 first|refine aaa (aa1 hit.typeIs (aah ?_))|refine aaa (abc hit.typeIs (aah ?_))
 refine aaa (abM hit.typeIs ?_);show wpAny _ _ (setField (.ref it) 1 (rawInt ((i:Int)+1)) >>= _) _ _ s;refine aaa (aca ho hd (by simp) ?_);have oV:(s.heap.update it (Obj.mapFields (·.setIfInBounds 1 (rawInt ((i:Int)+1))))).IsValIter it d (i+1) es.size ep :=
  ⟨_,aaS _ ho (Obj.isFreed_of_fields (Obj.data_mapFields hd _)),(Obj.cls_mapFields ..).trans hc,by rw[Obj.data_mapFields hd];simp[rawInt]⟩
 refine aaa (aaF ?_);refine aaa (abM (s:={ s with heap:=s.heap.update it (Obj.mapFields (·.setIfInBounds 1 (rawInt ((i:Int)+1)))) }) oV.typeIs ?_);refine aaa (abM (s:={ s with heap:=s.heap.update it (Obj.mapFields (·.setIfInBounds 1 (rawInt ((i:Int)+1)))) }) oV.typeIs ?_);show wpAny _ _ (pure es[i].val) _ _ _;exact aah (aah ⟨_,rfl,aah (hQ _ oV (abn ..))⟩)
theorem LR{Q:Option Value->Shared->Prop}(hh:A.handled=none)(hit:s.heap.IsValIter it d i es.size ep)(hm:jx s.heap d es ep)(Vw:es.size<=i)
  (hQ:∀h',Heap.ExtBut it s.heap h'->Q none { s with heap:=h' }):wpAny (model prog w) A (pyNext (.ref it)) Q E s:=by
 obtain⟨o,ho,hc,hd⟩:=id hit;obtain⟨od,B1,tZ,xC⟩:=hm;unfold pyNext;refine aaa (abl (aaN (name:=Str.ofString "__next__") hit.typeIs aaY (aaH aaY hit.typeIs F.entry_dict_valueiterator_next ?_ (F.args_dict_valueiterator_next_1 _))));refine aaa (aah (aaa (aaa ?_)))
 first|refine aaa (aa1 hit.typeIs (aah ?_))|refine aaa (abc hit.typeIs (aah ?_))
 refine aaa (ab_ ho hd ?_);simp only[show Builtin.Dict_items.ownsTuple "dict_valueiterator" = false by decide,abg,acu];show wpAny _ _ (if (Value.ref d==Value.none)=true then _ else _) _ _ s;rw[if_neg (show ¬ ((Value.ref d==Value.none)=true) from Bool.false_ne_true)];refine aaa (aah (aaa (aa9 B1 xC ?_)));rw[if_neg (by simp)];refine aaa (aah (aaa (abf B1 xC ?_)));rw[if_neg (by simp)];refine aah ?_;simp only[show ¬ ((i:Int)<0) from by left,if_false,Int.toNat_natCast,Array.getElem?_eq_none Vw];refine aaa ?_
 first|refine aaa (aa1 hit.typeIs (aah ?_))|refine aaa (abc hit.typeIs (aah ?_))
 show wpAny _ _ (setField (.ref it) 0 .none >>= _) _ _ s;refine aaa (aca ho hd (by simp) ?_);show wpAny _ _ (newExc (.type "StopIteration") [] >>= _) _ _ _;refine aaa ?_;simp only[newExc,newTuple];refine aaa (aaL ?_ (by size_fits));refine aaa (m:=firstArgMember _ _) (wpAny_of_eq (a:=Value.none) (by first|rfl | (simp only[firstArgMember];rfl)) ?_);refine aaL ?_ (by size_fits);simp only[raiseNew];refine aaa (wpAny_handled ?_);rw[show A.in1.handled=none from hh];refine aaa (aah (wpAny_throw ?_));refine aaa (wpAny_isInstance (T:="StopIteration") (b:=true) ⟨_,aar _ rfl,rfl⟩ isSubtype_stop ?_);exact aah (hQ _ (((abn ..).extBut.push _).push _))
theorem CY(hh:A.handled=none)(I d:Addr)(jE:d≠I):Walks prog w A I [I,d] [I] es.size (λi v=>∃e,es[i]?=some e/\v=e.val) (λi h=>h.IsValIter I d i es.size ep/\jx h d es ep) where
 sub:=λb hb=>by simp at hb;simp[hb]
 frame:=λ_ _ _ st hk=>⟨st.1.at λo e=>hk I (by simp) o e,let ⟨o,ho,r⟩:=st.2;⟨o,hk d (by simp) o ho,r⟩⟩
 item:=λi s Q E hi st hQ=>Gn st.1 st.2 hi λh' oV DQ=>hQ _ h' s.toks ⟨es[i],aaU hi,rfl⟩ ⟨oV,let ⟨o,ho,r⟩:=st.2;⟨o,DQ.extBut d o jE ho,r⟩⟩ λb o hb e=>DQ.extBut b o (λh=>hb (by simp[h])) e
 done:=λs Q E st hQ=>LR hh st.1 st.2 (aam _) λh' VC=>hQ h' s.toks λb o hb e=>VC b o (λh=>hb (by simp[h])) e
 self:=λ_ _ _ _ st hQ=>wpAny_pyIter_valiter st.1 hQ
theorem LQ{v:Addr}(hh:A.handled=none)(hv:s.heap.IsValuesView v d)(hm:jx s.heap d es ep)(O_:Vals (ns.map V.int) (es.toList.map (·.val)))
  (h:∀h' tk t',(∀b o,s.heap.get? b=some o->h'.get? b=some o)->Q (.int ns.sum t') { s with heap:=h',toks:=tk }):wpAny (model prog w) A (call (.builtin "sum") [.ref v]) Q E s:=by
 have hlen:es.size=ns.length:=by
  have:=O_.length;simpa using this.symm
 have PK:d<s.heap.objs.size:=let ⟨_,ho,_⟩:=hm;aaj ho;refine call_sum_walkAnyS (Gp hv hm ⟨s.heap.objs.size,_,_,_,es.size,_,_,λi=>ns.getD i 0,rfl,(CY (A:=A.in1) (es:=es) (ep:=ep) hh _ d (aan PK)).toS,⟨⟨_,aar _ rfl,rfl,rfl⟩,let ⟨o,ho,r⟩:=hm;⟨o,aak _ ho,r⟩⟩,λb hb=>?_,λi v hP=>?_,λs' t' MG=>?_⟩)
 ·show b<(s.heap.push _).objs.size;rw[size_push'];rcases List.mem_cons.mp hb with e|hb
  ·rw[e];exact aaR _
  ·rw[List.mem_singleton.mp hb];exact aaE PK
 ·obtain⟨e,he,rfl⟩:=hP;have hi:i<es.size:=by
   by_cases z:i<es.size
   ·exact z
   ·rw[Array.getElem?_eq_none (by left)]at he;cases he
  have hn:(ns.map V.int)[i]?=some (.int (ns.getD i 0)):=by
   rw[List.getElem?_map,List.getElem?_eq_getElem (by left)];simp[List.getD,show i<ns.length by left]
  obtain⟨u,hu,ru⟩:=O_.get hn;rw[List.getElem?_map,Array.getElem?_toList,he]at hu;cases hu;exact ru
 ·have hk:∀b o,s.heap.get? b=some o->s'.heap.get? b=some o:=λb o e =>
   MG.heap b o (λhI=>absurd (aaj e) (by rw[List.mem_singleton.mp hI];exact aay _)) (aak _ e)
  rw[Moved.eq_with MG];have hz:preSum (λi=>ns.getD i 0) es.size=ns.sum:=by
   rw[hlen,iP _ ns (λ_=>rfl) _ (Nat.le_refl _),List.take_length]
  rw[hz];exact h s'.heap s'.toks t' hk
end
def mJ(_:Scope)(_:ag)(e:Expr):Option (au):=match wG ("values" : Str) (.Expr e ⟨0,0,0,0⟩)with
 |some z=>if isNm z.1=true/\isNil z.2=true then some [z.1]else none
 |none=>none
theorem wc{sc:Scope}{bl:ag}{e:Expr}(h:mJ sc bl e=some args):∃x p p1 p2,e=.Call (.Attribute (.Name x p) ("values" : Str) p1) [] [] p2/\args=[.Name x p]/\(p1.endLine==p2.line)=true:=by
 unfold mJ at h;cases h1:wG ("values" : Str) (.Expr e ⟨0,0,0,0⟩)with
 |none=>rw[h1]at h;exact nk h
 |some z =>
  obtain⟨o,as⟩:=z;rw[h1]at h;by_cases hn:isNm o=true/\isNil as=true
  ·have h:(if isNm o=true/\isNil as=true then some [o]else none)=some args:=h;rw[if_pos hn]at h;cases h;obtain⟨p1,p2,pos,e1,hl⟩:=sC h1;cases e1;obtain⟨x,p,rfl⟩:=mB hn.1;obtain rfl:=kC hn.2;exact⟨_,_,_,_,rfl,rfl,hl⟩
  ·have h:(if isNm o=true/\isNil as=true then some [o]else none)=some args:=h;rw[if_neg hn]at h;exact nk h
def xT(sc:Scope)(bl:ag)(e:Expr):Option (au):=match jW ("sum" : Str) sc bl e with
 |some as=>match one as with
  |some i=>mJ sc bl i
  |none=>none
 |none=>none
theorem Dc{sc:Scope}{bl:ag}{e:Expr}(h:xT sc bl e=some args):∃q pos x p p1 p2,e=.Call (.Name ("sum" : Str) q) [.Call (.Attribute (.Name x p) ("values" : Str) p1) [] [] p2] [] pos/\args=[.Name x p]/\(p1.endLine==p2.line)=true/\gz sc ("sum" : Str)=true/\("sum" : Str)∈bl:=by
 unfold xT at h;cases h1:jW ("sum" : Str) sc bl e with
 |none=>rw[h1]at h;exact nk h
 |some as =>
  rw[h1]at h;obtain⟨q,pos,a,rfl,rfl,g1,g2⟩:=lp h1;obtain⟨x,p,p1,p2,rfl,rfl,hl⟩:=wc (show mJ sc bl a=some args from h);exact⟨q,pos,x,p,p1,p2,rfl,rfl,hl,g1,g2⟩
def Mn(xs:aa):O D:=match one xs with
 |some d=>match iC d with
  |some z=>match intsOf z.2 with
   |some ns=>ok (.int ns.sum)
   |none=>none
  |none=>none
 |none=>none
theorem Jf{r:D}(h:Mn xs=ok r):∃f cs,∃ns:ae,xs=[.cJ f cs (ns.map D.int)]/\r=.int ns.sum:=by
 unfold Mn at h;cases h1:one xs with
 |none=>rw[h1]at h;exact nk h
 |some d =>
  rw[h1]at h;have h:(match iC d with|some z=>(match intsOf z.2 with|some ns=>ok (D.int ns.sum)|none=>none)|none=>none)=ok r:=h;cases h2:iC d with
  |none=>rw[h2]at h;exact nk h
  |some z =>
   rw[h2]at h;have h:(match intsOf z.2 with|some ns=>ok (D.int ns.sum)|none=>none)=ok r:=h;cases h3:intsOf z.2 with
   |none=>rw[h3]at h;exact nk h
   |some ns =>
    rw[h3]at h;cases h;obtain⟨f,e⟩:=oo h2;exact⟨f,z.1,ns,by rw[cE h1,e,dN h3],rfl⟩
def VW(v d:Addr)(h:Heap):Prop:=h.IsValuesView v d
theorem EU{x:Str}{p p1 p2:Pos}{td:TE}(ho:PE X (.Name x p) td)(hl:(p1.endLine==p2.line)=true):PE X (.Call (.Attribute (.Name x p) ("values" : Str) p1) [] [] p2) (λσ H Q=>td σ H λu H1=>∃d cs as xs ep,u=.ref d/\H1 d=some (.ext (DO d cs as xs ep))/\∀v,H1 v=none->Q (.ref v) (upd H1 v (.ext (VW v d)))):=by
 intro pins s σ H Q I h;refine wpAny_Call_method rfl rfl hl PySem.F.plainAttrs_dict PySem.F.slot_dict_values PySem.F.type_dict_values (cQ (ho pins s σ H _ I h) λu s1 bK=>?_);obtain⟨v,H1,I1,rv,d,cs,as,xs,ep,ex,hd,q⟩:=bK;subst ex;cases rv;obtain⟨es,BX,hz,xA,xx,hlen,BR⟩:=NV I1 hd;obtain⟨t1,t2⟩:=dict_cls I1 hd;refine⟨t1,t2,?_⟩;show wpAny _ _ (callWith p2 (.builtin "dict.values") [.ref d] [] []) _ _ s1;refine method_meetsIn PySem.F.slot_dict_values PySem.F.entry_dict_values rfl (PySem.evalArgs_none ⟨rfl,t1,PySem.F.args_dict_values_1 _,_,CZ d BR,⟨es,ep,BX⟩,?_⟩);have hg:(s1.heap.push { cls:=.type "dict_values",data:=.fields #[.ref d] }).get? s1.heap.objs.size=some { cls:=.type "dict_values",data:=.fields #[.ref d] }:=aar _ rfl;refine⟨.ref s1.heap.objs.size,_,I1.laid (a:=s1.heap.objs.size) (o:=.ext (VW s1.heap.objs.size d)) (t':=s1.toks) (λ_ _ q=>aak _ q) (aam _) ⟨⟨_,hg,rfl,rfl⟩,⟨_,hg⟩,?_⟩,rfl,q _ (I1.cB.fresh (aam _))⟩;rintro h1 Qd ⟨o,g1,g2⟩ kk;exact⟨o,kk _ g1,g2⟩
theorem zj(hc:X.calm=true):fh X (.builtin "sum") (λxs H Q=>∃v d cs as ep,∃ns:ae,xs=[.ref v]/\H v=some (.ext (VW v d))/\H d=some (.ext (DO d cs as (ns.map V.int) ep))/\Q (.int ns.sum) H):=by
 intro pins s σ H xs us Q I r h;obtain⟨v,d,cs,as,ep,ns,rfl,hv,hd,q⟩:=h;obtain⟨u,rfl,ru⟩:=r.one;cases ru;obtain⟨es,BX,hz,xA,xx,hlen,BR⟩:=NV I hd;obtain⟨hV,_⟩:=(show cC X.prog X.w H s.heap v (.ext (VW v d)) from I.cB v _ hv)
 refine LQ (I.ok.hd hc) hV BX xx λh' tk t' hk=>⟨.int ns.sum,H,I.kept (t':=tk) hk,⟨t',rfl⟩,q⟩
theorem Ny{n:Nat}(hΦ:Φ n=Mn){sc:Scope}{bl:ag}{k:Nat}(L:PX X sc bl k){e:Expr}(he:xT sc bl e=some args)(hs:oH X F Φ cs args):PE X e (tD X F Φ (.cg n cs))/\PT X e (gI X F Φ (.cg n cs)):=by
 obtain⟨q,pos,x,p,p1,p2,rfl,rfl,hl,g1,g2⟩:=Dc he;cases cs with
 |nil=>exact hs.elim
 |cons c cs=>cases cs with
  |cons _ _=>exact hs.2.2.2.elim
  |nil =>
   have this:PE X (.Call (.Name ("sum" : Str) q) [.Call (.Attribute (.Name x p) ("values" : Str) p1) [] [] p2] [] pos) (tD X F Φ (.cg n [c])):=by
    refine PE.imp (cS (zj L.calm) (L.gl g1) (L.bl _ g2) (by decide +kernel) (bW (EU hs.1 hl) dF)) λσ H Q hq=>?_;obtain⟨R,τ,ρ,d,Si,ev,hq⟩:=hq;obtain⟨xs,cD,ev⟩:=aH ev;rw[hΦ]at ev;obtain⟨f,ks,ns,rfl,rfl⟩:=Jf ev;obtain⟨y,ey,cD⟩:=aH cD;cases cD;refine tD.intro Si ey λu H1 e1 r1=>?_;obtain⟨τ1,f1,q1⟩:=r1;cases q1 with
    | @cJ _ dd _ as ys ep _ _ zG hk hr =>
     cases hr.ofInts;have hd:=zG.dat;refine⟨dd,ks,as,_,ep,rfl,hd,λv hv=>⟨v,dd,ks,as,ep,ns,rfl,aX,?_,hq _ _ (e1.trans (aK.upd hv)) ⟨λ_=>none,λ_ _ h=>by simp at h,.int _⟩⟩⟩;exact aK.upd hv _ _ hd
   exact⟨this,cH this λ_=>rfl⟩
def yq(xs:aa):O D:=match one xs with
 |some d=>match d with
  |.int i=>if i.natAbs.log2<1920 then ok (.str (toString i))else none
  |_=>none
 |none=>none
theorem Eo{d:D}(h:yq xs=ok d):∃i:Int,xs=[.int i]/\i.natAbs.log2<1920/\d=.str (toString i):=by
 unfold yq at h;cases h1:one xs with
 |none=>rw[h1]at h;cases h
 |some x =>
  rw[h1]at h;cases x<;>first|exact nk h | (cases h;done)|skip
  obtain⟨h2,h3⟩:=oU h;exact⟨_,cE h1,h2,h3.symm⟩
theorem Jh{n:Nat}(hΦ:Φ n=yq){sc:Scope}{bl:ag}{k:Nat}(L:PX X sc bl k){e:Expr}(he:jW ("str" : Str) sc bl e=some args)(hs:oH X F Φ cs args):PE X e (tD X F Φ (.cg n cs))/\PT X e (gI X F Φ (.cg n cs)):=by
 obtain⟨p,pos,a,rfl,rfl,h1,h2⟩:=lp he;cases cs with
 |nil=>exact hs.elim
 |cons c cs=>cases cs with
  |cons _ _=>exact hs.2.2.2.elim
  |nil =>
   have pa:PA X [a] (oM X F Φ [c]):=PA.imp (bW hs.1 (PA.imp dF λ_ _ _ h=>ki h) (hs.2.1 _)) λ_ _ _ h=>gH h;have this:PE X (.Call (.Name ("str" : Str) p) [a] [] pos) (tD X F Φ (.cg n [c])):=by
    refine PE.imp (kZ rK (L.gl h1) (L.bl _ h2) (by decide +kernel) pa (he:=hs.2.1 _)) λσ H Q hq=>?_;obtain⟨R,τ,ρ,d,Si,ev,hq⟩:=hq;obtain⟨xs,cD,ev⟩:=aH ev;rw[hΦ]at ev;obtain⟨i,rfl,hl,rfl⟩:=Eo ev;refine⟨R,τ,ρ,_,Si,cD,λvs H1 e1 r1=>?_⟩;obtain⟨τt,fr,rs⟩:=r1;obtain⟨v,rfl,rv⟩:=rs.one;cases rv;exact⟨i,rfl,hl,hq _ H1 e1 .str⟩
   exact⟨this,cH this λ_=>rfl⟩
def uz(xs:aa):O D:=match two xs with
 |some z=>match z.1 with
  |.str a=>match z.2 with
   |.str b=>if a.length+b.length<=100000 then ok (.str (a++b))else none
   |_=>none
  |_=>none
 |none=>none
theorem GJ{x y d:D}(h:uz [x,y]=ok d):∃a b:Str,x=.str a/\y=.str b/\a.length+b.length<=100000/\d=.str (a++b):=by
 cases x<;>first|exact nk h | (cases h;done) | (cases y<;>first|exact nk h | (cases h;done)|skip)
 obtain⟨h1,h2⟩:=oU h;exact⟨_,_,rfl,rfl,h1,h2.symm⟩
def wj(_:Scope)(_:ag)(e:Expr):Option (au):=(IW e).bind λz=>if z.2.1=.Add then some [z.1,z.2.2]else none
theorem zh{sc:Scope}{bl:ag}{e:Expr}(h:wj sc bl e=some args):∃a b p,e=.BinOp a .Add b p/\args=[a,b]:=by
 obtain⟨⟨a,o,b⟩,hv,h⟩:=bT h;obtain⟨hc,h⟩:=gT h;cases h;obtain rfl:o=.Add:=hc;obtain⟨p,rfl⟩:=wJ hv;exact⟨a,b,p,rfl,rfl⟩
theorem GI{n:Nat}(hΦ:Φ n=uz){sc:Scope}{bl:ag}{k:Nat}(L:PX X sc bl k){e:Expr}(he:wj sc bl e=some args)(hs:oH X F Φ cs args):PE X e (tD X F Φ (.cg n cs))/\PT X e (gI X F Φ (.cg n cs)):=by
 obtain⟨a,b,pos,rfl,rfl⟩:=zh he;cases cs with
 |nil=>exact hs.elim
 |cons c cs=>cases cs with
  |nil=>exact hs.2.2.2.elim
  |cons c' cs=>cases cs with
   |cons _ _=>exact hs.2.2.2.2.2.2.elim
   |nil =>
    obtain⟨h1,_,_,h2,_,_,_⟩:=hs;have this:PE X (.BinOp a .Add b pos) (tD X F Φ (.cg n [c,c'])):=by
     refine PE.imp (w_ vn h1 h2) λσ H Q hq=>?_;obtain⟨R,τ,ρ,d,Si,ev,hq⟩:=hq;obtain⟨xs,cD,ev⟩:=aH ev;obtain⟨x,ex,cD⟩:=aH cD;obtain⟨ys,l9,cD⟩:=aH cD;cases cD;obtain⟨y,ey,l9⟩:=aH l9;cases l9;rw[hΦ]at ev;obtain⟨s,t,rfl,rfl,hl,rfl⟩:=GJ ev;refine tD.intro Si ex λv H1 e1 r1=>tD.intro (Si.go e1) ey λw H2 e2 r2=>?_;obtain⟨_,_,q1⟩:=r1;obtain⟨_,_,q2⟩:=r2;cases q1;cases q2;exact⟨s,t,rfl,rfl,aaC hl (by rw[sizeLine_eq];decide),hq _ H2 (e1.trans e2) .str⟩
    exact⟨this,cH this λ_=>rfl⟩
noncomputable def strsOf:aa->Option (ag)
 |[]=>some []
 |.str i::ds=>(strsOf ds).map (i :: ·)
 |_::_=>none
theorem pd:∀{ds:aa} {ns:ag},strsOf ds=some ns->ds=ns.map D.str
 |[],ns,h=>by simp[strsOf]at h;subst h;rfl
 |d::ds,ns,h=>by
  cases d<;>simp[strsOf]at h;obtain⟨ms,h1,rfl⟩:=h;rw[pd h1];rfl
theorem mX:∀ns:ag,strsOf (ns.map D.str)=some ns
 |[]=>rfl
 |n::ns=>by simp[strsOf,mX ns]
noncomputable def y8(x:Str)(ys:ag):Bool:=decide (x.length<=64)&&decide ((ys.map (·.length)).sum+ys.length*64<=16777216)
def tT(xs:aa):O D:=match two xs with
 |some z=>match z.1 with
  |.str x=>match z.2 with
   |.lst _ ds=>match strsOf ds with
    |some ys=>if y8 x ys=true then ok (.str (Txt.join x ys))else none
    |none=>none
   |_=>none
  |_=>none
 |none=>none
theorem BH{x y d:D}(h:tT [x,y]=ok d):∃(s:Str) (f:Fl) (ys:ag),x=.str s/\y=.lst f (ys.map D.str)/\y8 s ys=true/\d=.str (Txt.join s ys):=by
 cases x<;>first|exact nk h | (cases h;done) | (cases y<;>first|exact nk h | (cases h;done)|skip)
 rename_i s f ds;have h:(match strsOf ds with|some ys=>if y8 s ys=true then ok (D.str (Txt.join s ys))else none|none=>none)=ok d:=h;cases hn:strsOf ds with
 |none=>rw[hn]at h;exact nk h
 |some ys =>
  rw[hn]at h;obtain⟨h1,h2⟩:=oU h;cases pd hn;exact⟨s,f,ys,rfl,rfl,h1,h2.symm⟩
theorem aG.ofStrs{T:md}{N:gC}{k:bp}:∀{ns:ag} {n:Nat} {vs:af},aG T N k n vs (ns.map D.str)->vs=ns.map V.str
 |[],_,_,h=>by cases h;rfl
 |_::_,_,_,h=>by
  cases h with
  |cons a b=>cases a;rw[aG.ofStrs b];rfl
theorem mY:∀{ys:ag} {us:ak},Vals (ys.map V.str) us->StrsAre us ys
 |[],_,h=>by cases h;exact .nil
 |y::ys,_,h=>by
  cases h with
  |cons a b=>obtain⟨t,rfl⟩:=a;exact .cons y t (mY b)
theorem Fs:SO X "str.join" (λx xs H Q=>∃(s:Str) (p:Addr) (ys:ag),x=.str s/\xs=[.ref p]/\dO X.K H p (ys.map V.str)/\y8 s ys=true/\Q (.str (Txt.join s ys)) H):=by
 intro pins s σ H x xs v us Q I rx r h;obtain⟨z,p,ys,rfl,rfl,hq,hf,q⟩:=h;obtain⟨t,rfl⟩:=rx;obtain⟨u,rfl,ru⟩:=r.one;cases ru;obtain⟨aM,rv,pl,hz⟩:=I.list hq;obtain⟨h1,h2⟩:=aC hf;exact join_listC (dw pl) (by simpa using mY rv) (aab h1) (aab h2) λt' k=>⟨.str _,H,I.tok _,⟨_,rfl⟩,q⟩
def rE(_:Scope)(_:ag)(e:Expr):Option (au):=(wG ("join" : Str) (.Expr e ⟨0,0,0,0⟩)).bind λz=>(one z.2).bind λy=>(vC z.1).bind λ_=>some [z.1,y]
theorem wd{sc:Scope}{bl:ag}{e:Expr}(h:rE sc bl e=some args):∃c j p p1 p2 a,e=.Call (.Attribute (.Constant c j p) ("join" : Str) p1) [a] [] p2/\args=[.Constant c j p,a]/\(p1.endLine==p2.line)=true:=by
 obtain⟨⟨o,as⟩,h1,h⟩:=bT h;obtain⟨y,h2,h⟩:=bT h;obtain⟨c,h3,h⟩:=bT h;cases h;obtain⟨p1,p2,pos,e1,hl⟩:=sC h1;cases e1;obtain⟨j,p,e2⟩:=sD h3;obtain rfl:=cE h2;have e2:o=.Constant c j p:=e2;subst e2;exact⟨c,j,p,p1,p2,y,rfl,rfl,hl⟩
theorem FF{n:Nat}(hΦ:Φ n=tT){sc:Scope}{bl:ag}{k:Nat}(L:PX X sc bl k){e:Expr}(he:rE sc bl e=some args)(hs:oH X F Φ cs args):PE X e (tD X F Φ (.cg n cs))/\PT X e (gI X F Φ (.cg n cs)):=by
 obtain⟨z,j,p,p1,p2,a,rfl,rfl,hl⟩:=wd he;cases cs with
 |nil=>exact hs.elim
 |cons c cs=>cases cs with
  |nil=>exact hs.2.2.2.elim
  |cons c' cs=>cases cs with
   |cons _ _=>exact hs.2.2.2.2.2.2.elim
   |nil =>
    obtain⟨h1,_,_,h2,s2,_,_⟩:=hs;have this:PE X (.Call (.Attribute (.Constant z j p) ("join" : Str) p1) [a] [] p2) (tD X F Φ (.cg n [c,c'])):=by
     refine PE.imp (HD PySem.F.plainAttrs_str PySem.F.slot_str_join PySem.F.type_str_join Fs h1 (bW h2 dF (s2 _)) (hfew:=by rw[s2];rfl) (hline:=hl) (hs:=s2 _)) λσ H Q hq=>?_;obtain⟨R,τ,ρ,d,Si,ev,hq⟩:=hq;obtain⟨xs,cD,ev⟩:=aH ev;obtain⟨y,ey,cD⟩:=aH cD;obtain⟨ys,l9,cD⟩:=aH cD;cases cD;obtain⟨w,ew,l9⟩:=aH l9;cases l9;rw[hΦ]at ev;obtain⟨s,f,ts,rfl,rfl,hf,rfl⟩:=BH ev;refine tD.intro Si ey λv H1 e1 r1=>?_;obtain⟨_,_,q1⟩:=r1;cases q1;refine⟨rfl,tD.intro (Si.go e1) ew λu H2 e2 r2=>?_⟩;obtain⟨_,_,q2⟩:=r2;cases q2 with
     |lst hn rs =>
      cases rs.ofStrs;exact⟨s,_,ts,rfl,rfl,hn.sq,hf,hq _ H2 (e1.trans e2) .str⟩
    exact⟨this,cH this λ_=>rfl⟩
def uq(xs:aa):O D:=match two xs with
 |some z=>match z.1 with
  |.lst _ ds=>match z.2 with
   |.int k=>if k = -1/\1<=ds.length then ok (.lst .ow (ah aN (ds.drop (ds.length - 1))))else none
   |_=>none
  |_=>none
 |none=>none
theorem C8{x y d:D}(h:uq [x,y]=ok d):∃(f:Fl) (ds:aa),x=.lst f ds/\y=.int (-1)/\1<=ds.length/\d=.lst .ow (ah aN (ds.drop (ds.length - 1))):=by
 cases x<;>first|exact nk h | (cases h;done) | (cases y<;>first|exact nk h | (cases h;done)|skip)
 obtain⟨⟨h1,h2⟩,h4⟩:=oU h;subst h1;exact⟨_,_,rfl,rfl,h2,h4.symm⟩
theorem Gy{n:Nat}(hΦ:Φ n=uq){sc:Scope}{bl:ag}{k:Nat}(L:PX X sc bl k){e:Expr}(he:lq true sc bl e=some args)(hs:oH X F Φ cs args):PE X e (tD X F Φ (.cg n cs))/\PT X e (gI X F Φ (.cg n cs)):=by
 obtain⟨a,ke,p,pos,rfl,rfl⟩:=qa he;cases cs with
 |nil=>exact hs.elim
 |cons c cs=>cases cs with
  |nil=>exact hs.2.2.2.elim
  |cons c' cs=>cases cs with
   |cons _ _=>exact hs.2.2.2.2.2.2.elim
   |nil =>
    obtain⟨h1,_,_,h2,_,_,_⟩:=hs;have this:PE X (.Subscript a (.Slice (some ke) none none p) pos) (tD X F Φ (.cg n [c,c'])):=by
     refine PE.imp (tE (L2.qv) h1 (qH h2) qI) λσ H Q hq=>?_;obtain⟨R,τ,ρ,d,Si,ev,hq⟩:=hq;obtain⟨xs,cD,ev⟩:=aH ev;obtain⟨x,ex,cD⟩:=aH cD;obtain⟨ys,l9,cD⟩:=aH cD;cases cD;obtain⟨y,ey,l9⟩:=aH l9;cases l9;rw[hΦ]at ev;obtain⟨f,ds,rfl,rfl,j2,rfl⟩:=C8 ev;refine tD.intro Si ex λv H1 e1 r1=>tD.intro (Si.go e1) ey λw H2 e2 r2=>?_;cases r2.isInt;refine⟨-1,rfl,?_⟩;have r3:=(r1.go e2).mono (fv':=jr (.cg n [c,c'])) λi hi=>aaA _ hi;obtain⟨τt,fr,rp⟩:=r3;obtain⟨q,xs,rfl,hn,rs⟩:=rp.uV;have ee:=e1.trans e2;have hlen:=rs.length;refine⟨q,xs,rfl,hn.sq,λl hl=>?_⟩;have VE:ze xs (some (-1)) none=xs.drop (ds.length - 1):=by
      unfold ze;have h0:HT.sh xs.length 0 (some (-1))=xs.length - 1:=by
       unfold HT.sh;simp;left
      rw[h0,HT.AB,<- List.length_drop,List.take_length,hlen]
     rw[VE];refine hq _ _ (ee.trans (aK.upd hl)) (cf.tM (ee.free hl) (ee.trans (aK.upd hl)) aX ?_);exact((rs.C2 (ds.length - 1)).fZ Si fr).imp (λ_ _ h=>bh.same (aK.upd hl) h) λ_ _ _ _ h=>nd.same (aK.upd hl) h
    exact⟨this,cH this λ_=>rfl⟩
end DI
end
section
namespace DI
open PySem (Str)
section
variable {α β:Type}
@[simp]theorem dv(a:α)(f:α->O β):bd (ok a) f=f a:=rfl
@[simp]theorem SF(c:Nat)(f:α->O β):bd (some (.error c)) f=some (.error c):=rfl
noncomputable def Iv(f:α->O β)(x:O α):O β:=bd x f
@[simp]theorem ig(f:α->O β)(a:α):Iv f (ok a)=f a:=rfl
@[simp]theorem SK(f:α->O β)(c:Nat):Iv f (some (.error c))=some (.error c):=rfl
end
def L9(op:G6)(x y:O D):O D:=bd x λx=>bd y λy=>b0 op x y
@[simp]theorem mK(op:G6)(x y:D):L9 op (ok x) (ok y)=b0 op x y:=rfl
def QM(op:zN)(x y:O D):O D:=bd x λx=>bd y λy=>ic op x y
@[simp]theorem SA(op:zN)(x y:D):QM op (ok x) (ok y)=ic op x y:=rfl
def OU(x y:O D):O D:=bd x λx=>bd y λy=>xu x y
@[simp]theorem UK(x y:D):OU (ok x) (ok y)=xu x y:=rfl
def Om(x:O D):O D:=bd (bd x gG) λb=>ok (.bl (!b))
@[simp]theorem RU(b:Bool):Om (ok (.bl b))=ok (.bl (!b)):=rfl
@[simp]theorem Nb(b:Bool):gG (.bl b)=ok b:=rfl
def vc(x:O D):O Bool:=bd x gG
@[simp]theorem Rn(b:Bool):vc (ok (.bl b))=ok b:=rfl
@[simp]theorem Na(c:Nat):vc (some (.error c))=some (.error c):=rfl
def XS(t:Ty)(x:O D):O D:=bd x λx=>ok (.bl (cW t x))
@[simp]theorem UT(t:Ty)(x:D):XS t (ok x)=ok (.bl (cW t x)):=rfl
def fY(m:aI)(xs:O (aa)):O D:=bd xs λxs=>bd (m (ah aA xs)) λr=>ok (aw dY r)
def t8(x:O D):O D:=bd x λr=>ok (aw dY r)
@[simp]theorem Cy(r:D):t8 (ok r)=ok (aw dY r):=rfl
@[simp]theorem Sk(c:Nat):t8 (some (.error c))=some (.error c):=rfl
@[simp]theorem d_(m:aI)(xs:aa):fY m (ok xs)=t8 (m (ah aA xs)):=rfl
@[simp]theorem MU(m:aI)(c:Nat):fY m (some (.error c))=some (.error c):=rfl
noncomputable def gm(x:O D)(xs:O (aa)):O (aa):=bd x λx=>bd xs λxs=>ok (x::xs)
@[simp]theorem d8(x:D)(xs:aa):gm (ok x) (ok xs)=ok (x::xs):=rfl
@[simp]theorem MS(c:Nat)(xs:O (aa)):gm (some (.error c)) xs=some (.error c):=rfl
@[simp]theorem LZ(x:D)(c:Nat):gm (ok x) (some (.error c))=some (.error c):=rfl
noncomputable def OW(x:O Bool)(a b:O D):O D:=bd x λk=>if k then a else b
@[simp]theorem UQ(a b:O D):OW (ok true) a b=a:=rfl
@[simp]theorem UR(a b:O D):OW (ok false) a b=b:=rfl
def GW(x y:O D):O D:=bd (bd x gG) λc=>if c then y else ok (.bl false)
@[simp]theorem WM(y:O D):GW (ok (.bl true)) y=y:=rfl
@[simp]theorem WN(y:O D):GW (ok (.bl false)) y=ok (.bl false):=rfl
@[simp]theorem WO(a b:Bool):GW (ok (.bl a)) (ok (.bl b))=ok (.bl (a&&b)):=by cases a<;>rfl
def RM(x y:O D):O D:=bd (bd x gG) λc=>if c then ok (.bl true)else y
@[simp]theorem Xo(y:O D):RM (ok (.bl true)) y=ok (.bl true):=rfl
@[simp]theorem Xp(y:O D):RM (ok (.bl false)) y=y:=rfl
@[simp]theorem Xq(a b:Bool):RM (ok (.bl a)) (ok (.bl b))=ok (.bl (a||b)):=by cases a<;>rfl
def BC(x:O D):O D:=bd (bd x gG) λc=>ok (.bl c)
@[simp]theorem OO(c:Bool):BC (ok (.bl c))=ok (.bl c):=rfl
@[simp]theorem NG(d:D):pk (some (some d))=ok (aw aN d):=rfl
section
variable (Φ:bg)(ρ:aZ)
@[simp]theorem Ii:bj Φ .bB ρ=ok .bB:=rfl
@[simp]theorem QD(b:Bool):bj Φ (.bl b) ρ=ok (.bl b):=rfl
@[simp]theorem i9(i:Int):bj Φ (.int i) ρ=ok (.int i):=rfl
@[simp]theorem Ig(i:Str):bj Φ (.str i) ρ=ok (.str i):=rfl
@[simp]theorem YN(x:Str)(i:Int):bj Φ (.glo x i) ρ=ok (.int i):=rfl
@[simp]theorem Sy(i:Nat):bj Φ (.v i) ρ=pk ρ[i]?:=rfl
@[simp]theorem i_(op:G6)(a b:CE):bj Φ (.bin op a b) ρ=L9 op (bj Φ a ρ) (bj Φ b ρ):=rfl
@[simp]theorem pZ(op:zN)(a b:CE):bj Φ (.cmp op a b) ρ=QM op (bj Φ a ρ) (bj Φ b ρ):=rfl
@[simp]theorem YL(a:CE):bj Φ (.neg a) ρ=Iv Fn (bj Φ a ρ):=rfl
@[simp]theorem YK(a:CE):bj Φ (.not a) ρ=Om (bj Φ a ρ):=rfl
@[simp]theorem YM(a:CE)(t:Ty):bj Φ (.si a t) ρ=XS t (bj Φ a ρ):=rfl
@[simp]theorem jS(f:Nat)(es:az):bj Φ (.call f es) ρ=fY (Φ f) (bz Φ es ρ):=rfl
@[simp]theorem CW(f:Bf)(es:az):bj Φ (.bf f es) ρ=Iv (rQ f) (bz Φ es ρ):=rfl
@[simp]theorem xO(f:Nat)(es:az):bj Φ (.cg f es) ρ=Iv (Φ f) (bz Φ es ρ):=rfl
@[simp]theorem Gj(a b:CE):bj Φ (.ix a b) ρ=OU (bj Φ a ρ) (bj Φ b ρ):=rfl
@[simp]theorem Wz(a:CE):bj Φ (.kv a) ρ=Iv xj (bj Φ a ρ):=rfl
@[simp]theorem kI(es:az):bj Φ (.tup es) ρ=Iv (λxs=>ok (.tup xs)) (bz Φ es ρ):=rfl
@[simp]theorem iB(es:az):bj Φ (.lst es) ρ=Iv (λxs=>ok (.lst .ow xs)) (bz Φ es ρ):=rfl
@[simp]theorem QE(es:az):bj Φ (.and es) ρ=pW Φ es ρ:=rfl
@[simp]theorem abI(es:az):bj Φ (.or es) ρ=y9 Φ es ρ:=rfl
@[simp]theorem LP(e:CE):pW Φ [e] ρ=BC (bj Φ e ρ):=rfl
@[simp]theorem LO(e e':CE)(es:az):pW Φ (e::e'::es) ρ=GW (bj Φ e ρ) (pW Φ (e'::es) ρ):=rfl
@[simp]theorem YJ(e:CE):y9 Φ [e] ρ=BC (bj Φ e ρ):=rfl
@[simp]theorem YI(e e':CE)(es:az):y9 Φ (e::e'::es) ρ=RM (bj Φ e ρ) (y9 Φ (e'::es) ρ):=rfl
@[simp]theorem gR:bz Φ [] ρ=ok []:=rfl
@[simp]theorem bN(e:CE)(es:az):bz Φ (e::es) ρ=gm (bj Φ e ρ) (bz Φ es ρ):=rfl
@[simp]theorem e_T(e:CE):ug Φ e ρ=vc (bj Φ e ρ):=rfl
theorem WC(e:CE):bd (bj Φ e ρ) gG=vc (bj Φ e ρ):=rfl
@[simp]theorem WB:iA Φ [] ρ=ok true:=rfl
@[simp]theorem WA(e:CE):iA Φ [e] ρ=vc (bj Φ e ρ):=by
 rw[iA,WC];cases h:vc (bj Φ e ρ)with
 |none=>rfl
 |some r=>cases r with
  |error c=>rfl
  |ok b=>cases b<;>simp[iA,bd,ok]
end
def nW(is:aQ):Nat->aZ->aZ
 |_,[]=>[]
 |n,d::ρ=>(if n∈is then d.map (aw aA)else d)::nW is (n+1) ρ
theorem H_(is:aQ):∀(ρ:aZ) (n:Nat),ρ.mapIdx (λi d=>if i+n∈is then d.map (aw aA)else d)=nW is n ρ
 |[],_=>rfl
 |d::ρ,n=>by
  rw[List.mapIdx_cons,nW,<- H_ is ρ (n+1)];simp only[Nat.zero_add,Nat.add_assoc,Nat.add_comm 1 n]
theorem Cz(is:aQ)(ρ:aZ):iK is ρ=nW is 0 ρ:=by rw[<- H_];rfl
@[simp]theorem nV(is:aQ)(n:Nat):nW is n []=[]:=rfl
@[simp]theorem bC(is:aQ)(n:Nat)(d:aO)(ρ:aZ):nW is n (d::ρ)=(if n∈is then d.map (aw aA)else d)::nW is (n+1) ρ:=rfl
def cP(e:CE)(ρ:aZ)(x:O D):O (D×aZ):=bd x λd=>ok (keep e d ρ)
variable {ρ ρ1 ρ2:aZ}
@[simp]theorem cU{e:CE}{d:D}(h:bo bX d=false):cP e ρ (ok d)=ok (d,ρ):=by
 show ok (keep e d ρ)=_;rw[keep,h];rfl
@[simp]theorem iT{e:CE}{d:D}(h:bo bX d=true):cP e ρ (ok d)=ok (aw aA d,nW (jr e) 0 ρ):=by
 show ok (keep e d ρ)=_;rw[keep,h,<- Cz];rfl
@[simp]theorem Mu(e:CE)(ρ:aZ)(c:Nat):cP e ρ (some (.error c))=some (.error c):=rfl
def Bs(i:Nat)(ρ:aZ)(o:Option (aO)):O (D×aZ):=match o with
 |some (some d)=>if bo eG d then ok (d,ρ.set i none)else ok (d,ρ)
 |_=>none
@[simp]theorem Oy{i:Nat}{d:D}(h:bo eG d=true):Bs i ρ (some (some d))=ok (d,ρ.set i none):=aaQ h
@[simp]theorem Oz{i:Nat}{d:D}(h:bo eG d=false):Bs i ρ (some (some d))=ok (d,ρ):=aco (by rw[h];exact aag)
@[simp]theorem k_v(Φ:bg)(i:Nat)(ρ:aZ):ju Φ (.v i) ρ=Bs i ρ ρ[i]?:=rfl
noncomputable def US:CE->Bool
 |.v _=>true
 |_=>false
@[simp]theorem OT(Φ:bg)(ρ:aZ)(op:G6)(a b:CE):ju Φ (.bin op a b) ρ=cP (.bin op a b) ρ (bj Φ (.bin op a b) ρ):=rfl
@[simp]theorem XN(Φ:bg)(ρ:aZ)(op:zN)(a b:CE):ju Φ (.cmp op a b) ρ=cP (.cmp op a b) ρ (bj Φ (.cmp op a b) ρ):=rfl
@[simp]theorem vF(Φ:bg)(ρ:aZ)(f:Nat)(es:az):ju Φ (.call f es) ρ=cP (.call f es) ρ (bj Φ (.call f es) ρ):=rfl
@[simp]theorem aaf(Φ:bg)(ρ:aZ)(f:Bf)(es:az):ju Φ (.bf f es) ρ=cP (.bf f es) ρ (bj Φ (.bf f es) ρ):=rfl
@[simp]theorem XF(Φ:bg)(ρ:aZ)(f:Nat)(es:az):ju Φ (.cg f es) ρ=cP (.cg f es) ρ (bj Φ (.cg f es) ρ):=rfl
@[simp]theorem OR(Φ:bg)(ρ:aZ)(a b:CE):ju Φ (.ix a b) ρ=cP (.ix a b) ρ (bj Φ (.ix a b) ρ):=rfl
@[simp]theorem XD(Φ:bg)(ρ:aZ)(es:az):ju Φ (.tup es) ρ=cP (.tup es) ρ (bj Φ (.tup es) ρ):=rfl
@[simp]theorem XJ(Φ:bg)(ρ:aZ)(es:az):ju Φ (.lst es) ρ=cP (.lst es) ρ (bj Φ (.lst es) ρ):=rfl
@[simp]theorem HP(Φ:bg)(ρ:aZ)(i:Int):ju Φ (.int i) ρ=cP (.int i) ρ (bj Φ (.int i) ρ):=rfl
@[simp]theorem aae(Φ:bg)(ρ:aZ)(i:Bool):ju Φ (.bl i) ρ=cP (.bl i) ρ (bj Φ (.bl i) ρ):=rfl
@[simp]theorem XH(Φ:bg)(ρ:aZ): ju Φ (.bB) ρ=cP (.bB) ρ (bj Φ (.bB) ρ):=rfl
@[simp]theorem XI(Φ:bg)(ρ:aZ)(a:CE):ju Φ (.neg a) ρ=cP (.neg a) ρ (bj Φ (.neg a) ρ):=rfl
@[simp]theorem XG(Φ:bg)(ρ:aZ)(a:CE):ju Φ (.not a) ρ=cP (.not a) ρ (bj Φ (.not a) ρ):=rfl
@[simp]theorem XO(Φ:bg)(ρ:aZ)(es:az):ju Φ (.and es) ρ=cP (.and es) ρ (bj Φ (.and es) ρ):=rfl
@[simp]theorem aad(Φ:bg)(ρ:aZ)(es:az):ju Φ (.or es) ρ=cP (.or es) ρ (bj Φ (.or es) ρ):=rfl
@[simp]theorem UJ(Φ:bg)(ρ:aZ)(n:Nat)(t:Tg)(caps:aQ)(ik:IK)(es bL:az)(elt:CE):ju Φ (.comp n t caps ik es bL elt) ρ=cP (.comp n t caps ik es bL elt) ρ (bj Φ (.comp n t caps ik es bL elt) ρ):=rfl
@[simp]theorem XE(Φ:bg)(ρ:aZ)(s:Str):ju Φ (.str s) ρ=cP (.str s) ρ (bj Φ (.str s) ρ):=rfl
@[simp]theorem XM(Φ:bg)(ρ:aZ)(a:CE)(t:Ty):ju Φ (.si a t) ρ=cP (.si a t) ρ (bj Φ (.si a t) ρ):=rfl
@[simp]theorem UI(Φ:bg)(ρ:aZ)(a:CE):ju Φ (.kv a) ρ=cP (.kv a) ρ (bj Φ (.kv a) ρ):=rfl
theorem Mv(Φ:bg)(e:CE)(ρ:aZ)(h:US e=false):ju Φ e ρ=cP e ρ (bj Φ e ρ):=by cases e<;>first|rfl|cases h
@[simp]theorem Mo(ρ:aZ):gK [] [] ρ=ok ρ:=rfl
variable {ds xs:aa}{is:aQ}
@[simp]theorem Jr{i:Nat}{d:D}(h:i<ρ.length):gK (i::is) (d::ds) ρ=gK is ds (ρ.set i (some d)):=aaQ h
@[simp]theorem Rz{i:Nat}{d:D}(h:i<ρ.length):cK (.nm i) d ρ=ok (ρ.set i (some d)):=aaQ h
@[simp]theorem Ry(h:a_ eG ds=false):cK (.tp is) (.tup ds) ρ=gK is ds ρ:=aco (by rw[h];exact aag)
def Ma(i:Nat)(r:O (D×aZ)):O (Fo×aZ):=bd r λr=>bd (cK (.nm i) r.1 r.2) λρ'=>ok (.nx,ρ')
@[simp]theorem x_{i:Nat}{d:D}(h:i<ρ.length):Ma i (ok (d,ρ))=ok (.nx,ρ.set i (some d)):=by
 show bd (cK (.nm i) d ρ) _=_;rw[cK,if_pos h];rfl
@[simp]theorem QZ(i:Nat)(c:Nat):Ma i (some (.error c))=some (.error c):=rfl
def QY(is:aQ)(r:O (D×aZ)):O (Fo×aZ):=bd r λr=>bd (cK (.tp is) r.1 r.2) λρ'=>ok (.nx,ρ')
@[simp]theorem SH(h:a_ eG ds=false):QY is (ok (.tup ds,ρ))=bd (gK is ds ρ) λρ'=>ok (.nx,ρ'):=by
 show bd (cK (.tp is) (.tup ds) ρ) _=_;rw[cK,h];rfl
noncomputable def retS(r:O (D×aZ)):O (Fo×aZ):=bd r λr=>ok (.rt r.1,r.2)
@[simp]theorem RA(d:D)(ρ:aZ):retS (ok (d,ρ))=ok (.rt d,ρ):=rfl
@[simp]theorem NU(c:Nat):retS (some (.error c))=some (.error c):=rfl
noncomputable def Wh(ρ:aZ)(x:O D):O (Fo×aZ):=bd x λ_=>ok (.nx,ρ)
@[simp]theorem Wg(ρ:aZ)(d:D):Wh ρ (ok d)=ok (.nx,ρ):=rfl
@[simp]theorem Sq(ρ:aZ)(c:Nat):Wh ρ (some (.error c))=some (.error c):=rfl
noncomputable def mV(Φ:bg)(ss:ao)(r:O (Fo×aZ)):O (Fo×aZ):=bd r λr=>match r with
 | (.nx,ρ')=>bF Φ ss ρ'
 |r=>ok r
@[simp]theorem bI(Φ:bg)(ss:ao)(ρ:aZ):mV Φ ss (ok (.nx,ρ))=bF Φ ss ρ:=rfl
@[simp]theorem Nc(Φ:bg)(ss:ao)(d:D)(ρ:aZ):mV Φ ss (ok (.rt d,ρ))=ok (.rt d,ρ):=rfl
@[simp]theorem Mm(Φ:bg)(ss:ao)(c:Nat):mV Φ ss (some (.error c))=some (.error c):=rfl
noncomputable def FI(Φ:bg)(a b:ao)(ρ:aZ)(x:O Bool):O (Fo×aZ):=bd x λk=>if k then bF Φ a ρ else bF Φ b ρ
@[simp]theorem UO(Φ:bg)(a b:ao)(ρ:aZ):FI Φ a b ρ (ok true)=bF Φ a ρ:=rfl
@[simp]theorem UP(Φ:bg)(a b:ao)(ρ:aZ):FI Φ a b ρ (ok false)=bF Φ b ρ:=rfl
@[simp]theorem OV(Φ:bg)(a b:ao)(ρ:aZ)(c:Nat):FI Φ a b ρ (some (.error c))=some (.error c):=rfl
def Q3(i:Nat)(r:O (D×aZ)):O (Fo×aZ):=bd r λr=>match A9 r.2[i]? with
  |some ds=>if ds.length<ej then ok (.nx,r.2.set i (some (.lst .ow (ds++[r.1]))))else none
  |none=>none
@[simp]theorem SJ{i:Nat}{d:D}(h:ρ[i]?=some (some (.lst .ow ds)))(hl:ds.length<ej):Q3 i (ok (d,ρ))=ok (.nx,ρ.set i (some (.lst .ow (ds++[d])))):=by
 show(match A9 ρ[i]? with|some ds=>_|none=>_)=_;rw[h];exact aaQ hl
section
variable (Φ:bg)(ρ:aZ)
@[simp]theorem W7:bF Φ [] ρ=ok (.nx,ρ):=rfl
@[simp]theorem bE(s:CS)(ss:ao):bF Φ (s::ss) ρ=mV Φ ss (i0 Φ s ρ):=rfl
@[simp]theorem j_(i:Nat)(e:CE):i0 Φ (.asg (.nm i) e) ρ=Ma i (ju Φ e ρ):=rfl
@[simp]theorem SW(is:aQ)(e:CE):i0 Φ (.asg (.tp is) e) ρ=QY is (ju Φ e ρ):=rfl
@[simp]theorem zR(e:CE):i0 Φ (.ret e) ρ=retS (ju Φ e ρ):=rfl
theorem o6(c:CE)(b:ao):i0 Φ (.G7 c b) ρ=fL (λρ=>bd (ug Φ c ρ) λk=>if k then bd (bF Φ b ρ) λr=>match r with
   | (.nx,ρ')=>ok (.inl ρ')
   | (.rt d,ρ')=>ok (.inr (.rt d,ρ'))
  else ok (.inr (.nx,ρ))) ρ:=rfl
theorem M4(i j:Nat)(a b:CE):i0 Φ (.par i j a b) ρ=bd (bj Φ a ρ) λx=>bd (bj Φ b ρ) λy=>if bo anyF x=false/\bo anyF y=false/\i<ρ.length/\j<ρ.length then ok (.nx,(ρ.set i (some x)).set j (some y))else none:=rfl
@[simp]theorem Y_(c:Nat):i0 Φ (.rs c) ρ=some (.error c):=rfl
@[simp]theorem Za(e:CE):i0 Φ (.ex e) ρ=Wh ρ (bj Φ e ρ):=rfl
@[simp]theorem yh(c:CE)(a b:ao):i0 Φ (.ifs c a b) ρ=FI Φ a b ρ (vc (bj Φ c ρ)):=rfl
@[simp]theorem W8(i:Nat)(e:CE):i0 Φ (.app i e) ρ=Q3 i (ju Φ e ρ):=rfl
end
noncomputable def mk(Φ:bg)(ar n:Nat)(b:ao):aI:=λds=>if ds.length=ar then qy Φ n b ds else none
noncomputable def lj(r:O (Fo×aZ)):O D:=bd r λr=>match r.1 with
 |.nx=>ok .bB
 |.rt d=>ok d
@[simp]theorem Sv(ρ:aZ):lj (ok (.nx,ρ))=ok .bB:=rfl
@[simp]theorem Su(d:D)(ρ:aZ):lj (ok (.rt d,ρ))=ok d:=rfl
@[simp]theorem QB(c:Nat):lj (some (.error c))=some (.error c):=rfl
variable {B ar:Nat}{Φ:bg}
theorem mk_eq{n:Nat}{b:ao}(h:ds.length=ar):mk Φ ar n b ds=lj (bF Φ b (ds.map some++List.replicate (n - ds.length) none)):=aaQ h
theorem vt{n:Nat}{b:ao}(ds:aa)(r:D)(h:mk Φ ar n b ds=ok r):ds.length=ar/\qy Φ n b ds=ok r:=by
 unfold mk at h;split at h
 ·rename_i hl;exact⟨hl,h⟩
 ·cases h
theorem Int.beq_eq_decide_eq(i j:Int):(i==j)=decide (i=j):=rfl
section
variable (g:Fl->Fl)(p:Fl->Bool)
@[simp]theorem Fv(b:Bool):aw g (.bl b)=.bl b:=rfl
@[simp]theorem Bv(b:Int):aw g (.int b)=.int b:=rfl
@[simp]theorem OE:aw g .bB=.bB:=rfl
@[simp]theorem OD(s:Str):aw g (.str s)=.str s:=rfl
@[simp]theorem Bt(ds:aa):aw g (.tup ds)=.tup (ah g ds):=rfl
@[simp]theorem OF(f:Fl)(ds:aa):aw g (.lst f ds)=.lst (g f) (ah g ds):=rfl
@[simp]theorem OG(f:Fl)(ks:aB)(vs:aa):aw g (.cJ f ks vs)=.cJ (g f) ks (ah g vs):=rfl
@[simp]theorem Ms:ah g []=[]:=rfl
@[simp]theorem Kc(d:D)(ds:aa):ah g (d::ds)=aw g d::ah g ds:=rfl
@[simp]theorem eC(a b:aa):ah g (a++b)=ah g a++ah g b:=by simp only[aP,List.map_append]
@[simp]theorem Mt(ds:aa):(ah g ds).length=ds.length:=by rw[aP,List.length_map]
theorem eA{α:Type}{e:α->D}(h:∀x,aw g (e x)=e x)(xs:List α):ah g (xs.map e)=xs.map e:=by
 rw[aP,List.map_map];exact aau λx _=>h x
theorem eH{α:Type}{e:α->D}(h:∀x,bo p (e x)=false):∀xs:List α,a_ p (xs.map e)=false
 |[]=>by rw[List.map_nil,a_]
 |x::xs=>by rw[List.map_cons,a_,h x,eH h xs];rfl
@[simp]theorem FY(b:Bool):bo p (.bl b)=false:=abN rfl
@[simp]theorem nM(b:Int):bo p (.int b)=false:=abN rfl
@[simp]theorem P5:bo p .bB=false:=abN rfl
@[simp]theorem P4(s:Str):bo p (.str s)=false:=abN rfl
@[simp]theorem P0(ds:aa):bo p (.tup ds)=a_ p ds:=abN rfl
@[simp]theorem Cc(f:Fl)(ds:aa):bo p (.lst f ds)=(p f||a_ p ds):=abN rfl
@[simp]theorem P6(f:Fl)(ks:aB)(vs:aa):bo p (.cJ f ks vs)=(p f||a_ p vs):=abN rfl
@[simp]theorem ML:a_ p []=false:=abN rfl
@[simp]theorem K0(d:D)(ds:aa):a_ p (d::ds)=(bo p d||a_ p ds):=abN rfl
@[simp]theorem yY:∀a b:aa,a_ p (a++b)=(a_ p a||a_ p b)
 |[],b=>by simp
 |d::a,b=>by simp[yY a b,Bool.or_assoc]
@[simp]theorem nB(ns:ae):ah g (ns.map D.int)=ns.map D.int:=eA g (Bv g) ns
@[simp]theorem vP(ns:ae):a_ p (ns.map D.int)=false:=eH p (nM p) ns
@[simp]theorem yG(ns:List Bool):ah g (ns.map D.bl)=ns.map D.bl:=eA g (Fv g) ns
@[simp]theorem yX(ns:List Bool):a_ p (ns.map D.bl)=false:=eH p (FY p) ns
@[simp]theorem Mw(t:Ty)(d:D):cW t (aw g d)=cW t d:=by cases d<;>cases t<;>rfl
end
@[simp]theorem Li:aN .ow=.al:=rfl
@[simp]theorem Lj:aN .fz=.fz:=rfl
@[simp]theorem Ll:aN .al=.al:=rfl
@[simp]theorem Lh:aN .sc=.sc:=rfl
@[simp]theorem Le:aA .ow=.fz:=rfl
@[simp]theorem Lf:aA .fz=.fz:=rfl
@[simp]theorem Lg:aA .al=.fz:=rfl
@[simp]theorem Ld:aA .sc=.sc:=rfl
@[simp]theorem LB:dY .ow=.ow:=rfl
@[simp]theorem LC:dY .fz=.al:=rfl
@[simp]theorem LD:dY .al=.al:=rfl
@[simp]theorem LA:dY .sc=.sc:=rfl
@[simp]theorem Lw:bX .ow=false:=rfl
@[simp]theorem Ly:bX .fz=false:=rfl
@[simp]theorem Lz:bX .al=true:=rfl
@[simp]theorem Lv:bX .sc=false:=rfl
@[simp]theorem Lq:eG .ow=true:=rfl
@[simp]theorem Lr:eG .fz=false:=rfl
@[simp]theorem Lu:eG .al=false:=rfl
@[simp]theorem Lp:eG .sc=false:=rfl
@[simp]theorem Lm:e_ .ow=false:=rfl
@[simp]theorem Ln:e_ .fz=false:=rfl
@[simp]theorem Lo:e_ .al=false:=rfl
noncomputable def av(ns:ae):aa:=ns.map D.int
noncomputable def kL(ns:List Bool):aa:=ns.map D.bl
@[simp]theorem My(ns:ae):(av ns).length=ns.length:=abV ..
@[simp]theorem QV(ns:List Bool):(kL ns).length=ns.length:=abV ..
@[simp]theorem yR:av []=[]:=rfl
@[simp]theorem KG(n:Int)(ns:ae):av (n::ns)=.int n::av ns:=rfl
@[simp]theorem KD(ns:ae)(n:Int):av ns++[.int n]=av (ns++[n]):=by simp[av]
@[simp]theorem yS(ns:ae)(i:Nat):(av ns)[i]?=ns[i]?.map D.int:=List.getElem?_map ..
@[simp]theorem cz(g:Fl->Fl)(ns:ae):ah g (av ns)=av ns:=nB g ns
@[simp]theorem HX(p:Fl->Bool)(ns:ae):a_ p (av ns)=false:=vP p ns
@[simp]theorem Kd(g:Fl->Fl)(ns:List Bool):ah g (kL ns)=kL ns:=yG g ns
@[simp]theorem K1(p:Fl->Bool)(ns:List Bool):a_ p (kL ns)=false:=yX p ns
@[simp]theorem YU(i j:Int):b0 .add (.int i) (.int j)=ok (.int (i+j)):=rfl
@[simp]theorem YT(i j:Int):b0 .sub (.int i) (.int j)=ok (.int (i - j)):=rfl
theorem qg{i j:Int}(h:iz i j=true):b0 .mul (.int i) (.int j)=ok (.int (i*j)):=aaQ h
theorem jY{i j:Int}(h:p7 j=true):b0 .fdiv (.int i) (.int j)=ok (.int (i.fdiv j)):=aaQ h
@[simp]theorem uD{i j:Int}(h:j≠0):b0 .mod (.int i) (.int j)=ok (.int (i.fmod j)):=aaQ h
theorem QW{i j:Int}(h:ko i j=true):b0 .shl (.int i) (.int j)=ok (.int (i*2 ^ j.toNat)):=aaQ h
theorem Iq{i j:Int}(h:ko i j=true):b0 .pow (.int i) (.int j)=ok (.int (i ^ j.toNat)):=aaQ h
@[simp]theorem Xy(i:Int):Fn (.int i)=ok (.int (-i)):=rfl
theorem mulOk_of{i j:Int}(h:i.natAbs<2 ^ 9000)(h':j.natAbs<2 ^ 9000):iz i j=true:=by
 simp only[iz,big,h,h',decide_true,Bool.and_self,Bool.or_true]
theorem k8{n:Nat}(h:n<2 ^ 64):n<2 ^ 9000:=aap h (aaI (by decide) (by decide))
theorem qP{i:Int}(j:Int)(h:i.natAbs<2 ^ 64):iz i j=true:=by simp only[iz,h,decide_true,Bool.true_or]
theorem Fq{j:Int}(i:Int)(h:j.natAbs<2 ^ 64):iz i j=true:=by simp only[iz,h,decide_true,Bool.true_or,Bool.or_true]
theorem fV{j:Int}(h0:j≠0)(h:j.natAbs<2 ^ 9000):p7 j=true:=by
 simp only[p7,big,h,decide_true,Bool.and_true,decide_eq_true_eq];exact h0
@[simp]theorem GR{i j:Int}(h:j.natAbs<2 ^ 64):b0 .mul (.int i) (.int j)=ok (.int (i*j)):=qg (Fq i h)
@[simp]theorem SG{i j:Int}(h:i.natAbs<2 ^ 64):b0 .mul (.int i) (.int j)=ok (.int (i*j)):=qg (qP j h)
@[simp]theorem uE{i j:Int}(h0:j≠0)(h:j.natAbs<2 ^ 64):b0 .fdiv (.int i) (.int j)=ok (.int (i.fdiv j)):=jY (fV h0 (k8 h))
theorem QR{a b:D}(ha:fi 40 a=true)(hb:fi 40 b=true):ic .eq a b=ok (.bl (ib a b)):=by
 show(if fi 40 a&&fi 40 b then _ else _)=_;rw[ha,hb];rfl
theorem QQ{a b:D}(ha:fi 40 a=true)(hb:fi 40 b=true):ic .ne a b=ok (.bl (!ib a b)):=by
 show(if fi 40 a&&fi 40 b then _ else _)=_;rw[ha,hb];rfl
@[simp]theorem kr(n:Nat)(i:Int):fi n (.int i)=true:=by cases n<;>rfl
@[simp]theorem Uw(n:Nat)(i:Bool):fi n (.bl i)=true:=by cases n<;>rfl
@[simp]theorem RR(n:Nat):fi n .bB=true:=by cases n<;>rfl
@[simp]theorem RQ(n:Nat)(i:Str):fi n (.str i)=true:=by cases n<;>rfl
@[simp]theorem RO(n:Nat)(ds:aa):fi (n+1) (.tup ds)=ds.all (fi n):=rfl
@[simp]theorem RP(n:Nat)(f:Fl)(ds:aa):fi (n+1) (.lst f ds)=ds.all (fi n):=rfl
@[simp]theorem Ue(i j:Int):ic .eq (.int i) (.int j)=ok (.bl (decide (i=j))):=by rw[QR (kr _ _) (kr _ _)];show ok (D.bl (i==j))=_;rw[Int.beq_eq_decide_eq]
@[simp]theorem Ud(i j:Int):ic .ne (.int i) (.int j)=ok (.bl (!decide (i=j))):=by rw[QQ (kr _ _) (kr _ _)];show ok (D.bl (!(i==j)))=_;rw[Int.beq_eq_decide_eq]
@[simp]theorem ZN(i j:Int):ic .lt (.int i) (.int j)=ok (.bl (decide (i<j))):=rfl
@[simp]theorem ZO(i j:Int):ic .le (.int i) (.int j)=ok (.bl (decide (i<=j))):=rfl
@[simp]theorem ZP(i j:Int):ic .gt (.int i) (.int j)=ok (.bl (decide (j<i))):=rfl
@[simp]theorem ZQ(i j:Int):ic .ge (.int i) (.int j)=ok (.bl (decide (j<=i))):=rfl
@[simp]theorem XW(ds:aa)(i:Int):xu (.tup ds) (.int i)=uG ds i:=rfl
@[simp]theorem XX(f:Fl)(ds:aa)(i:Int):xu (.lst f ds) (.int i)=uG ds i:=rfl
theorem rS{n:Nat}{d:D}(h:ds[n]?=some d):uG ds (n:Int)=ok (aw aN d):=by
 have hn:n<ds.length:=(List.getElem?_eq_some_iff.mp h).1;have e:zC ds.length (n:Int)=some n:=by unfold zC;rw[if_pos (by left),if_pos (by left)];rfl
 unfold uG;rw[e,Option.bind_some,h]
theorem at_of{i:Int}{d:D}(h0:0<=i)(h:ds[i.toNat]?=some d):uG ds i=ok (aw aN d):=by
 have:=rS h
 rwa [show((i.toNat:Nat):Int)=i by left]at this
@[simp]theorem QX(d:D)(ds:aa):uG (d::ds) 0=ok (aw aN d):=rS (n:=0) rfl
@[simp]theorem abY(a d:D)(ds:aa):uG (a::d::ds) 1=ok (aw aN d):=rS (n:=1) rfl
@[simp]theorem abX(a b d:D)(ds:aa):uG (a::b::d::ds) 2=ok (aw aN d):=rS (n:=2) rfl
@[simp]theorem Sn(ds:aa):rQ .len [.tup ds]=ok (.int ds.length):=rfl
@[simp]theorem So(f:Fl)(ds:aa):rQ .len [.lst f ds]=ok (.int ds.length):=rfl
@[simp]theorem YG(i:Int):rQ .abs [.int i]=ok (.int i.natAbs):=by
 show ok (D.int (if i<0 then -i else i))=_;congr 2;split<;>left
@[simp]theorem Qu(f:Fl)(ds:aa):rQ .list1 [.lst f ds]=ok (.lst .ow (ah aN ds)):=rfl
@[simp]theorem Qt(ds:aa):rQ .list1 [.tup ds]=ok (.lst .ow (ah aN ds)):=rfl
@[simp]theorem Sl(f:Fl)(ds:aa):rQ .tuple1 [.lst f ds]=ok (.tup (ah aN ds)):=rfl
@[simp]theorem YE(f:Fl)(ns:ae):rQ .sI [.lst f (av ns)]=ok (.int ns.sum):=by
 show(match intsOf (ns.map D.int)with|some ns=>_|none=>_)=_;rw[b_]
@[simp]theorem YF(f:Fl)(bs:List Bool):rQ .all1 [.lst f (kL bs)]=ok (.bl (bs.all id)):=by
 show(match jb (bs.map D.bl)with|some ns=>_|none=>_)=_;rw[lr]
variable {ns ws:ae}
@[simp]theorem F8(h:ns.length<64):rQ .hJ [.tup (av ns)]=ok (.lst .ow (av (sortI ns))):=by
 show sO _=_;unfold sO av;rw[b_];exact aaQ h
@[simp]theorem LF(h:ns.length<4000):xj (.tup (av ns))=ok (.int (oY ns).length):=by
 show(match intsOf (ns.map D.int)with|some ns=>_|none=>_)=_;rw[b_];exact aaQ h
@[simp]theorem Gh(i j:Int):ib (.int i) (.int j)=decide (i=j):=by show(i==j)=_;rw[Int.beq_eq_decide_eq]
@[simp]theorem Wu(i j:Bool):ib (.bl i) (.bl j)=(i==j):=rfl
@[simp]theorem Ss(a b:aa):ib (.tup a) (.tup b)=dQ a b:=rfl
@[simp]theorem Gg(f g:Fl)(a b:aa):ib (.lst f a) (.lst g b)=dQ a b:=rfl
@[simp]theorem QA:dQ [] []=true:=rfl
@[simp]theorem za(a b:D)(as bs:aa):dQ (a::as) (b::bs)=(ib a b&&dQ as bs):=rfl
theorem n_:∀{as bs:aa},dQ as bs=true->as.length=bs.length
 |[],[],_=>rfl
 |[],_::_,h=>(aag h).elim
 |_::_,[],h=>(aag h).elim
 |a::as,b::bs,h=>by
  replace h:(_&&_)=true:=h;rw[Bool.and_eq_true]at h;rw[List.length_cons,List.length_cons,n_ h.2]
theorem uh{α:Type}{e:α->D}[DecidableEq α](h:∀x y,ib (e x) (e y)=decide (x=y)):∀xs ys:List α,dQ (xs.map e) (ys.map e)=decide (xs=ys)
 |[],[]=>by simp
 |[],y::ys=>by
  cases z:dQ ([].map e) ((y::ys).map e)with
  |true=>have:=n_ z;simp at this
  |false=>simp
 |x::xs,[]=>by
  cases z:dQ ((x::xs).map e) ([].map e)with
  |true=>have:=n_ z;simp at this
  |false=>simp
 |x::xs,y::ys=>by
  rw[List.map_cons,List.map_cons,za,h,uh h xs ys];by_cases e1:x=y<;>by_cases e2:xs=ys<;>simp[e1,e2]
theorem Fg{α:Type}{e:α->D}{n:Nat}(h:∀x,fi n (e x)=true)(xs:List α):(xs.map e).all (fi n)=true:=by
 rw[List.all_map];exact List.all_eq_true.mpr λx _=>h x
theorem cL{bind:D->O aZ}{test:aZ->O Bool}{el:aZ->O D}{α:Type}{e:α->D}{g:α->D}:∀{xs:List α},(∀x∈xs,∃ρ,bind (e x)=ok ρ/\test ρ=ok true/\el ρ=ok (g x))->iD bind test el (xs.map e)=ok (xs.map g)
 |[],_=>rfl
 |x::xs,h=>by
  obtain⟨ρ,h1,h2,h3⟩:=h x (aai ..);have ih:=cL (xs:=xs) λy hy=>h y (aal _ hy);rw[List.map_cons,iD,h1,dv,h2,dv,if_pos rfl,h3,dv,ih];rfl
theorem lJ{bind:D->O aZ}{test:aZ->O Bool}{el:aZ->O D}{α:Type}{e:α->D}{g:α->D}{t:α->Bool}:∀{xs:List α},(∀x∈xs,∃ρ,bind (e x)=ok ρ/\test ρ=ok (t x)/\(t x=true->el ρ=ok (g x)))->iD bind test el (xs.map e)=ok ((xs.filter t).map g)
 |[],_=>rfl
 |x::xs,h=>by
  obtain⟨ρ,h1,h2,h3⟩:=h x (aai ..);have ih:=lJ (xs:=xs) λy hy=>h y (aal _ hy);rw[List.map_cons,iD,h1,dv,h2,dv,List.filter_cons];cases ht:t x with
  |true=>rw[if_pos rfl,h3 ht,dv,ih,if_pos rfl];rfl
  |false=>rw[if_neg Bool.false_ne_true,ih,if_neg Bool.false_ne_true]
section
variable {Φ:bg}{n:Nat}{t:Tg}{caps:aQ}{ik:IK}{es bL:az}{elt:CE}{ρ:aZ}{xs items ds:aa}
theorem eJ(h1:bz Φ es ρ=ok xs)(h2:eF Φ ik xs=ok items)
  (h3:iD (λd=>cK t d (cF n caps ρ)) (λρ'=>iA Φ bL ρ') (λρ'=>bj Φ elt ρ') items=ok ds) (hl:ds.length<=ej):bj Φ (.comp n t caps ik es bL elt) ρ=ok (.lst .ow (ah dY ds)):=by
 show bd (bz Φ es ρ) _=_;rw[h1,dv,h2,dv,h3,dv,if_pos hl]
end
theorem xw(Φ:bg)(ds:aa):eF Φ .seq [.tup ds]=ok (ah aA ds):=rfl
theorem eT(Φ:bg)(f:Fl)(ds:aa):eF Φ .seq [.lst f ds]=ok (ah aA ds):=rfl
theorem FH(Φ:bg){n:Int}(h0:0<=n)(h:n<=1000000):eF Φ .lW [.int n]=ok ((List.range n.toNat).map λ(k:Nat)=>D.int (k:Int)):=by
 show(if n<=(ej:Int) /\ -(ej:Int)<=n then _ else _)=_;have:(ej:Int)=1000000:=rfl;rw[if_pos (by left)]
theorem dD{n:Nat}(h:n<=1000000):n<=ej:=h
theorem mP{t:Tg}{it:CI}{b:ao}{items:aa}{r:O (Fo×aZ)}(h:fQ Φ it ρ=ok (items,ρ1))(h':fm (λd ρ=>cK t d ρ) (λρ=>bF Φ b ρ) items ρ1=r):i0 Φ (.fr t it b) ρ=r:=by
 show bd (fQ Φ it ρ) _=_;rw[h];exact h'
theorem lb{bind:D->aZ->O aZ}{body:aZ->O (Fo×aZ)}{x:D}{r:O (Fo×aZ)}(h1:bind x ρ=ok ρ1)(h2:body ρ1=ok (.nx,ρ2))(h3:fm bind body xs ρ2=r):fm bind body (x::xs) ρ=r:=by
 rw[fm,h1,dv,h2];exact h3
theorem CF{bind:D->aZ->O aZ}{body:aZ->O (Fo×aZ)}{x y:D}(h1:bind x ρ=ok ρ1)(h2:body ρ1=ok (.rt y,ρ2)):fm bind body (x::xs) ρ=ok (.rt y,ρ2):=by
 rw[fm,h1,dv,h2];rfl
theorem OY{a:CE}{n:Int}(h:bj Φ a ρ=ok (.int n))(h0:0<=n)(h1:n<=1000000):fQ Φ (.lW a) ρ=ok ((List.range n.toNat).map λ(k:Nat)=>D.int (k:Int),ρ):=by
 show bd (bj Φ a ρ) _=_;rw[h];show(if n<=(ej:Int) /\ -(ej:Int)<=n then _ else _)=_;have:(ej:Int)=1000000:=rfl;rw[if_pos (by left)]
theorem OZ{a:CE}{f:Fl}(h:bj Φ a ρ=ok (.lst f ds)):fQ Φ (.seq a) ρ=ok (ah aA ds,if (bX f||a_ bX ds)then nW (jr a) 0 ρ else ρ):=by
 show bd (bj Φ a ρ) _=_;rw[h,<- Cz];show ok (_,if bo bX (.lst f ds)then _ else _)=_;rw[Cc]
noncomputable def gk(t b:Int):Int:=if b<0 then -(Int.gcd t b:Int)else(Int.gcd t b:Int)
def J6(t b:Int):Int:=t.fdiv (gk t b)
def J7(t b:Int):Int:=b.fdiv (gk t b)
theorem xE{t b:Int}(h:b≠0):0<Int.gcd t b:=Int.gcd_pos_of_ne_zero_right t h
theorem jT{t b:Int}(h:b≠0):gk t b≠0:=by
 have:=xE (t:=t) h;unfold gk;split<;>left
theorem K_{t b:Int}(h:b≠0):Int.gcd t b<=b.natAbs:=acj (by left) (Nat.gcd_dvd_right _ _)
theorem Gm{t b:Int}(h:b≠0):(gk t b).natAbs<=b.natAbs:=by
 have:=K_ (t:=t) h;unfold gk;split<;>left
theorem tH{t b:Int}(h:b≠0):∃t' b':Int,t=gk t b*t'/\b=gk t b*b'/\J6 t b=t'/\J7 t b=b'/\1<=b'/\Int.gcd t' b'=1:=by
 have hg:=xE (t:=t) h;obtain⟨t1,ht⟩:(Int.gcd t b:Int)∣t:=Int.gcd_dvd_left ..;obtain⟨b1,hb⟩:(Int.gcd t b:Int)∣b:=Int.gcd_dvd_right ..;have hc:Int.gcd t1 b1=1:=by
  have e:Int.gcd ((Int.gcd t b:Int)*t1) ((Int.gcd t b:Int)*b1)=Int.gcd t b*Int.gcd t1 b1:=by
   rw[Int.gcd_mul_left];simp
  rw[<- ht,<- hb]at e;have:Int.gcd t b*1=Int.gcd t b*Int.gcd t1 b1:=by rw[Nat.mul_one];exact e
  exact(Nat.eq_of_mul_eq_mul_left hg this).symm
 by_cases hn:b<0
 ·have ed:gk t b = -(Int.gcd t b:Int):=by simp[gk,hn]
  have e1:t=gk t b*(-t1):=by rw[ed,Int.neg_mul_neg];exact ht
  have e2:b=gk t b*(-b1):=by rw[ed,Int.neg_mul_neg];exact hb
  refine⟨-t1,-b1,e1,e2,?_,?_,?_,by rw[Int.gcd_neg,Int.neg_gcd];exact hc⟩
  ·unfold J6
   conv=>lhs;arg 1;rw[e1]
   exact abd _ (jT h)
  ·unfold J7
   conv=>lhs;arg 1;rw[e2]
   exact abd _ (jT h)
  ·have:b1<0:=by
    by_cases VI:b1<0
    ·exact VI
    ·have:0<=(Int.gcd t b:Int)*b1:=Int.mul_nonneg (by left) (by left);left
   left
 ·have ed:gk t b=(Int.gcd t b:Int):=by simp[gk,hn]
  have e1:t=gk t b*t1:=by rw[ed];exact ht
  have e2:b=gk t b*b1:=by rw[ed];exact hb
  refine⟨t1,b1,e1,e2,?_,?_,?_,hc⟩
  ·unfold J6
   conv=>lhs;arg 1;rw[e1]
   exact abd _ (jT h)
  ·unfold J7
   conv=>lhs;arg 1;rw[e2]
   exact abd _ (jT h)
  ·have:0<b1:=by
    by_cases VI:0<b1
    ·exact VI
    ·have:(Int.gcd t b:Int)*b1<=0:=Int.mul_nonpos_of_nonneg_of_nonpos (by left) (by left);left
   left
noncomputable def qD(q:Rat):D:=.tup [.int q.num,.int q.den]
@[simp]theorem Ke(g:Fl->Fl)(q:Rat):aw g (qD q)=qD q:=by unfold qD;simp
@[simp]theorem K3(g:Fl->Bool)(q:Rat):bo g (qD q)=false:=by unfold qD;simp
noncomputable def bD(qs:aU):aa:=qs.map qD
@[simp]theorem RE(qs:aU):(bD qs).length=qs.length:=abV ..
@[simp]theorem RD:bD []=[]:=rfl
@[simp]theorem N1(q:Rat)(qs:aU):bD (q::qs)=qD q::bD qs:=rfl
@[simp]theorem N0(qs:aU)(q:Rat):bD qs++[qD q]=bD (qs++[q]):=by simp[bD]
@[simp]theorem RF(qs:aU)(i:Nat):(bD qs)[i]?=qs[i]?.map qD:=List.getElem?_map ..
@[simp]theorem RC(qs:aU)(i:Nat)(q:Rat):(bD qs).set i (qD q)=bD (qs.set i q):=by unfold bD;rw[List.map_set]
@[simp]theorem OC(g:Fl->Fl)(qs:aU):ah g (bD qs)=bD qs:=eA g (Ke g) qs
@[simp]theorem PZ(g:Fl->Bool)(qs:aU):a_ g (bD qs)=false:=eH g (K3 g) qs
@[simp]theorem XR(q:Rat):xu (qD q) (.int 0)=ok (.int q.num):=by unfold qD;simp
@[simp]theorem XQ(q:Rat):xu (qD q) (.int 1)=ok (.int q.den):=by unfold qD;simp
theorem CD{t b:Int}(hb:b≠0):t.fdiv (gk t b)=(Rat.divInt t b).num/\b.fdiv (gk t b)=((Rat.divInt t b).den:Int):=by
 obtain⟨t',b',e1,e2,h1,h2,h3,h4⟩:=tH (t:=t) hb;have hd:=jT (t:=t) hb;have e:Rat.divInt t b=Rat.divInt t' b':=by
  generalize gk t b=d at *;rw[e1,e2];exact Rat.divInt_mul_left hd
 obtain⟨n,rfl⟩:∃n:Nat,b'=(n:Int):=⟨b'.toNat,by left⟩
 have hc:t'.natAbs.Coprime n:=by
  have:Nat.gcd t'.natAbs n=1:=by simpa [Int.gcd]using h4
  exact this
 have hn:n≠0:=by left
 have e3:Rat.divInt t' (n:Int)=⟨t',n,hn,hc⟩:=Rat.mk_eq_divInt.symm;rw[e,e3];exact⟨h1,h2⟩
theorem lX(q:Rat):(q.den:Int)≠0:=by have:=q.den_pos;left
theorem Hk(q:Rat):(1:Int)<=q.den:=by have:=q.den_pos;left
theorem gw(q:Rat):Rat.divInt q.num q.den=q:=Rat.num_divInt_den q
theorem mw{t b:Int}(hb:b≠0):(Rat.divInt t b).num.natAbs<=t.natAbs/\(Rat.divInt t b).den<=b.natAbs:=by
 obtain⟨t',b',e1,e2,h1,h2,h3,h4⟩:=tH (t:=t) hb;obtain⟨g1,g2⟩:=CD (t:=t) hb;have hd:1<=(gk t b).natAbs:=by have:=jT (t:=t) hb;left
 rw[show t.fdiv (gk t b)=t' from h1]at g1;rw[show b.fdiv (gk t b)=b' from h2]at g2;refine⟨?_,?_⟩
 ·rw[<- g1];have:t.natAbs=(gk t b).natAbs*t'.natAbs:=by rw[<- Int.natAbs_mul,<- e1]
  rw[this];exact Nat.le_mul_of_pos_left _ hd
 ·have hz:(Rat.divInt t b).den=b'.natAbs:=by left
  rw[hz];have:b.natAbs=(gk t b).natAbs*b'.natAbs:=by rw[<- Int.natAbs_mul,<- e2]
  rw[this];exact Nat.le_mul_of_pos_left _ hd
theorem N5(p q:Rat):p+q=Rat.divInt (p.num*q.den+q.num*p.den) (p.den*q.den):=by
 conv=>lhs;rw[<- gw p,<- gw q]
 exact Rat.divInt_add_divInt _ _ (lX p) (lX q)
theorem N3(p q:Rat):p - q=Rat.divInt (p.num*q.den - q.num*p.den) (p.den*q.den):=by
 conv=>lhs;rw[<- gw p,<- gw q]
 exact Rat.divInt_sub_divInt _ _ (lX p) (lX q)
theorem N4(p q:Rat):p*q=Rat.divInt (p.num*q.num) (p.den*q.den):=by
 conv=>lhs;rw[<- gw p,<- gw q]
 exact Rat.divInt_mul_divInt _ _
def Sm(k:Nat)(q:Rat):Prop:=q.num.natAbs<2 ^ k/\q.den<2 ^ k
theorem Sm.mono{k l:Nat}{q:Rat}(h:Sm k q)(hl:k<=l):Sm l q :=
 ⟨aap h.1 (aaI (by decide) hl),aap h.2 (aaI (by decide) hl)⟩
theorem b6{a b k l:Nat}(h:a<2 ^ k)(h':b<2 ^ l):a*b<2 ^ (k+l):=by
 rw[Nat.pow_add];exact Nat.mul_lt_mul'' h h'
theorem GZ(a b:Int):(a+b).natAbs<=a.natAbs+b.natAbs:=Int.natAbs_add_le a b
theorem GY(a b:Int):(a - b).natAbs<=a.natAbs+b.natAbs:=by rw[Int.sub_eq_add_neg];exact Int.natAbs_neg b▸Int.natAbs_add_le a (-b)
section
variable {k l:Nat}{p q:Rat}
theorem Sm.den(h:Sm k p)(h':Sm l q):((p.den:Int)*q.den).natAbs<2 ^ (k+l):=by
 rw[Int.natAbs_mul];exact b6 (by simpa using h.2) (by simpa using h'.2)
theorem Sm.add(h:Sm k p)(h':Sm l q):Sm (k+l+1) (p+q):=by
 have hb:(p.den:Int)*q.den≠0:=acs (lX p) (lX q);obtain⟨g1,g2⟩:=mw (t:=p.num*q.den+q.num*p.den) hb;rw[<- N5]at g1 g2;have n1:(p.num*q.den).natAbs<2 ^ (k+l):=by rw[Int.natAbs_mul];exact b6 h.1 (by simpa using h'.2)
 have n2:(q.num*p.den).natAbs<2 ^ (k+l):=by rw[Int.natAbs_mul,Nat.add_comm];exact b6 h'.1 (by simpa using h.2)
 have:=GZ (p.num*q.den) (q.num*p.den);have e:2 ^ (k+l+1)=2 ^ (k+l)*2:=Nat.pow_succ ..;have d:=h.den h';exact⟨by left,by left⟩
theorem Sm.sub(h:Sm k p)(h':Sm l q):Sm (k+l+1) (p - q):=by
 have hb:(p.den:Int)*q.den≠0:=acs (lX p) (lX q);obtain⟨g1,g2⟩:=mw (t:=p.num*q.den - q.num*p.den) hb;rw[<- N3]at g1 g2;have n1:(p.num*q.den).natAbs<2 ^ (k+l):=by rw[Int.natAbs_mul];exact b6 h.1 (by simpa using h'.2)
 have n2:(q.num*p.den).natAbs<2 ^ (k+l):=by rw[Int.natAbs_mul,Nat.add_comm];exact b6 h'.1 (by simpa using h.2)
 have:=GY (p.num*q.den) (q.num*p.den);have e:2 ^ (k+l+1)=2 ^ (k+l)*2:=Nat.pow_succ ..;have d:=h.den h';exact⟨by left,by left⟩
theorem Sm.mul(h:Sm k p)(h':Sm l q):Sm (k+l) (p*q):=by
 have hb:(p.den:Int)*q.den≠0:=acs (lX p) (lX q);obtain⟨g1,g2⟩:=mw (t:=p.num*q.num) hb;rw[<- N4]at g1 g2;have n1:(p.num*q.num).natAbs<2 ^ (k+l):=by rw[Int.natAbs_mul];exact b6 h.1 h'.1
 have d:=h.den h';exact⟨by left,by left⟩
theorem Sm.big(h:Sm k p)(hk:k<=9000):p.num.natAbs<2 ^ 9000/\(p.den:Int).natAbs<2 ^ 9000:=by
 have:=h.mono hk;exact⟨this.1,by simpa using this.2⟩
end
theorem yt{t b:Int}{k:Nat}(hb:b≠0)(h1:t.natAbs<2 ^ k)(h2:b.natAbs<2 ^ k):Sm k (Rat.divInt t b):=by
 obtain⟨g1,g2⟩:=mw (t:=t) hb;exact⟨by left,by left⟩
def dE(d:D):Bool:=cW .int d&&!cW .bool d
def eM(m:aI):Prop:=∀d,m [d]=ok (.bl (dE d))
noncomputable def ie:ao:=[.ret (.and [(.si (.v 0) .int),(.not (.si (.v 0) .bool))])]
theorem vj(Φ:bg):eM (mk Φ 1 1 ie):=by
 intro d;simp[mk_eq,ie,dE]
theorem nZ(a:Int){b:Int}(h:b≠0):(a.fmod b).natAbs<b.natAbs:=by
 rcases Int.lt_or_gt_of_ne h with hb|hb
 ·have e:=Int.neg_fmod_neg a b;have h1:=abE (-a) (show 0 < -b by left);have h2:=acg (-a) (show 0 < -b by left);left
 ·have h1:=abE a hb;have h2:=acg a hb;left
theorem Cu(a b:Int):Int.gcd b (a.fmod b)=Int.gcd a b:=by
 rw[Int.fmod_def,Int.gcd_sub_mul_left_right,Int.gcd_comm]
def b9(m:aI):Prop:=∀a b:Int,m [.int a,.int b]=ok (.int (Int.gcd a b))
noncomputable def zV:CS:=.G7 (.cmp .ne (.v 1) (.int 0)) [.asg (.nm 2) (.bin .mod (.v 0) (.v 1)),.asg (.nm 0) (.v 1),.asg (.nm 1) (.v 2)]
def di:ao:=[zV,.ret (.bf .abs [(.v 0)])]
theorem GG(Φ:bg):∀(n:Nat) (a b:Int) (r:aO),b.natAbs<=n->∃(g:Int) (r':aO),i0 Φ zV [some (.int a),some (.int b),r]=ok (.nx,[some (.int g),some (.int 0),r'])/\g.natAbs=Int.gcd a b:=by
 intro n;induction n with
 |zero =>
  intro a b r h;have hb:b=0:=by left
  subst hb;refine⟨a,r,?_,by simp⟩;rw[zV,o6];exact gY (by simp)
 |succ n ih =>
  intro a b r h;by_cases hb:b=0
  ·subst hb;refine⟨a,r,?_,by simp⟩;rw[zV,o6];exact gY (by simp)
  ·have gX:=nZ a hb;obtain⟨g,r',e,hg⟩:=ih b (a.fmod b) (some (.int (a.fmod b))) (by left);refine⟨g,r',?_,by rw[hg,Cu]⟩;rw[zV,o6]at e ⊢;rw[<- e];exact mS (by simp[hb])
theorem kW(Φ:bg):b9 (mk Φ 2 3 di):=by
 intro a b;obtain⟨g,r',e,hg⟩:=GG Φ b.natAbs a b none (aam _);have e1:(g.natAbs:Int)=(Int.gcd a b:Int):=by left
 simp[mk_eq,di,e,e1]
def mL(m:aI):Prop:=∀t b:Int,b≠0->b.natAbs<2 ^ 9000->m [.int t,.int b]=ok (qD (Rat.divInt t b))
theorem xQ{t b:Int}(hb:b≠0)(h:b.natAbs<2 ^ 9000)(x:Int):b0 .fdiv (.int x) (.int (gk t b))=ok (.int (x.fdiv (gk t b))) :=
 jY (fV (jT hb) (aaz (Gm hb) h))
noncomputable def bM:D->Bool
 |.tup [.int a,.int b]=>decide (1<=b)&&decide (Int.gcd a b=1)
 |_=>false
theorem xK(q:Rat):bM (qD q)=true:=by
 have h1:=Hk q;have h2:Int.gcd q.num q.den=1:=by
  have:=q.reduced;simpa [Int.gcd]using this
 simp[qD,bM,h1,h2]
theorem nX{d:D}(h:bM d=true):∃q,d=qD q:=by
 unfold bM at h;split at h
 ·rename_i a b;simp only[Bool.and_eq_true,decide_eq_true_eq]at h;obtain⟨n,rfl⟩:∃n:Nat,b=(n:Int):=⟨b.toNat,by left⟩
  have hc:a.natAbs.Coprime n:=by
   have:Nat.gcd a.natAbs n=1:=by simpa [Int.gcd]using h.2
   exact this
  exact⟨⟨a,n,by left,hc⟩,rfl⟩
 ·cases h
def eV(m:aI):Prop:=∀d,m [d]=ok (.bl (bM d))
noncomputable def b7:ao:=[.ifs (.or [(.not (.si (.v 0) .tuple)),(.cmp .ne (.bf .len [(.v 0)]) (.int 2))]) [.ret (.bl false)] [],.ifs (.or [(.not (.call 0 [(.ix (.v 0) (.int 0))])),(.not (.call 0 [(.ix (.v 0) (.int 1))]))]) [.ret (.bl false)] [],.ret (.and [(.cmp .ge (.ix (.v 0) (.int 1)) (.int 1)),(.cmp .eq (.call 1 [(.ix (.v 0) (.int 0)),(.ix (.v 0) (.int 1))]) (.int 1))])]
theorem lA(g:Fl->Fl)(d:D):dE (aw g d)=dE d:=by simp[dE]
theorem jJ{d:D}(h:dE d=true):∃i,d=.int i:=by
 cases d<;>simp[dE,cW]at h ⊢
theorem pV{x y:D}(h:dE x=false\/dE y=false):bM (.tup [x,y])=false:=by
 cases x<;>cases y<;>simp[dE,cW]at h<;>rfl
theorem y6(h:ds.length≠2):bM (.tup ds)=false:=by
 unfold bM;split
 ·rename_i e;cases e;simp at h
 ·rfl
theorem oS(Φ:bg)(h0:eM (Φ 0))(h1:b9 (Φ 1)):eV (mk Φ 1 1 b7):=by
 intro d;unfold eM at h0;unfold b9 at h1;cases d with
 |tup ds =>
  by_cases hl:ds.length=2
  ·match ds,hl with
   |[x,y],_ =>
    by_cases hx:dE x=true
    ·by_cases hy:dE y=true
     ·obtain⟨a,rfl⟩:=jJ hx;obtain⟨b,rfl⟩:=jJ hy;simp[mk_eq,b7,h0,h1,hx,hy,cW,bM];by_cases hg:a.gcd b=1
      ·simp[hg]
      ·simp[hg];left
     ·simp[mk_eq,b7,h0,hx,hy,cW,lA,pV (.inr (by simpa using hy))]
    ·simp[mk_eq,b7,h0,hx,cW,lA,pV (.inl (by simpa using hx))]
  ·have oG:¬ (ds.length:Int)=2:=by left
   simp[mk_eq,b7,cW,oG,y6 hl]
 |_=>simp[mk_eq,b7,cW,bM]
section
variable (Φ:bg){f:Nat}(h2:mL (Φ f))
end
theorem uv{bind:D->O aZ}{test:aZ->O Bool}{el:aZ->O D}{g:D->D}(h:∀x∈xs,∃ρ,bind x=ok ρ/\test ρ=ok true/\el ρ=ok (g x)):iD bind test el xs=ok (xs.map g):=by
 have:=cL (bind:=bind) (test:=test) (el:=el) (e:=λd=>d) (g:=g) (xs:=xs) h
 rwa [List.map_id']at this
theorem eI(g:Fl->Fl)(d:D):bM (aw g d)=bM d:=by
 cases d with
 |tup ds =>
  match ds with
  |[]=>simp
  |[_]=>simp[bM]
  |[x,y]=>cases x<;>cases y<;>simp[bM]
  |_::_::_::_=>simp[bM]
 |_=>simp[bM]
def l_(d:D)(n:Int):Bool:=match d with
 |.lst _ ds=>decide ((ds.length:Int)=n)&&ds.all bM
 |_=>false
def jX(d:D):Prop:=match d with
 |.lst _ ds=>ds.length<=1000000
 |.tup ds=>ds.length<64
 |_=>True
def me(m:aI):Prop:=∀d n,jX d->m [d,.int n]=ok (.bl (l_ d n))
noncomputable def cw:ao:=[.ifs (.or [(.not (.si (.v 0) .list)),(.cmp .ne (.bf .len [(.v 0)]) (.v 1))]) [.ret (.bl false)] [],.ret (.bf .all1 [(.comp 1 (.nm 0) [] .seq [(.v 0)] [] (.call 3 [(.v 0)]))])]
theorem lU(Φ:bg)(h3:eV (Φ 3)):me (mk Φ 2 2 cw):=by
 intro d n hc;unfold eV at h3;cases d with
 |lst f ds =>
  by_cases hn:(ds.length:Int)=n
  ·have pO:bj Φ (.comp 1 (.nm 0) [] .seq [(.v 0)] [] (.call 3 [(.v 0)])) [some (.lst f ds),some (.int n)]=ok (.lst .ow (kL (ds.map bM))):=by
    rw[eJ (xs:=[.lst (aN f) (ah aN ds)]) (by simp) (eT ..) (uv (g:=λd=>.bl (bM d)) λx _=>⟨[some x],by simp[cF],by simp,by simp[h3,eI]⟩) (by simp;exact dD hc)];simp[aP,Function.comp_def,eI,kL]
   simp[mk_eq,cw,cW,hn,pO,l_]
  ·simp[mk_eq,cw,cW,hn,l_]
 |_=>simp[mk_eq,cw,cW,l_]
noncomputable def jO(qs:aU):Nat:=qs.foldl (λb q=>Nat.lcm b q.den) 1
theorem BA(b:Nat)(q:Rat):(b:Int).fdiv (Int.gcd b q.den)*q.den=(Nat.lcm b q.den:Nat):=by
 have hg:0<Nat.gcd b q.den:=Nat.gcd_pos_of_pos_right _ q.den_pos;have e:Int.gcd (b:Int) (q.den:Int)=Nat.gcd b q.den:=by simp[Int.gcd]
 rw[e,Int.fdiv_eq_ediv_of_nonneg _ (by left)];have:((b:Int) / (Nat.gcd b q.den:Nat))=((b / Nat.gcd b q.den:Nat):Int):=(Int.natCast_ediv ..).symm;rw[this,Nat.lcm];have hd:Nat.gcd b q.den∣b:=Nat.gcd_dvd_left ..;rw[Nat.mul_comm b,Nat.mul_div_assoc _ hd,Nat.mul_comm];exact(Int.natCast_mul ..).symm
theorem lcm_pos{b:Nat}(hb:0<b)(q:Rat):0<Nat.lcm b q.den:=Nat.lcm_pos hb q.den_pos
theorem xo:∀(qs:aU) (b k j:Nat),0<b->b<2 ^ j->(∀q∈qs,Sm k q)->0<qs.foldl (λb q=>Nat.lcm b q.den) b/\qs.foldl (λb q=>Nat.lcm b q.den) b<2 ^ (j+k*qs.length)/\b∣qs.foldl (λb q=>Nat.lcm b q.den) b/\∀q∈qs,q.den∣qs.foldl (λb q=>Nat.lcm b q.den) b
 |[],b,k,j,h0,h1,_=>⟨h0,by simpa using h1,Nat.dvd_refl _,λq hq=>nomatch hq⟩
 |q::qs,b,k,j,h0,h1,hs=>by
  have hq:=hs q aai;have h2:Nat.lcm b q.den<2 ^ (j+k):=aaz (Nat.lcm_le_mul h0 q.den_pos) (b6 h1 hq.2);obtain⟨g1,g2,g3,g4⟩:=xo qs (Nat.lcm b q.den) k (j+k) (lcm_pos h0 q) h2 λp hp=>hs p (aal _ hp);have e:j+k*(q::qs).length=j+k+k*qs.length:=by rw[List.length_cons,Nat.mul_succ];left
  refine⟨g1,by rw[e];exact g2,Nat.dvd_trans (Nat.dvd_lcm_left ..) g3,λp hp=>?_⟩;rcases List.mem_cons.mp hp with rfl|hp
  ·exact Nat.dvd_trans (Nat.dvd_lcm_right ..) g3
  ·exact g4 p hp
structure zM(k:Nat)(qs:aU):Prop where
 sm:∀q∈qs,Sm k q
 vS:k*qs.length<=3000
 len:qs.length<=1000
variable {qs:aU}
theorem zM.lcm{k:Nat}(h:zM k qs):0<jO qs/\jO qs<2 ^ (1+k*qs.length)/\∀q∈qs,q.den∣jO qs:=by
 obtain⟨g1,g2,_,g4⟩:=xo qs 1 k 1 (by decide) (by decide) h.sm;exact⟨g1,g2,g4⟩
theorem Bx{n j:Nat}(h:n<2 ^ j)(hj:j<=9000):n<2 ^ 9000:=aap h (aaI (by decide) hj)
def iF(m:aI):Prop:=∀f qs k,zM k qs->m [.lst f (bD qs)]=ok (.int (jO qs))
noncomputable def cm:ao:=[.asg (.nm 1) (.bin .mul (.bin .fdiv (.v 1) (.call 1 [(.v 1),(.ix (.v 2) (.int 1))])) (.ix (.v 2) (.int 1)))]
def cM:ao:=[.asg (.nm 1) (.int 1),.fr (.nm 2) (.seq (.v 0)) cm,.ret (.v 1)]
theorem xV(Φ:bg)(h1:b9 (Φ 1))(x:aO):∀(qs:aU) (b k j:Nat) (z:aO),0<b->b<2 ^ j->j+k*qs.length<=8000->(∀q∈qs,Sm k q) ->
  ∃z',fm (λd ρ=>cK (.nm 2) d ρ) (λρ=>bF Φ cm ρ) (bD qs) [x,some (.int b),z]=ok (.nx,[x,some (.int (qs.foldl (λb q=>Nat.lcm b q.den) b:Nat)),z'])
 |[],b,k,j,z,_,_,_,_=>⟨z,rfl⟩
 |q::qs,b,k,j,z,h0,hb,hj,hs=>by
  have hq:=hs q aai;have h2:Nat.lcm b q.den<2 ^ (j+k):=aaz (Nat.lcm_le_mul h0 q.den_pos) (b6 hb hq.2);have e:j+k*(q::qs).length=j+k+k*qs.length:=by rw[List.length_cons,Nat.mul_succ];left
  obtain⟨z',ih⟩:=xV Φ h1 x qs (Nat.lcm b q.den) k (j+k) (some (qD q)) (lcm_pos h0 q) h2 (by left) λp hp=>hs p (aal _ hp);have hg:0<Nat.gcd b q.den:=Nat.gcd_pos_of_pos_right _ q.den_pos;have eg:Int.gcd (b:Int) (q.den:Int)=Nat.gcd b q.den:=by simp[Int.gcd]
  have Vv:Nat.gcd b q.den<=b:=acj h0 (Nat.gcd_dvd_left ..);have Yq:b<2 ^ 9000:=Bx hb (by left);have d1:b0 .fdiv (.int b) (.int (Nat.gcd b q.den:Nat))=ok (.int ((b:Int).fdiv (Nat.gcd b q.den:Nat))):=jY (fV (by left) (by simpa using Nat.lt_of_le_of_lt Vv Yq));have hm:((b:Int).fdiv (Nat.gcd b q.den:Nat)).natAbs<=b:=by
   rw[Int.fdiv_eq_ediv_of_nonneg _ (by left),<- Int.natCast_ediv];simp;exact abW ..
  have d2:b0 .mul (.int ((b:Int).fdiv (Nat.gcd b q.den:Nat))) (.int q.den)=ok (.int (Nat.lcm b q.den:Nat)):=by
   have:=BA b q;rw[eg]at this;rw[qg (mulOk_of (Nat.lt_of_le_of_lt hm Yq) (hq.big (by
    rw[e]at hj;have:k<=j+k+k*qs.length:=by left
    left)).2),this]
  unfold b9 at h1;refine⟨z',lb (ρ1:=[x,some (.int b),some (qD q)]) (by simp) (ρ2:=[x,some (.int (Nat.lcm b q.den:Nat)),some (qD q)]) ?_ ih⟩;simp[cm,h1,d1,d2]
theorem lT(Φ:bg)(h1:b9 (Φ 1)):iF (mk Φ 1 3 cM):=by
 intro f qs k hs;have hit:fQ Φ (.seq (.v 0)) [some (.lst f (bD qs)),some (.int 1),none]=ok (bD qs,if (bX (aN f)||false)then[some (.lst (aA f) (bD qs)),some (.int 1),none]else[some (.lst f (bD qs)),some (.int 1),none]):=by
  rw[OZ (f:=aN f) (ds:=bD qs) (by simp)];simp[show jr (.v 0)=[0] from rfl]
 have hk:=hs.vS;have hx:∀x:aO,∃z',fm (λd ρ=>cK (.nm 2) d ρ) (λρ=>bF Φ cm ρ) (bD qs) [x,some (.int (1:Nat)),none]=ok (.nx,[x,some (.int (jO qs)),z']):=λx=>xV Φ h1 x qs 1 k 1 none (by decide) (by decide) (by left) hs.sm;cases hf:(bX (aN f)||false)with
 |true =>
  rw[hf]at hit;obtain⟨z',e⟩:=hx (some (.lst (aA f) (bD qs)));have:=mP (t:=.nm 2) (b:=cm) hit e;simp[mk_eq,cM,this]
 |false =>
  rw[hf]at hit;obtain⟨z',e⟩:=hx (some (.lst f (bD qs)));have:=mP (t:=.nm 2) (b:=cm) hit e;simp[mk_eq,cM,this]
noncomputable def fM(b:Nat)(q:Rat):Int:=q.num*(b:Int).fdiv q.den
theorem wR(q:Rat):(q.num:Rat)=q*(q.den:Rat):=by
 have h:(q.den:Rat)≠0:=by
  have:=q.den_pos;intro z;have:((q.den:Int):Rat)=0:=by rw[Rat.intCast_natCast];exact z
  rw[Rat.intCast_eq_zero_iff]at this;left
 have e:q=(q.num:Rat) / (q.den:Rat):=by
  conv=>lhs;rw[<- gw q,Rat.divInt_eq_div,Rat.intCast_natCast]
 grind
theorem Aa{b:Nat}{q:Rat}(h:q.den∣b):((fM b q:Int):Rat)=q*(b:Rat):=by
 obtain⟨c,rfl⟩:=h;have hd:(q.den:Int)≠0:=lX q;unfold fM;rw[Int.natCast_mul,Int.mul_fdiv_cancel_left _ hd,Rat.intCast_mul,wR,Rat.natCast_mul,Rat.intCast_natCast];grind
theorem mU{b:Nat}:∀{qs:aU},(∀q∈qs,q.den∣b)->(((qs.map (fM b)).sum:Int):Rat)=qs.sum*(b:Rat)
 |[],_=>by simp
 |q::qs,h=>by
  rw[List.map_cons,List.sum_cons,List.sum_cons,Rat.intCast_add,Aa (h q List.mem_cons_self),mU λp hp=>h p (List.mem_cons_of_mem _ hp)];grind
def lM(m:aI):Prop:=∀f qs k (b:Nat),zM k qs->b<2 ^ 8000->m [.lst f (bD qs),.int b]=ok (.lst .ow (av (qs.map (fM b))))
noncomputable def gn:ao:=[.ret (.comp 1 (.nm 0) [1] .seq [(.v 0)] [] (.bin .mul (.ix (.v 0) (.int 0)) (.bin .fdiv (.v 1) (.ix (.v 0) (.int 1)))))]
theorem Ey{k:Nat}(h:zM k qs){q:Rat}(hq:q∈qs):Sm 3000 q:=by
 refine(h.sm q hq).mono ?_;have h1:=h.vS;have h2:0<qs.length:=List.length_pos_of_mem hq;have:k*1<=k*qs.length:=ab9 _ h2;left
theorem sW(Φ:bg):lM (mk Φ 2 2 gn):=by
 intro f qs k b hs hb;have pO:bj Φ (.comp 1 (.nm 0) [1] .seq [(.v 0)] [] (.bin .mul (.ix (.v 0) (.int 0)) (.bin .fdiv (.v 1) (.ix (.v 0) (.int 1))))) [some (.lst f (bD qs)),some (.int b)]=ok (.lst .ow (av (qs.map (fM b)))):=by
  rw[eJ (xs:=[.lst (aN f) (bD qs)]) (items:=bD qs) (ds:=qs.map λq=>.int (fM b q)) (by simp) (by rw[eT];simp) (cL λq hq=>?_) (by have:=hs.len;simp;exact dD (by left))]
  ·have:(qs.map λq=>D.int (fM b q))=av (qs.map (fM b)):=by simp[av]
   rw[this,cz]
  ·refine⟨[some (qD q),some (.int b)],by simp[cF],by simp,?_⟩;have h3:=Ey hs hq;obtain⟨g1,g2⟩:=h3.big (by decide);have d1:b0 .fdiv (.int b) (.int q.den)=ok (.int ((b:Int).fdiv q.den)):=jY (fV (lX q) g2);have d2:b0 .mul (.int q.num) (.int ((b:Int).fdiv q.den))=ok (.int (q.num*(b:Int).fdiv q.den)):=by
    refine qg (mulOk_of g1 ?_);rw[Int.fdiv_eq_ediv_of_nonneg _ (by left),<- Int.natCast_ediv];have:=abW b q.den;have h9:=Bx hb (by decide);rw[Int.natAbs_natCast];exact aaz this h9
   simp[d1,d2,fM]
 simp[mk_eq,gn,pO]
theorem zM.UG{k:Nat}(h:zM k qs):jO qs<2 ^ 8000:=aap h.lcm.2.1 (aaI (by decide) (by have:=h.vS;left))
noncomputable def bR(n:Int):D->Bool
 |.int i=>decide (0<=i)&&decide (i<n)
 |_=>false
theorem lF(g:Fl->Fl)(n:Int)(d:D):bR n (aw g d)=bR n d:=by
 cases d<;>simp[bR]
theorem fc{n:Int}:∀{ds:aa},ds.all (bR n)=true->∃ns:ae,ds=av ns
 |[],_=>⟨[],rfl⟩
 |d::ds,h=>by
  simp only[List.all_cons,Bool.and_eq_true]at h;obtain⟨ns,rfl⟩:=fc h.2;cases d with
  |int i=>exact⟨i::ns,rfl⟩
  |_=>simp[bR]at h
def numsOf(ds:aa):ae:=(intsOf ds).getD []
theorem dH(ns:ae):numsOf (av ns)=ns:=by unfold numsOf av;rw[b_];rfl
def bu(d:D)(n:Int):Bool:=match d with
 |.tup ds=>ds.all (bR n)&&decide ((oY (numsOf ds)).length=ds.length)
 |_=>false
def iS(d:D)(n:Int):Bool:=bu d n&&(match d with
 |.tup ds=>decide (numsOf ds=sortI (numsOf ds))
 |_=>false)
def ip(m:aI):Prop:=∀d n,jX d->m [d,.int n]=ok (.bl (bu d n))
noncomputable def dj:ao:=[.ifs (.not (.si (.v 0) .tuple)) [.ret (.bl false)] [],.ifs (.not (.bf .all1 [(.comp 1 (.nm 0) [1] .seq [(.v 0)] [] (.and [(.call 0 [(.v 0)]),(.cmp .ge (.v 0) (.int 0)),(.cmp .lt (.v 0) (.v 1))]))])) [.ret (.bl false)] [],.ret (.cmp .eq (.kv (.v 0)) (.bf .len [(.v 0)]))]
theorem qx(Φ:bg)(h0:eM (Φ 0)):ip (mk Φ 2 2 dj):=by
 intro d n hc;unfold eM at h0;cases d with
 |tup ds =>
  have hl:ds.length<64:=hc;have pO:bj Φ (.comp 1 (.nm 0) [1] .seq [(.v 0)] [] (.and [(.call 0 [(.v 0)]),(.cmp .ge (.v 0) (.int 0)),(.cmp .lt (.v 0) (.v 1))])) [some (.tup ds),some (.int n)]=ok (.lst .ow (kL (ds.map (bR n)))):=by
   rw[eJ (xs:=[.tup (ah aN ds)]) (by simp) (xw ..) (uv (g:=λd=>.bl (bR n d)) λx _=>⟨[some x,some (.int n)],by simp[cF],by simp,?_⟩) (by simp;exact dD (by left))]
   ·simp[aP,Function.comp_def,lF,kL]
   ·cases x with
    |int i =>
     simp[h0,dE,cW,bR]
    |_=>simp[h0,dE,cW,bR]
  cases ha:ds.all (bR n)with
  |true =>
   obtain⟨ns,rfl⟩:=fc ha;have oG:ns.length<4000:=by simp at hl;left
   have e:(List.all (List.map (bR n) (av ns)) id)=true:=by rw[List.all_map];exact ha
   simp[mk_eq,dj,cW,pO,e,LF oG,bu,ha,dH];simp[Int.natCast_inj]
  |false =>
   have e:(List.all (List.map (bR n) ds) id)=false:=by rw[List.all_map];exact ha
   simp only[mk_eq,dj,List.length_cons,List.length_nil];simp[cW,pO,e,bu,ha]
 |_=>simp[mk_eq,dj,cW,bu]
def uL(m:aI):Prop:=∀d n,jX d->m [d,.int n]=ok (.bl (iS d n))
noncomputable def gW:ao:=[.ret (.and [(.call 43 [(.v 0),(.v 1)]),(.cmp .eq (.bf .list1 [(.v 0)]) (.bf .hJ [(.v 0)]))])]
theorem tF(n:Nat)(f:Fl)(ns:ae):fi (n+1) (.lst f (av ns))=true:=Fg (kr n) ns
theorem y_(ns ms:ae):dQ (av ns) (av ms)=decide (ns=ms):=uh (λx y=>Gh x y) ns ms
theorem dX(g:Fl->Fl)(d:D)(n:Int):bu (aw g d) n=bu d n:=by
 cases d with
 |tup ds =>
  cases h:ds.all (bR n)with
  |true =>
   obtain⟨ns,rfl⟩:=fc h;simp
  |false =>
   have h2:(ah g ds).all (bR n)=false:=by
    rw[aP,List.all_map,show(bR n∘aw g)=bR n from funext λd=>lF g n d];exact h
   simp[bu,h,h2]
 |_=>simp[bu]
theorem dh{g:Fl->Fl}{d:D}(h:jX d):jX (aw g d):=by
 cases d<;>simp_all [jX]
theorem Az(Φ:bg)(VV:ip (Φ 43)):uL (mk Φ 2 2 gW):=by
 intro d n hc;have e1:=VV (aw aA (aw aN d)) n (dh (dh hc));rw[dX,dX]at e1;cases d with
 |tup ds =>
  have hl:ds.length<64:=hc;simp only[Bt]at e1;cases ha:bu (.tup ds) n with
  |true =>
   have Se:=ha;simp only[bu,Bool.and_eq_true]at Se;obtain⟨ns,rfl⟩:=fc Se.1;have oG:ns.length<64:=by simpa using hl
   have e2:ic .eq (.lst .ow (av ns)) (.lst .ow (av (sortI ns)))=ok (.bl (decide (ns=sortI ns))):=by
    rw[QR (tF 39 _ _) (tF 39 _ _),Gg,y_]
   rw[ha]at e1;simp at e1;simp[mk_eq,gW,e1,F8 oG,e2,iS,ha,dH]
  |false =>
   rw[ha]at e1;simp[mk_eq,gW,e1,iS,ha]
 |_=>(simp at e1;simp[mk_eq,gW,e1,iS,bu])
def uN(n:Nat)(l:ae):Prop:=l.Pairwise (· < ·)/\∀h∈l,0<=h/\h<(n:Int)
theorem rq:∀(l m:ae),(∀x∈l,x∉m)->l.Nodup->l.foldl (λ(m:ae) (k:Int)=>if m.any (· == k)then m else m++[k]) m=m++l
 |[],m,_,_=>by simp
 |x::l,m,h,hn=>by
  have hx:m.any (· == x)=false:=by
   rw[List.any_eq_false];intro y hy z;have:y=x:=by simpa using z
   exact h x aai (this▸hy)
  rw[List.foldl_cons,hx,if_neg Bool.false_ne_true,rq l (m++[x])]
  ·simp
  ·intro y hy z;rcases List.mem_append.mp z with z|z
   ·exact h y (aal _ hy) z
   ·have:y=x:=by simpa using z
    subst this;exact(List.nodup_cons.mp hn).1 hy
  ·exact(List.nodup_cons.mp hn).2
theorem uN.nodup{n:Nat}{l:ae}(h:uN n l):l.Nodup:=h.1.imp λz=>by left
theorem Ap{l:ae}(h:l.Pairwise (· < ·)):sortI l=l:=by
 unfold sortI;apply List.mergeSort_of_pairwise;exact h.imp λz=>by simp;left
theorem uN.iS{n:Nat}{l:ae}(h:uN n l):iS (.tup (av l)) n=true:=by
 have h1:(av l).all (bR n)=true:=by
  unfold av;rw[List.all_map,List.all_eq_true];intro x hx;have:=h.2 x hx;simp[bR,this.1,this.2]
 have h2:oY l=l:=by
  have:=rq l [] (by simp) h.nodup;rw[List.nil_append]at this;exact this
 simp[DI.iS,bu,h1,dH,h2,Ap h.1]
def r6(c:Nat)(p:D->Int->Bool)(m:aI):Prop:=∀d n,jX d->m [d,.int n]=if p d n then ok .bB else some (.error c)
noncomputable def gp(f c:Nat):ao:=[.ifs (.not (.call f [(.v 0),(.v 1)])) [.rs c] []]
theorem qi(g:Fl->Fl)(d:D)(n:Int):l_ (aw g d) n=l_ d n:=by
 cases d<;>simp[l_];rw[aP,List.all_map,show(bM∘aw g)=bM from funext λd=>eI g d]
theorem EH(Φ:bg){f c:Nat}{p:D->Int->Bool}(hp:∀g d n,p (aw g d) n=p d n)(h:∀d n,jX d->Φ f [d,.int n]=ok (.bl (p d n))):r6 c p (mk Φ 2 2 (gp f c)):=by
 intro d n hc;have e1:=h (aw aA (aw aN d)) n (dh (dh hc));rw[hp,hp]at e1;cases hd:p d n with
 |true=>rw[hd]at e1;simp[mk_eq,gp,e1]
 |false=>rw[hd]at e1;simp[mk_eq,gp,e1]
noncomputable def d9(ns:ae)(k:Int):Int :=
 let c:=if k<ns.length then ns.getD k.toNat 0 else 0
 if (10:Int) ^ 18<=c then(c - 10 ^ 18).fmod (10 ^ 60)else
  let n:=(c*48271+k*69621+11).fmod 2147483629
  let n:=(n*n).fmod 2147483587
  n*2147483563+(n*n).fmod 2147483563
def r9(m:aI):Prop:=∀(ns:ae) (k:Int),0<=k->m [.lst .sc (av ns),.int k]=ok (.int (d9 ns k))
noncomputable def fq:ao:=[.asg (.nm 2) (.int 0),.ifs (.cmp .lt (.v 1) (.bf .len [(.v 0)])) [.asg (.nm 2) (.ix (.v 0) (.v 1))] [],.ifs (.cmp .ge (.v 2) (.bin .pow (.int 10) (.int 18))) [.ret (.bin .mod (.bin .sub (.v 2) (.bin .pow (.int 10) (.int 18))) (.bin .pow (.int 10) (.int 60)))] [],.asg (.nm 3) (.bin .mod (.bin .add (.bin .add (.bin .mul (.v 2) (.int 48271)) (.bin .mul (.v 1) (.int 69621))) (.int 11)) (.int 2147483629)),.asg (.nm 3) (.bin .mod (.bin .mul (.v 3) (.v 3)) (.int 2147483587)),.ret (.bin .add (.bin .mul (.v 3) (.int 2147483563)) (.bin .mod (.bin .mul (.v 3) (.v 3)) (.int 2147483563)))]
theorem dZ(a:Int){b:Int}(h:0<b):0<=a.fmod b/\a.fmod b<b:=⟨abE a h,acg a h⟩
theorem zi(Φ:bg)(x:D)(k c:Int)(hx:cW .list x=true)(o:aO):lj (bF Φ (fq.drop 2) [some x,some (.int k),some (.int c),o])=ok (.int (if (10:Int) ^ 18<=c then(c - 10 ^ 18).fmod (10 ^ 60)else
  let n:=(c*48271+k*69621+11).fmod 2147483629
  let n:=(n*n).fmod 2147483587
  n*2147483563+(n*n).fmod 2147483563)):=by
 have p1:b0 .pow (.int 10) (.int 18)=ok (.int (10 ^ 18)):=Iq (by decide);have p2:b0 .pow (.int 10) (.int 60)=ok (.int (10 ^ 60)):=Iq (by decide);by_cases h:(10:Int) ^ 18<=c
 ·have h':(1000000000000000000:Int)<=c:=h;simp[fq,p1,p2,h']
 ·have h':¬ (1000000000000000000:Int)<=c:=h;obtain⟨a1,a2⟩:=dZ (c*48271+k*69621+11) (b:=2147483629) (by decide);generalize hn:(c*48271+k*69621+11).fmod 2147483629=n at *;obtain⟨a3,a4⟩:=dZ (n*n) (b:=2147483587) (by decide);have m1:b0 .mul (.int n) (.int n)=ok (.int (n*n)):=qg (qP _ (by left));generalize hm:(n*n).fmod 2147483587=m at *;have m2:b0 .mul (.int m) (.int m)=ok (.int (m*m)):=qg (qP _ (by left));simp[fq,p1,h',hn,m1,hm,m2]
theorem JB(Φ:bg):r9 (mk Φ 2 4 fq):=by
 intro ns k hk;have:=λc=>zi Φ (.lst .sc (av ns)) k c rfl none;by_cases h:k<ns.length
 ·have hg:uG (av ns) k=ok (.int (ns.getD k.toNat 0)):=by
   have hl:k.toNat<ns.length:=by left
   rw[at_of hk (d:=.int (ns.getD k.toNat 0)) (by rw[yS,List.getElem?_eq_getElem hl,Option.map_some,List.getD_eq_getElem?_getD,List.getElem?_eq_getElem hl];rfl)];simp
  have e:lj (bF Φ fq ([some (D.lst Fl.sc (av ns)),some (D.int k)]++[none,none]))=lj (bF Φ (fq.drop 2) [some (.lst .sc (av ns)),some (.int k),some (.int (ns.getD k.toNat 0)),none]):=by
   rw[fq,bE,j_];simp only[HP,i9,cU,nM];simp only[List.cons_append,List.nil_append,x_,List.length_cons,List.length_nil,Nat.reduceAdd,Nat.reduceLT,bI,List.set_cons_succ,List.set_cons_zero];rw[bE,yh];simp[h,hg]
  rw[mk_eq (ar:=2) (ds:=[_,_]) rfl];refine(show _=_ from e).trans ?_;rw[this,d9,if_pos h]
 ·have e:lj (bF Φ fq ([some (D.lst Fl.sc (av ns)),some (D.int k)]++[none,none]))=lj (bF Φ (fq.drop 2) [some (.lst .sc (av ns)),some (.int k),some (.int 0),none]):=by
   rw[fq,bE,j_];simp only[HP,i9,cU,nM];simp only[List.cons_append,List.nil_append,x_,List.length_cons,List.length_nil,Nat.reduceAdd,Nat.reduceLT,bI,List.set_cons_succ,List.set_cons_zero];rw[bE,yh];simp[h]
  rw[mk_eq (ar:=2) (ds:=[_,_]) rfl];refine(show _=_ from e).trans ?_;rw[this,d9,if_neg h]
noncomputable def kc:CS:=.G7 (.cmp .gt (.v 3) (.int 0)) [.par 2 3 (.v 3) (.bin .mod (.v 2) (.v 3))]
def kN:ao:=[.asg (.nm 2) (.bf .abs [(.v 0)]),.asg (.nm 3) (.bf .abs [(.v 1)]),kc,.ifs (.cmp .lt (.v 1) (.int 0)) [.asg (.nm 2) (.bin .sub (.int 0) (.v 2))] [],.ret (.tup [(.bin .fdiv (.v 0) (.v 2)),(.bin .fdiv (.v 1) (.v 2))])]
theorem vz(Φ:bg)(x y:aO):∀(n:Nat) (a b:Nat),b<=n->i0 Φ kc [x,y,some (.int a),some (.int b)]=ok (.nx,[x,y,some (.int (Nat.gcd a b)),some (.int 0)]):=by
 intro n;induction n with
 |zero =>
  intro a b h;have hb:b=0:=by left
  subst hb;rw[kc,o6];exact gY (by simp)
 |succ n ih =>
  intro a b h;by_cases hb:b=0
  ·subst hb;rw[kc,o6];exact gY (by simp)
  ·have gX:=Nat.mod_lt a (show 0<b by left);have e:=ih b (a % b) (by left);have eg:Nat.gcd b (a % b)=Nat.gcd a b:=by rw[Nat.gcd_comm a b,Nat.gcd_rec b a,Nat.gcd_comm]
   rw[eg]at e;rw[kc,o6]at e ⊢;rw[<- e];have uS:0<b:=by left
   have em:((a:Int)).fmod (b:Int)=((a % b:Nat):Int):=by
    rw[Int.fmod_eq_emod_of_nonneg _ (by left)];exact(Int.natCast_emod a b).symm
   have ep:i0 Φ (.par 2 3 (.v 3) (.bin .mod (.v 2) (.v 3))) [x,y,some (.int a),some (.int b)]=ok (.nx,[x,y,some (.int b),some (.int ((a % b:Nat):Int))]):=by
    rw[M4];simp[hb,em]
   exact mS (by simp[uS,ep])
theorem EF(Φ:bg):mL (mk Φ 2 4 kN):=by
 intro t b hb h;obtain⟨e1,e2⟩:=CD (t:=t) hb;have d1:=xQ (t:=t) hb h t;have d2:=xQ (t:=t) hb h b;have hl:=vz Φ (some (.int t)) (some (.int b)) b.natAbs t.natAbs b.natAbs (aam _);rw[qD,<- e1,<- e2];by_cases hn:b<0
 ·have ed:0 - (Nat.gcd t.natAbs b.natAbs:Int)=gk t b:=by simp[gk,hn,Int.gcd]
  have Wx:-(Nat.gcd t.natAbs b.natAbs:Int)=gk t b:=by simp[gk,hn,Int.gcd]
  simp[mk_eq,kN,hl,hn,Wx,d1,d2]
 ·have ed:(Nat.gcd t.natAbs b.natAbs:Int)=gk t b:=by simp[gk,hn,Int.gcd]
  simp[mk_eq,kN,hl,hn,ed,d1,d2]
noncomputable def Ds(qs:aU)(h:Int):Rat:=qs.getD h.toNat 0
theorem pG{q:Rat}(h:0<q):0<q.num:=by
 have:=(Rat.lt_iff 0 q).mp h;simpa using this
theorem uN.len{n:Nat}{l:ae}(h:uN n l):l.length<=n:=by
 have hn:(l.map Int.toNat).Nodup:=by
  unfold List.Nodup;rw[List.pairwise_map];refine h.1.imp_of_mem λha hb z e=>?_;have:=h.2 _ ha;have:=h.2 _ hb;left
 have hs:(l.map Int.toNat) ⊆ List.range n:=λx hx=>by
  obtain⟨y,hy,rfl⟩:=List.mem_map.mp hx;have:=h.2 y hy;rw[List.mem_range];left
 have:=hn.length_le_of_subset hs;simpa using this
theorem uN.ej{n:Nat}{l:ae}(h:uN n l)(hn:n<=12):jX (.tup (av l)):=by
 have:=h.len;show(av l).length<64;simp;left
noncomputable abbrev Row:=Rat×ae
abbrev aL:=List Row
def rD(r:Row):D:=.tup [qD r.1,.tup (av r.2)]
@[simp]theorem Bu(g:Fl->Fl)(r:Row):aw g (rD r)=rD r:=by unfold rD;simp
@[simp]theorem K2(g:Fl->Bool)(r:Row):bo g (rD r)=false:=by unfold rD;simp
noncomputable def br(rs:aL):aa:=rs.map rD
@[simp]theorem fF(rs:aL):(br rs).length=rs.length:=abV ..
@[simp]theorem cy(g:Fl->Fl)(rs:aL):ah g (br rs)=br rs:=eA g (Bu g) rs
@[simp]theorem Cb(g:Fl->Bool)(rs:aL):a_ g (br rs)=false:=eH g (K2 g) rs
def mG(n:Nat)(rs:aL):D:=.tup [.int n,.lst .fz (br rs)]
def W3(rs:aL):Prop:=∃W:Nat,0<W/\W<64/\∀r∈rs,r.1.den∣W
def Rw(n:Nat)(l:ae):Prop:=l.Nodup/\l.length<=n/\∀h∈l,0<=h/\h<(n:Int)
theorem uN.rw{n:Nat}{l:ae}(h:uN n l):Rw n l:=⟨h.nodup,h.len,h.2⟩
structure Dp(P:ae->Prop)(k n:Nat)(rs:aL):Prop where
 n1:1<=n
 n2:n<=12
 vS:k*(rs.length+1)<=66
 fin:k*(rs.length+1)<=60\/W3 rs
 len:rs.length<=1000
 iG:∀r∈rs,P r.2
 pos:∀r∈rs,0<r.1
 sm:∀r∈rs,Sm k r.1
 one:(rs.map (·.1)).sum=1
 rise:zu (rs.map (·.2))
abbrev Dr(k n:Nat)(rs:aL):Prop:=Dp (uN n) k n rs
theorem Dp.imp{P Q:ae->Prop}{k n:Nat}{rs:aL}(I:Dp P k n rs)(h:∀r∈rs,P r.2->Q r.2):Dp Q k n rs:=⟨I.n1,I.n2,I.vS,I.fin,I.len,λr hr=>h r hr (I.iG r hr),I.pos,I.sm,I.one,I.rise⟩
noncomputable def gg(rs:aL):aU:=rs.map (·.1)
section
variable {P:ae->Prop}{k n:Nat}{rs:aL}(I:Dp P k n rs)
include I
theorem Dp.Xj:zM k (gg rs):=⟨λq hq=>by
 obtain⟨r,hr,rfl⟩:=List.mem_map.mp hq;exact I.sm r hr,by
  have:=I.vS;have h:k*(gg rs).length<=k*(rs.length+1):=ab9 _ (by simp[gg]);left,by simp[gg];exact I.len⟩
omit I in
theorem tP{W:Nat}:∀(qs:aU) (b:Nat),b∣W->(∀q∈qs,q.den∣W)->qs.foldl (λb q=>Nat.lcm b q.den) b∣W
 |[],_,h,_=>h
 |q::qs,b,h,hq=>tP qs _ (Nat.lcm_dvd h (hq q aai)) λp hp=>hq p (aal _ hp)
theorem Dp.top{r:Row}(hr:r∈rs):(fM (jO (gg rs)) r.1).natAbs<2 ^ 64:=by
 obtain⟨a,b,c⟩:=I.Xj.lcm;have s:=I.sm r hr;unfold fM;rw[Int.natAbs_mul,Int.fdiv_eq_ediv_of_nonneg _ (by left),<- Int.natCast_ediv,Int.natAbs_natCast];have h4:(gg rs).length=rs.length:=by simp[gg]
 have h3:=I.vS;rcases I.fin with f|⟨W,w0,w1,w2⟩
 ·have h1:jO (gg rs) / r.1.den<2 ^ (1+k*(gg rs).length):=aaz (abW _ _) b;have h2:=b6 s.1 h1;refine aap h2 (aaI (by decide) ?_);rw[h4];rw[Nat.mul_succ]at f;left
 ·have:jO (gg rs)∣W:=tP _ 1 (Nat.one_dvd _) λq hq=>by
   obtain⟨r,hr,rfl⟩:=List.mem_map.mp hq;exact w2 r hr
  have h1:jO (gg rs) / r.1.den<2 ^ 6:=aaz (abW _ _) (aaz (acj w0 this) w1);have h2:=b6 s.1 h1;refine aap h2 (aaI (by decide) ?_);have hl:1<=rs.length:=List.length_pos_of_mem hr;have:k*2<=k*(rs.length+1):=ab9 _ (by left);left
end
noncomputable def fg:ao:=[.ifs (.or [(.not (.si (.v 0) .tuple)),(.cmp .ne (.bf .len [(.v 0)]) (.int 2))]) [.ret (.bl false)] [],.ifs (.not (.call 43 [(.ix (.v 0) (.int 1)),(.v 1)])) [.ret (.bl false)] [],.ret (.and [(.call 3 [(.ix (.v 0) (.int 0))]),(.cmp .gt (.ix (.ix (.v 0) (.int 0)) (.int 0)) (.int 0))])]
theorem Rw.houses{n:Nat}{l:ae}(h:Rw n l):bu (.tup (av l)) n=true:=by
 have h1:(av l).all (bR n)=true:=by
  unfold av;rw[List.all_map,List.all_eq_true];intro x hx;have:=h.2.2 x hx;simp[bR,this.1,this.2]
 have h2:oY l=l:=by
  have:=rq l [] (by simp) h.1;rw[List.nil_append]at this;exact this
 simp[bu,h1,dH,h2]
theorem Rw.ej{n:Nat}{l:ae}(h:Rw n l)(hn:n<=12):jX (.tup (av l)):=by
 have:=h.2.1;show(av l).length<64;simp;left
noncomputable def yn:ao:=[.ifs (.cg 1022 [(.ix (.v 1) (.int 1)),(.ix (.v 2) (.int 1))]) [.ret (.bl false)] []]
def ff:ao:=[.fr (.tp [1,2]) (.JQ 1000 [(.v 0),(.cg 1020 [(.v 0),(.int 1)])]) yn,.ret (.bl true)]
def nC(rs:aL):aa:=rs.map λr=>.tup (av r.2)
@[simp]theorem nA(g:Fl->Fl)(rs:aL):ah g (nC rs)=nC rs:=eA g (λr=>by simp) rs
@[simp]theorem KZ(g:Fl->Bool)(rs:aL):a_ g (nC rs)=false:=eH g (λr=>by simp) rs
def D9(b:Nat)(rs:aL):aa:=rs.map λr=>.tup [.int (fM b r.1),.tup (av r.2)]
@[simp]theorem OB(g:Fl->Fl)(b:Nat)(rs:aL):ah g (D9 b rs)=D9 b rs:=eA g (λr=>by simp) rs
@[simp]theorem PY(g:Fl->Bool)(b:Nat)(rs:aL):a_ g (D9 b rs)=false:=eH g (λr=>by simp) rs
noncomputable def Gk:CE:=.comp 2 (.tp [0,1]) [] .seq [(.v 0)] [] (.v 0)
noncomputable def Gi:CE:=.comp 2 (.tp [0,1]) [] .seq [(.v 0)] [] (.v 1)
theorem QP(Φ:bg){rs:aL}(h:rs.length<=1000)(r:aZ):bj Φ Gk (some (.lst .fz (br rs))::r)=ok (.lst .ow (bD (gg rs))):=by
 unfold Gk;rw[eJ (xs:=[.lst .fz (br rs)]) (items:=br rs) (ds:=rs.map λr=>qD r.1) (by simp) (by rw[eT];simp) (cL λr hr=>?_) (by simp;exact dD (by left))]
 ·simp[bD,gg,aP]
 ·exact⟨[some (qD r.1),some (.tup (av r.2))],by simp[cF,rD],by simp,by simp⟩
theorem OK(Φ:bg){rs:aL}(h:rs.length<=1000)(r:aZ):bj Φ Gi (some (.lst .fz (br rs))::r)=ok (.lst .ow (nC rs)):=by
 unfold Gi;rw[eJ (xs:=[.lst .fz (br rs)]) (items:=br rs) (ds:=rs.map λr=>.tup (av r.2)) (by simp) (by rw[eT];simp) (cL λr hr=>?_) (by simp;exact dD (by left))]
 ·exact aaW (λx=>ok (D.lst .ow x)) (nA dY rs)
 ·exact⟨[some (qD r.1),some (.tup (av r.2))],by simp[cF,rD],by simp,by simp⟩
def qj(m:aI):Prop:=∀(rs:aL) k,zM k (gg rs)->m [.lst .fz (br rs)]=ok (.tup [.int (jO (gg rs)),.lst .ow (D9 (jO (gg rs)) rs)])
def js:ao:=[.asg (.nm 1) Gk,.asg (.nm 2) Gi,.asg (.nm 3) (.call 9 [(.v 1)]),.ret (.tup [(.v 3),(.cg 1040 [(.call 10 [(.v 1),(.v 3)]),(.v 2)])])]
theorem yx(Φ:bg)(h9:iF (Φ 9))(Qh:lM (Φ 10))(Qe:Φ 1040=OI):qj (mk Φ 1 4 js):=by
 intro rs k hs;have hl:rs.length<=1000:=by have:=hs.len;simpa [gg]using this
 have e1:=QP Φ hl;have e2:=OK Φ hl;have e3:=λf=>h9 f (gg rs) k hs;have e4:=λf=>Qh f (gg rs) k (jO (gg rs)) hs hs.UG;generalize jO (gg rs)=b at *;have e5:Φ 1040 [.lst .ow (av ((gg rs).map (fM b))),.lst .al (nC rs)]=ok (.lst .ow (D9 b rs)):=by
  rw[Qe];show ok (D.lst .ow (ah aN (List.zipWith pairD (av ((gg rs).map (fM b))) (nC rs))))=_;rw[gj,cz,nA];unfold gg av nC D9;rw[List.map_map,List.map_map,List.zipWith_map,List.zipWith_self];rfl
 simp[mk_eq,js,Mv Φ Gk _ rfl,Mv Φ Gi _ rfl,e1,e2,e3,e4,e5]
noncomputable def LN:CE:=.comp 2 (.tp [0,1]) [] .seq [(.ix (.v 1) (.int 1))] [] (.v 0)
def eU:ao:=[.asg (.nm 1) (.call 14 [(.v 0)]),.ret (.cmp .eq (.bf .sI [LN]) (.ix (.v 1) (.int 0)))]
theorem z9{b:Nat}(h:∀q∈qs,q.den∣b)(h1:qs.sum=1):(qs.map (fM b)).sum=(b:Int):=by
 have:=mU h;rw[h1,Rat.one_mul,<- Rat.intCast_natCast]at this;exact Rat.intCast_inj.mp this
noncomputable def kh:ao:=[.ifs (.not (.call 12 [(.v 3),(.v 1)])) [.ret (.bl false)] []]
def cc:ao:=[.ifs (.or [(.not (.si (.v 0) .tuple)),(.cmp .ne (.bf .len [(.v 0)]) (.int 2))]) [.ret (.bl false)] [],.asg (.nm 1) (.ix (.v 0) (.int 0)),.asg (.nm 2) (.ix (.v 0) (.int 1)),.ifs (.or [(.not (.call 0 [(.v 1)])),(.cmp .lt (.v 1) (.int 1)),(.cmp .gt (.v 1) (.glo "MOST_HOUSES" 12))]) [.ret (.bl false)] [],.ifs (.not (.si (.v 2) .list)) [.ret (.bl false)] [],.fr (.nm 3) (.seq (.v 2)) kh,.ret (.and [(.call 44 [(.v 2)]),(.call 15 [(.v 2)])])]
noncomputable def vW:CE:=.comp 2 (.tp [0,1]) [0] .seq [(.ix (.v 0) (.int 1))] [] (.call 11 [(.v 1),(.ix (.v 2) (.int 0))])
def eh:ao:=[.ret (.and [(.call 45 [(.v 0)]),(.bf .all1 [vW])])]
noncomputable def bH:ao:=[.ifs (.not (.call 16 [(.v 0)])) [.rs 1] []]
theorem sP{t b:Int}{k:Nat}(h0:b≠0)(h1:t.natAbs<2 ^ k)(h2:b.natAbs<2 ^ k):Sm k (Rat.divInt t b):=yt h0 h1 h2
theorem fW{t b:Int}(ht:0<t)(hb:0<b):0<Rat.divInt t b:=by
 rw[Rat.divInt_eq_div];have h1:(0:Rat)<(t:Rat):=by
  have:=abF (a:=0) (b:=t);simpa using this.mpr ht
 have h2:(0:Rat)<(b:Rat):=by
  have:=abF (a:=0) (b:=b);simpa using this.mpr hb
 rw[Rat.div_def];exact Rat.mul_pos h1 (Rat.inv_pos.mpr h2)
theorem Sm.neg{k:Nat}{q:Rat}(h:Sm k q):Sm k (-q):=⟨by simpa using h.1,h.2⟩
theorem Sm.zero(k:Nat)(h:1<=k):Sm k 0:=by
 have:Sm 1 (0:Rat):=by constructor<;>decide
 exact this.mono h
theorem Sm.sum{k:Nat}:∀{qs:aU},(∀q∈qs,Sm k q)->Sm (1+(k+1)*qs.length) qs.sum
 |[],_=>Sm.zero _ (by simp)
 |q::qs,h=>by
  have h1:=h q aai;have h2:=Sm.sum (qs:=qs) λp hp=>h p (aal _ hp);rw[List.sum_cons];refine(h1.add h2).mono ?_;rw[List.length_cons,Nat.mul_succ];left
noncomputable def Jg(l:ae)(f:Int->Rat):Rat:=(l.map f).sum
@[simp]theorem Nz(f:Int->Rat):Jg [] f=0:=rfl
def Ux(ws:aU)(iG:ae)(hs:aU)(t:Rat):Rat:=(t - Jg iG λh=>Ds ws h*Ds hs h) / (Jg iG λh=>Ds ws h*Ds hs h*Ds hs h)
theorem IH{p i:Nat}{es:az}{d d':D}(h1:bz Φ es ρ=ok xs)(h2:a_ bX xs=false)(h3:ρ[i]?=some (some d))(h4:Φ p (d::xs)=ok d'):i0 Φ (.mut p i es) ρ=ok (.nx,ρ.set i (some d')):=by
 show bd (bz Φ es ρ) (λxs=>vp Φ p i (nF es xs ρ))=_;rw[h1,dv];unfold nF;rw[h2,if_neg Bool.false_ne_true];unfold vp;rw[h3];show bd (Φ p (d::xs)) _=_;rw[h4];rfl
theorem pT(c:ae):∀(cs:aB) (ws:ae),du cs (av ws) c=(du cs ws c).map D.int
 |[],_=>by cases ‹ae› <;> rfl
 |_::_,[]=>rfl
 |c'::cs,w::ws=>by
  show(if c'=c then some (D.int w)else du cs (av ws) c)=Option.map D.int (if c'=c then some w else du cs ws c);by_cases e:c'=c
  ·rw[if_pos e,if_pos e];rfl
  ·rw[if_neg e,if_neg e];exact pT c cs ws
theorem pv(c:ae)(v:Int):∀(cs:aB) (ws:ae),setC cs (av ws) c (.int v)=av (setC cs ws c v)
 |[],_=>by cases ‹ae› <;> rfl
 |_::_,[]=>rfl
 |c'::cs,w::ws=>by
  show(if c'=c then D.int v else D.int w)::setC cs (av ws) c (.int v)=D.int (if c'=c then v else w)::av (setC cs ws c v);rw[pv c v cs ws];by_cases e:c'=c
  ·rw[if_pos e,if_pos e]
  ·rw[if_neg e,if_neg e]
theorem uW(cs:aB)(ws:ae)(c:ae)(v:Int):bS cs (av ws) c (.int v)=av (bS cs ws c v):=by
 unfold bS;by_cases e:c∈cs
 ·rw[if_pos e,if_pos e];exact pv c v cs ws
 ·rw[if_neg e,if_neg e];simp
def cX(cs:aB)(ws:ae)(c:ae):Int:=(du cs ws c).getD 0
theorem nP{α:Type}{c:ae}:∀{cs:aB} (ws:List α),c∉cs->du cs ws c=none
 |[],_,_=>by cases ‹List α› <;> rfl
 |_::_,[],_=>rfl
 |c'::cs,w::ws,h=>by
  show(if c'=c then some w else du cs ws c)=none;rw[if_neg λe=>h (by rw[e];exact List.mem_cons_self)];exact nP ws λz=>h (aal _ z)
theorem kE{α:Type}{c:ae}:∀{cs:aB} {ws:List α},cs.length=ws.length->c∈cs->∃w,du cs ws c=some w/\w∈ws
 |[],_,_,h=>nomatch h
 |_::_,[],hl,_=>by simp at hl
 |c'::cs,w::ws,hl,h=>by
  by_cases e:c'=c
  ·exact⟨w,aaQ e,aai⟩
  ·have h':c∈cs:=(List.mem_cons.mp h).resolve_left λz=>e z.symm;obtain⟨w',e1,e2⟩:=kE (cs:=cs) (ws:=ws) (by simpa using hl) h';exact⟨w',(aco e).trans e1,aal _ e2⟩
theorem ny:∀{cs:aB} {ws:ae},cs.Nodup->cs.length=ws.length->cs.map (cX cs ws)=ws
 |[],[],_,_=>rfl
 |[],_::_,_,h=>by simp at h
 |_::_,[],_,h=>by simp at h
 |c::cs,w::ws,hn,hl=>by
  have qY:=List.nodup_cons.mp hn;have ih:=ny (cs:=cs) (ws:=ws) qY.2 (by simpa using hl);rw[List.map_cons];have e1:cX (c::cs) (w::ws) c=w:=by
   show(if c=c then some w else du cs ws c).getD 0=w;rw[if_pos rfl];rfl
  have e2:cs.map (cX (c::cs) (w::ws))=cs.map (cX cs ws):=aau λx hx=>by
   show(if c=x then some w else du cs ws x).getD 0=_;rw[if_neg (show ¬ c=x from λz=>qY.1 (by rw[z];exact hx))];rfl
  rw[e1,e2,ih]
theorem sT{c:ae}{v:Int}:∀{cs:aB} {ws:ae},cs.Nodup->cs.length=ws.length->c∈cs->(setC cs ws c v).sum=ws.sum - cX cs ws c+v/\(setC cs ws c v).length=ws.length
 |[],_,_,_,h=>nomatch h
 |_::_,[],_,h,_=>by simp at h
 |c'::cs,w::ws,hn,hl,h=>by
  have qY:=List.nodup_cons.mp hn;have oG:cs.length=ws.length:=by simpa using hl
  have es:setC (c'::cs) (w::ws) c v=(if c'=c then v else w)::setC cs ws c v:=rfl;by_cases e:c'=c
  ·have Pc:∀{cs:aB} {ws:ae},cs.length=ws.length->c∉cs->setC cs ws c v=ws:=λ{cs}=>by
    induction cs with
    |nil=>intro ws hl _;cases ws with|nil=>rfl|cons _ _=>simp at hl
    |cons d cs ih =>
     intro ws hl hc;cases ws with
     |nil=>simp at hl
     |cons w ws =>
      show(if d=c then v else w)::setC cs ws c v=_;rw[if_neg λz=>hc (by rw[z];exact List.mem_cons_self),ih (by simpa using hl) λz=>hc (List.mem_cons_of_mem _ z)]
   have hcn:c∉cs:=e▸qY.1;rw[es,if_pos e,Pc oG hcn];have eg:cX (c'::cs) (w::ws) c=w:=by
    show(if c'=c then some w else du cs ws c).getD 0=w;rw[if_pos e];rfl
   rw[eg];refine⟨?_,rfl⟩;rw[List.sum_cons,List.sum_cons];left
  ·have h':c∈cs:=(List.mem_cons.mp h).resolve_left λz=>e z.symm;obtain⟨i1,i2⟩:=sT (v:=v) qY.2 oG h';have eg:cX (c'::cs) (w::ws) c=cX cs ws c:=by
    show(if c'=c then some w else du cs ws c).getD 0=_;rw[if_neg e];rfl
   rw[es,if_neg e,eg];refine⟨?_,by rw[List.length_cons,List.length_cons,i2]⟩;rw[List.sum_cons,List.sum_cons,i1];left
theorem m7{c:ae}{v:Int}:∀{cs:aB} {ws:ae} {x:Int},x∈setC cs ws c v->x∈ws\/x=v
 |[],_,_,h=>by cases ‹ae› <;> exact nomatch h
 |_::_,[],_,h=>nomatch h
 |c'::cs,w::ws,x,h=>by
  have h:x∈(if c'=c then v else w)::setC cs ws c v:=h;rcases List.mem_cons.mp h with e|h
  ·by_cases q:c'=c
   ·rw[if_pos q]at e;exact .inr e
   ·rw[if_neg q]at e;rw[e];exact .inl aai
  ·rcases m7 h with h|h
   ·exact .inl (aal _ h)
   ·exact .inr h
structure Tab(P:ae->Prop)(j:Nat)(cs:aB)(ws:ae):Prop where
 nd:cs.Nodup
 ln:cs.length=ws.length
 vS:cs.length<=j
 iG:∀c∈cs,P c
 pos:∀w∈ws,1<=w
 sum:ws.sum<=7*j
 ne:1<=j->cs≠[]
variable {cs ks:aB}
theorem Tab.get{n:ae->Prop}{j:Nat}(T:Tab n j cs ws)(c:ae):0<=cX cs ws c:=by
 by_cases h:c∈cs
 ·obtain⟨w,e,m⟩:=kE T.ln h;unfold cX;rw[e];have:=T.pos w m;show 0<=w;left
 ·unfold cX;rw[nP ws h];exact Int.le_refl _
theorem Tab.put{n:ae->Prop}{j:Nat}(T:Tab n j cs ws){c:ae}(hc:n c){i:Int}(h1:1<=i)(h7:i<=7):Tab n (j+1) (bJ cs c) (bS cs ws c (cX cs ws c+i)):=by
 have hg:=T.get c;have hf:=T.vS;have hs:=T.sum;by_cases h:c∈cs
 ·obtain⟨s1,s2⟩:=sT (v:=cX cs ws c+i) T.nd T.ln h;unfold bJ bS;rw[if_pos h,if_pos h];refine⟨T.nd,by rw[s2];exact T.ln,by left,T.iG,λw hw=>?_,by rw[s1];left,λ_ z=>by rw[z]at h;cases h⟩;rcases m7 hw with hw|rfl
  ·exact T.pos w hw
  ·left
 ·have hz:cX cs ws c=0:=by unfold cX;rw[nP ws h];rfl
  unfold bJ bS;rw[if_neg h,if_neg h,hz];refine⟨?_,by rw[List.length_append,List.length_append,T.ln];rfl,by rw[List.length_append,List.length_singleton];left,λd hd=>?_,λw hw=>?_,by rw[List.sum_append];simp;left,λ_ z=>by simp at z⟩
  ·refine List.nodup_append.mpr ⟨T.nd,List.nodup_cons.mpr ⟨acr,aa_⟩,λa ha b hb e=>?_⟩;rw[List.mem_singleton.mp hb]at e;exact h (e▸ha)
  ·rcases List.mem_append.mp hd with hd|hd
   ·exact T.iG d hd
   ·rw[List.mem_singleton.mp hd];exact hc
  ·rcases List.mem_append.mp hw with hw|hw
   ·exact T.pos w hw
   ·rw[List.mem_singleton.mp hw];left
def gu(cs:aB)(ws:ae):aL:=(bP cs).map λc=>(Rat.divInt (cX cs ws c) ws.sum,c)
theorem Tab.Ft{n:ae->Prop}{j:Nat}(T:Tab n j cs ws):∀w∈ws,w<=ws.sum:=λw hw=>by
 have:∀l:ae,(∀x∈l,1<=x)->0<=l.sum/\∀x∈l,x<=l.sum:=λl=>by
  induction l with
  |nil=>intro _;exact⟨Int.le_refl _,λ_ h=>nomatch h⟩
  |cons a l ih =>
   intro h;obtain⟨i1,i2⟩:=ih λx hx=>h x (aal _ hx);have ha:=h a aai;rw[List.sum_cons];refine⟨by left,λx hx=>?_⟩;rcases List.mem_cons.mp hx with rfl|hx
   ·left
   ·have:=i2 x hx;left
 exact(this ws T.pos).2 w hw
theorem qr(W:Int)(hW:W≠0):∀ls:ae,(ls.map λx=>Rat.divInt x W).sum=Rat.divInt ls.sum W
 |[]=>by simp
 |x::ls=>by
  rw[List.map_cons,List.sum_cons,qr W hW ls,List.sum_cons,Rat.divInt_eq_div,Rat.divInt_eq_div,Rat.divInt_eq_div,Rat.intCast_add];grind
theorem tx{a b:aU}(h:a.Perm b):a.sum=b.sum:=by
 induction h with
 |nil=>rfl
 |cons x _ ih=>rw[List.sum_cons,List.sum_cons,ih]
 |swap x y l=>rw[List.sum_cons,List.sum_cons,List.sum_cons,List.sum_cons];grind
 |trans _ _ i1 i2=>rw[i1,i2]
theorem Tab.dr{P:ae->Prop}{n j:Nat}(T:Tab P j cs ws)(h1:1<=j)(h6:j<=8)(n1:1<=n)(n2:n<=12):Dp P 6 n (gu cs ws):=by
 have hp:(bP cs).Perm cs:=aa3 _ _;have hl:(gu cs ws).length=cs.length:=by unfold gu;rw[List.length_map];exact hp.length_eq
 have hf:=T.vS;have hs:=T.sum;have val:∀c∈bP cs,1<=cX cs ws c/\cX cs ws c<=ws.sum:=λc hc=>by
  obtain⟨w,e,m⟩:=kE T.ln (hp.mem_iff.mp hc);unfold cX;rw[e];exact⟨T.pos w m,T.Ft w m⟩
 have hW:1<=ws.sum:=by
  obtain⟨c,hc⟩:=abq cs (T.ne h1);have:=val c (hp.mem_iff.mpr hc);left
 refine⟨n1,n2,by rw[hl];left,.inl (by rw[hl];left),by rw[hl];left,λr hr=>?_,λr hr=>?_,λr hr=>?_,?_,?_⟩
 ·obtain⟨c,hc,rfl⟩:=List.mem_map.mp hr;exact T.iG c (hp.mem_iff.mp hc)
 ·obtain⟨c,hc,rfl⟩:=List.mem_map.mp hr;exact fW (by have:=val c hc;left) (by left)
 ·obtain⟨c,hc,rfl⟩:=List.mem_map.mp hr;have:=val c hc;exact sP (by left) (by show _<64;left) (by show _<64;left)
 ·have e:(gu cs ws).map (·.1)=(bP cs).map λc=>Rat.divInt (cX cs ws c) ws.sum:=by
   unfold gu;rw[List.map_map];rfl
  rw[e];have e2:((bP cs).map λc=>Rat.divInt (cX cs ws c) ws.sum).sum=(cs.map λc=>Rat.divInt (cX cs ws c) ws.sum).sum:=tx (hp.map _);have e3:(cs.map λc=>Rat.divInt (cX cs ws c) ws.sum)=(cs.map (cX cs ws)).map λx=>Rat.divInt x ws.sum:=by rw[List.map_map];rfl
  rw[e2,e3,ny T.nd T.ln,qr _ (by left),Rat.divInt_eq_div];have z:((ws.sum:Int):Rat)≠0:=λz=>by rw[Rat.intCast_eq_zero_iff]at z;left
  grind
 ·have e:(gu cs ws).map (·.2)=bP cs:=by
   unfold gu;rw[List.map_map];exact(aau λ_ _=>rfl).trans (List.map_id _)
  rw[e];exact jM T.nd
structure Mg(most:Nat)(qs:aU)(B:Nat):Prop where
 n1:1<=qs.length
 n2:qs.length<=most
 b1:1<=B
 b2:B<=9
 q0:∀q∈qs,0<=q
 q1:∀q∈qs,q<=1
 qd:∀q∈qs,q.den∣B
 su:∃s:Int,qs.sum=(s:Rat)
theorem Mg.le{m k:Nat}(h:Mg m qs B)(hk:m<=k):Mg k qs B:=⟨h.n1,aaC h.n2 hk,h.b1,h.b2,h.q0,h.q1,h.qd,h.su⟩
theorem J5{q:Rat}(h:q<=1):q.num<=(q.den:Int):=by
 have h':(q.num:Rat)<=(q.den:Rat):=by
  rw[wR];have h2:(0:Rat)<=(q.den:Rat):=by exact_mod_cast aaJ _
  have:=Rat.mul_le_mul_of_nonneg_right h h2
  rwa [Rat.one_mul]at this
 exact_mod_cast h'
theorem Oj{q:Rat}(h:0<=q):0<=q.num:=Rat.num_nonneg.mpr h
theorem Mg.sm{m:Nat}(h:Mg m qs B){q:Rat}(hq:q∈qs):Sm 4 q:=by
 have h1:=J5 (h.q1 q hq);have h2:=Oj (h.q0 q hq);have h3:=acj (by have:=h.b1;left) (h.qd q hq);have:=h.b2;constructor<;>simp<;>left
theorem Mg.Xj{m:Nat}(h:Mg m qs B)(hm:m<=12):zM 4 qs:=⟨λ_ hq=>h.sm hq,by have:=h.n2;left,by have:=h.n2;left⟩
noncomputable def qm(W x:Int):Bool:=decide (0<x)&&decide (x<W)
def sG(W:Int):Int->ae->ae
 |_,[]=>[]
 |j,x::xs=>if qm W x then j::sG W (j+1) xs else sG W (j+1) xs
noncomputable def By(W:Int):Int->ae->ae
 |_,[]=>[]
 |j,x::xs=>if x=W then j::By W (j+1) xs else By W (j+1) xs
def vals(W:Int)(p:ae):ae:=p.filter (qm W)
variable {W:Int}
theorem jh{x:Int}:qm W x=true ↔ 0<x/\x<W:=by simp[qm]
theorem mj{W:Int}:∀{p:ae} {j:Int},vals W p=[]->sG W j p=[]
 |[],_,_=>rfl
 |x::p,j,h=>by
  unfold vals at h;by_cases hx:qm W x=true
  ·rw[List.filter_cons_of_pos hx]at h;cases h
  ·rw[List.filter_cons_of_neg hx]at h;rw[sG,if_neg hx];exact mj h
theorem qo{W:Int}:∀{p q:ae} {j:Int},sG W j (p++q)=sG W j p++sG W (j+p.length) q
 |[],q,j=>by simp[sG]
 |x::p,q,j=>by
  have e:j+1+(p.length:Int)=j+((x::p).length:Int):=by simp;left
  rw[List.cons_append,sG,sG,qo (p:=p),e];split<;>simp
theorem mT(p q:ae):vals W (p++q)=vals W p++vals W q:=List.filter_append ..
theorem fH(x:Int)(p:ae):vals W (x::p)=if qm W x then x::vals W p else vals W p:=List.filter_cons ..
theorem split1{W:Int}:∀p:ae,vals W p=[]\/∃A a C,p=A++a::C/\vals W A=[]/\qm W a=true
 |[]=>.inl rfl
 |x::p=>by
  by_cases hx:qm W x=true
  ·exact .inr ⟨[],x,p,rfl,rfl,hx⟩
  ·rcases split1 p with h|⟨A,a,C,rfl,h1,h2⟩
   ·exact .inl (by rw[fH,if_neg hx,h])
   ·exact .inr ⟨x::A,a,C,rfl,by rw[fH,if_neg hx,h1],h2⟩
structure r_(n:Nat)(W:Int)(p:ae):Prop where
 len:p.length=n
 lo:∀x∈p,0<=x
 hi:∀x∈p,x<=W
 su:∃s:Int,p.sum=s*W
structure Tw(W:Int)(p A:ae)(a:Int)(B:ae)(b:Int)(C:ae):Prop where
 eq:p=A++a::(B++b::C)
 vA:vals W A=[]
 vB:vals W B=[]
 ua:qm W a=true
 ub:qm W b=true
theorem iN{W:Int}:∀{A:ae},vals W A=[]->(∀x∈A,0<=x)->(∀x∈A,x<=W)->∃k:Int,A.sum=k*W
 |[],_,_,_=>⟨0,by simp⟩
 |x::A,h,l,u=>by
  rw[fH]at h;split at h
  ·cases h
  ·rename_i hx;obtain⟨k,hk⟩:=iN h (λy hy=>l y (aal _ hy)) λy hy=>u y (aal _ hy);have l0:=l x aai;have u0:=u x aai;have zE:¬ (0<x/\x<W):=λz=>hx (jh.mpr z);rw[List.sum_cons,hk];by_cases e:x=0
   ·exact⟨k,by left⟩
   ·exact⟨k+1,by rw[Int.add_mul];left⟩
theorem Fi{a m:Int}(h0:0<a)(h1:a<W)(h:a=m*W):False:=by
 by_cases hm:m<=0
 ·have:=Int.mul_le_mul_of_nonneg_right hm (show 0<=W by left);left
 ·have:=Int.mul_le_mul_of_nonneg_right (show 1<=m by left) (show 0<=W by left);left
theorem r_.two{n:Nat}{p:ae}(I:r_ n W p)(h:vals W p≠[]):∃A a B b C,Tw W p A a B b C:=by
 rcases split1 (W:=W) p with e|⟨A,a,C,rfl,h1,h2⟩
 ·exact absurd e h
 ·rcases split1 (W:=W) C with e|⟨B,b,C',rfl,h3,h4⟩
  ·obtain⟨s,hs⟩:=I.su;obtain⟨k1,e1⟩:=iN h1 (λx hx=>I.lo x (by simp[hx])) λx hx=>I.hi x (by simp[hx]);obtain⟨k2,e2⟩:=iN e (λx hx=>I.lo x (by simp[hx])) λx hx=>I.hi x (by simp[hx]);rw[List.sum_append,List.sum_cons,e1,e2]at hs;obtain⟨u1,u2⟩:=jh.mp h2;exact(Fi u1 u2 (m:=s - k1 - k2) (by rw[Int.sub_mul,Int.sub_mul];left)).elim
  ·exact⟨A,a,B,b,C',rfl,h1,h3,h2,h4⟩
noncomputable def iI(W a b:Int):Rat:=if a+b<=W then Rat.divInt a (a+b)else Rat.divInt (W - b) (2*W - a - b)
noncomputable def l7(W a b:Int):Int:=if W<a+b then W else a+b
def my(W a b:Int):Int:=a+b - l7 W a b
def Bg(W:Int)(p:ae):Option (Rat×ae×ae):=match sG W 0 p with
 |i::j::_=>some (iI W (p.getD i.toNat 0) (p.getD j.toNat 0),(p.set i.toNat (l7 W (p.getD i.toNat 0) (p.getD j.toNat 0))).set j.toNat (my W (p.getD i.toNat 0) (p.getD j.toNat 0)),(p.set j.toNat (l7 W (p.getD i.toNat 0) (p.getD j.toNat 0))).set i.toNat (my W (p.getD i.toNat 0) (p.getD j.toNat 0)))
 |_=>none
section
variable {W a b:Int}{p A B C:ae}(T:Tw W p A a B b C)
include T
theorem Tw.sG:sG W 0 p=(A.length:Int)::((A.length+1+B.length:Nat):Int)::sG W ((A.length+1+B.length:Nat)+1) C:=by
 rw[T.eq,qo,mj T.vA,List.nil_append,DI.sG,if_pos T.ua,qo,mj T.vB,List.nil_append,DI.sG,if_pos T.ub];have e:(0:Int)+(A.length:Int)+1+(B.length:Int)=((A.length+1+B.length:Nat):Int):=by push_cast;left
 rw[e,Int.zero_add]
theorem Tw.vals:vals W p=a::b::vals W C:=by
 rw[T.eq,mT,T.vA,List.nil_append,fH,if_pos T.ua,mT,T.vB,List.nil_append,fH,if_pos T.ub]
theorem Tw.at1:p.getD A.length 0=a:=by rw[T.eq];simp
theorem Tw.at2:p.getD (A.length+1+B.length) 0=b:=by
 rw[T.eq];have:A++a::(B++b::C)=(A++a::B)++b::C:=by simp
 rw[this,show A.length+1+B.length=(A++a::B).length by simp;left];simp
theorem Tw.TR(x:Int):p.set A.length x=A++x::(B++b::C):=by rw[T.eq];simp[List.set_append]
theorem Tw.TQ(x:Int):p.set (A.length+1+B.length) x=A++a::(B++x::C):=by
 rw[T.eq];have:∀y,A++a::(B++y::C)=(A++a::B)++y::C:=by simp
 rw[this,this,show A.length+1+B.length=(A++a::B).length by simp;left];simp[List.set_append]
omit T in
theorem NJ(A:ae)(a:Int)(B:ae)(b:Int)(C:ae)(x:Int):(A++a::(B++b::C)).set (A.length+1+B.length) x=A++a::(B++x::C):=by
 have:∀y,A++a::(B++y::C)=(A++a::B)++y::C:=by simp
 rw[this,this,show A.length+1+B.length=(A++a::B).length by simp;left];simp[List.set_append]
theorem Tw.Bg:Bg W p=some (iI W a b,A++l7 W a b::(B++my W a b::C),A++my W a b::(B++l7 W a b::C)):=by
 unfold DI.Bg;rw[T.sG];dsimp only;rw[Int.toNat_natCast,Int.toNat_natCast,T.at1,T.at2,T.TR,T.TQ,NJ];have:(A++a::(B++l7 W a b::C)).set A.length (my W a b)=A++my W a b::(B++l7 W a b::C):=by simp[List.set_append]
 rw[this]
theorem Tw.pq:0<a/\a<W/\0<b/\b<W:=⟨(jh.mp T.ua).1,(jh.mp T.ua).2,(jh.mp T.ub).1,(jh.mp T.ub).2⟩
theorem Tw.hl:0<=l7 W a b/\l7 W a b<=W/\0<=my W a b/\my W a b<=W/\l7 W a b+my W a b=a+b/\(qm W (l7 W a b)=false\/qm W (my W a b)=false):=by
 obtain⟨h1,h2,h3,h4⟩:=T.pq;unfold my l7 qm;split<;>refine⟨by left,by left,by left,by left,by left,?_⟩
 ·exact .inl (by simp)
 ·right;simp
end
def nv(W:Int):ae->ae
 |a::b::r=>(if qm W (l7 W a b)then[l7 W a b]else if qm W (my W a b)then[my W a b]else[])++r
 |_=>[]
theorem Bh(W a b:Int)(r:ae):(nv W (a::b::r)).length<=r.length+1:=by
 show((if qm W (l7 W a b)then[l7 W a b]else if qm W (my W a b)then[my W a b]else[])++r).length<=_;rw[List.length_append];split
 ·simp;left
 ·split<;>simp;left
section
variable {n:Nat}{W a b:Int}{p A B C:ae}(I:r_ n W p)(T:Tw W p A a B b C)
include I T
theorem Tw.Xr{x y:Int}(hx:0<=x/\x<=W)(hy:0<=y/\y<=W)(hs:x+y=a+b):r_ n W (A++x::(B++y::C)):=by
 have hl:=I.len;have lo:=I.lo;have hi:=I.hi;obtain⟨s,DQ⟩:=I.su;rw[T.eq]at hl lo hi DQ;refine⟨by rw[<- hl];simp,λz hz=>?_,λz hz=>?_,s,by rw[<- DQ];simp;left⟩
 ·simp only[List.mem_append,List.mem_cons]at hz;rcases hz with hz|rfl|hz|rfl|hz
  ·exact lo z (by simp[hz])
  ·exact hx.1
  ·exact lo z (by simp[hz])
  ·exact hy.1
  ·exact lo z (by simp[hz])
 ·simp only[List.mem_append,List.mem_cons]at hz;rcases hz with hz|rfl|hz|rfl|hz
  ·exact hi z (by simp[hz])
  ·exact hx.2
  ·exact hi z (by simp[hz])
  ·exact hy.2
  ·exact hi z (by simp[hz])
theorem Tw.II:r_ n W (A++l7 W a b::(B++my W a b::C)):=by
 obtain⟨h1,h2,h3,h4,h5,_⟩:=T.hl;exact T.Xr I ⟨h1,h2⟩ ⟨h3,h4⟩ h5
theorem Tw.Ki:r_ n W (A++my W a b::(B++l7 W a b::C)):=by
 obtain⟨h1,h2,h3,h4,h5,_⟩:=T.hl;exact T.Xr I ⟨h3,h4⟩ ⟨h1,h2⟩ (by left)
omit I in
theorem Tw.IJ:DI.vals W (A++l7 W a b::(B++my W a b::C))=nv W (DI.vals W p)/\DI.vals W (A++my W a b::(B++l7 W a b::C))=nv W (DI.vals W p):=by
 obtain⟨_,_,_,_,_,h⟩:=T.hl;rw[T.vals];simp only[mT,fH,T.vA,T.vB,List.nil_append,nv];rcases h with h|h
 ·cases z:qm W (my W a b)<;>simp[h]
 ·cases z:qm W (l7 W a b)<;>simp[h]
end
theorem om{t b:Int}(hb:0<b)(h:t<b):Rat.divInt t b<1:=by
 have Yz:(0:Rat)<(b:Rat):=by have:=abF (a:=0) (b:=b);simpa using this.mpr hb
 have h1:(t:Rat)<(b:Rat):=Rat.intCast_lt_intCast.mpr h;rw[Rat.divInt_eq_div,Rat.div_def];have:=Rat.mul_lt_mul_of_pos_right h1 (Rat.inv_pos.mpr Yz)
 rwa [Rat.mul_inv_cancel _ (Rat.ne_of_gt Yz)]at this
theorem L5{a b:Int}(h1:0<a)(h2:a<W)(h3:0<b)(h4:b<W)(hW:W<=9):0<iI W a b/\iI W a b<1/\Sm 5 (iI W a b):=by
 unfold iI;split
 ·exact⟨fW h1 (by left),om (by left) (by left),sP (by left) (by show _<32;left) (by show _<32;left)⟩
 ·exact⟨fW (by left) (by left),om (by left) (by left),sP (by left) (by show _<32;left) (by show _<32;left)⟩
noncomputable def ind(x y:ae):Rat:=if x=y then 1 else 0
def Pr(W:Int):Nat->ae->ae->Rat
 |0,p,l=>ind (By W 0 p) l
 |n+1,p,l=>match Bg W p with
  |none=>ind (By W 0 p) l
  |some z=>z.1*Pr W n z.2.1 l+(1 - z.1)*Pr W n z.2.2 l
theorem Be{p:ae}(h:vals W p=[]):Bg W p=none:=by unfold Bg;rw[mj h]
theorem se{p:ae}(h:vals W p=[])(k:Nat)(l:ae):Pr W k p l=ind (By W 0 p) l:=by
 cases k with
 |zero=>rfl
 |succ k=>rw[Pr,Be h]
theorem mM{n:Nat}{W:Int}(l:ae):∀(k:Nat) (p:ae),r_ n W p->(vals W p).length<=k->Pr W k p l=Pr W (k+1) p l
 |0,p,I,h=>by
  have:vals W p=[]:=List.length_eq_zero_iff.mp (by left);rw[se this,se this]
 |k+1,p,I,h=>by
  by_cases e:vals W p=[]
  ·rw[se e,se e]
  ·obtain⟨A,a,B,b,C,T⟩:=I.two e;obtain⟨v1,v2⟩:=T.IJ;have hv:=T.vals;have hn:=Bh W a b (vals W C);rw[hv]at h v1 v2;simp only[List.length_cons]at h;rw[Pr,Pr,T.Bg];dsimp only;rw[mM l k _ (T.II I) (by rw[v1];left),mM l k _ (T.Ki I) (by rw[v2];left)]
theorem G3{n:Nat}(l:ae){k:Nat}{p A B C:ae}{a b:Int}(I:r_ n W p)(T:Tw W p A a B b C)(h:(vals W p).length<=k):
  Pr W k p l=iI W a b*Pr W k (A++l7 W a b::(B++my W a b::C)) l+(1 - iI W a b)*Pr W k (A++my W a b::(B++l7 W a b::C)) l:=by
 obtain⟨v1,v2⟩:=T.IJ;have hv:=T.vals;have hn:=Bh W a b (vals W C);rw[hv]at h v1 v2;simp only[List.length_cons]at h;obtain⟨k,rfl⟩:∃j,k=j+1:=⟨k - 1,by left⟩
 rw[Pr,T.Bg];dsimp only;rw[mM l k _ (T.II I) (by rw[v1];left),mM l k _ (T.Ki I) (by rw[v2];left)]
theorem UD(n:Nat)(t:Nat->Bool):uN n (((List.range n).filter t).map λ(k:Nat)=>(k:Int)):=by
 refine⟨?_,λh hh=>?_⟩
 ·rw[List.pairwise_map];refine(List.Pairwise.filter _ List.pairwise_lt_range).imp λz=>?_;left
 ·obtain⟨k,hk,rfl⟩:=List.mem_map.mp hh;have:=List.mem_range.mp (List.mem_filter.mp hk).1;left
structure ack(Φ:bg):Prop where
 Cs:Φ 1030=um
 Qf:Φ 1031=Ij
 Cr:Φ 1032=vZ
 Cq:Φ 1033=oj
 Cp:Φ 1035=jU
 YA:Φ 1100=LS
theorem jo{c k:ae}:k∈bJ ks c ↔ k∈ks\/k=c:=by
 unfold bJ;split
 ·rename_i h;exact⟨.inl,λz=>z.elim id λe=>e▸h⟩
 ·simp
theorem BG(h:ks.Nodup)(c:ae):(bJ ks c).Nodup:=by
 unfold bJ;split
 ·exact h
 ·rename_i hc;rw[List.nodup_append];exact⟨h,by simp,λa ha b hb=>by rw[List.mem_singleton.mp hb];exact λz=>hc (z▸ha)⟩
theorem pM(ks:aB)(c:ae):(bJ ks c).length<=ks.length+1:=by
 unfold bJ;split<;>simp
structure DPh(Φ:bg):Prop where
 Cs:Φ 1030=um
 Qf:Φ 1031=Ij
 Cr:Φ 1032=vZ
 Cq:Φ 1033=oj
 Cp:Φ 1035=jU
noncomputable def lY(ks:aB)(w F:ae->Rat):Rat:=(ks.map λk=>w k*F k).sum
noncomputable def jd{α:Type}[Add α](w:ae->α)(c:ae)(x:α):ae->α:=λk=>if k=c then w k+x else w k
theorem En(a b:aU):(a++b).sum=a.sum+b.sum:=by
 induction a with
 |nil=>simp;grind
 |cons x a ih=>rw[List.cons_append,List.sum_cons,List.sum_cons,ih];grind
theorem xi(c:ae)(x:Rat)(w F:ae->Rat):∀ks:aB,ks.Nodup->c∈ks->lY ks (jd w c x) F=lY ks w F+x*F c
 |[],_,h=>nomatch h
 |k::ks,hn,h=>by
  obtain⟨h1,h2⟩:=List.nodup_cons.mp hn;unfold lY at *;rw[List.map_cons,List.map_cons,List.sum_cons,List.sum_cons];by_cases e:k=c
  ·have:(ks.map λk=>jd w c x k*F k)=ks.map λk=>w k*F k:=aau λj hj=>by
    unfold jd;rw[if_neg λz=>h1 (by rw[e,<- z];exact hj)]
   rw[this];unfold jd;rw[if_pos e,e];grind
  ·have ih:=xi c x w F ks h2 ((List.mem_cons.mp h).resolve_left λz=>e z.symm);unfold lY at ih;rw[ih];unfold jd;rw[if_neg e];grind
theorem tN{c:ae}{x:Rat}{w:ae->Rat}(F:ae->Rat)(hn:ks.Nodup)(h0:c∉ks->w c=0):lY (bJ ks c) (jd w c x) F=lY ks w F+x*F c:=by
 unfold bJ;split
 ·rename_i h;exact xi c x w F ks hn h
 ·rename_i h;unfold lY;rw[List.map_append,En];have:(ks.map λk=>jd w c x k*F k)=ks.map λk=>w k*F k:=aau λj hj=>by
   unfold jd;rw[if_neg λz=>h (by rw[<- z];exact hj)]
  rw[this];simp only[List.map_cons,List.map_nil,List.sum_cons,List.sum_nil,jd,if_pos,h0 h];grind
structure Tb{α:Type}(z:α)(pos:α->Prop)(ks:aB)(w:ae->α):Prop where
 nd:ks.Nodup
 out:∀k,k∉ks->w k=z
 FO:∀k∈ks,pos (w k)
theorem Tb.add{α:Type}[Add α]{z:α}{pos:α->Prop}{w:ae->α}(T:Tb z pos ks w){x:α}(hx:pos (z+x))(hp:∀a,pos a->pos (a+x))(c:ae):Tb z pos (bJ ks c) (jd w c x):=by
 refine⟨BG T.nd c,λk hk=>?_,λk hk=>?_⟩
 ·have h:¬ (k∈ks\/k=c):=λz=>hk (jo.mpr z);unfold jd;rw[if_neg λz=>h (.inr z)];exact T.out k λz=>h (.inl z)
 ·unfold jd;by_cases e:k=c
  ·rw[if_pos e];by_cases hc:k∈ks
   ·exact hp _ (T.FO k hc)
   ·rw[T.out k hc];exact hx
  ·rw[if_neg e];exact T.FO k ((jo.mp hk).resolve_right e)
noncomputable def cq(w:ae->Int):ae->Rat:=λk=>(w k:Rat)
theorem C9(w:ae->Int)(c:ae)(x:Int):cq (jd w c x)=jd (cq w) c (x:Rat):=by
 funext k;unfold cq jd;split
 ·rw[Rat.intCast_add]
 ·rfl
def mQ(W:Int)(p:ae):ae:=match Bg W p with|some z=>z.2.1|none=>[]
def kz(W:Int)(p:ae):ae:=match Bg W p with|some z=>z.2.2|none=>[]
def po(W cn cd:Int)(w0:ae->Int):aB->aB->(ae->Int)->aB×(ae->Int)
 |[],ks,w=>(ks,w)
 |p::ps,ks,w=>po W cn cd w0 ps (bJ (bJ ks (mQ W p)) (kz W p)) (jd (jd w (mQ W p) (w0 p*cn)) (kz W p) (w0 p*(cd - cn)))
structure Wy(n:Nat)(W:Int)(v:ae)(ks:aB)(w:ae->Int):Prop where
 tb:Tb (0:Int) (λx=>1<=x) ks w
 ok:∀p∈ks,r_ n W p
 vs:∀p∈ks,vals W p=v
theorem wX(W cn cd:Int)(w0:ae->Int)(F:ae->Rat):∀(ps ks:aB) (w:ae->Int),Tb (0:Int) (λx=>1<=x) ks w->(∀p∈ps,1<=w0 p)->1<=cn->cn<cd ->
  Tb (0:Int) (λx=>1<=x) (po W cn cd w0 ps ks w).1 (po W cn cd w0 ps ks w).2/\(∀k,k∈(po W cn cd w0 ps ks w).1 ↔ k∈ks\/∃p∈ps,k=mQ W p\/k=kz W p)/\(po W cn cd w0 ps ks w).1.length<=ks.length+2*ps.length /\
  lY (po W cn cd w0 ps ks w).1 (cq (po W cn cd w0 ps ks w).2) F=lY ks (cq w) F+(ps.map λp=>(w0 p:Rat)*((cn:Rat)*F (mQ W p)+((cd - cn:Int):Rat)*F (kz W p))).sum
 |[],ks,w,T,_,_,_=>by
  refine⟨T,λk=>?_,by simp[po],?_⟩
  ·simp[po]
  ·simp[po];grind
 |p::ps,ks,w,T,h0,h1,h2=>by
  have hp:=h0 p aai;have a1:1<=w0 p*cn:=by have:=Int.mul_le_mul hp h1 (by decide) (by left);left
  have a2:1<=w0 p*(cd - cn):=by have:=Int.mul_le_mul hp (show 1<=cd - cn by left) (by decide) (by left);left
  have T1:=T.add (x:=w0 p*cn) (by left) (λa ha=>by left) (mQ W p);have T2:=T1.add (x:=w0 p*(cd - cn)) (by left) (λa ha=>by left) (kz W p);obtain⟨g1,g2,g3,g4⟩:=wX W cn cd w0 F ps _ _ T2 (λq hq=>h0 q (aal _ hq)) h1 h2;refine⟨g1,λk=>?_,?_,?_⟩
  ·rw[po,g2,jo,jo];simp only[List.mem_cons];constructor
   ·rintro (((h|h)|h)|⟨q,hq,h⟩)
    ·exact .inl h
    ·exact .inr ⟨p,.inl rfl,.inl h⟩
    ·exact .inr ⟨p,.inl rfl,.inr h⟩
    ·exact .inr ⟨q,.inr hq,h⟩
   ·rintro (h|⟨q,rfl|hq,h⟩)
    ·exact .inl (.inl (.inl h))
    ·exact .inl (h.elim (λz=>.inl (.inr z)) .inr)
    ·exact .inr ⟨q,hq,h⟩
  ·have l1:=pM ks (mQ W p);have l2:=pM (bJ ks (mQ W p)) (kz W p);rw[po];simp only[List.length_cons];left
  ·rw[po,g4,C9,tN F T1.nd (λh=>by unfold cq;rw[T1.out _ h];rfl),C9,tN F T.nd (λh=>by unfold cq;rw[T.out _ h];rfl),List.map_cons,List.sum_cons,Rat.intCast_mul,Rat.intCast_mul];grind
theorem Wy.step{n:Nat}{v:ae}{w:ae->Int}(I:Wy n W v ks w)(hW:W<=9)(hv:v≠[])(hk:ks≠[]):
  ∃a b r,v=a::b::r/\0<a/\a<W/\0<b/\b<W/\Wy n W (nv W v) (po W (iI W a b).num (iI W a b).den w ks [] λ_=>0).1 (po W (iI W a b).num (iI W a b).den w ks [] λ_=>0).2/\(po W (iI W a b).num (iI W a b).den w ks [] λ_=>0).1≠[]/\(po W (iI W a b).num (iI W a b).den w ks [] λ_=>0).1.length<=2*ks.length /\
   ∀l k,v.length<=k->lY (po W (iI W a b).num (iI W a b).den w ks [] λ_=>0).1 (cq (po W (iI W a b).num (iI W a b).den w ks [] λ_=>0).2) (λp=>Pr W k p l)=((iI W a b).den:Rat)*lY ks (cq w) (λp=>Pr W k p l):=by
 obtain⟨p0,BZ⟩:=abq ks hk;obtain⟨A0,a,B0,b,C0,T0⟩:=(I.ok p0 BZ).two (by rw[I.vs p0 BZ];exact hv);have ev:=T0.vals;rw[I.vs p0 BZ]at ev;obtain⟨q1,q2,q3,q4⟩:=T0.pq;obtain⟨c0,c1,_⟩:=L5 q1 q2 q3 q4 hW;have hn:1<=(iI W a b).num:=by have:=pG c0;left
 have hd:(iI W a b).num<((iI W a b).den:Int):=by
  have h':((iI W a b).num:Rat)<((iI W a b).den:Rat):=by
   rw[wR];have h2:(0:Rat)<((iI W a b).den:Rat):=by exact_mod_cast (iI W a b).den_pos
   have:=Rat.mul_lt_mul_of_pos_right c1 h2
   rwa [Rat.one_mul]at this
  exact_mod_cast h'
 have tw:∀p∈ks,∃A B C,Tw W p A a B b C:=λp hp=>by
  obtain⟨A,a',B,b',C,T⟩:=(I.ok p hp).two (by rw[I.vs p hp];exact hv);have e:=T.vals;rw[I.vs p hp,ev]at e;obtain⟨h1,e'⟩:=aa7 e;obtain⟨h2,_⟩:=aa7 e';rw[<- h1,<- h2]at T;exact⟨A,B,C,T⟩
 have II:∀{p A B C},Tw W p A a B b C->mQ W p=A++l7 W a b::(B++my W a b::C)/\kz W p=A++my W a b::(B++l7 W a b::C):=λT=>by
  unfold mQ kz;rw[T.Bg];exact⟨rfl,rfl⟩
 have T00:Tb (0:Int) (λx=>1<=x) [] λ_=>0:=⟨aa_,λ_ _=>rfl,λ_ h=>nomatch h⟩
 have M:=λF=>wX W (iI W a b).num (iI W a b).den w F ks [] (λ_=>0) T00 (λp hp=>I.tb.FO p hp) hn hd;obtain⟨m1,m2,m3,_⟩:=M λ_=>0;refine⟨a,b,vals W C0,ev,q1,q2,q3,q4,⟨m1,λk hk=>?_,λk hk=>?_⟩,?_,by simpa using m3,λl k hl=>?_⟩
 ·rcases(m2 k).mp hk with h|⟨p,hp,h⟩
  ·exact nomatch h
  ·obtain⟨A,B,C,T⟩:=tw p hp;obtain⟨e1,e2⟩:=II T;rw[e1,e2]at h;rcases h with rfl|rfl
   ·exact T.II (I.ok p hp)
   ·exact T.Ki (I.ok p hp)
 ·rcases(m2 k).mp hk with h|⟨p,hp,h⟩
  ·exact nomatch h
  ·obtain⟨A,B,C,T⟩:=tw p hp;obtain⟨e1,e2⟩:=II T;obtain⟨v1,v2⟩:=T.IJ;rw[I.vs p hp]at v1 v2;rw[e1,e2]at h;rcases h with rfl|rfl
   ·exact v1
   ·exact v2
 ·intro z;have:=(m2 (mQ W p0)).mpr (.inr ⟨p0,BZ,.inl rfl⟩);rw[z]at this;exact nomatch this
 ·obtain⟨_,_,_,m4⟩:=M λp=>Pr W k p l;rw[m4];unfold lY;rw[List.map_nil,List.sum_nil,Rat.zero_add];have:∀qs:aB,(∀p∈qs,p∈ks)->(qs.map λp=>(w p:Rat)*(((iI W a b).num:Rat)*Pr W k (mQ W p) l+(((iI W a b).den - (iI W a b).num:Int):Rat)*Pr W k (kz W p) l)).sum=((iI W a b).den:Rat)*(qs.map λp=>cq w p*Pr W k p l).sum:=λqs=>by
   induction qs with
   |nil=>intro _;simp
   |cons p qs ih =>
    intro h;rw[List.map_cons,List.map_cons,List.sum_cons,List.sum_cons,ih λq hq=>h q (List.mem_cons_of_mem _ hq)];have hp:=h p aai;obtain⟨A,B,C,T⟩:=tw p hp;obtain⟨e1,e2⟩:=II T;rw[e1,e2,G3 l (k:=k) (I.ok p hp) T (by rw[I.vs p hp];exact hl)];have en:((iI W a b).num:Rat)=iI W a b*((iI W a b).den:Rat):=wR _;rw[Rat.intCast_sub,Rat.intCast_natCast,en];unfold cq;grind
  exact this ks λ_ h=>h
structure YX(ws:aU)(iG:ae)(hs:aU)(t:Rat)(k b c:Nat):Prop where
 l1:1<=ws.length
 l2:ws.length<=12
 l3:hs.length=ws.length
 lt:uN ws.length iG
 ps:∀h∈iG,0<Ds ws h
 s1:∀q∈ws,Sm k q
 s2:∀q∈hs,Sm b q
 s3:Sm c t
 c1:(k+2*b+1)*iG.length<=1500
 c2:c+2*((k+2*b+1)*iG.length)+k+b<=3900
 c3:c<=2000
 c4:k+b<=3000
structure WW(ws:aU)(iG:ae)(hs:aU)(t:Rat)(told:aU):Prop where
 len:told.length=ws.length
 val:∀j:Int,0<=j->j<(ws.length:Int)->Ds told j=if j∈iG then Ds ws j+Ux ws iG hs t*(Ds ws j*Ds hs j)else Ds ws j
structure Rc(Φ:bg):Prop where
 Cs:Φ 1030=um
 Cr:Φ 1032=vZ
 Cq:Φ 1033=oj
 Cp:Φ 1035=jU
theorem Gr(P:Rc Φ)(hl:cs.length<1000)(ws:ae)(c:ae)(v:Int):Φ 1033 [.cJ .ow cs (av ws),.int v,.tup (av c)]=ok (.cJ .ow (bJ cs c) (av (bS cs ws c v))):=by
 rw[P.Cq];show(match intsOf (c.map D.int)with|some c=>if eG .ow=true/\bo anyF (.int v)=false/\cs.length<ej then ok (D.cJ .ow (bJ cs c) (bS cs (av ws) c (.int v)))else none|none=>none)=_;rw[b_];show(if eG .ow=true/\bo anyF (.int v)=false/\cs.length<ej then ok (D.cJ .ow (bJ cs c) (bS cs (av ws) c (.int v)))else none)=_;rw[if_pos ⟨rfl,rfl,by show _<1000000;left⟩,uW]
theorem LW(P:Rc Φ)(f:Fl)(hl:cs.length=ws.length){c:ae}(h:c∈cs):Φ 1032 [.cJ f cs (av ws),.tup (av c)]=ok (.int (cX cs ws c)):=by
 obtain⟨w,e,_⟩:=kE hl h;rw[P.Cr];show(match intsOf (c.map D.int)with|some c=>(match du cs (av ws) c with|some v=>if bo anyF v=false then ok v else none|none=>none)|none=>none)=_;rw[b_];show(match du cs (av ws) c with|some v=>if bo anyF v=false then ok v else none|none=>none)=_;rw[pT,e];unfold cX;rw[e];rfl
theorem IZ(P:Rc Φ)(f:Fl)(vs:aa)(h:ks.length<64):Φ 1035 [.cJ f ks vs]=ok (.lst .ow ((bP ks).map iO)):=by
 rw[P.Cp];show(if ks.length<64 then ok (D.lst .ow ((bP ks).map iO))else none)=_;rw[if_pos h]
structure Tn(P:ae->Prop)(j:Nat)(cs:aB)(ws:ae):Prop where
 nd:cs.Nodup
 ln:cs.length=ws.length
 vS:cs.length<=j
 iG:∀c∈cs,P c
 pos:∀w∈ws,1<=w/\w<=9
 ne:1<=j->cs≠[]
theorem sU{α:Type}{c:ae}{v:α}:∀{cs:aB} {ws:List α},cs.length=ws.length->(setC cs ws c v).length=ws.length
 |[],[],_=>rfl
 |[],_::_,h=>by simp at h
 |_::_,[],h=>by simp at h
 |c'::cs,w::ws,h=>by
  show((if c'=c then v else w)::setC cs ws c v).length=_;rw[List.length_cons,sU (by simpa using h),List.length_cons]
theorem Tn.put{P:ae->Prop}{j:Nat}(T:Tn P j cs ws){c:ae}(hc:P c){i:Int}(h1:1<=i)(h9:i<=9):Tn P (j+1) (bJ cs c) (bS cs ws c i):=by
 have hf:=T.vS;by_cases h:c∈cs
 ·unfold bJ bS;rw[if_pos h,if_pos h];refine⟨T.nd,by rw[sU T.ln];exact T.ln,by left,T.iG,λw hw=>?_,λ_ z=>by rw[z]at h;cases h⟩;rcases m7 hw with hw|rfl
  ·exact T.pos w hw
  ·left
 ·unfold bJ bS;rw[if_neg h,if_neg h];refine⟨?_,by rw[List.length_append,List.length_append,T.ln];rfl,by rw[List.length_append,List.length_singleton];left,λd hd=>?_,λw hw=>?_,λ_ z=>by simp at z⟩
  ·refine List.nodup_append.mpr ⟨T.nd,List.nodup_cons.mpr ⟨acr,aa_⟩,λa ha b hb e=>?_⟩;rw[List.mem_singleton.mp hb]at e;exact h (e▸ha)
  ·rcases List.mem_append.mp hd with hd|hd
   ·exact T.iG d hd
   ·rw[List.mem_singleton.mp hd];exact hc
  ·rcases List.mem_append.mp hw with hw|hw
   ·exact T.pos w hw
   ·rw[List.mem_singleton.mp hw];left
theorem NA:∀{l:ae},(∀x∈l,1<=x/\x<=9)->0<=l.sum/\l.sum<=9*l.length/\∀x∈l,x<=l.sum
 |[],_=>⟨Int.le_refl _,by simp,λ_ h=>nomatch h⟩
 |a::l,h=>by
  obtain⟨i1,i2,i3⟩:=NA λx hx=>h x (aal _ hx);have ha:=h a aai;rw[List.sum_cons,List.length_cons];refine⟨by left,by left,λx hx=>?_⟩;rcases List.mem_cons.mp hx with rfl|hx
  ·left
  ·have:=i3 x hx;left
theorem Tn.dr{P:ae->Prop}{n j:Nat}(T:Tn P j cs ws)(h1:1<=j)(h5:j<=5)(n1:1<=n)(n2:n<=12):Dp P 6 n (gu cs ws)/\(gu cs ws).length=cs.length/\1<=ws.sum/\ws.sum<=45:=by
 have hp:(bP cs).Perm cs:=aa3 _ _;have hl:(gu cs ws).length=cs.length:=by unfold gu;rw[List.length_map];exact hp.length_eq
 have hf:=T.vS;have DR:=T.ln;obtain⟨s0,s1,s2⟩:=NA T.pos;have val:∀c∈bP cs,1<=cX cs ws c/\cX cs ws c<=ws.sum:=λc hc=>by
  obtain⟨w,e,m⟩:=kE T.ln (hp.mem_iff.mp hc);unfold cX;rw[e];exact⟨(T.pos w m).1,s2 w m⟩
 have hW:1<=ws.sum:=by
  obtain⟨c,hc⟩:=abq cs (T.ne h1);have:=val c (hp.mem_iff.mpr hc);left
 have VU:ws.sum<=45:=by left
 have hsm:∀r∈gu cs ws,Sm 6 r.1:=λr hr=>by
  obtain⟨c,hc,rfl⟩:=List.mem_map.mp hr;have:=val c hc;exact sP (by left) (by show _<64;left) (by show _<64;left)
 refine⟨⟨n1,n2,by rw[hl];left,.inl (by rw[hl];left),by rw[hl];left,λr hr=>?_,λr hr=>?_,hsm,?_,?_⟩,hl,hW,VU⟩
 ·obtain⟨c,hc,rfl⟩:=List.mem_map.mp hr;exact T.iG c (hp.mem_iff.mp hc)
 ·obtain⟨c,hc,rfl⟩:=List.mem_map.mp hr;exact fW (by have:=val c hc;left) (by left)
 ·have e:(gu cs ws).map (·.1)=(bP cs).map λc=>Rat.divInt (cX cs ws c) ws.sum:=by
   unfold gu;rw[List.map_map];rfl
  rw[e];have e2:((bP cs).map λc=>Rat.divInt (cX cs ws c) ws.sum).sum=(cs.map λc=>Rat.divInt (cX cs ws c) ws.sum).sum:=tx (hp.map _);have e3:(cs.map λc=>Rat.divInt (cX cs ws c) ws.sum)=(cs.map (cX cs ws)).map λx=>Rat.divInt x ws.sum:=by rw[List.map_map];rfl
  rw[e2,e3,ny T.nd T.ln,qr _ (by left),Rat.divInt_eq_div];have z:((ws.sum:Int):Rat)≠0:=λz=>by rw[Rat.intCast_eq_zero_iff]at z;left
  grind
 ·have e:(gu cs ws).map (·.2)=bP cs:=by
   unfold gu;rw[List.map_map];exact(aau λ_ _=>rfl).trans (List.map_id _)
  rw[e];exact jM T.nd
noncomputable def xP:CE:=.comp 1 (.nm 0) [0] .lW [(.v 2)] [(.cmp .eq (.bin .mod (.bin .fdiv (.v 1) (.bin .shl (.int 1) (.v 0))) (.int 2)) (.int 1))] (.v 0)
def El:ao:=[.asg (.nm 6) (.bf .tuple1 [xP]),.asg (.nm 0) (.bin .fdiv (.v 0) (.bin .shl (.int 1) (.v 2))),.mut 1033 4 [(.bin .add (.int 1) (.bin .mod (.v 0) (.int 9))),(.v 6)],.asg (.nm 0) (.bin .fdiv (.v 0) (.int 9))]
noncomputable def CV:CE:=.comp 1 (.nm 0) [7,4] .seq [(.cg 1035 [(.v 4)])] [] (.tup [(.call 201 [(.cg 1032 [(.v 2),(.v 0)]),(.v 1)]),(.v 0)])
def GS:ao:=[.asg (.nm 2) (.bin .add (.int 1) (.bin .mod (.v 0) (.v 1))),.asg (.nm 3) (.bin .add (.int 1) (.bin .mod (.bin .fdiv (.v 0) (.v 1)) (.int 5))),.asg (.nm 0) (.bin .fdiv (.v 0) (.bin .mul (.int 5) (.v 1))),.asg (.nm 4) (.cg 1030 []),.fr (.nm 5) (.lW (.v 3)) El,.asg (.nm 7) (.cg 1038 [(.v 4)]),.ret (.tup [(.v 2),CV])]
theorem Dq{k:Nat}(hk:k<=12):b0 .shl (.int 1) (.int (k:Int))=ok (.int ((2 ^ k:Nat):Int)):=by
 rw[QW (by
  unfold ko;simp only[Bool.and_eq_true,decide_eq_true_eq];exact⟨⟨by left,by left⟩,by decide⟩),Int.toNat_natCast,Int.one_mul]
 simp
theorem Ir(N:Int){k:Nat}(hk:k<=12):b0 .fdiv (.int N) (.int ((2 ^ k:Nat):Int))=ok (.int (N.fdiv ((2 ^ k:Nat):Int))):=by
 have h1:1<=2 ^ k:=Nat.one_le_two_pow;have h2:2 ^ k<=2 ^ 12:=aaI (by decide) hk;refine jY (fV (by left) (k8 ?_));rw[Int.natAbs_natCast];have:(2:Nat) ^ 12<2 ^ 64:=by decide
 left
theorem Kl(Φ:bg){n:Nat}(hn:n<=12)(N:Int)(c1:aO)(r:aZ):∃iG,uN n iG/\bj Φ xP (some (.int N)::c1::some (.int n)::r)=ok (.lst .ow (av iG)):=by
 refine⟨_,UD n λ(k:Nat)=>decide ((N.fdiv ((2 ^ k:Nat):Int)).fmod 2=1),?_⟩;unfold xP;rw[eJ (xs:=[.int n]) (ds:=((List.range n).filter λ(k:Nat)=>decide ((N.fdiv ((2 ^ k:Nat):Int)).fmod 2=1)).map λ(k:Nat)=>D.int (k:Int)) (by simp) (FH Φ (by left) (by left)) ?_ ?_]
 ·simp[aP,av]
 ·rw[Int.toNat_natCast];refine lJ λk hk=>⟨[some (.int k),some (.int N)],by simp[cF],?_,λ_=>by simp⟩
  have Pu:=List.mem_range.mp hk;have e1:=Dq (k:=k) (by left);have e2:=Ir N (k:=k) (by left);generalize (N.fdiv ((2 ^ k:Nat):Int))=M at *;generalize ((2 ^ k:Nat):Int)=W at *;simp[e1,e2]
 ·have:=List.length_filter_le (λ(k:Nat)=>decide ((N.fdiv ((2 ^ k:Nat):Int)).fmod 2=1)) (List.range n);simp only[List.length_map,List.length_range]at this ⊢;exact dD (by left)
theorem xn(Φ:bg)(P:Rc Φ){n:Nat}(hn:n<=12)(c1 c3 c7:aO):∀(ks:aa) (j:Nat) (N:Int) (cs:aB) (ws:ae) (c5 c6:aO),Tn (uN n) j cs ws->j+ks.length<=5 ->
  ∃Ik Ri c0' L7 c6',fm (λd ρ=>cK (.nm 5) d ρ) (λρ=>bF Φ El ρ) ks [some (.int N),c1,some (.int n),c3,some (.cJ .ow cs (av ws)),c5,c6,c7]=ok (.nx,[c0',c1,some (.int n),c3,some (.cJ .ow Ik (av Ri)),L7,c6',c7])/\Tn (uN n) (j+ks.length) Ik Ri
 |[],j,N,cs,ws,c5,c6,T,_=>⟨cs,ws,some (.int N),c5,c6,rfl,T⟩
 |k::ks,j,N,cs,ws,c5,c6,T,hj=>by
  rw[List.length_cons]at hj;obtain⟨iG,hl,e1⟩:=Kl Φ hn N c1 [c3,some (.cJ .ow cs (av ws)),some k,c6,c7];have e2:=Dq hn;have e3:=Ir N hn;generalize N.fdiv ((2 ^ n:Nat):Int)=M at *;obtain⟨a1,a2⟩:=dZ M (b:=9) (by decide);have hf:=T.vS;have e4:=Gr P (cs:=cs) (by left) ws iG (1+M.fmod 9);have T':=T.put hl (i:=1+M.fmod 9) (by left) (by left);obtain⟨Ik,Ri,d0,d5,d6,ih,T''⟩:=xn Φ P hn c1 c3 c7 ks (j+1) (M.fdiv 9) _ _ (some k) (some (.tup (av iG))) T' (by left);have x1:=IH (Φ:=Φ) (p:=1033) (i:=4) (es:=[(.bin .add (.int 1) (.bin .mod (.v 0) (.int 9))),(.v 6)]) (ρ:=[some (.int M),c1,some (.int n),c3,some (.cJ .ow cs (av ws)),some k,some (.tup (av iG)),c7]) (xs:=[.int (1+M.fmod 9),.tup (av iG)]) (by simp) (by simp) rfl e4;simp only[List.set]at x1;refine⟨Ik,Ri,d0,d5,d6,lb (ρ1:=[some (.int N),c1,some (.int n),c3,some (.cJ .ow cs (av ws)),some k,c6,c7]) (by simp) (ρ2:=[some (.int (M.fdiv 9)),c1,some (.int n),c3,some (.cJ .ow (bJ cs iG) (av (bS cs ws iG (1+M.fmod 9)))),some k,some (.tup (av iG)),c7]) ?_ ih,by rw[List.length_cons,show j+(ks.length+1)=j+1+ks.length by left];exact T''⟩;generalize ((2 ^ n:Nat):Int)=W at *;simp[El,Mv Φ xP _ rfl,e1,e2,e3,x1]
theorem TH(Co:Φ 1038=Mn)(f:Fl)(cs:aB)(ws:ae):Φ 1038 [.cJ f cs (av ws)]=ok (.int ws.sum):=by
 rw[Co];show(match intsOf (ws.map D.int)with|some ns=>ok (D.int ns.sum)|none=>none)=_;rw[b_]
def Ra(m:aI):Prop:=∀(N:Int) (p:Nat),1<=p->p<=12->∃(n:Nat) (rs:aL),m [.int N,.int p]=ok (.tup [.int n,.lst .ow (br rs)])/\Dr 6 n rs/\rs.length<=5/\1<=rs.length/\n<=p
theorem TV(Φ:bg)(P:Rc Φ)(K5:mL (Φ 201))(Co:Φ 1038=Mn):Ra (mk Φ 2 8 GS):=by
 intro N p p1 p2;obtain⟨f1,f2⟩:=dZ N (b:=(p:Int)) (by left);obtain⟨n,hn⟩:∃n:Nat,1+N.fmod p=(n:Int):=⟨(1+N.fmod p).toNat,by left⟩
 obtain⟨g1,g2⟩:=dZ (N.fdiv p) (b:=5) (by decide);obtain⟨k,hk⟩:∃k:Nat,1+(N.fdiv p).fmod 5=(k:Int):=⟨(1+(N.fdiv p).fmod 5).toNat,by left⟩
 have T0:Tn (uN n) 0 [] []:=⟨aa_,rfl,aam _,(λ_ h=>nomatch h),(λ_ h=>nomatch h),λh=>by left⟩
 obtain⟨cs,ws,c0,c5,c6,el,T⟩:=xn Φ P (n:=n) (by left) (some (.int p)) (some (.int k)) none ((List.range k).map λ(i:Nat)=>D.int (i:Int)) 0 (N.fdiv (5*p)) [] [] none none T0 (by simp;left);rw[List.length_map,List.length_range,Nat.zero_add]at T;obtain⟨D6,hl,w1,w45⟩:=T.dr (n:=n) (by left) (by left) (by left) (by left);have jE:=T.ne (by left);have Yo:1<=cs.length:=List.length_pos_iff.mpr jE;have hfew:=T.vS;have hm:b0 .mod (.int N) (.int p)=ok (.int (N.fmod p)):=uD (by left);have hd:b0 .fdiv (.int N) (.int p)=ok (.int (N.fdiv p)):=jY (fV (by left) (k8 (by left)));have hd5:b0 .fdiv (.int N) (.int (5*(p:Int)))=ok (.int (N.fdiv (5*p))):=jY (fV (by left) (k8 (by left)));have hm5:b0 .mul (.int 5) (.int (p:Int))=ok (.int (5*(p:Int))):=GR (by left);have FU:Φ 1030 []=ok (.cJ .ow [] (av [])):=by rw[P.Cs];rfl
 have hit:fQ Φ (.lW (.v 3)) [some (.int (N.fdiv (5*p))),some (.int p),some (.int n),some (.int k),some (.cJ .ow [] (av [])),none,none,none]=ok ((List.range k).map λ(i:Nat)=>D.int (i:Int),[some (.int (N.fdiv (5*p))),some (.int p),some (.int n),some (.int k),some (.cJ .ow [] (av [])),none,none,none]):=by
  rw[OY (n:=k) (by simp) (by left) (by left),Int.toNat_natCast]
 have hf:=mP (Φ:=Φ) (t:=.nm 5) (b:=El) hit el;have hp:(bP cs).Perm cs:=aa3 _ _;have hsv:=λf=>TH Co f cs ws;have er:bj Φ CV [c0,some (.int p),some (.int n),some (.int k),some (.cJ .ow cs (av ws)),c5,c6,some (.int ws.sum)]=ok (.lst .ow (br (gu cs ws))):=by
  unfold CV;rw[eJ (xs:=[.lst .ow ((bP cs).map iO)]) (items:=(bP cs).map iO) (ds:=br (gu cs ws)) (by simp[IZ P _ _ (show cs.length<64 by left)]) (by rw[eT,lD]) ?_ (by rw[fF,hl];exact dD (by left))]
  ·rw[cy]
  ·unfold br gu;rw[List.map_map];refine cL λc hc=>?_;have zJ:c∈cs:=hp.mem_iff.mp hc;have d1:=λf=>LW P f T.ln zJ;have f1:=K5 (cX cs ws c) ws.sum (by left) (k8 (by left));have m1:aw aN (iO c)=.tup (av c):=by show D.tup (ah aN (c.map D.int))=_;rw[nB];rfl
   refine⟨[some (iO c),some (.int ws.sum),some (.cJ .fz cs (av ws))],by simp[cF],by simp,?_⟩;simp[m1,d1,f1];rfl
 refine⟨n,gu cs ws,?_,D6,by left,by left,by left⟩;simp only[yR]at hf FU;generalize gu cs ws=R at *;simp[mk_eq,GS,hm,hn,hd,hk,hm5,hd5,FU,hf,hsv,er]
end DI
end
section
namespace DI
open PySem PySem.Spec PyProof.Rows PySem.W
structure XC(K:Frag)(C:Addr):Prop where
 ga:findIn K (.ref C) "__getattribute__" = some (some (.builtin "BaseException.__getattribute__"))
 gt:findIn K (.ref C) "__getattr__" = some none
 cl:findIn K (.ref C) "__class__" = some (some (.builtin "object.__class__"))
 be:mroIn K C (.type "BaseException")=some true
 ob:mroIn K C (.type "object")=some true
 cs:(clsIn K C).isSome=true
section
variable {prog:aF}{w:World}{A:aJ}{E:aD}{h:Heap}{g:Array GenState}{d:Drawn}{t:Nat}{os:OsState}{K:Frag}{x C:Addr}{o:Obj}
theorem SV{R:Result->Shared->Prop}(Z:XC K C)(X:K.In h)(hx:h.get? x=some o)(hc:o.cls=.ref C)(hq:R (.ok (.ret (.ref C))) ⟨h,g,d,t,os⟩):
  codeAny (model prog w) A (.call (.builtin "getset_descriptor.__get__") ⟨[.builtin "object.__class__",.ref x,.ref C],[]⟩) R ⟨h,g,d,t,os⟩:=by
 have L1:=looks_mroIn (M:=model prog w) X Z.ob;refine abT KF.slot_gs.plain KF.entry_gs (KF.slot_gs.check _ _ _ _ _ _ _ _ KF.type_class (KF.args_gs _ _ _) ?_);have hT5:(⟨h,g,d,t,os⟩:Shared).TypeIs (.builtin "object.__class__") "getset_descriptor":=abO;have e1:(".".intercalate ("object.__class__".cutAt '.').dropLast) = "object":=F.owner_object_class
 repeat (any_goals (first|assumption | (with_reducible refine aaZ hx ?_;rw[hc]) | (with_reducible refine L1.at ?_) | (rw[e1];with_reducible refine L1.at ?_)|wp_step))
 refine⟨acf _ (by decide +kernel),abe F.entry_object_class ?_⟩
 repeat (any_goals (first|assumption | (with_reducible refine aaZ hx ?_;rw[hc])|wp_step))
theorem IF{tk:Tok}{Q:Fin->Shared->Prop}(Z:XC K C)(X:K.In h)(hx:h.get? x=some o)(hc:o.cls=.ref C)(hq:Q (.done (.ret (.ref C))) ⟨h,g,d,t,os⟩):
  wpAny (model prog w) A (Builtin.«object.__getattribute__» ⟨[.ref x,.str "__class__" tk],[]⟩) Q E ⟨h,g,d,t,os⟩:=by
 have hT5:(⟨h,g,d,t,os⟩:Shared).TypeIs (.builtin "object.__class__") "getset_descriptor":=abO;have f5:=abO;have f6:=F.slot_gs_get.lookup;have f7:=F.slot_gs_set.lookup;have L1:=looks_findIn (M:=model prog w) X Z.cl
 repeat (any_goals (first|assumption | (with_reducible refine aaZ hx ?_;rw[hc]) | (with_reducible refine L1.at ?_)|wp_step))
 refine SV Z X hx hc ?_
 repeat (any_goals (first|assumption|wp_step))
theorem IG{M:Model}{HL:Value}{Q:Unit->Shared->Prop}(Z:XC K C)(X:K.In h)(hx:h.get? x=some o)(hc:o.cls=.ref C)(hq:Q () ⟨h,g,d,t,os⟩):
  wpAny M A (checkBuiltinCall "BaseException.__getattribute__" ⟨[.ref x,HL],[]⟩) Q E ⟨h,g,d,t,os⟩:=by
 have hk:builtinKind "BaseException.__getattribute__" = some .slot:=by decide +kernel
 have KJ:splitId "BaseException.__getattribute__" = some ("BaseException","__getattribute__"):=by decide +kernel
 have L1:=looks_mroIn (M:=M) X Z.be;have ha:=F.args_bexc_ga (.ref x) HL;simp only[checkBuiltinCall,hk,KJ];refine aaa ?_
 ·unfold isInstance
  repeat (first | (with_reducible refine aaZ hx ?_;rw[hc]) | (with_reducible refine L1.at ?_)|wp_step)
  exact hq
theorem M1{tk:Tok}{R:Result->Shared->Prop}(B:ExcAttrFacts "ValueError")(Z:XC K C)(X:K.In h)(hx:h.get? x=some o)(hc:o.cls=.ref C)(hq:R (.ok (.ret (.ref C))) ⟨h,g,d,t,os⟩):
  codeAny (model prog w) A (.call (.builtin "BaseException.__getattribute__") ⟨[.ref x,.str "__class__" tk],[]⟩) R ⟨h,g,d,t,os⟩ :=
 abT B.ga.plain F.entry_bexc_ga (IG Z X hx hc (IF Z X hx hc hq))
theorem Y9{tk:Tok}{Q:aD}(B:ExcAttrFacts "ValueError")(Z:XC K C)(X:K.In h)(hx:h.get? x=some o)(hc:o.cls=.ref C)(hq:Q (.ref C) ⟨h,g,d,t,os⟩):
  wpAny (model prog w) A (getAttrBy (.ref x) (.str "__class__" tk) false) Q E ⟨h,g,d,t,os⟩:=by
 have f3:=B.ga.bind (.ref x);have hx0:(false&&onTheHeap (Value.builtin "BaseException.__getattribute__"))=false:=rfl;have hx2:(Value.builtin "BaseException.__getattribute__" == Value.builtin "object.__getattribute__")=false:=by decide +kernel
 have hx1:(onTheHeap (Value.ref C)&&Value.builtin "BaseException.__getattribute__" == Value.builtin "object.__getattribute__")=false:=by rw[hx2];rfl
 have L1:=looks_findIn (M:=model prog w) X Z.ga;have L2:=looks_findIn (M:=model prog w) X Z.gt
 repeat (any_goals (first|assumption | (with_reducible refine aaZ hx ?_;rw[hc]) | (with_reducible refine L1.at ?_) | (with_reducible refine L2.at ?_)|wp_step))
 refine M1 B Z X hx hc ?_
 repeat (any_goals (first|assumption|wp_step))
theorem M3{Q:Option Value->Shared->Prop}(B:ExcAttrFacts "ValueError")(Z:XC K C)(X:K.In h)(hx:h.get? x=some o)(hc:o.cls=.ref C)(hq:Q (some (.ref C)) ⟨h,g,d,t+1,os⟩):
  wpAny (model prog w) A (getAttr? (.ref x) "__class__") Q E ⟨h,g,d,t,os⟩:=by
 unfold getAttr? getAttrBy?
 repeat (any_goals (first|assumption|with_reducible apply Y9 B Z X hx hc|wp_step))
end
def yc(x C:Addr)(h:Heap):Prop:=∃o,h.get? x=some o/\o.cls=.ref C
set_option tactic.hygienic true in
theorem BE{K:Frag}{x C:Addr}(B:ExcAttrFacts "ValueError")(Z:XC K C):KitX K (.ref x) (.ref C) (yc x C) where
 ty:=λM h _ p=>by
  obtain⟨o,h1,h2⟩:=p;exact h2▸(Looks.ld h1).andThen .now
 it:=λ_ _ X _=>by
  obtain⟨cdD,KW⟩:=Option.isSome_iff_exists.mp Z.cs;unfold clsIn at KW;split at KW
  ·rename_i c' d' cd' TN ho;intro A' Q' E' s' k q;unfold isType loadHead;exact aaa (wpAny_loadPart (k _ _ (X _ _ ho)) (aah q))
  ·cases KW
 ne:=λh tp dd aM n sl X R9=>by
  obtain⟨cdD,KW⟩:=Option.isSome_iff_exists.mp Z.cs;refine Bool.eq_false_iff.mpr λq=>?_;have e:C=tp:=Value.ref.inj (beq_iff_eq.mp q);subst e;unfold clsIn at KW;split at KW
  ·rename_i c' d' cd' TN ho;have z:=(X _ _ ho).symm.trans R9;cases z
  ·cases KW
 ca:=λ{prog w A E Q s} X p k=>by
  obtain⟨o,h1,h2⟩:=p;obtain⟨h,g,d,t,os⟩:=s;exact M3 B Z X h1 h2 k
end DI
end
section
namespace DI
open PySem PySem.Spec PyProof.Rows L2
variable {B base h h' h2 h3:Heap}{H H' H1:Hp}{P:aF}{w:World}
theorem lC{a:Addr}{o:HO}(x:cC P w H h a o):∃u,h.get? a=some u:=by
 cases o with
 |lst xs=>obtain⟨_,_,_,_,e⟩:=x;exact⟨_,e⟩
 |tup xs=>obtain⟨_,_,_,o,e,_⟩:=x;exact⟨_,e⟩
 |dK lZ=>obtain⟨_,_,_,_,o,_,_,e,_⟩:=x;exact⟨_,e⟩
 |dT lZ=>obtain⟨_,_,_,_,o,_,_,e,_⟩:=x;exact⟨_,e⟩
 |set S n=>obtain⟨o,_,_,_,e,_⟩:=x;exact⟨_,e⟩
 |ins C dx fs=>obtain⟨_,_,_,e,_⟩:=x;exact⟨_,e⟩
 |own y=>obtain⟨_,e⟩:=x;exact⟨_,e⟩
 |xd fs=>obtain⟨_,⟨_,_,_,e,_⟩,_⟩:=x;exact⟨_,e⟩
 |lW lo hi=>obtain⟨_,_,_,e⟩:=x;exact⟨_,e⟩
 |iK ob u=>obtain⟨e,_⟩:=x;exact⟨_,e⟩
 |Ei ps=>exact⟨_,(show h.get? a=some _ from x)⟩
 |met f y=>exact⟨_,(show h.get? a=some _ from x)⟩
 |ext φ=>obtain⟨_,⟨_,e⟩,_⟩:=x;exact⟨_,e⟩
def SR(l:List Env)(H':Hp)(h h' B:Heap):Prop:=∀b o,h'.get? b=some o->b∉la l->(H' b≠none\/h.get? b≠none)->B.get? b=some o
theorem moved{l:List Env}(un:Un (la l) [] H H' h h2)(cB:jt P w H' h2)(DV:SR l H' h h2 B)(fu:h.FunFrames base l)(zK:∀b∈la l,H b=none)
  (st:B.StaysIn h3) (sl:h2.UpToSlots h3):Un (la l) [] H H' h h3/\jt P w H' h3/\SR l H' h h3 B:=by
 have fr:∀b∈la l,H' b=none:=λb hb=>by
  obtain⟨_,o,ho,_⟩:=fu.mem hb;exact un.free b o ho (zK b hb) (by simp)
 have keep:∀b o,h2.get? b=some o->b∉la l->(H' b≠none\/h.get? b≠none)->h3.get? b=some o:=λb o e hb hc=>st b o (DV b o e hb hc);have slot:∀b o,h.get? b=some o->b∈la l->∃sl,h3.get? b=some { o with slots:=sl }:=λb o e hb=>by
  obtain⟨sl1,e1⟩:=un.slot b o e (zK b hb) hb (by simp);obtain⟨_,o',fJ,nf⟩:=fu.mem hb;rw[e]at fJ;cases fJ;obtain⟨uR,e2⟩:=sl b _ e1 (λvs z=>nf vs z);exact⟨uR,e2⟩
 refine⟨⟨λb o e n hb _=>keep b o (un.keep b o e n hb (by simp)) hb (.inr (by rw[e];simp)),λb o e n hb _=>slot b o e hb,un.free,λb o e _=>?_,un.lP,un.k_,un.lR⟩,λa o e=>?_,λb o e hb hc=>?_⟩
 ·by_cases hb:b∈la l
  ·obtain⟨s1,e1⟩:=slot b o e hb;exact⟨_,e1⟩
  ·obtain⟨o',e1⟩:=un.there b o e (by simp);exact⟨o',keep b o' e1 hb (.inr (by rw[e];simp))⟩
 ·refine(cB a o e).kl (λb u hb q=>?_) (λ_ q=>q) λ_ _ q=>q;have ht:H' b≠none:=by
   rcases hb with rfl|hb
   ·rw[e];simp
   ·rw[hb];simp
  exact keep b u q (λz=>ht (fr b z)) (.inl ht)
 ·have:∃o2,h2.get? b=some o2:=by
   rcases hc with hc|hc
   ·cases q:H' b with
    |none=>exact absurd q hc
    |some u=>exact lC (cB b u q)
   ·cases q:h.get? b with
    |none=>exact absurd q hc
    |some u=>exact un.there b u q (by simp)
  obtain⟨o2,e2⟩:=this;have e3:=keep b o2 e2 hb hc;rw[e]at e3;cases e3;exact DV b _ e2 hb hc
structure SQ(P:aF)(w:World)(C:Addr)(l:List Env)(H:Hp)(s:Shared)(e:Addr)(H':Hp)(s':Shared):Prop where
 fly:∃t B,Heap.FlyingW B l e (.ref C) (.ref t) s'.heap/\SR l H' s.heap s'.heap B
 os:s'.os=s.os
 bare:AllBare s'.gens
 un:Un (la l) [] H H' s.heap s'.heap
 cB:jt P w H' s'.heap
noncomputable abbrev sk(P:aF)(w:World)(C:Addr):yf:=λl H s E e s'=>∃ea H',e=.ref ea/\SQ P w C l H s ea H' s'/\E (.ref C) none H'
theorem uf{l:List Env}{e:Addr}{cls a0:Value}(f:Heap.FlyingW B l e cls a0 h):e∉la l:=λhm=>by
 obtain⟨_,o,ho,nf⟩:=f.2.2.1.mem hm;obtain⟨oe,vs,he,_,hd,_⟩:=f.first;rw[ho]at he;cases he;exact nf vs hd
variable {C ea:Addr}
theorem SQ.new{l:List Env}{s s':Shared}{e:Addr}(f:SQ P w C l H s e H' s'):H' e=none/\s.heap.get? e=none:=by
 obtain⟨t,B,fw,DV⟩:=f.fly;obtain⟨oe,vs,he,_⟩:=fw.first;have key:¬ (H' e≠none\/s.heap.get? e≠none):=λz=>by
  have:=DV e oe he (uf fw) z;rw[fw.2.1]at this;cases this
 exact⟨Classical.not_not.mp λz=>key (.inl z),Classical.not_not.mp λz=>key (.inr z)⟩
variable {s1:Shared}{σ:L2.St}
section
variable {P:aF}{w:World}{C:Addr}{K:aq}{mg:aR}{base:Heap}{N:ag}{qual:Str}{scope:Scope}{f:Addr}{cd:Value}{A:aJ}{outer:List Env}{s:Shared}{H:Hp}{E:XK}
theorem left{pins:aj}{s2:Shared}{t:Addr}
  (I:Inv (iH (sk P w C) P w K mg base N qual scope f cd A outer s H E) pins σ H1 s1)
  (un:Un (la (iH (sk P w C) P w K mg base N qual scope f cd A outer s H E).stack) [] H1 H' s1.heap h2) (cB:jt P w H' h2) (DV:SR (iH (sk P w C) P w K mg base N qual scope f cd A outer s H E).stack H' s1.heap h2 B)
  (fw:Heap.FlyingW B outer ea (.ref C) (.ref t) h3) (sl:h2.UpToSlots h3) (os:s2.os=s1.os) (bare:AllBare s2.gens):SQ P w C outer H s ea H' { s2 with heap:=h3 }:=by
 obtain⟨Zh,Pl,WJ⟩:=moved un cB DV I.stack I.kj fw.1 sl;have J:=I.xW (s':={ s2 with heap:=h3 }) (ch:=[]) os Zh Pl bare λ_ z=>nomatch z;refine⟨⟨t,B,fw,λb o e hb hc=>?_⟩,J.os,bare,J.base,Pl⟩;have hbL:b≠s.heap.objs.size:=by
  rcases hc with hc|hc
  ·rintro rfl;exact hc J.free
  ·rintro rfl;exact hc (Heap.get?_none_of_le (aam _))
 refine WJ b o e (λz=>?_) ?_
 ·rcases List.mem_cons.mp (I.jL b z)with z|z
  ·exact hbL z
  ·exact hb z
 ·rcases hc with hc|hc
  ·exact .inl hc
  ·right;cases q:s.heap.get? b with
   |none=>exact absurd q hc
   |some u =>
    obtain⟨o',e'⟩:=I.base.there b u q (by intro z;cases z);rw[e'];simp
theorem Ob{E1:XK}(hE:∀H',E1 (.ref C) none H'->E (.ref C) none H'):Passes (sk P w C) (iH (sk P w C) P w K mg base N qual scope f cd A outer s H E) E1:=by
 intro pins σ H1 s1 e s2 I hx;obtain⟨ea,H',rfl,⟨⟨t,B,fw,DV⟩,os,bare,un,cB⟩,he⟩:=hx;show wpAny (model P w) _ (leaving _ (.ref ea)) _ _ s2;refine wpAny_leaves_onW (L:=s.heap.objs.size) I.ok.frames rfl fw λh' fw' sl=>?_;exact⟨ea,H',rfl,left I un cB DV fw' sl os bare,hE H' he⟩
theorem EK{pins:aj}{vs:ak}
  (I:Inv (iH (sk P w C) P w K mg base N qual scope f cd A outer s H E) pins σ H1 s1) (hm:Heap.MadeExcOf s1.heap h' ea (.ref C) vs) (he:E (.ref C) none H1) :
  (iH (sk P w C) P w K mg base N qual scope f cd A outer s H E).xe (.ref ea) { s1 with heap:=h' }:=by
 show wpAny (model P w) _ (leaving _ (.ref ea)) _ _ _
 let l:=(iH (sk P w C) P w K mg base N qual scope f cd A outer s H E).stack
 let B:=PySem.W.hideAll s1.heap (la l)
 have hB:B.StaysIn s1.heap:=λb o e=>PySem.W.of_hideAll _ e;refine wpAny_leaves_madeW (h:=s1.heap) (base:=B) (L:=s.heap.objs.size) I.ok.frames rfl hB (PySem.W.funFrames_hide (as:=la l) I.stack λenv he a ha=>List.mem_filterMap.mpr ⟨env,he,ha⟩) hm λYB t fw _ _ sl=>?_;refine⟨ea,H1,rfl,left (s2:=s1) (H':=H1) I (Un.kept hm.keeps) (I.cB.kept hm.keeps) (λb o e hb hc=>?_) fw sl rfl I.bare,he⟩;have:∃o1,s1.heap.get? b=some o1:=by
  rcases hc with hc|hc
  ·cases q:H1 b with
   |none=>exact absurd q hc
   |some u=>exact lC (I.cB b u q)
  ·cases q:s1.heap.get? b with
   |none=>exact absurd q hc
   |some u=>exact⟨u,rfl⟩
 obtain⟨o1,e1⟩:=this;have e2:=hm.keeps b o1 e1;have e:h'.get? b=some o:=e;rw[e]at e2;cases e2;exact PySem.W.hideAll_get _ e1 hb
end
abbrev IM:ak:=[.type "ValueError",.type "Exception",.type "BaseException",.type "object"]
noncomputable abbrev oB(x:Str)(C:Addr)(mg:aR)(h:Heap):Prop:=OwnCls x C IM "ValueError.__new__" mg h
variable {K:aq}
set_option tactic.hygienic true in
theorem xM(q:PySem.W.excIn K C IM "ValueError.__new__" = true):∃(dd:Option Addr) (nm:Str) (bs bm:ak) (ns:Addr) (qn:Str) (hd:Bool) (sn:ag) (sub:ak) (ab:Bool) (col:Option Bool) (k0 k1 k2 k3 k5:Option Value),
  K.lookup C=some (excClassObj nm qn C ns bs bm hd sn sub ab col dd k0 k1 k2 k3 k5 "ValueError.__new__")/\PySem.W.tailIn K IM bm=true/\PySem.W.nsOkIn K ns=true/\PySem.W.nsIn K ns "__init__" = some none:=by
 unfold PySem.W.excIn at q;split at q
 case h_2=>cases q
 case h_1 dd cd sl ho =>
  split at q
  case h_2=>cases q
  case h_1 C' bm k0 k1 k2 k3 n k5 hm hs =>
   rw[Bool.and_eq_true,Bool.and_eq_true,Bool.and_eq_true,Bool.and_eq_true,Bool.and_eq_true]at q;obtain⟨⟨⟨⟨⟨e1,e2⟩,e3⟩,e4⟩,e5⟩,e6⟩:=q;have e1:=beq_iff_eq.mp e1;have e2:=beq_iff_eq.mp e2;have e6:=beq_iff_eq.mp e6;subst e1;subst e2;cases cd with
   |mk nm bs mro ns qn hd sn sub ab col del =>
    cases hm;have e3:del=false:=by simpa using e3
    subst e3;cases sl with
    |mk l =>
     cases hs;exact⟨_,_,_,_,_,_,_,_,_,_,_,_,_,_,_,_,ho,e4,e5,e6⟩
variable {mg:Str->Option Value}
theorem xg{x:Str}(X:K.In h)(G:h.Ns mainGlobals mg)(e:PySem.W.nsIn K mainGlobals x=some (some (.ref C)))(q:PySem.W.excIn K C IM "ValueError.__new__" = true):oB x C mg h:=by
 obtain⟨_,_,_,_,_,_,_,_,_,_,_,_,_,_,_,_,ho,e4,e5,e6⟩:=xM q;exact⟨aa8 X G e,_,_,_,_,_,_,_,_,_,_,_,_,_,_,_,_,_,X _ _ ho,.of_isNs (PySem.W.isNs_of_in X e5),PySem.W.nsMap_none_of_in X e5 e6,PySem.W.tail_of_in X e4⟩
variable {cpos np pos:Pos}
section
variable {X:Cx}{C:Addr}{x:Str}
noncomputable def Ja(X:Cx)(C:Addr):TS:=λD σ H=>∀pins s h' ea vs,Inv X pins σ H s->Heap.MadeExcOf s.heap h' ea (.ref C) vs->X.xe (.ref ea) { s with heap:=h' }
theorem AN{m:Str}{j:Nat}{p:Pos}(hc:X.calm=true)(O:oB x C X.mg X.base)(hg:Gl X x)(hd:(x==("__debug__" : Str))=false):
  PS X (.Raise (some (.Call (.Name x np) [.Constant (.str m) j p] [] cpos)) none pos) (Ja X C):=by
 intro pins s σ H D I hw;obtain⟨tl,N,nm,q,bs,hdct,sn,sub,ab,col,dd,k0,k1,k2,k3,k5,mN,hC,hN,hni,T⟩:=O.obj;refine wpAny_Raise_call_subT (C:=C) (nm:=nm) (q:=q) (N:=N) (bs:=bs) (bm:=tl) (hdct:=hdct) (sn:=sn) (sub:=sub) (ab:=ab) (col:=col) (dd:=dd) (k0:=k0) (k1:=k1) (k2:=k2) (k3:=k3) (k5:=k5)
  F.excBase_ValueError (mN:=mN) (T.hasType F.excBase_ValueError.hasBase) (I.ok.hd hc) rfl hni (qV I hg O.bound ⟨rfl,?_⟩ hd)
 have he:starEach [.Constant (.str m) j p] X.env=(false,eval (.Constant (.str m) j p) X.env)::starEach [] X.env:=rfl;have hp:=bW (nh (X:=X) (x:=m) (j:=j) (pos:=p)) dF he cpos pins s σ H (λvs H'=>H'=H/\vs.length<=1) I ⟨rfl,aam 1⟩;rw[he]at hp ⊢;refine Calls.evalArgs_plain (cQ hp λus s2 bK=>?_);obtain⟨vs,H2,I2,r,q2,q3⟩:=bK;subst q2;exact⟨rfl,by rw[<- r.length];exact aaC q3 (by decide),I2.bk _ _ hC,hN.keeps I2.bk,T.keeps I2.bk,λh' e hm=>hw pins s2 h' e us I2 hm⟩
end
variable {X:Cx}
theorem Cx.Ok.mk'(ok:X.Ok)(e:Value)(E:aD):Cx.Ok { X with A:=X.A.mark (some e),calm:=false,xe:=E } :=
 ⟨ok.mod,ok.kind,ok.glob,ok.blt,ok.above,ok.inj,ok.has,ok.Im,(λh=>by cases h),ok.frames,ok.Ji,ok.Qv,ok.bs,ok.Dl,ok.tI,ok.vT,ok.jP,ok.zK⟩
theorem BO{pins:aj}{s:Shared}(I:Inv X pins σ H s)(e:Value)(E:aD):Inv { X with A:=X.A.mark (some e),calm:=false,xe:=E } pins σ H s :=
 ⟨Cx.Ok.mk' I.ok e E,I.os,I.bare,I.base,I.loc,I.cell,I.free,I.fT,I.pin,I.cB,I.len⟩
variable {E:Value->Shared->Prop}
theorem vJ{pins:aj}{s:Shared}{e:Value}(ok:X.Ok)(I:Inv { X with A:=X.A.mark (some e),calm:=false,xe:=E } pins σ H s):Inv X pins σ H s :=
 ⟨ok,I.os,I.bare,I.base,I.loc,I.cell,I.free,I.fT,I.pin,I.cB,I.len⟩
theorem ET{i:Nat}{x:Str}(hN:X.N[i]?=some x)(hv:Iw X.env.scope x)(hd:(x==("__debug__" : Str))=false)(tZ:(x==("__classdict__" : Str))=false):PE X (.Name x pos) (mW i):=hX hN hv hd tZ
noncomputable def only(n j:Nat)(v:V):St:=(List.replicate n none).set j (some v)
section
variable {X:Cx}{C:Addr}{x n y:Str}{i j:Nat}{E1:XK}
end
noncomputable abbrev Cx.lQ(X:Cx)(pins:aj)(E:aD):Cx:={ X with xe:=E,pn:=X.pn++pins }
section
variable {X:Cx}{C:Addr}{x n y:Str}{i j:Nat}{E1:XK}
theorem FN{pins:aj}{s:Shared}(I:Inv X pins σ H s)(E:aD):Inv (Cx.lQ X pins E) [] σ H s :=
 ⟨⟨I.ok.mod,I.ok.kind,I.ok.glob,I.ok.blt,I.ok.above,I.ok.inj,I.ok.has,I.ok.Im,I.ok.hd,I.ok.frames,I.ok.Ji,I.ok.Qv,I.ok.bs,I.ok.Dl,I.ok.tI,I.ok.vT,I.ok.jP,I.ok.zK⟩,I.os,I.bare,I.base,I.loc,I.cell,I.free,I.fT,λp hp=>I.pin p (by simpa using hp),I.cB,I.len⟩
theorem gN{pins q:aj}{s:Shared}(I:Inv (Cx.lQ X pins E) q σ H s):Inv X pins σ H s :=
 ⟨⟨I.ok.mod,I.ok.kind,I.ok.glob,I.ok.blt,I.ok.above,I.ok.inj,I.ok.has,I.ok.Im,I.ok.hd,I.ok.frames,I.ok.Ji,I.ok.Qv,I.ok.bs,I.ok.Dl,I.ok.tI,I.ok.vT,I.ok.jP,I.ok.zK⟩,I.os,I.bare,I.base,I.loc,I.cell,I.free,I.fT,λp hp=>I.pin p (aaA _ hp),I.cB,I.len⟩
theorem tracked{l:List Env}(un:Un (la l) [] H H' h h')(cB:jt P w H' h')(n1:H' ea=none)(n2:h.get? ea=none)(at_:yc ea C h'):
  Un (la l) [] H (upd H' ea (.ext (yc ea C))) h h'/\jt P w (upd H' ea (.ext (yc ea C))) h':=by
 have ne:∀b u,H' b=some u->b≠ea:=λb u q=>bQ q n1;refine⟨⟨un.keep,un.slot,λb o e n hx=>?_,un.there,λb xs q=>?_,λb o u q=>?_,λb ps q=>?_⟩,λb u q=>?_⟩
 ·have:b≠ea:=by rintro rfl;rw[n2]at e;cases e
  rw[aW this];exact un.free b o e n hx
 ·have:=un.lP b xs q;rw[aW (ne _ _ this)];exact this
 ·have:=un.k_ b o u q;rw[aW (ne _ _ this)];exact this
 ·obtain⟨m,this⟩:=un.lR b ps q;exact⟨m,by rw[aW (ne _ _ this)];exact this⟩
 ·by_cases hb:b=ea
  ·subst hb;rw[aX]at q;cases q;obtain⟨o,e1,e2⟩:=at_;exact⟨⟨o,e1,e2⟩,⟨o,e1⟩,λh1 h2 ⟨o,e1,e2⟩ k=>⟨o,k o e1,e2⟩⟩
  ·rw[aW hb]at q;exact(cB b u q).kl (λ_ _ _ q=>q) (λc r=>by rw[aW (ne _ _ r)];exact r) λc xs r=>by rw[aW (ne _ _ r)];exact r
end
variable {ps:ag}{qual told:Str}{st:Stmt}
theorem WG{CX:yf}{x:Str}{f:Addr}{fd:FuncData}{N:ag}{k:Nat}{sp:Sp}(F:zy K x qual st f fd)(S:eW N ps (aE st))(len:∀vs H Q E,sp vs H Q E->vs.length=ps.length)
  (t4:∀(fG:Value) (A:aJ) (outer:List Env) (s:Shared) (H:Hp) (vs:af) (Q:VK) (E:XK),gh k (A.deeper (envOfC qual (aE st) s.heap.objs.size f fG))->sp vs H Q E ->
   ∃t,ir (iH CX P w K mg base N qual (aE st) f fG A outer s H E) (bw st) t/\t { nx:=λ_ H'=>Q .bB H',rt:=Q } (L2.start N vs) H):fB P w K mg base CX (k+1) f fd ps sp:=by
 obtain⟨oc,od,kV,doc,pm,an,fG,ct,A_,rfl,lk,tZ⟩:=F.ex;exact Ia lk tZ S len λA outer s H vs Q E hr sj=>t4 fG A outer s H vs Q E hr sj
def Rx(K:aq)(C:Addr)(n:Nat)(mr:aa->Prop):Sp:=λvs H _ E=>∃(F:ai) (ds:aa),vs.length=n/\aG (bh K H) (nd K F (λ_=>False) (λ_=>none) H) [] 0 vs ds/\mr ds/\∀H',aK H H'->E (.ref C) none H'
theorem sQ{F:ai}{N:ag}{vs:af}{ds:aa}(h0:X.H₀=H)(hl:ds.length<=N.length)(rs:aG (bh X.K H) (nd X.K F (λ_=>False) (λ_=>none) H) [] 0 vs ds):
  SI X F (λp=>F p/\H p≠none) (λ_=>none) (ds.map some++List.replicate (N.length - ds.length) none) (L2.start N vs) H:=by
 have FP:vs.length=ds.length:=rs.length;refine⟨?_,λi d hi=>?_,λ_ _=>rfl,λp h=>h.2,λp h=>.inl h.1,λ_ _ h=>by simp at h,λ_ _ h=>by simp at h,h0▸aK.refl H⟩
 ·unfold L2.start;simp[FP]
 ·have PB:i<ds.length:=by
   by_cases lG:i<ds.length
   ·exact lG
   ·rw[List.getElem?_append_right (by simpa using lG),List.getElem?_replicate]at hi;split at hi<;>simp at hi
  rw[List.getElem?_append_left (by simpa using PB),List.getElem?_map]at hi;have hd:ds[i]?=some d:=by
   cases q:ds[i]? with
   |none=>rw[q]at hi;exact nk hi
   |some z=>rw[q]at hi;simp at hi;rw[hi]
  obtain⟨v,hv,rv⟩:=rs.get hd;refine⟨v,?_,rv.imp (q:=[0+i]) (q':=[i]) (λ_ _ h=>h) λc p xs f h=>?_⟩
  ·unfold L2.start;rw[List.getElem?_append_left (by rw[List.length_map,FP];exact PB),List.getElem?_map,hv];rfl
  ·cases f with
   |ow=>exact nomatch h.2
   |fz=>exact⟨h.1,h.2,h.1.ne⟩
   |al=>exact h.2.elim
   |sc=>exact h
noncomputable def qq(X:Cx)(F:ai)(bad:aZ->Prop):TS:=λ_ σ H=>∃R τ ρ,SI X F R τ ρ σ H/\bad ρ
theorem PS.Bi{X:Cx}{st:Stmt}{t:TS}(h:PS X.Bi st t):PS X st t:=λpins s σ H D I hw =>
 aav (h pins s σ H D (I.mR _) hw) (λ_ _ q=>q.gZ) λ_ _ q=>q.elim
theorem SI.Bi{X:Cx}{F R:ai}{τ:Addr->Option bp}{ρ:aZ}{σ:St}{H:Hp}(S:SI X F R τ ρ σ H):SI X.Bi F R τ ρ σ H:=⟨S.len,S.rep,S.rt,S.rh,S.rf,S.th,S.t0,S.same⟩
noncomputable def yp(X:Cx)(F:ai)(bad:aZ->Prop):TE:=λσ H _=>∃R τ ρ,SI X F R τ ρ σ H/\bad ρ
section
variable {X:Cx}{S:Sx}{k:Nat}{Φ:bg}{F:ai}{bad:aZ->Prop}{C:Addr}
theorem Gb{f':Addr}{YD:FuncData}{RK:ag}{Xz:aa->Prop}{ce:az}{g:Str}{e:Expr}{es:au}(L:Lk X S k Φ)(hx:Passes (sk X.prog X.w C) X (λc _ H'=>c=.ref C/\aK X.H₀ H'))
  (F':fB X.prog X.w X.K X.mg X.base (sk X.prog X.w C) k f' YD RK (Rx X.K C RK.length Xz)) (h2:gz S.sc g=true) (hg:X.mg g=some (.ref f')) (hk:PySem.W.keepIn X.K (.ref f')=true) (hb:Binds X.K YD RK []) (hd:(g==("__debug__" : Str))=false)
  (h3:bG S ce (e::es)=true) (j8:∀r,starEach (e::r) X.env=(false,eval e X.env)::starEach r X.env) (hpl:(backTo cpos (starEach es X.env)).any (·.1)=false) :
  PE X (.Call (.Name g np) (e::es) [] cpos) (yp X F λρ=>∃ds',bz Φ ce ρ=ok ds'/\Xz (ah aA ds')/\ds'.length=RK.length):=by
 refine PE.imp (qL (X:=X) (p:=np) (pos:=cpos) F' L.room (L.gl h2) hg hk hb .nil hx (jm (F:=F) L ce (e::es) h3) hd (j8 _) hpl) λσ H Q hq=>?_;obtain⟨R,τ,ρ,Si,ds',VB,Vr,VD⟩:=hq;refine⟨R,τ,ρ,ds',Si,VB,λZc H2 e2 rv=>?_⟩;obtain⟨τt,ft,NT⟩:=rv;rw[List.append_nil];refine⟨λ_=>True,ah aA ds',by rw[NT.length,VD],aG.gM (λ_ _ h=>h) (λk k' p xs f h=>?_) NT _ _,Vr,λH' e'=>⟨rfl,(Si.same.trans e2).trans e'⟩⟩;cases f with
 |ow=>exact⟨h.1,trivial⟩
 |fz=>exact⟨h.1,trivial⟩
 |al=>exact⟨h.1,trivial⟩
 |sc=>exact h
theorem LJ{e:Expr}(h:PE X e (yp X F bad)):PS X (.Return (some e) pos) (qq X F bad):=PS.imp (kY h) λ_ _ _ q=>q
theorem Qy{e:Expr}(h:PE X e (yp X F bad))(hs:swapsWith e none pos.line X.env=pure false):PS X (.Expr e pos) (qq X F bad):=PS.imp (kn h hs) λ_ _ _ q=>q
theorem LI{i:Nat}{x:Str}{e:Expr}{p:Pos}(hN:X.N.Nodup)(hi:X.N[i]?=some x)(hx:L2.Loc X.env.scope x)(hf:X.fn x=true)(h:PE X e (yp X F bad))(hs:swapsWith e (some (.Name x p)) pos.line X.env=pure false):PS X (.Assign [.Name x p] e pos) (qq X F bad) :=
 PS.imp (jN hN hi hx h hs (.inl hf)) λ_ _ _ q=>q
end
def Ti(C:Addr)(i:Nat)(b:Bool):TE:=λσ H Q=>∃ea,σ[i]?=some (some (.ref ea))/\H ea=some (.ext (yc ea C))/\Q (.bl b) H
def Nl(C:Addr)(i:Nat)(bs:List Bool):TA:=λσ H Q=>∃ea,σ[i]?=some (some (.ref ea))/\H ea=some (.ext (yc ea C))/\Q (bs.map V.bl) H
section
variable {X:Cx}{C:Addr}{i:Nat}
theorem KA{cv:V}{cu:Value}{b:Bool}(Z:XC X.K C)(hr:∀u,RelV cv u->u=cu)(hk:PySem.W.kitOne X.K (.ref C) cu=some b):
  fh X (.builtin "isinstance") (λxs H Q=>∃ea,xs=[.ref ea,cv]/\H ea=some (.ext (yc ea C))/\Q (.bl b) H):=by
 intro pins s σ H xs us Q I r h;obtain⟨ea,rfl,hH,q⟩:=h;obtain⟨u,w',rfl,ru,mm⟩:=vals2 r;cases ru;cases hr w' mm;obtain⟨⟨o,e1,e2⟩,_⟩:=(show cC X.prog X.w H s.heap ea (.ext (yc ea C)) from I.cB ea _ hH)
 exact aaX (BE PySem.F.attr_ValueError Z) I.vG ⟨o,e1,e2⟩ hk (λz=>nomatch z) λtk=>⟨.bl b,H,I.tok tk,rfl,q⟩
structure Ml(X:Cx)(C:Addr)(cl:Str->Option Bool):Prop where
 xc:XC X.K C
 isi:Gl X "isinstance"
 isn:X.mg "isinstance" = none
 ex:∀x b,cl x=some b->∀p,∃cv cu,PE X (.Name x p) (tC cv)/\(∀u,RelV cv u->u=cu)/\PySem.W.kitOne X.K (.ref C) cu=some b
def tV(err:Str)(cl:Str->Option Bool)(e:Expr):Option Bool:=(eX e).bind λz=>(two z.2).bind λw=>(IS w.1).bind λy=>(IS w.2).bind λx=>if z.1 = "isinstance" /\ y=err then cl x else none
def dU(err:Str)(cl:Str->Option Bool):au->Option (List Bool)
 |[]=>some []
 |e::es=>match tV err cl e,dU err cl es with
  |some b,some bs=>some (b::bs)
  |_,_=>none
theorem vk{err:Str}{cl:Str->Option Bool}(Z:Ml X C cl)(he:∀p,PE X (.Name err p) (mW i)){e:Expr}{b:Bool}(h:tV err cl e=some b):PE X e (Ti C i b)/\(∀es,starEach (e::es) X.env=(false,eval e X.env)::starEach es X.env)/\∀whole,isTrue e X.env whole=(do let v <- whole;standAt e.pos;holding [v] (truthy v)):=by
 obtain⟨⟨f,as⟩,hv,g1⟩:=Option.bind_eq_some_iff.mp h;obtain⟨p0,pos,rfl⟩:=bU hv;obtain⟨⟨ey,ex⟩,hw,g2⟩:=Option.bind_eq_some_iff.mp g1;obtain rfl:as=[ey,ex]:=g_ hw;obtain⟨y,hy,g3⟩:=Option.bind_eq_some_iff.mp g2;obtain⟨p1,rfl⟩:=jK hy;obtain⟨x,hx,g4⟩:=Option.bind_eq_some_iff.mp g3;obtain⟨p2,rfl⟩:=jK hx;by_cases hh:f = "isinstance" /\ y=err
 ·rw[if_pos hh]at g4;obtain⟨rfl,rfl⟩:=hh;refine⟨?_,λ_=>rfl,λ_=>rfl⟩;obtain⟨cv,cu,h1,h2,h3⟩:=Z.ex x b g4 p2;refine PE.imp (cS (KA Z.xc h2 h3) Z.isi Z.isn PyProof.Rows.boot_isinstance (bW (he p1) (bW h1 dF))) λσ H Q hq=>?_;obtain⟨ea,e1,e2,q⟩:=hq;exact⟨_,e1,ea,rfl,e2,q⟩
 ·rw[if_neg hh]at g4;cases g4
set_option tactic.hygienic true in
theorem vm{err:Str}{cl:Str->Option Bool}(Z:Ml X C cl)(he:∀p,PE X (.Name err p) (mW i)):∀{es:au} {bs:List Bool},dU err cl es=some bs->PA X es (Nl C i bs)
 |[],bs,h=>by
  cases h;exact PA.imp dF λσ H Q ⟨ea,_,_,q⟩=>q
 |e::es,bs,h=>by
  rw[dU]at h;split at h
  ·rename_i b bs' h1 h2;cases h;obtain⟨p1,p2,_⟩:=vk Z he h1;refine PA.imp (bW p1 (vm Z he h2) (p2 es)) λσ H Q hq=>?_;obtain⟨ea,e1,e2,q⟩:=hq;exact⟨ea,e1,e2,ea,e1,e2,q⟩
  ·cases h
end
noncomputable def wo:CE:=.cmp .eq (.bf .len [.comp 1 (.nm 0) [] .seq [.v 1] [.v 0] (.v 0)]) (.int 1)
noncomputable def ml(told:Str)(a b r:Expr)(l1 l2 l3 l4 l5:au)(pa pb po:Pos)(j:Nat)(pj pr ES p1 ER EO p2 Hq HA HH Hw p3 Ho Hz DP Hv p4 Hn Hy HG Hu p5 Hm Hx HF Ht EN:Pos):aS :=
 [.If (.BoolOp .Or [.UnaryOp .Not a pa,.UnaryOp .Not b pb] po) [.Return (some (.Constant (.bool false) j pj)) pr] [] ES,.Assign [.Name told p1] (.List l1 ER) EO,.Assign [.Name told p2] (.BinOp (.Name told Hq) .Add (.List l2 HA) HH) Hw,
   .Assign [.Name told p3] (.BinOp (.Name told Ho) .Add (.List l3 Hz) DP) Hv,.Assign [.Name told p4] (.BinOp (.Name told Hn) .Add (.List l4 Hy) HG) Hu,.Assign [.Name told p5] (.BinOp (.Name told Hm) .Add (.List l5 Hx) HF) Ht,.Return (some r) EN]
def qt(C:Addr):Sp:=λvs H Q _=>∃ea,vs=[.ref ea]/\H ea=some (.ext (yc ea C))/\∀H',aK H H'->Q (.bl true) H'
theorem GL{i j:Nat}{err:Str}{cl:Str->Option Bool}{es:au}{bs bs':List Bool}{p1 p2 p3 p4 p5:Pos}(Z:Ml X C cl)(he:∀p,PE X (.Name err p) (mW i))(ht:∀p,PE X (.Name told p) (mW j))(nd:X.N.Nodup)(hj:X.N[j]?=some told)(hl:X.env.scope.names.lookup told=some .local)(jq:i≠j)
  (h:dU err cl es=some bs) (hlen:bs'.length+bs.length<=sizeLine):PS X (.Assign [.Name told p1] (.BinOp (.Name told p2) .Add (.List es p3) p4) p5)
   (λD σ H=>∃ea l,σ[i]?=some (some (.ref ea))/\H ea=some (.ext (yc ea C))/\σ[j]?=some (some (.ref l))/\H l=some (.lst (bs'.map V.bl))/\∀σ' H' l',aK H H'->H l'=none->σ'[i]?=some (some (.ref ea))->σ'[j]?=some (some (.ref l'))->H' l'=some (.lst ((bs'++bs).map V.bl))->σ'.length=σ.length->D.nx σ' H'):=by
 refine PS.imp (jN (i:=j) nd hj (.inl hl) (w_ Bd (ht p2) (qK (vm Z he h))) (hf:=.inr hl)) λD σ H hq=>?_;obtain⟨ea,l,e1,e2,e3,e4,q⟩:=hq;have Ya:j<σ.length:=by
  by_cases z:j<σ.length
  ·exact z
  ·rw[List.getElem?_eq_none (by left)]at e3;cases e3
 refine⟨_,e3,ea,e1,e2,by simp;left,λp hp=>?_⟩;refine⟨l,p,_,_,rfl,rfl,by rw[aW (bQ e4 hp)];exact e4,aX,by simpa using hlen,λp' vM=>?_⟩;have s1:aK H (upd H p (.lst (bs.map V.bl))):=aK.upd hp;have s2:=s1.trans (aK.upd (o:=.lst (bs'.map V.bl++bs.map V.bl)) vM);refine q _ _ p' s2 (aK.free s1 vM) ?_ ?_ ?_ ?_
 ·rw[List.getElem?_set_ne (Ne.symm jq)];exact e1
 ·rw[List.getElem?_set_self Ya]
 ·rw[aX,List.map_append]
 ·simp
variable {Φ:bg}
theorem wq{S:Sx}{k:Nat}{err:Str}{cl:Str->Option Bool}{b1 b2 b3 b4 b5:List Bool}(L:Lk X S k Φ)(Z:Ml X C cl)(Yv:X.N=[err,told])(he:X.env.scope.names.lookup err=some .local)(hl:X.env.scope.names.lookup told=some .local)
  (d1:(err==("__debug__" : Str))=false) (d2:(err==("__classdict__" : Str))=false) (d3:(told==("__debug__" : Str))=false) (d4:(told==("__classdict__" : Str))=false) (nd:X.N.Nodup)
  (hlen:b1.length+b2.length+b3.length+b4.length+b5.length<=sizeLine)
  (vN:bj Φ wo [none,some (.lst .fz ((b1++b2++b3++b4++b5).map DI.D.bl))]=ok (.bl true)) :
  ∀{a b r:Expr} {l1 l2 l3 l4 l5:au} {pa pb po:Pos} {j:Nat} {pj pr ES p1 ER EO p2 Hq HA HH Hw p3 Ho Hz DP Hv p4 Hn Hy HG Hu p5 Hm Hx HF Ht EN:Pos},tV err cl a=some true->tV err cl b=some true->dU err cl l1=some b1->dU err cl l2=some b2->dU err cl l3=some b3->dU err cl l4=some b4->dU err cl l5=some b5->bZ S wo r=true ->
   ir X (ml told a b r l1 l2 l3 l4 l5 pa pb po j pj pr ES p1 ER EO p2 Hq HA HH Hw p3 Ho Hz DP Hv p4 Hn Hy HG Hu p5 Hm Hx HF Ht EN) (λD σ H=>∃ea,σ=[some (.ref ea),none]/\H=X.H₀/\H ea=some (.ext (yc ea C))/\∀H',aK H H'->D.rt (.bl true) H'):=by
 intro a b r l1 l2 l3 l4 l5 pa pb po j pj pr ES p1 ER EO p2 Hq HA HH Hw p3 Ho Hz DP Hv p4 Hn Hy HG Hu p5 Hm Hx HF Ht EN ha hb i1 i2 i3 i4 i5 hr;have h0:X.N[0]?=some err:=by rw[Yv];rfl
 have h1:X.N[1]?=some told:=by rw[Yv];rfl
 have pe:∀p,PE X (.Name err p) (mW 0):=λp=>hX h0 (.inl he) d1 d2;have pt:∀p,PE X (.Name told p) (mW 1):=λp=>hX h1 (.inl hl) d3 d4;unfold ml;obtain⟨Z2,_,Z1⟩:=vk Z pe ha;obtain⟨Z0,_,DP⟩:=vk Z pe hb;have T:=Hl (pos:=po) (rest:=[]) (qF (pos:=pa) (qE Z2 Z1)) (AK (pos:=po) (qF (pos:=pb) (qE Z0 DP)));have P1:=jN (X:=X) (pos:=EO) (pos':=p1) (i:=1) nd h1 (.inl hl) (qK (pos:=ER) (vm Z pe i1)) (hf:=.inr hl);have R:=(gv (F:=λ_=>False) L wo r hr).1;refine ir.imp (cx (wW (pos:=ES) T.pt (hU (kY (pos:=pr) HE)) qG) (cx P1 (cx (GL (bs':=b1) Z pe pt nd h1 hl (by decide) i2 (by left)) (cx (GL (bs':=b1++b2) Z pe pt nd h1 hl (by decide) i3 (by simp;left))
  (cx (GL (bs':=b1++b2++b3) Z pe pt nd h1 hl (by decide) i4 (by simp;left)) (cx (GL (bs':=b1++b2++b3++b4) Z pe pt nd h1 hl (by decide) i5 (by simp;left)) (hU (kY (pos:=EN) R)))))))) λD σ H hq=>?_
 obtain⟨ea,rfl,rfl,hx,q⟩:=hq;refine⟨ea,rfl,hx,true,rfl,?_⟩;refine⟨ea,rfl,hx,true,rfl,?_⟩;refine⟨ea,rfl,hx,by simp;left,λXB n1=>?_⟩;have s1:aK X.H₀ (upd X.H₀ XB (.lst (b1.map V.bl))):=aK.upd n1;refine⟨ea,XB,rfl,s1 _ _ hx,rfl,aX,λσ2 H2 l2' s2 n2 e2 f2 g2 FC=>?_⟩;have s2:=s1.trans s2;refine⟨ea,l2',e2,s2 _ _ hx,f2,g2,λσ3 H3 l3' s3 n3 e3 f3 g3 FA=>?_⟩;have s3:=s2.trans s3;refine⟨ea,l3',e3,s3 _ _ hx,f3,g3,λσ4 H4 Z_ s4 n4 e4 f4 g4 Fz=>?_⟩;have TY:=s3.trans s4;refine⟨ea,Z_,e4,TY _ _ hx,f4,g4,λσ5 H5 XA s5 n5 e5 f5 g5 OL=>?_⟩;have Xk:=TY.trans s5;refine⟨λp=>p=XA,λ_=>none,[none,some (.lst .fz ((b1++b2++b3++b4++b5).map DI.D.bl))],_,⟨?_,λi d hi=>?_,λ_ _=>rfl,λp hp=>?_,λp hp=>?_,λ_ _ h=>by simp at h,λ_ _ h=>by simp at h,Xk⟩,vN,λv H' sv rv=>?_⟩
 ·rw[OL,Fz,FA,FC];rfl
 ·match i,hi with
  |1,hi =>
   cases hi;refine⟨_,f5,.lst ⟨g5,rfl⟩ ?_⟩;have:∀(bs:List Bool) (n:Nat),aG (bh X.K H5) (DI.nd X.K (λp=>p=XA) (λ_=>False) (λ_=>none) H5) [1] n (bs.map V.bl) (bs.map DI.D.bl):=by
    intro bs;induction bs with
    |nil=>intro n;exact .nil
    |cons b bs ih=>intro n;exact .cons (.bl b) (ih _)
   exact this _ _
  |0,hi=>cases hi
  |n+2,hi=>simp at hi
 ·subst hp;rw[g5];simp
 ·subst hp;exact .inr (aK.free TY n5)
 ·obtain⟨τt,_,rp⟩:=rv;cases rp;exact q H' (Xk.trans sv)
structure Nr where
 ps:ag
 err:Str
 ex:Str
 cls:Str
 f:Str
 al:Str
noncomputable def Nr.N(n:Nr):ag:=n.ps++[n.err,n.ex]
noncomputable def v_(x:Str):Bool:=!(x==("__debug__" : Str))&&!(x==("__classdict__" : Str))
theorem SI.lQ{X:Cx}{F R:ai}{τ:Addr->Option bp}{ρ:aZ}{σ:St}{H:Hp}{pn:aj}{E:aD}(S:SI X F R τ ρ σ H):SI (Cx.lQ X pn E) F R τ ρ σ H:=⟨S.len,S.rep,S.rt,S.rh,S.rf,S.th,S.t0,S.same⟩
theorem AQ{S:Sx}{env:Env}{pos:Pos}:∀{es:au} {cs:az},bG S cs es=true->(backTo pos (starEach es env)).any (·.1)=false
 |[],_,_=>rfl
 |e::es,[],h=>by exact(aag h).elim
 |e::es,c::cs,h=>by
  replace h:=aC h;rw[bx h.1 es env];show(false||(backTo pos (starEach es env)).any (·.1))=false;rw[AQ h.2];rfl
noncomputable def Xs:CI->Bool
 |.seq _=>true
 |_=>false
mutual
inductive wA(Φ:bg)(Ψ:Nat->aa->Prop)(n:Nat):CS->aZ->Prop
 |ex {g:Nat} {es:az} {ρ:aZ} {xs:aa} (h1:bz Φ es ρ=ok xs) (h2:Ψ g (ah aA xs)):wA Φ Ψ n (.ex (.call g es)) ρ
 |asg {i g:Nat} {es:az} {ρ:aZ} {xs:aa} (h1:bz Φ es ρ=ok xs) (h2:Ψ g (ah aA xs)):wA Φ Ψ n (.asg (.nm i) (.call g es)) ρ
 |ret {g:Nat} {es:az} {ρ:aZ} {xs:aa} (h1:bz Φ es ρ=ok xs) (h2:Ψ g (ah aA xs)):wA Φ Ψ n (.ret (.call g es)) ρ
 |rs {ρ:aZ}:wA Φ Ψ n (.rs n) ρ
 |Mz {c:CE} {a b:ao} {ρ:aZ} (h1:ug Φ c ρ=ok true) (h2:Er Φ Ψ n a ρ):wA Φ Ψ n (.ifs c a b) ρ
 |iff {c:CE} {a b:ao} {ρ:aZ} (h1:ug Φ c ρ=ok false) (h2:Er Φ Ψ n b ρ):wA Φ Ψ n (.ifs c a b) ρ
inductive Er(Φ:bg)(Ψ:Nat->aa->Prop)(n:Nat):ao->aZ->Prop
 |hd {c:CS} {cs:ao} {ρ:aZ} (h:wA Φ Ψ n c ρ):Er Φ Ψ n (c::cs) ρ
 |tl {c:CS} {cs:ao} {ρ ρ':aZ} (h1:i0 Φ c ρ=ok (.nx,ρ')) (h2:Er Φ Ψ n cs ρ'):Er Φ Ψ n (c::cs) ρ
end
noncomputable def W_:Stmt->Option Expr
 |.Raise e c _=>match c with
  |none=>e
  |some _=>none
 |_=>none
theorem IP{s:Stmt}{e:Expr}(h:W_ s=some e):∃p,s=.Raise (some e) none p:=by
 cases s<;>first|exact nk h | (cases h;done)|skip
 rename_i a c p;cases c with
 |some _=>cases h
 |none=>cases h;exact⟨p,rfl⟩
noncomputable def O2:Expr->Bool
 |.Constant c _ _=>match c with|.str _=>true|_=>false
 |_=>false
theorem FK{e:Expr}(h:O2 e=true):∃m j p,e=.Constant (.str m) j p:=by
 cases e<;>first|exact(aag h).elim|skip
 rename_i c _ _;cases c<;>first|exact(aag h).elim|exact⟨_,_,_,rfl⟩
def Xl(y:Str)(st:Stmt):Bool:=bt (W_ st) λe=>bt (eX e) λz=>(z.1==y)&&bt (one z.2) O2
mutual
noncomputable def xk(gl:Bool)(n:Nat)(y:Str):CS->Stmt->Bool
 |.rs m,st=>!(m==n)||(gl&&Xl y st)
 |.ifs _ a b,st=>bt (IT st) λz=>wC gl n y a z.2.1&&wC gl n y b z.2.2
 |.fr _ _ b,st=>bt (IU st) λz=>wC gl n y b z.2.2.1
 |_,_=>true
noncomputable def wC(gl:Bool)(n:Nat)(y:Str):ao->aS->Bool
 |c::cs,st::sJ=>xk gl n y c st&&wC gl n y cs sJ
 |_,_=>true
end
structure jz(P:aF)(w:World)(K:aq)(mg:aR)(base:Heap)(k:Nat)(C:Addr)(y:Str)(mr:aa->Prop):Prop where
 ex:∃(f:Addr) (fd:FuncData) (ps:ag),fB P w K mg base (sk P w C) k f fd ps (Rx K C ps.length mr)/\mg y=some (.ref f)/\PySem.W.keepIn K (.ref f)=true/\Binds K fd ps []/\∀ds,mr ds->ds.length=ps.length
structure Mi(X:Cx)(S:Sx)(k:Nat)(Φ:bg)(Ψ:Nat->aa->Prop)(C:Addr)(y:Str)(gl:Bool):Prop where
 ls:oI X S k Φ
 hR:∀pins σ H1 s1 h' ea vs,Inv X pins σ H1 s1->aK X.H₀ H1->Heap.MadeExcOf s1.heap h' ea (.ref C) vs->X.xe (.ref ea) { s1 with heap:=h' }
 hx:Passes (sk X.prog X.w C) X (λc _ H'=>c=.ref C/\aK X.H₀ H')
 fe:∀g x,S.fn g=some x->(∃ds,Ψ g ds)->jz X.prog X.w X.K X.mg X.base k C x (Ψ g)
 gy:gl=true->Gl X y/\(y==("__debug__" : Str))=false
 own:oB y C X.mg X.base
variable {es:az}{g:Nat}{xs:aa}{ρ:aZ}
section
variable {X:Cx}{S:Sx}{k n:Nat}{Φ:bg}{Ψ:Nat->aa->Prop}{F:ai}{C:Addr}{y:Str}{gl:Bool}
theorem CL(L:Lk X S k Φ)(hx:Passes (sk X.prog X.w C) X (λc _ H'=>c=.ref C/\aK X.H₀ H'))(fe:∀g x,S.fn g=some x->(∃ds,Ψ g ds)->jz X.prog X.w X.K X.mg X.base k C x (Ψ g)){e:Expr}(h:bZ S (.call g es) e=true):PE X e (yp X F λρ=>∃xs,bz Φ es ρ=ok xs/\Ψ g (ah aA xs)):=by
 obtain⟨⟨x,as⟩,hv,q1⟩:=bq h;obtain⟨p,pos,rfl⟩:=bU hv;obtain⟨q2,q3⟩:=aC q1;obtain⟨q4,h3⟩:=aC q2;obtain⟨h1,h2⟩:=aC q4;obtain⟨⟨a,Q2⟩,hu,h4⟩:=bq q3;obtain rfl:as=a::Q2:=uY hu;by_cases jE:∃ds,Ψ g ds
 case neg=>exact λ_ _ _ _ _ _ ⟨_,_,_,_,xs,_,e2⟩=>absurd ⟨_,e2⟩ jE
 obtain⟨f,fd,ps,Fo,hm,hk,hb,hl⟩:=(fe g x (aab h1) jE).ex;unfold nu at h3;simp only[Bool.and_eq_true,Bool.not_eq_true']at h3;have j8:∀r,starEach (a::r) X.env=(false,eval a X.env)::starEach r X.env:=λr=>by
  cases es with
  |nil=>exact(aag h4).elim
  |cons c cs=>exact bx (aC h4).1 r _
 have hpl:(backTo pos (starEach Q2 X.env)).any (·.1)=false:=by
  cases es with
  |nil=>exact(aag h4).elim
  |cons c cs=>exact AQ (aC h4).2
 refine PE.imp (Gb (F:=F) (C:=C) (np:=p) (cpos:=pos) L hx Fo h2 hm hk hb h3.1.1 h4 j8 hpl) λσ H Q hq=>?_;obtain⟨R,τ,ρ,Si,xs,e1,e2⟩:=hq;exact⟨R,τ,ρ,Si,xs,e1,e2,by have:=hl _ e2;rw[aP,List.length_map]at this;exact this⟩
theorem rn(L:Mi X S k Φ Ψ C y gl){e:Expr}(h:bZ S (.call g es) e=true):PE X e (yp X F λρ=>∃xs,bz Φ es ρ=ok xs/\Ψ g (ah aA xs)):=CL L.ls.toLk L.hx L.fe h
theorem lh{c:CS}(h:∀ρ,wA Φ Ψ n c ρ->False):PS X st (qq X F (wA Φ Ψ n c)):=λ_ _ _ _ _ _ hq=>by
 obtain⟨_,_,ρ,_,hb⟩:=hq;exact(h ρ hb).elim
theorem CO{c:CS}(h:∀ρ,wA Φ Ψ n c ρ->PS X st (λ_ σ H=>∃R τ,SI X F R τ ρ σ H)):PS X st (qq X F (wA Φ Ψ n c)):=λpins s σ H D I hq=>by
 obtain⟨R,τ,ρ,Si,hb⟩:=hq;exact h ρ hb pins s σ H D I ⟨R,τ,Si⟩
theorem LK(L:Mi X S k Φ Ψ C y gl)(h:zg S (.ex (.call g es)) st=true)(a:bz Φ es ρ=ok xs)(b:Ψ g (ah aA xs)):PS X st (λ_ σ H=>∃R τ,SI X F R τ ρ σ H):=by
 obtain⟨v,v1,q1⟩:=bq h;obtain⟨pos,rfl⟩:=ql v1;obtain⟨h1,h2⟩:=aC q1;exact PS.imp (Qy (rn (F:=F) L h1) (kK h1 (dA h2) _ _ _)) λD σ H hq=>by obtain⟨R,τ,Si⟩:=hq;exact⟨R,τ,ρ,Si,_,a,b⟩
theorem Ga(L:Mi X S k Φ Ψ C y gl)(h:zg S (.ret (.call g es)) st=true)(a:bz Φ es ρ=ok xs)(b:Ψ g (ah aA xs)):PS X st (λ_ σ H=>∃R τ,SI X F R τ ρ σ H):=by
 obtain⟨z,v1,q1⟩:=bq h;obtain⟨pos,rfl⟩:=wD v1;obtain⟨v,v2,q2⟩:=bq q1;obtain rfl:z=some v:=v2;exact PS.imp (LJ (rn (F:=F) L q2)) λD σ H hq=>by obtain⟨R,τ,Si⟩:=hq;exact⟨R,τ,ρ,Si,_,a,b⟩
theorem Gd(L:Mi X S k Φ Ψ C y gl){i:Nat}(h:zg S (.asg (.nm i) (.call g es)) st=true)(a:bz Φ es ρ=ok xs)(b:Ψ g (ah aA xs)):PS X st (λ_ σ H=>∃R τ,SI X F R τ ρ σ H):=by
 obtain⟨⟨G_,v⟩,v1,q1⟩:=bq h;obtain⟨pos,rfl⟩:=mi v1;obtain⟨tg,v2,q2⟩:=bq q1;obtain rfl:G_=[tg]:=cE v2;obtain⟨q3,h4⟩:=aC q2;obtain⟨q4,h3⟩:=aC q3;obtain⟨h1,h2⟩:=aC q4;obtain⟨x,p,rfl⟩:∃x p,tg=.Name x p:=xU h2;have Qd:=aC (show _=true from h2);have hc:iW v=false:=by
  obtain⟨⟨x,as⟩,hv,_⟩:=bq h1;obtain⟨p,pos,rfl⟩:=bU hv;rfl
 exact PS.imp (LI L.ls.nd (by rw[L.ls.N];exact aab Qd.1) (L.ls.loc Qd.2) (L.ls.oX _) (rn (F:=F) L h1) (kK h1 hc _ _ _)) λD σ H hq=>by obtain⟨R,τ,Si⟩:=hq;exact⟨R,τ,ρ,Si,_,a,b⟩
mutual
theorem erS(L:Mi X S k Φ Ψ C y gl):∀(c:CS) (st:Stmt),zg S c st=true->xk gl n y c st=true->PS X st (qq X F (wA Φ Ψ n c))
 |.ex e,st,h,_=>CO λρ hb=>by cases hb with|ex a b=>exact LK L h a b
 |.ret e,st,h,_=>CO λρ hb=>by cases hb with|ret a b=>exact Ga L h a b
 |.asg t e,st,h,_=>CO λρ hb=>by cases hb with|asg a b=>exact Gd L h a b
 |.rs m,st,h,hk=>by
  by_cases hm:m=n
  ·subst hm;have hk:(!(m==m)||(gl&&Xl y st))=true:=hk;rw[beq_self_eq_true,Bool.not_true,Bool.false_or]at hk;obtain⟨hg,hk⟩:=aC hk;obtain⟨gy,dy⟩:=L.gy hg;obtain⟨e,v1,q1⟩:=bq hk;obtain⟨pos,rfl⟩:=IP v1;obtain⟨⟨x,as⟩,v2,q2⟩:=bq q1;obtain⟨p,pos',rfl⟩:=bU v2;obtain⟨q3,q4⟩:=aC q2;obtain⟨c,v3,q5⟩:=bq q4;obtain rfl:as=[c]:=cE v3;obtain⟨m',j,p',rfl⟩:=FK q5;obtain rfl:x=y:=eq_of_beq q3;exact PS.imp (AN L.ls.calm L.own gy dy) λD σ H hq=>by
    obtain⟨R,τ,ρ,Si,hb⟩:=hq;exact λpins s h' ea us I B2=>L.hR pins _ H s h' ea us I Si.same B2
  ·exact lh λ_ hb=>by cases hb;exact absurd rfl hm
 |.ifs c a b,st,h,hk=>by
  obtain⟨⟨t,x,z⟩,v1,q1⟩:=bq h;obtain⟨pos,rfl⟩:=wH v1;obtain⟨q2,h3⟩:=aC q1;obtain⟨h1,h2⟩:=aC q2;obtain⟨k1,k2⟩:=aC (show(wC gl n y a x&&wC gl n y b z)=true from hk);refine PS.imp (wW (pos:=pos) (gv (F:=F) L.ls.toLk c t h1).2 (Ge L a x h2 k1) (Ge L b z h3 k2)) λD σ H hq=>?_;obtain⟨R,τ,ρ,Si,hb⟩:=hq;cases hb with
  |Mz e1 e2=>exact⟨R,τ,ρ,true,Si,e1,λH2 es=>UN ⟨R,τ,ρ,Si.go es,e2⟩⟩
  |iff e1 e2=>exact⟨R,τ,ρ,false,Si,e1,λH2 es=>Kw ⟨R,τ,ρ,Si.go es,e2⟩⟩
 |.par _ _ _ _,st,h,_=>lh λ_ hb=>by cases hb
 |.mut _ _ _,st,h,_=>lh λ_ hb=>by cases hb
 |.app _ _,st,h,_=>lh λ_ hb=>by cases hb
 |.G7 _ _,st,h,_=>lh λ_ hb=>by cases hb
 |.fr _ _ _,st,h,_=>lh λ_ hb=>by cases hb
theorem Ge(L:Mi X S k Φ Ψ C y gl):∀(cs:ao) (sJ:aS),ja S cs sJ=true->wC gl n y cs sJ=true->ir X sJ (qq X F (Er Φ Ψ n cs))
 |[],_,_,_=>λ_ _ _ _ _ _ bK=>by obtain⟨_,_,_,_,hb⟩:=bK;cases hb
 |_::_,[],h,_=>by exact(aag h).elim
 |c::cs,st::sJ,h,hk=>by
  replace h:=aC h;obtain⟨k1,k2⟩:=aC (show(xk gl n y c st&&wC gl n y cs sJ)=true from hk);have hN:ir X sJ Jb:=λ_ _ _ _ _ _ z=>z.elim;have h1:PS X st (qp X F Φ c):=Al (F:=F) L.ls c st h.1;have A:ir X (st::sJ) _:=cx (erS L c st h.1 k1) hN;have B:ir X (st::sJ) _:=cx h1 (Ge L cs sJ h.2 k2);intro pins s σ H D I hq;obtain⟨R,τ,ρ,Si,hb⟩:=hq;cases hb with
  |hd e=>exact A pins s σ H D I ⟨R,τ,ρ,Si,e⟩
  |tl e1 e2=>exact B pins s σ H D I ⟨R,τ,ρ,(.nx,_),Si,e1,λσ' H' R' τ' gq kp=>⟨R',τ',_,gq,e2⟩⟩
end
end
theorem LG{x:Str}{f:Addr}{fd:FuncData}{k n:Nat}{N bl:ag}{cs:List (Str×GK)}{px:Px}{oX:Nat->Option Str}{Ψ:Nat->aa->Prop}{mr:aa->Prop}{b:ao}{y:Str}
  (Fu:zy K x qual st f fd) (Sc:eW N ps (aE st)) (Ca:ja ⟨aE st,N,oX,bl,cs,px⟩ b (bw st)=true) (U6:wC (gz (aE st) y&&!(y==("__debug__" : Str))) n y b (bw st)=true) (BY:mf px Φ) (MC:DG px Φ)
  (q_:∀y∈bl,mg y=none) (nK:∀y i,(y,i)∈cs->∃u,mg y=some u/\wz K i u) (xB:∀g y,oX g=some y->Ent P w K mg base k y (Φ g)) (Vz:∀g y,oX g=some y->(∃ds,Ψ g ds)->jz P w K mg base k C y (Ψ g))
  (O:oB y C mg base) (hm:∀ds,mr ds->ds.length=ps.length/\Er Φ Ψ n b (ds.map some++List.replicate (N.length - ds.length) none)):fB P w K mg base (sk P w C) (k+1) f fd ps (Rx K C ps.length mr):=by
 refine WG (N:=N) Fu Sc (λvs H Q E ⟨_,_,h,_⟩=>h) λfG A outer s H vs Q E hr sj=>?_;obtain⟨F,ds,hl,rs,hmr,hE⟩:=sj;obtain⟨PK,VB⟩:=hm ds hmr
 let X:=iH (sk P w C) P w K mg base N qual (aE st) f fG A outer s H E
 have Ls:oI X ⟨aE st,N,oX,bl,cs,px⟩ k Φ:=⟨⟨rfl,rfl,Sc.nd,rfl,hr,q_,λg y h=>⟨(xB g y h).ex⟩,nK,BY⟩,λ_=>rfl,PassesOwn.leaving,Sc.kind,MC⟩
 have hpl:ps.length<=N.length:=by have:=aaW List.length Sc.pre;rw[List.length_take]at this;left
 have Lx:Mi X ⟨aE st,N,oX,bl,cs,px⟩ k Φ Ψ C y (gz (aE st) y&&!(y==("__debug__" : Str))):=⟨Ls,λpins σ H1 s1 h' ea vs I es B2=>EK I B2 (hE H1 es),Ob λH' h=>hE H' h.2,Vz,λz=>⟨Ls.gl (aC z).1,by simpa using (aC z).2⟩,O⟩
 exact⟨_,Ge (F:=F) Lx b _ Ca U6,_,_,_,sQ (X:=X) rfl (by left) rs,VB⟩
end DI
end
section
set_option maxHeartbeats 1000000
namespace DI
open PySem (Str)
theorem oy{α β:Type}{x:O α}{f:α->O β}{n:Nat}(h:x=some (.error n)):bd x f=some (.error n):=by rw[h];rfl
theorem rO{Φ:bg}{g n:Nat}{es:az}{ρ:aZ}{xs:aa}(h1:bz Φ es ρ=ok xs)(h2:Φ g (ah aA xs)=some (.error n)):bj Φ (.call g es) ρ=some (.error n):=by
 show bd (bz Φ es ρ) (λxs=>bd (Φ g (ah aA xs)) λr=>ok (aw dY r))=_;rw[h1,lK,h2];rfl
mutual
theorem wA.err{Φ:bg}{Ψ:Nat->aa->Prop}{n:Nat}(hΨ:∀g ds,Ψ g ds->Φ g ds=some (.error n)):∀{c:CS} {ρ:aZ},wA Φ Ψ n c ρ->i0 Φ c ρ=some (.error n)
 |_,_,.ex h1 h2=>oy (rO h1 (hΨ _ _ h2))
 |_,_,.asg h1 h2=>oy (oy (rO h1 (hΨ _ _ h2)))
 |_,_,.ret h1 h2=>oy (oy (rO h1 (hΨ _ _ h2)))
 |_,_,.rs=>rfl
 |_,_,.Mz (c:=c) (a:=a) (b:=b) (ρ:=ρ) h1 h2=>by
  show bd (ug Φ c ρ) (λk=>if k then bF Φ a ρ else bF Φ b ρ)=_;rw[h1,lK];exact Er.err hΨ h2
 |_,_,.iff (c:=c) (a:=a) (b:=b) (ρ:=ρ) h1 h2=>by
  show bd (ug Φ c ρ) (λk=>if k then bF Φ a ρ else bF Φ b ρ)=_;rw[h1,lK];exact Er.err hΨ h2
theorem Er.err{Φ:bg}{Ψ:Nat->aa->Prop}{n:Nat}(hΨ:∀g ds,Ψ g ds->Φ g ds=some (.error n)):∀{cs:ao} {ρ:aZ},Er Φ Ψ n cs ρ->bF Φ cs ρ=some (.error n)
 |_,_,.hd (c:=c) (cs:=cs) (ρ:=ρ) h=>by
  rw[bE];unfold mV;exact oy (wA.err hΨ h)
 |_,_,.tl (c:=c) (cs:=cs) (ρ:=ρ) h1 h2=>by
  rw[bE];unfold mV;rw[h1,lK];exact Er.err hΨ h2
end
def Mh(m:aI):Prop:=∀N:Int,∃q:Rat,m [.int N]=ok (qD q)/\Sm 5 q
noncomputable def GU:ao:=[.asg (.nm 1) (.bin .add (.int 1) (.bin .mod (.v 0) (.int 7))),.ret (.call 201 [(.bin .sub (.bin .mod (.bin .fdiv (.v 0) (.int 7)) (.int 39)) (.int 19)),(.v 1)])]
theorem TX(Φ:bg)(K5:mL (Φ 201)):Mh (mk Φ 1 2 GU):=by
 intro n;obtain⟨a1,a2⟩:=dZ n (b:=7) (by decide);obtain⟨a3,a4⟩:=dZ (n.fdiv 7) (b:=39) (by decide);have e:=K5 ((n.fdiv 7).fmod 39 - 19) (1+n.fmod 7) (by left) (k8 (by left));have sq:Sm 5 (Rat.divInt ((n.fdiv 7).fmod 39 - 19) (1+n.fmod 7)):=sP (by left) (by left) (by left);exact⟨_,by simp[mk_eq,GU,e],sq⟩
def Iz(m:aI):Prop:=∀(ns:ae) (k:Int) (n:Nat),0<=k->n<=12->∃qs:aU,m [.lst .sc (av ns),.int k,.int n]=ok (.lst .ow (bD qs))/\qs.length=n/\∀q∈qs,Sm 5 q
noncomputable def wM:ao:=[.app 3 (.call 255 [(.v 4)]),.asg (.nm 4) (.bin .fdiv (.v 4) (.int 273))]
def xY:ao:=[.asg (.nm 3) (.lst []),.asg (.nm 4) (.call 200 [(.v 0),(.v 1)]),.fr (.nm 5) (.lW (.v 2)) wM,.ret (.v 3)]
theorem ud(Φ:bg)(F3:Mh (Φ 255))(c0 c1 c2:aO):∀(ks:aa) (acc:aU) (n:Int) (w:aO),acc.length+ks.length<=1000->(∀q∈acc,Sm 5 q) ->
  ∃(qs:aU) (n' w':aO),fm (λd ρ=>cK (.nm 5) d ρ) (λρ=>bF Φ wM ρ) ks [c0,c1,c2,some (.lst .ow (bD acc)),some (.int n),w]=ok (.nx,[c0,c1,c2,some (.lst .ow (bD qs)),n',w'])/\qs.length=acc.length+ks.length/\∀q∈qs,Sm 5 q
 |[],acc,n,w,_,hs=>⟨acc,some (.int n),w,rfl,rfl,hs⟩
 |k::ks,acc,n,w,h,hs=>by
  simp only[List.length_cons]at h;obtain⟨q,e,sq⟩:=F3 n;obtain⟨qs,n',w',e',l,s⟩:=ud Φ F3 c0 c1 c2 ks (acc++[q]) (n.fdiv 273) (some k) (by simp;left) (λp hp=>by
   rcases List.mem_append.mp hp with hp|hp
   ·exact hs p hp
   ·have:p=q:=by simpa using hp
    subst this;exact sq)
  have hc:acc.length<ej:=by show _<1000000;left
  refine⟨qs,n',w',lb (ρ1:=[c0,c1,c2,some (.lst .ow (bD acc)),some (.int n),some k]) (by simp) (ρ2:=[c0,c1,c2,some (.lst .ow (bD (acc++[q]))),some (.int (n.fdiv 273)),some k]) ?_ e',by rw[l];simp;left,s⟩;simp[wM,e,hc]
theorem NQ(Φ:bg)(F5:r9 (Φ 200))(F3:Mh (Φ 255)):Iz (mk Φ 3 6 xY):=by
 intro ns k n hk hn;have e:=F5 ns k hk;have hit:=OY (Φ:=Φ) (a:=.v 2) (ρ:=[some (.lst .sc (av ns)),some (.int k),some (.int n),some (.lst .ow []),some (.int (d9 ns k)),none]) (n:=n) (by simp) (by left) (by left);obtain⟨qs,n',w',el,l,s⟩:=ud Φ F3 (some (.lst .sc (av ns))) (some (.int k)) (some (.int n)) ((List.range (n:Int).toNat).map λ(k:Nat)=>D.int (k:Int)) [] (d9 ns k) none (by simp;left) (by simp);have hf:=mP (t:=.nm 5) (b:=wM) hit el;refine⟨qs,?_,by simpa using l,s⟩;generalize d9 ns k=N at *;simp[mk_eq,xY,e,hf]
theorem str_len{i:Int}(h:i.natAbs<2 ^ 50):yq [.int i]=ok (.str (toString i))/\(Str.ofString (toString i)).length<=20:=by
 have h2:i.natAbs<10 ^ 16:=aap h (by decide);refine⟨?_,?_⟩
 ·show(if i.natAbs.log2<1920 then ok (D.str (toString i))else none)=_;rw[if_pos];by_cases z:i.natAbs=0
  ·rw[z];decide
  ·exact aap ((Nat.log2_lt z).mpr h) (by decide)
 ·have:=PySem.int_text_length_le10 (a:=i) (k:=16) (by decide) h2;rw[PyProof.Rows.ofString_len];left
noncomputable def uC:ao:=[.ifs (.cmp .eq (.ix (.v 0) (.int 1)) (.int 1)) [.ret (.cg 1090 [(.ix (.v 0) (.int 0))])] [],.ret (.cg 1092 [(.cg 1092 [(.cg 1090 [(.ix (.v 0) (.int 0))]),(.str "/")]),(.cg 1090 [(.ix (.v 0) (.int 1))])])]
structure G0(Φ:bg):Prop where
 Cm:Φ 1090=yq
 Ck:Φ 1091=tT
 HZ:Φ 1092=uz
def DB(m:aI):Prop:=∀q:Rat,Sm 50 q->∃s:Str,m [qD q]=ok (.str s)/\s.length<=60
theorem Fy(a b:Str):(a++b).length=a.length+b.length:=PySem.strLen_append a b
theorem wk{a b:Str}(h:a.length+b.length<=100000):uz [.str a,.str b]=ok (.str (a++b)):=aaQ h
theorem NO(Φ:bg)(T:G0 Φ):DB (mk Φ 1 1 uC):=by
 intro q hq;obtain⟨e1,l1⟩:=str_len (i:=q.num) hq.1;obtain⟨e2,l2⟩:=str_len (i:=(q.den:Int)) (by rw[Int.natAbs_natCast];exact hq.2);rw[<- T.Cm]at e1 e2;have x0:xu (qD q) (.int 0)=ok (.int q.num):=by show xu (.tup [.int q.num,.int q.den]) _=_;simp
 have x1:xu (qD q) (.int 1)=ok (.int q.den):=by show xu (.tup [.int q.num,.int q.den]) _=_;simp
 have sl:(("/" : Str)).length=1:=by decide +kernel
 generalize Str.ofString (toString q.num)=a at *;generalize Str.ofString (toString (q.den:Int))=b at *;have c1:uz [.str a,.str "/"]=ok (.str (a ++ "/")):=wk (by left);have c2:uz [.str (a ++ "/"),.str b]=ok (.str (a ++ "/" ++ b)):=wk (by rw[Fy];left);rw[<- T.HZ]at c1 c2;by_cases h:(q.den:Int)=1
 ·exact⟨a,by simp[mk_eq,uC,x0,x1,h,e1],by left⟩
 ·exact⟨a ++ "/" ++ b,by simp[mk_eq,uC,x0,x1,h,e1,e2,c1,c2],by rw[Fy,Fy];left⟩
noncomputable def CQ:CE:=.comp 1 (.nm 0) [] .seq [(.ix (.v 0) (.int 1))] [] (.cg 1090 [(.v 0)])
def rR:ao:=[.ret (.cg 1091 [(.str " "),(.bin .add (.lst [(.call 111 [(.ix (.v 0) (.int 0))]),(.str ":")]) CQ)])]
noncomputable def bV(ss:ag):aa:=ss.map D.str
theorem fO(g:Fl->Fl)(ss:ag):ah g (bV ss)=bV ss:=eA g (λ_=>rfl) ss
theorem wO{B:Nat}:∀{ss:ag},(∀s∈ss,s.length<=B)->(ss.map (·.length)).sum<=ss.length*B
 |[],_=>by simp
 |s::ss,h=>by
  have:=wO (ss:=ss) λx hx=>h x (aal _ hx);have:=h s aai;rw[List.map_cons,List.sum_cons,List.length_cons,Nat.add_mul];left
theorem nG{sep:Str}{ss:ag}{B:Nat}(f:Fl)(hs:sep.length<=4)(hB:∀s∈ss,s.length<=B)(hl:ss.length*(B+64)<=1000000):∃s:Str,tT [.str sep,.lst f (bV ss)]=ok (.str s)/\s.length<=4*(ss.length*(B+1)+1):=by
 have aax:=wO hB;rw[Nat.mul_add]at hl;refine⟨PySem.Txt.join sep ss,?_,?_⟩
 ·show(match strsOf (ss.map D.str)with|some ys=>if y8 sep ys=true then ok (D.str (PySem.Txt.join sep ys))else none|none=>none)=_;rw[mX];refine aaQ ?_;unfold y8;rw[decide_eq_true (by left:sep.length<=64),decide_eq_true (by left)];rfl
 ·refine PyProof.Rows.len_join_le (n:=ss.length*(B+1)) ?_ hs;show(ss.map (·.length)).sum+ss.length<=_;rw[Nat.mul_add];left
def Iy(m:aI):Prop:=∀r:Row,Sm 50 r.1->r.2.length<=16->(∀x∈r.2,x.natAbs<2 ^ 50)->∃s:Str,m [rD r]=ok (.str s)/\s.length<=6000
theorem NN(Φ:bg)(T:G0 Φ)(K8:DB (Φ 111)):Iy (mk Φ 1 1 rR):=by
 intro r hq hl hx;obtain⟨s,e1,l1⟩:=K8 r.1 hq;have e2:bj Φ CQ [some (rD r)]=ok (.lst .ow (bV (r.2.map λx=>Str.ofString (toString x)))):=by
  unfold CQ;rw[eJ (xs:=[.tup (av r.2)]) (items:=r.2.map D.int) (ds:=r.2.map λx=>D.str (toString x)) (by simp[rD]) (by rw[xw,cz];rfl) (cL λx zE=>⟨[some (.int x)],rfl,by simp,by
   have e:=(str_len (hx x zE)).1;rw[<- T.Cm]at e;simp[e]⟩) (by rw[List.length_map];exact dD (by left))]
  have:(r.2.map λx=>D.str (toString x))=bV (r.2.map λx=>Str.ofString (toString x)):=by unfold bV;rw[List.map_map];rfl
  rw[this,fO]
 have hB:∀t∈[s,(":" : Str)]++r.2.map (λx=>Str.ofString (toString x)),t.length<=60:=λt ht=>by
  rcases List.mem_append.mp ht with h|h
  ·rcases List.mem_cons.mp h with rfl|h
   ·exact l1
   ·rw[List.mem_singleton.mp h];decide +kernel
  ·obtain⟨x,zE,rfl⟩:=List.mem_map.mp h;have:=(str_len (hx x zE)).2;left
 obtain⟨u,e3,l3⟩:=nG (sep:=" ") (B:=60) .ow (by decide +kernel) hB (by simp;left);rw[<- T.Ck]at e3;have ba:b0 .add (.lst .ow [.str s,.str ":"]) (.lst .ow (bV (r.2.map λx=>Str.ofString (toString x))))=ok (.lst .ow (bV ([s,(":" : Str)]++r.2.map (λx=>Str.ofString (toString x))))):=by
  show(if e_ .ow=false/\e_ .ow=false/\(2:Nat)+(bV (r.2.map λx=>Str.ofString (toString x))).length<=ej then ok (D.lst .ow (ah aN ([.str s,.str ":"]++bV (r.2.map λx=>Str.ofString (toString x)))))else none)=_;rw[if_pos ⟨rfl,rfl,by unfold bV;simp;show _<=1000000;left⟩];have:[D.str s,.str ":"]++bV (r.2.map λx=>Str.ofString (toString x))=bV ([s,(":" : Str)]++r.2.map (λx=>Str.ofString (toString x))):=by unfold bV;rw[List.map_append];rfl
  rw[this,fO]
 refine⟨u,?_,?_⟩
 ·generalize bV (r.2.map λx=>Str.ofString (toString x))=A at *;generalize bV ([s,(":" : Str)]++r.2.map (λx=>Str.ofString (toString x)))=W at *;have eD:rD r=.tup [qD r.1,.tup (av r.2)]:=rfl;have x0:xu (rD r) (.int 0)=ok (qD r.1):=by rw[eD];simp
  simp[mk_eq,rR,x0,e1,e2,ba,e3]
 ·simp only[List.length_append,List.length_map,List.length_cons,List.length_nil]at l3;have:(0+1+1+r.2.length)*(60+1)<=18*61:=Nat.mul_le_mul_right _ (by left);left
end DI
end
section
namespace DI
open PySem PySem.Spec PyProof.Rows L2
section
open PySem.SeqAt
open PySem.AutoSeq1 (wpAny_loadPart')
open PySem.MeetsSeq PySem.MeetsSeq2 PySem.MeetsSeq3
end
end DI
end
section
set_option maxHeartbeats 1000000
namespace DI
open PySem (Str)
noncomputable def yB(d:D):Bool:=match d with
 |.tup (.int a::_)=>decide (0<a)
 |_=>false
def dP(n:Int)(d:D):Bool:=match d with
 |.tup [c,l]=>bu l n&&(bM c&&yB c)
 |_=>false
def L6(d:D):Prop:=match d with
 |.tup [_,l]=>jX l
 |_=>True
def wu(m:aI):Prop:=∀d (n:Int),L6 d->m [d,.int n]=ok (.bl (dP n d))
variable {ds:aa}
theorem wK(h:ds.length=2):∃x y,ds=[x,y]:=by
 match ds,h with
 |[x,y],_=>exact⟨x,y,rfl⟩
theorem AE{n:Int}(h:ds.length≠2):dP n (.tup ds)=false:=by
 unfold dP
 match ds,h with
 |[],_=>rfl
 |[_],_=>rfl
 |[_,_],h=>exact absurd rfl h
 |_::_::_::_,_=>rfl
theorem Jz(Φ:bg)(h3:eV (Φ 3))(VV:ip (Φ 43)):wu (mk Φ 2 2 fg):=by
 intro d n hc;have ty:∀ds,cW .tuple (.tup ds)=true:=λ_=>rfl;cases d with
 |tup ds =>
  by_cases hl:ds.length=2
  ·obtain⟨c,l,rfl⟩:=wK hl;have e1:=VV (aw aA (aw aN (aw aN l))) n (dh (dh (dh (show jX l from hc))));rw[dX,dX,dX]at e1;have e2:=h3 (aw aA (aw aN (aw aN c)));rw[eI,eI,eI]at e2;cases hh:bu l n with
   |false=>rw[hh]at e1;simp[mk_eq,fg,ty,e1,dP,hh]
   |true =>
    rw[hh]at e1;cases hf:bM c with
    |false=>rw[hf]at e2;simp[mk_eq,fg,ty,e1,e2,dP,hh,hf]
    |true =>
     obtain⟨q,rfl⟩:=nX hf;rw[hf]at e2;have e4:qD q=.tup [.int q.num,.int q.den]:=rfl;simp at e2;simp[mk_eq,fg,ty,e1,e2,dP,hh,hf];simp[e4,yB]
  ·have oG:¬ (ds.length:Int)=2:=by left
   simp[mk_eq,fg,ty,oG,AE hl,aP]
 |_=>simp[mk_eq,fg,cW,dP]
def cG(d:D):Row:=match d with
 |.tup [.tup [.int a,.int b],.tup ds]=>(Rat.divInt a b,numsOf ds)
 |_=>(0,[])
theorem mn{n:Nat}{d:D}(h:dP n d=true):d=rD (cG d)/\0<(cG d).1/\bu (.tup (av (cG d).2)) n=true:=by
 unfold dP at h;split at h
 ·rename_i c l;rw[Bool.and_eq_true,Bool.and_eq_true]at h;obtain⟨h1,h2,h3⟩:=h;obtain⟨q,rfl⟩:=nX h2;cases l with
  |tup ds =>
   have Qi:=h1;unfold bu at h1;rw[Bool.and_eq_true]at h1;obtain⟨ns,rfl⟩:=fc h1.1;have e:cG (.tup [qD q,.tup (av ns)])=(q,ns):=by
    show(Rat.divInt q.num q.den,numsOf (av ns))=_;rw[gw,dH]
   rw[e];refine⟨rfl,?_,Qi⟩;have:0<q.num:=aab h3;have:=fW (t:=q.num) (b:=q.den) this (by have:=Hk q;left)
   rwa [gw]at this
  |_=>simp[bu]at h1
 ·cases h
theorem qz{n:Nat}{rows:aa}(h:rows.all (dP n)=true):rows=br (rows.map cG):=by
 unfold br;rw[List.map_map]
 conv=>lhs;rw[<- List.map_id rows]
 refine aau λd hd=>?_;exact(mn (List.all_eq_true.mp h d hd)).1
def eY:aB->Bool
 |a::b::l=>HT.lexLt a b&&eY (b::l)
 |_=>true
def ye(m:aI):Prop:=∀rs:aL,m [.lst .fz (br rs)]=ok (.bl (eY (rs.map (·.2))))
theorem Qk{Φ:bg}(pP:Φ 1022=MO)(a b:ae):Φ 1022 [.tup (av a),.tup (av b)]=ok (.bl (!HT.lexLt a b)):=by
 rw[pP];show(match intsOf (av a)with|some ns=>(match intsOf (av b)with|some ms=>ok (D.bl (!HT.lexLt ns ms))|none=>none)|none=>none)=_;unfold av;rw[b_,b_]
theorem sX(Φ:bg)(pP:Φ 1022=MO)(c0:aO):∀(rs:aL) (r:Row) (c1 c2:aO),
  ∃ρ',fm (λd ρ=>cK (.tp [1,2]) d ρ) (λρ=>bF Φ yn ρ) (List.zipWith (λx y=>D.tup [x,y]) (br (r::rs)) (br rs)) [c0,c1,c2]=ok (if eY ((r::rs).map (·.2))then .nx else .rt (.bl false),ρ')
 |[],r,c1,c2=>⟨_,rfl⟩
 |s::rs,r,c1,c2=>by
  have e:=Qk pP r.2 s.2;have e1:∀r:Row,rD r=.tup [qD r.1,.tup (av r.2)]:=λ_=>rfl;have er:eY ((r::s::rs).map (·.2))=(HT.lexLt r.2 s.2&&eY ((s::rs).map (·.2))):=rfl;cases h:HT.lexLt r.2 s.2 with
  |true =>
   obtain⟨ρ',ih⟩:=sX Φ pP c0 rs s (some (rD r)) (some (rD s));refine⟨ρ',?_⟩;rw[er,h,Bool.true_and,<- ih];rw[h]at e;exact lb (ρ1:=[c0,some (rD r),some (rD s)]) (by simp) (ρ2:=[c0,some (rD r),some (rD s)]) (by simp[yn,e1,e]) rfl
  |false =>
   refine⟨[c0,some (rD r),some (rD s)],?_⟩;rw[er,h,Bool.false_and];rw[h]at e;exact CF (ρ1:=[c0,some (rD r),some (rD s)]) (by simp) (by simp[yn,e1,e])
theorem EE(Φ:bg)(Qg:Φ 1000=D4)(nN:Φ 1020=cutD true)(pP:Φ 1022=MO):ye (mk Φ 1 3 ff):=by
 intro rs;have e1:Φ 1020 [.lst .fz (br rs),.int 1]=ok (.lst .ow (br (rs.drop 1))):=by
  rw[nN];show(if (0:Int)<=1 then ok (D.lst .ow (ah aN (oZ true (1:Int).toNat (br rs))))else none)=_;rw[if_pos (by decide)];show ok (D.lst .ow (ah aN ((br rs).drop 1)))=_;rw[show(br rs).drop 1=br (rs.drop 1) by simp[br,List.map_drop]];simp
 have e2:Φ 1000 [.lst .fz (br rs),.lst .ow (br (rs.drop 1))]=ok (.lst .ow (List.zipWith (λx y=>D.tup [x,y]) (br rs) (br (rs.drop 1)))):=by rw[Qg];rfl
 have e3:ah aA (List.zipWith (λx y=>D.tup [x,y]) (br rs) (br (rs.drop 1)))=List.zipWith (λx y=>D.tup [x,y]) (br rs) (br (rs.drop 1)):=by
  have:=gj aA (br rs) (br (rs.drop 1));rw[cy,cy]at this;exact this
 have hit:fQ Φ (.JQ 1000 [(.v 0),(.cg 1020 [(.v 0),(.int 1)])]) [some (.lst .fz (br rs)),none,none]=ok (List.zipWith (λx y=>D.tup [x,y]) (br rs) (br (rs.drop 1)),[some (.lst .fz (br rs)),none,none]):=by
  show bd (bz Φ [(.v 0),(.cg 1020 [(.v 0),(.int 1)])] [some (.lst .fz (br rs)),none,none]) _=_;have:bz Φ [(.v 0),(.cg 1020 [(.v 0),(.int 1)])] [some (.lst .fz (br rs)),none,none]=ok [.lst .fz (br rs),.lst .ow (br (rs.drop 1))]:=by simp[e1]
  rw[this,dv,e2,dv];show ok (ah aA (List.zipWith (λx y=>D.tup [x,y]) (br rs) (br (rs.drop 1))),if a_ bX [D.lst .fz (br rs),.lst .ow (br (rs.drop 1))]then _ else _)=_;rw[e3];simp
 obtain⟨ρ',e⟩:∃ρ',fm (λd ρ=>cK (.tp [1,2]) d ρ) (λρ=>bF Φ yn ρ) (List.zipWith (λx y=>D.tup [x,y]) (br rs) (br (rs.drop 1))) [some (.lst .fz (br rs)),none,none]=ok (if eY (rs.map (·.2))then .nx else .rt (.bl false),ρ'):=by
  cases rs with
  |nil=>exact⟨_,rfl⟩
  |cons r rs=>exact sX Φ pP _ rs r none none
 have hf:=mP (Φ:=Φ) (t:=.tp [1,2]) (b:=yn) hit e;cases h:eY (rs.map (·.2))with
 |true=>rw[h]at hf;simp at hf;simp[mk_eq,ff,hf]
 |false=>rw[h]at hf;simp at hf;simp[mk_eq,ff,hf]
def DA(m:aI):Prop:=∀(rs:aL) k,zM k (gg rs)->m [.lst .fz (br rs)]=ok (.bl (decide ((gg rs).sum=1)))
theorem z_{b:Nat}{qs:aU}(hb:0<b)(h:∀q∈qs,q.den∣b):(qs.map (fM b)).sum=(b:Int) ↔ qs.sum=1:=by
 refine⟨λe=>?_,z9 h⟩;have:=mU h;rw[e]at this;have uS:((b:Int):Rat)≠0:=by
  intro z;have:=Rat.intCast_inj.mp (z.trans Rat.intCast_zero.symm);left
 rw[Rat.intCast_natCast]at this uS;generalize (b:Rat)=x at *;grind
theorem Jy(Φ:bg)(h14:qj (Φ 14)):DA (mk Φ 1 2 eU):=by
 intro rs k hs;have hl:rs.length<=1000:=by have:=hs.len;simpa [gg]using this
 have e1:=h14 rs k hs;have hb:=hs.lcm;have e2:=z_ hb.1 hb.2.2;generalize jO (gg rs)=b at *;have e3:∀c0,bj Φ LN [c0,some (.tup [.int b,.lst .ow (D9 b rs)])]=ok (.lst .ow (av ((gg rs).map (fM b)))):=λc0=>by
  unfold LN;rw[eJ (xs:=[.lst .al (D9 b rs)]) (items:=D9 b rs) (ds:=rs.map λr=>.int (fM b r.1)) (by simp) (by rw[eT];simp) (cL λr hr=>?_) (by simp;exact dD (by left))]
  ·simp[av,gg,aP]
  ·exact⟨[some (.int (fM b r.1)),some (.tup (av r.2))],by simp[cF],by simp,by simp⟩
 have e4:rQ .sI [.lst .ow (av ((gg rs).map (fM b)))]=ok (.int ((gg rs).map (fM b)).sum):=by
  show(match intsOf (av ((gg rs).map (fM b)))with|some ns=>ok (D.int ns.sum)|none=>none)=_;unfold av;rw[b_]
 have e5:∀x y:Int,ic .eq (.int x) (.int y)=ok (.bl (x==y)):=λx y=>rfl;have e6:(((gg rs).map (fM b)).sum==(b:Int))=decide ((gg rs).sum=1):=by
  rw[Bool.eq_iff_iff,beq_iff_eq,decide_eq_true_iff];exact e2
 simp[mk_eq,eU,e1,e3,e4,e5,e6]
end DI
end
section
set_option maxHeartbeats 1000000
namespace DI
open PySem (Str)
mutual
theorem eE(g h:Fl->Fl):∀d:D,aw g (aw h d)=aw (λf=>g (h f)) d
 |.tup ds=>by rw[aw,aw,aw,dM g h ds]
 |.lst f ds=>by rw[aw,aw,aw,dM g h ds]
 |.cJ f ks ds=>by rw[aw,aw,aw,dM g h ds]
 |.bB=>rfl
 |.bl _=>rfl
 |.int _=>rfl
 |.str _=>rfl
theorem dM(g h:Fl->Fl):∀ds:aa,ah g (ah h ds)=ah (λf=>g (h f)) ds
 |[]=>rfl
 |d::ds=>by rw[ah,ah,ah,eE g h d,dM g h ds]
end
theorem fS(d:D):aw aA (aw aN d)=aw aA d:=by
 rw[eE];congr 1;funext f;cases f<;>rfl
theorem Dx(d:D):aw aN (aw aA d)=aw aA d:=by
 rw[eE];congr 1;funext f;cases f<;>rfl
def aY:Nat->D->Bool
 |_,.bB=>true
 |_,.bl _=>true
 |_,.int i=>decide (i.natAbs<2 ^ 50)
 |_,.str _=>true
 |n+1,.tup ds=>decide (ds.length<=16)&&ds.all (aY n)
 |n+1,.lst f ds=>!e_ f&&(decide (ds.length<=16)&&ds.all (aY n))
 |_,_=>false
theorem ll(g:Fl->Fl)(hg:∀f,e_ (g f)=e_ f):∀(n:Nat) (d:D),aY n (aw g d)=aY n d
 |0,d=>by cases d<;>rfl
 |n+1,d=>by
  cases d<;>first|rfl|skip
  ·simp only[aw,aY,aP,List.all_map,List.length_map];congr 2;funext d;exact ll g hg n d
  ·simp only[aw,aY,aP,List.all_map,List.length_map,hg];congr 3;funext d;exact ll g hg n d
variable {ds:aa}
theorem cY{n:Nat}(h:aY n (.tup ds)=true):∃m,n=m+1/\ds.length<=16/\∀d∈ds,aY m d=true:=by
 cases n with
 |zero=>cases h
 |succ m =>
  rw[aY,Bool.and_eq_true]at h;exact⟨m,rfl,aab h.1,List.all_eq_true.mp h.2⟩
theorem fX{n:Nat}{f:Fl}(h:aY n (.lst f ds)=true):∃m,n=m+1/\ds.length<=16/\(∀d∈ds,aY m d=true)/\e_ f=false:=by
 cases n with
 |zero=>cases h
 |succ m =>
  rw[aY,Bool.and_eq_true,Bool.and_eq_true]at h;exact⟨m,rfl,aab h.2.1,List.all_eq_true.mp h.2.2,by simpa using h.1⟩
theorem uo{n:Nat}{d:D}(h:aY n d=true):jX d:=by
 cases d with
 |tup ds=>obtain⟨_,_,h,_⟩:=cY h;show ds.length<64;left
 |lst f ds=>obtain⟨_,_,h,_⟩:=fX h;show ds.length<=1000000;left
 |_=>trivial
theorem zd{n:Nat}{d:D}(h:aY n d=true):L6 d:=by
 unfold L6;split
 ·obtain⟨m,_,_,h⟩:=cY h;exact uo (h _ (by simp))
 ·trivial
theorem rA:∀{n:Nat} {d:D},aY n d=true->aY (n+1) d=true
 |n,.bB,_=>by cases n<;>rfl
 |n,.bl b,_=>by cases n<;>rfl
 |n,.int b,h=>by cases n<;>exact h
 |n,.str b,h=>by cases n<;>exact h
 |0,.tup ds,h=>by cases h
 |0,.lst _ ds,h=>by cases h
 |n+1,.tup ds,h=>by
  rw[aY,Bool.and_eq_true]at h ⊢;refine⟨h.1,?_⟩;have:=h.2;rw[List.all_eq_true]at this ⊢;exact λd hd=>rA (this d hd)
 |n+1,.lst _ ds,h=>by
  rw[aY,Bool.and_eq_true,Bool.and_eq_true]at h ⊢;refine⟨h.1,h.2.1,?_⟩;have:=h.2.2;rw[List.all_eq_true]at this ⊢;exact λd hd=>rA (this d hd)
 |n,.cJ _ _ _,h=>by cases n<;>cases h
theorem rB{n:Nat}{q:Rat}(h:aY n (qD q)=true):Sm 50 q:=by
 obtain⟨m,_,_,h⟩:=cY h;have h1:=h (.int q.num) (by simp);have h2:=h (.int q.den) (by simp);have h1:q.num.natAbs<2 ^ 50:=aab (by cases m<;>exact h1);have h2:(q.den:Int).natAbs<2 ^ 50:=aab (by cases m<;>exact h2);exact⟨h1,by simpa using h2⟩
theorem C6{n:Nat}{rs:aL}(hl:rs.length<=16)(h:∀r∈rs,aY n (rD r)=true):zM 50 (gg rs):=by
 refine⟨λq hq=>?_,by simp[gg];left,by simp[gg];left⟩;obtain⟨r,hr,rfl⟩:=List.mem_map.mp hq;obtain⟨m,_,_,h'⟩:=cY (h r hr);exact rB (h' (qD r.1) (by simp))
def kJ(n:Int)(rows:aa):Bool:=rows.all (dP n)&&(eY ((rows.map cG).map (·.2))&&decide ((gg (rows.map cG)).sum=1))
def bY(d:D):Bool:=match d with
 |.tup [m,.lst _ rows]=>(match m with
  |.int n=>decide (1<=n)&&(decide (n<=12)&&kJ n rows)
  |_=>false)
 |_=>false
def vy(n:Int)(d:D):Bool:=match d with
 |.tup [_,l]=>iS l n
 |_=>false
def cj(d:D):Bool:=bY d&&(match d with
 |.tup [.int n,.lst _ rows]=>rows.all (vy n)
 |_=>false)
def uM(m:aI):Prop:=∀d,aY 8 d=true->aw aA d=d->m [d]=ok (.bl (bY d))
theorem lI(Φ:bg)(MN:wu (Φ 12)){n:Int}(c0 c2:aO):∀(rows:aa) (c3:aO),(∀d∈rows,aY 7 d=true/\aw aA d=d)->∃ρ',fm (λd ρ=>cK (.nm 3) d ρ) (λρ=>bF Φ kh ρ) rows [c0,some (.int n),c2,c3]=ok (if rows.all (dP n)then .nx else .rt (.bl false),ρ')/\(rows.all (dP n)=true->∃YS,ρ'=[c0,some (.int n),c2,YS])
 |[],c3,_=>⟨_,rfl,λ_=>⟨_,rfl⟩⟩
 |d::rows,c3,h=>by
  obtain⟨h1,Qi⟩:=h d aai;have e:=MN d n (zd h1);have al:aw aN d=d:=by rw[<- Qi,Dx]
  cases hr:dP n d with
  |true =>
   obtain⟨ρ',ih,ih'⟩:=lI Φ MN c0 c2 rows (some d) λs hs=>h s (aal _ hs);refine⟨ρ',?_,λz=>ih' (by rw[List.all_cons,hr,Bool.true_and]at z;exact z)⟩;rw[List.all_cons,hr,Bool.true_and,<- ih];rw[hr]at e;exact lb (ρ1:=[c0,some (.int n),c2,some d]) (by simp) (ρ2:=[c0,some (.int n),c2,some d]) (by simp[kh,al,Qi,e]) rfl
  |false =>
   refine⟨[c0,some (.int n),c2,some d],?_,λz=>by rw[List.all_cons,hr]at z;cases z⟩;rw[List.all_cons,hr,Bool.false_and];rw[hr]at e;exact CF (ρ1:=[c0,some (.int n),c2,some d]) (by simp) (by simp[kh,al,Qi,e])
theorem kF(h:ah aA ds=ds):∀d∈ds,aw aA d=d:=by
 induction ds with
 |nil=>intro d hd;cases hd
 |cons x xs ih =>
  rw[ah]at h;obtain⟨h1,h2⟩:=aa7 h;intro d hd;rcases List.mem_cons.mp hd with rfl|hd
  ·exact h1
  ·exact ih h2 d hd
mutual
theorem xF:∀d:D,bo bX (aw aA d)=false
 |.tup ds=>by rw[aw,bo];exact kG ds
 |.lst f ds=>by rw[aw,bo,kG ds];cases f<;>rfl
 |.cJ f ks ds=>by rw[aw,bo,kG ds];cases f<;>rfl
 |.bB=>rfl
 |.bl _=>rfl
 |.int _=>rfl
 |.str _=>rfl
theorem kG:∀ds:aa,a_ bX (ah aA ds)=false
 |[]=>rfl
 |d::ds=>by rw[ah,a_,xF d,kG ds];rfl
end
theorem tL{d:D}(h:aw aA d=d):bo bX d=false:=by rw[<- h];exact xF d
theorem lu{d:D}(h:aw aA d=d):aw aN d=d:=by rw[<- h,Dx]
theorem nS{f:Fl}{rows:aa}(h:aw aA (.lst f rows)=.lst f rows)(hs:e_ f=false):f=.fz/\ah aA rows=rows:=by
 rw[aw]at h;obtain⟨h1,h2⟩:=D.lst.inj h;refine⟨?_,h2⟩;cases f<;>first|rfl | (cases h1;done)|cases hs
theorem AA(Φ:bg)(h0:eM (Φ 0))(MN:wu (Φ 12))(h15:DA (Φ 15))(h44:ye (Φ 44)):uM (mk Φ 1 4 cc):=by
 intro d hd hz;have ty:∀ds,cW .tuple (.tup ds)=true:=λ_=>rfl;have tl:∀f ds,cW .list (.lst f ds)=true:=λ_ _=>rfl;cases d with
 |tup ds =>
  by_cases hl:ds.length=2
  ·obtain⟨m,r,rfl⟩:=wK hl;obtain⟨k,hk,_,hd⟩:=cY hd;obtain rfl:k=7:=by left
   have XY:=kF (D.tup.inj hz);have zm:=XY m (by simp);have zr:=XY r (by simp);have am:=lu zm;have ar:=lu zr;have e0:=h0 m;cases hw:dE m with
   |false =>
    rw[hw]at e0;have:bY (.tup [m,r])=false:=by
     unfold bY;cases r<;>first|rfl|skip
     cases m<;>first|rfl|exact Bool.noConfusion (show true=false from hw)
    rw[this];simp[mk_eq,cc,ty,am,ar,zm,zr,tL zm,tL zr,e0]
   |true =>
    obtain⟨n,rfl⟩:=jJ hw;rw[hw]at e0;have hr:=hd r (by simp);by_cases n1:n<1
    ·have:bY (.tup [.int n,r])=false:=by
      unfold bY;cases r<;>first|rfl|skip
      show(decide (1<=n)&&_)=false;rw[decide_eq_false (by left)];rfl
     rw[this];simp[mk_eq,cc,ty,ar,zr,tL zr,e0,n1]
    ·by_cases n2:12<n
     ·have:bY (.tup [.int n,r])=false:=by
       unfold bY;cases r<;>first|rfl|skip
       show(_&&(decide (n<=12)&&_))=false;rw[decide_eq_false (by left:¬ n<=12),Bool.false_and,Bool.and_false]
      rw[this];simp[mk_eq,cc,ty,ar,zr,tL zr,e0,n1,n2]
     ·by_cases hL:∃f rows,r=.lst f rows
      ·obtain⟨f,rows,rfl⟩:=hL;obtain⟨k,hk,hlen,FX,BS⟩:=fX hr;obtain rfl:k=6:=by left
       obtain⟨rfl,Pd⟩:=nS zr BS;have hpz:=kF Pd;obtain⟨ρ',el,el'⟩:=lI Φ MN (n:=n) (some (.tup [.int n,.lst .fz rows])) (some (.lst .fz rows)) rows none λd oW=>⟨rA (FX d oW),hpz d oW⟩
       have hit:fQ Φ (.seq (.v 2)) [some (.tup [.int n,.lst .fz rows]),some (.int n),some (.lst .fz rows),none]=ok (rows,[some (.tup [.int n,.lst .fz rows]),some (.int n),some (.lst .fz rows),none]):=by
        have e1:bj Φ (.v 2) [some (.tup [.int n,.lst .fz rows]),some (.int n),some (.lst .fz rows),none]=ok (.lst .fz rows):=by
         show ok (aw aN (.lst .fz rows))=_;rw[ar]
        have na:(bX Fl.fz||a_ bX rows)=false:=tL zr;rw[OZ e1,Pd,na];rfl
       have hf:=mP (Φ:=Φ) (t:=.nm 3) (b:=kh) hit el;have hB:bY (.tup [.int n,.lst .fz rows])=kJ n rows:=by
        show(decide (1<=n)&&(decide (n<=12)&&kJ n rows))=_;rw[decide_eq_true (by left),decide_eq_true (by left)];rfl
       rw[hB];have aT:aw aN (.tup [.int n,.lst .fz rows])=.tup [.int n,.lst .fz rows]:=lu hz;cases ha:rows.all (dP n)with
       |false =>
        have:kJ n rows=false:=by unfold kJ;rw[ha];rfl
        rw[this];rw[ha]at hf;simp at hf;simp[mk_eq,cc,ty,tl,ar,tL zr,e0,n1,n2,hf]
       |true =>
        obtain⟨YS,rfl⟩:=el' ha;obtain⟨n',rfl⟩:∃n':Nat,n=(n':Int):=⟨n.toNat,by left⟩
        have FR:=qz ha;have YO:=h44 (rows.map cG);have YQ:=h15 (rows.map cG) 50 (C6 (n:=6) (by simpa using hlen) (λr Vg=>by
         obtain⟨d,oW,rfl⟩:=List.mem_map.mp Vg;have:=(mn (List.all_eq_true.mp ha d oW)).1;rw[<- this];exact FX d oW))
        rw[<- FR]at YO YQ;have:kJ n' rows=(eY ((rows.map cG).map (·.2))&&decide ((gg (rows.map cG)).sum=1)):=by unfold kJ;rw[ha];rfl
        rw[this];rw[ha]at hf;simp only[if_true]at hf;have zr':aw aA (.lst .fz rows)=.lst .fz rows:=zr;generalize eY ((rows.map cG).map (·.2))=b1 at *;generalize decide ((gg (rows.map cG)).sum=1)=b2 at *;cases b1<;>simp[mk_eq,cc,ty,tl,ar,zr,tL zr,e0,n1,n2,hf,YO,YQ]
      ·have hL':cW .list r=false:=by
        cases r<;>first|rfl|exact absurd ⟨_,_,rfl⟩ hL
       have:bY (.tup [.int n,r])=false:=by
        unfold bY;cases r<;>first|rfl|exact absurd ⟨_,_,rfl⟩ hL
       rw[this];simp[mk_eq,cc,ty,ar,zr,tL zr,e0,n1,n2,hL']
  ·have oG:¬ (ds.length:Int)=2:=by left
   have:bY (.tup ds)=false:=by
    unfold bY
    match ds,hl with
    |[],_=>rfl
    |[_],_=>rfl
    |[_,_],h=>exact absurd rfl h
    |_::y::_::_,_=>cases y<;>rfl
   rw[this];simp[mk_eq,cc,ty,oG,aP]
 |_=>simp[mk_eq,cc,cW,bY]
end DI
end
section
set_option maxHeartbeats 1000000
namespace DI
open PySem (Str)
def rZ(m:aI):Prop:=∀d,aY 8 d=true->aw aA d=d->m [d]=ok (.bl (cj d))
theorem p6{d:D}(h:bY d=true):∃(n:Nat) (f:Fl) (rows:aa),d=.tup [.int n,.lst f rows]/\1<=n/\n<=12/\rows.all (dP n)=true/\eY ((rows.map cG).map (·.2))=true/\(gg (rows.map cG)).sum=1:=by
 unfold bY at h;split at h
 ·rename_i m f rows;cases m with
  |int n =>
   have h:(decide (1<=n)&&(decide (n<=12)&&kJ n rows))=true:=h;rw[Bool.and_eq_true,Bool.and_eq_true]at h;obtain⟨h1,h2,h3⟩:=h;have h1:=aab h1;have h2:=aab h2;obtain⟨n',rfl⟩:∃n':Nat,n=(n':Int):=⟨n.toNat,by left⟩
   unfold kJ at h3;rw[Bool.and_eq_true,Bool.and_eq_true]at h3;exact⟨n',f,rows,rfl,by left,by left,h3.1,h3.2.1,aab h3.2.2⟩
  |_=>cases h
 ·cases h
theorem Dw(n:Int)(rs:aL):(rs.map λr=>iS (.tup (av r.2)) n).all id=(br rs).all (vy n):=by
 unfold br;rw[List.all_map,List.all_map];rfl
theorem EG(Φ:bg)(h11:uL (Φ 11))(VU:uM (Φ 45)):rZ (mk Φ 1 1 eh):=by
 intro d hd hz;have e1:=VU d hd hz;have al:=lu hz;cases hB:bY d with
 |false =>
  rw[hB]at e1;have:cj d=false:=by unfold cj;rw[hB];rfl
  rw[this];simp[mk_eq,eh,al,hz,e1]
 |true =>
  rw[hB]at e1;obtain⟨n,f,rows,rfl,n1,n2,ha,hr,hs⟩:=p6 hB;have PD:cj (.tup [.int n,.lst f rows])=rows.all (vy n):=by unfold cj;rw[hB];rfl
  rw[PD];have FR:=qz ha;have BQ:=kF (D.tup.inj hz);obtain⟨k,hk,_,hd2⟩:=cY hd;obtain rfl:k=7:=by left
  obtain⟨k,Pu,hlen,FX,BS⟩:=fX (hd2 (.lst f rows) (by simp));obtain⟨rfl,Pd⟩:=nS (BQ (.lst f rows) (by simp)) BS
  let rs:=rows.map cG
  have Pe:rows=br rs:=FR;have e2:bj Φ vW [some (.tup [.int n,.lst .fz rows])]=ok (.lst .ow (kL (rs.map λr=>iS (.tup (av r.2)) n))):=by
   unfold vW;rw[eJ (xs:=[.lst .fz rows]) (items:=rs.map rD) (ds:=rs.map λr=>.bl (iS (.tup (av r.2)) n)) ?_ (by rw[eT,Pd,Pe];rfl) (cL λr hr=>?_) (by simp[rs];exact dD (by left))]
   ·simp[kL,aP]
   ·rw[bN,Gj,Sy,gR];show gm (OU (ok (aw aN (.tup [.int n,.lst .fz rows]))) (ok (.int 1))) (ok [])=_;rw[al];show gm (ok (aw aN (.lst .fz rows))) (ok [])=_;rw[lu (BQ (.lst .fz rows) (by simp))];rfl
   ·have e:=h11 (.tup (av r.2)) n (by
     obtain⟨d,oW,rfl⟩:=List.mem_map.mp hr;obtain⟨e1,_,e3⟩:=mn (List.all_eq_true.mp ha d oW);have:=FX d oW;rw[e1]at this;obtain⟨m,hm,_,h'⟩:=cY this;exact uo (h' (.tup (av (cG d).2)) (by simp)))
    have ez:aw aA (.tup [.int n,.lst .fz rows])=.tup [.int n,.lst .fz rows]:=hz;refine⟨[some (qD r.1),some (.tup (av r.2)),some (.tup [.int n,.lst .fz rows])],?_,by simp,?_⟩
    ·show cK (.tp [0,1]) (rD r) [none,none,some (aw aA (.tup [.int n,.lst .fz rows]))]=_;rw[ez];simp[rD]
    ·rw[jS,bN,bN,gR,Gj,Sy,Sy];show fY (Φ 11) (gm (ok (aw aN (.tup (av r.2)))) (gm (OU (ok (aw aN (.tup [.int n,.lst .fz rows]))) (ok (.int 0))) (ok [])))=_;rw[al];show fY (Φ 11) (gm (ok (aw aN (.tup (av r.2)))) (gm (ok (.int n)) (ok [])))=_;simp[e]
  have e3:rQ .all1 [.lst .ow (kL (rs.map λr=>iS (.tup (av r.2)) n))]=ok (.bl (rows.all (vy n))):=by
   show(match jb (kL (rs.map λr=>iS (.tup (av r.2)) n))with|some bs=>ok (D.bl (bs.all id))|none=>none)=_;unfold kL;rw[lr];show ok (D.bl ((rs.map λr=>iS (.tup (av r.2)) n).all id))=_;rw[Dw,<- Pe]
  have ez:aw aA (.tup [.int n,.lst .fz rows])=.tup [.int n,.lst .fz rows]:=hz;unfold eh;rw[mk_eq (ar:=1) (ds:=[_]) rfl];show lj (bF Φ [.ret (.and [(.call 45 [(.v 0)]),(.bf .all1 [vW])])] [some (.tup [.int n,.lst .fz rows])])=_;have c45:bj Φ (.call 45 [(.v 0)]) [some (.tup [.int n,.lst .fz rows])]=ok (.bl true):=by
   rw[jS,bN,Sy,gR];show fY (Φ 45) (gm (ok (aw aN (.tup [.int n,.lst .fz rows]))) (ok []))=_;rw[al];show t8 (Φ 45 [aw aA (.tup [.int n,.lst .fz rows])])=_;rw[ez,e1];rfl
  have call:bj Φ (.bf .all1 [vW]) [some (.tup [.int n,.lst .fz rows])]=ok (.bl (rows.all (vy n))):=by
   rw[CW,bN,e2,gR];exact e3
  rw[bE,zR];have:ju Φ (.and [(.call 45 [(.v 0)]),(.bf .all1 [vW])]) [some (.tup [.int n,.lst .fz rows])]=ok (.bl (rows.all (vy n)),[some (.tup [.int n,.lst .fz rows])]):=by
   show cP _ _ (bj Φ (.and [(.call 45 [(.v 0)]),(.bf .all1 [vW])]) _)=_;rw[QE,LO,c45,LP,call];rfl
  rw[this];rfl
def IA(m:aI):Prop:=∀d,aY 8 d=true->aw aA d=d->m [d]=if cj d then ok .bB else some (.error 1)
theorem NR(Φ:bg)(Sh:rZ (Φ 16)):IA (mk Φ 1 1 bH):=by
 intro d hd hz;have e1:=Sh d hd hz;have al:=lu hz;cases h:cj d with
 |true=>rw[h]at e1;simp[mk_eq,bH,al,hz,e1]
 |false=>rw[h]at e1;simp[mk_eq,bH,al,hz,e1]
def Kb(ds:aa):Prop:=∃d,ds=[d]/\aY 8 d=true/\aw aA d=d/\cj d=false
variable {ds:aa}{Φ:bg}
theorem Qz{Ψ:Nat->aa->Prop}(Sh:rZ (Φ 16))(hm:Kb ds):ds.length=1/\Er Φ Ψ 1 bH (ds.map some++List.replicate (1 - ds.length) none):=by
 obtain⟨d,rfl,hd,hz,hg⟩:=hm;have e1:=Sh d hd hz;rw[hg]at e1;have al:=lu hz;exact⟨rfl,.hd (.Mz (by simp[al,hz,e1]) (.hd .rs))⟩
noncomputable def CU:CE:=.comp 1 (.nm 0) [] .seq [(.ix (.v 0) (.int 1))] [] (.call 112 [(.v 0)])
def lL:ao:=[.ex (.call 17 [(.v 0)]),.ret (.cg 1091 [(.str "\n"),(.bin .add (.lst [(.cg 1092 [(.str "houses "),(.cg 1090 [(.ix (.v 0) (.int 0))])])]) CU)])]
theorem vY{d:D}(hd:aY 8 d=true)(hz:aw aA d=d)(hg:cj d=true):∃(n:Nat) (rs:aL),d=mG n rs/\n<=12/\rs.length<=16/\∀r∈rs,Sm 50 r.1/\r.2.length<=16/\∀x∈r.2,x.natAbs<2 ^ 50:=by
 have hB:bY d=true:=by unfold cj at hg;rw[Bool.and_eq_true]at hg;exact hg.1
 obtain⟨n,f,rows,rfl,n1,n2,ha,hr,hs⟩:=p6 hB;have FR:=qz ha;have BQ:=kF (D.tup.inj hz);obtain⟨k,hk,_,hd2⟩:=cY hd;obtain⟨k,Pu,hlen,FX,BS⟩:=fX (hd2 (.lst f rows) (by simp));obtain⟨rfl,Pd⟩:=nS (BQ (.lst f rows) (by simp)) BS;refine⟨n,rows.map cG,by rw[mG,<- FR],n2,by simpa using hlen,λr Vg=>?_⟩;obtain⟨d,oW,rfl⟩:=List.mem_map.mp Vg;have e:=(mn (List.all_eq_true.mp ha d oW)).1;have xC:=FX d oW;rw[e]at xC;obtain⟨m,_,_,h3⟩:=cY xC;obtain⟨m',_,h4,h5⟩:=cY (h3 (.tup (av (cG d).2)) (by simp));refine⟨rB (h3 (qD (cG d).1) (by simp)),by simpa using h4,λx hx=>?_⟩;have:=h5 (.int x) (aaM hx);exact aab (by cases m'<;>exact this)
def DC(m:aI):Prop:=∀d,aY 8 d=true->aw aA d=d->(cj d=true->∃r,m [d]=ok r)/\(cj d=false->m [d]=some (.error 1))
theorem NP(Φ:bg)(T:G0 Φ)(h17:IA (Φ 17))(V2:Iy (Φ 112)):DC (mk Φ 1 1 lL):=by
 intro d hd hz;have e1:=h17 d hd hz;have al:=lu hz;refine⟨λhg=>?_,λhg=>?_⟩
 ·rw[hg,if_pos rfl]at e1;obtain⟨n,rs,rfl,hn,hl,FR⟩:=vY hd hz hg;obtain⟨e2,l2⟩:=str_len (i:=(n:Int)) (by rw[Int.natAbs_natCast];exact aaz hn (by decide));rw[<- T.Cm]at e2;have x0:xu (mG n rs) (.int 0)=ok (.int n):=by unfold mG;simp
  have x1:xu (mG n rs) (.int 1)=ok (.lst .fz (br rs)):=by unfold mG;simp
  have hh:(("houses " : Str)).length=7:=by decide +kernel
  generalize Str.ofString (toString (n:Int))=a at *;have c1:uz [.str "houses ",.str a]=ok (.str ("houses " ++ a)):=wk (by left);rw[<- T.HZ]at c1;have ch:∀r∈rs,∃s:Str,Φ 112 [rD r]=ok (.str s)/\s.length<=6000:=λr hr=>V2 r (FR r hr).1 (FR r hr).2.1 (FR r hr).2.2;obtain⟨g,zI⟩:∃g:Row->Str,∀r∈rs,Φ 112 [rD r]=ok (.str (g r))/\(g r).length<=6000:=by
   classical
   refine⟨λr=>if h:∃s:Str,Φ 112 [rD r]=ok (.str s)/\s.length<=6000 then Classical.choose h else "",λr hr=>?_⟩;simp only[dif_pos (ch r hr)];exact abJ (ch r hr)
  have e3:bj Φ CU [some (mG n rs)]=ok (.lst .ow (bV (rs.map g))):=by
   unfold CU;rw[eJ (xs:=[.lst .fz (br rs)]) (items:=rs.map rD) (ds:=rs.map λr=>D.str (g r)) (by simp[al,x1]) (by rw[eT,cy];rfl) (cL λr hr=>⟨[some (rD r)],rfl,by simp,by simp[(zI r hr).1]⟩) (by rw[List.length_map];exact dD (by left))];have:(rs.map λr=>D.str (g r))=bV (rs.map g):=by unfold bV;rw[List.map_map];rfl
   rw[this,fO]
  have hB:∀t∈["houses " ++ a]++rs.map g,t.length<=6000:=λt ht=>by
   rcases List.mem_append.mp ht with h|h
   ·rw[List.mem_singleton.mp h,Fy];left
   ·obtain⟨r,hr,rfl⟩:=List.mem_map.mp h;exact(zI r hr).2
  obtain⟨u,e4,_⟩:=nG (sep:="\n") (B:=6000) .ow (by decide +kernel) hB (by simp;left);rw[<- T.Ck]at e4;have ba:b0 .add (.lst .ow [.str ("houses " ++ a)]) (.lst .ow (bV (rs.map g)))=ok (.lst .ow (bV (["houses " ++ a]++rs.map g))):=by
   show(if e_ .ow=false/\e_ .ow=false/\(1:Nat)+(bV (rs.map g)).length<=ej then ok (D.lst .ow (ah aN ([.str ("houses " ++ a)]++bV (rs.map g))))else none)=_;rw[if_pos ⟨rfl,rfl,by unfold bV;simp;show _<=1000000;left⟩];have:[D.str ("houses " ++ a)]++bV (rs.map g)=bV (["houses " ++ a]++rs.map g):=by unfold bV;rw[List.map_append];rfl
   rw[this,fO]
  refine⟨.str u,?_⟩;generalize bV (["houses " ++ a]++rs.map g)=W at *;generalize bV (rs.map g)=A at *;simp[mk_eq,lL,al,hz,e1,x0,e2,c1,e3,ba,e4]
 ·rw[hg,if_neg Bool.false_ne_true]at e1;simp[mk_eq,lL,al,hz,e1]
theorem LH{Ψ:Nat->aa->Prop}(Z4:∀ds,Kb ds->Ψ 17 ds)(hm:Kb ds):ds.length=1/\Er Φ Ψ 1 lL (ds.map some++List.replicate (1 - ds.length) none):=by
 obtain⟨d,rfl,hd,hz,hg⟩:=hm;have al:=lu hz;exact⟨rfl,.hd (.ex (xs:=[d]) (by simp[al]) (Z4 _ ⟨d,by simp[ah,hz],hd,hz,hg⟩))⟩
noncomputable def CT:CE:=.comp 1 (.nm 0) [] .seq [(.v 0)] [] (.call 111 [(.v 0)])
def c_:ao:=[.ifs (.or [(.not (.si (.v 0) .list)),(.cmp .lt (.bf .len [(.v 0)]) (.int 1))]) [.rs 4] [],.ex (.call 47 [(.v 0),(.bf .len [(.v 0)])]),.ret (.cg 1091 [(.str " "),CT])]
def jC(d:D):Bool:=match d with
 |.lst _ ds=>decide (1<=ds.length)&&ds.all bM
 |_=>false
theorem CB(h:ds.all bM=true):∃qs:aU,ds=bD qs:=by
 induction ds with
 |nil=>exact⟨[],rfl⟩
 |cons d ds ih =>
  rw[List.all_cons,Bool.and_eq_true]at h;obtain⟨qs,rfl⟩:=ih h.2;obtain⟨q,rfl⟩:=nX h.1;exact⟨q::qs,rfl⟩
theorem ya(f:Fl)(ds:aa):l_ (.lst f ds) (ds.length:Int)=ds.all bM:=by
 show(decide ((ds.length:Int)=(ds.length:Int))&&ds.all bM)=_;rw[decide_eq_true rfl,Bool.true_and]
def rY(m:aI):Prop:=∀d,aY 8 d=true->aw aA d=d->(jC d=true->∃r,m [d]=ok r)/\(jC d=false->m [d]=some (.error 4))
theorem ED(Φ:bg)(T:G0 Φ)(h47:r6 4 l_ (Φ 47))(K8:DB (Φ 111)):rY (mk Φ 1 1 c_):=by
 intro d hd hz;have al:=lu hz;have tl:∀f ds,cW .list (.lst f ds)=true:=λ_ _=>rfl;cases d with
 |lst f ds =>
  obtain⟨k,hk,hlen,FX,BS⟩:=fX hd;obtain⟨rfl,U1⟩:=nS hz BS;have MV:ah aN ds=ds:=(D.lst.inj al).2;have e1:=h47 (.lst .fz ds) ds.length (by show ds.length<=1000000;left);rw[ya]at e1;have eB:jC (.lst .fz ds)=(decide (1<=ds.length)&&ds.all bM):=rfl;rw[eB];by_cases h1:1<=ds.length
  ·rw[decide_eq_true h1,Bool.true_and];have n1:¬ (ds.length:Int)<1:=by left
   have n2:¬ ds=[]:=λz=>by rw[z]at h1;simp at h1
   refine⟨λha=>?_,λha=>?_⟩
   ·rw[ha,if_pos rfl]at e1;obtain⟨qs,rfl⟩:=CB ha;have sm:∀q∈qs,Sm 50 q:=λq hq=>rB (FX (qD q) (aaM hq));have X3:(bD qs).length=qs.length:=by simp
    have ch:∀q∈qs,∃s:Str,Φ 111 [qD q]=ok (.str s)/\s.length<=60:=λq hq=>K8 q (sm q hq);obtain⟨g,zI⟩:∃g:Rat->Str,∀q∈qs,Φ 111 [qD q]=ok (.str (g q))/\(g q).length<=60:=by
     classical
     refine⟨λq=>if h:∃s:Str,Φ 111 [qD q]=ok (.str s)/\s.length<=60 then Classical.choose h else "",λq hq=>?_⟩;simp only[dif_pos (ch q hq)];exact abJ (ch q hq)
    have e3:bj Φ CT [some (.lst .fz (bD qs))]=ok (.lst .ow (bV (qs.map g))):=by
     unfold CT;rw[eJ (xs:=[.lst .fz (bD qs)]) (items:=bD qs) (ds:=qs.map λq=>D.str (g q)) (by simp) (by rw[eT];simp) (cL λq hq=>⟨[some (qD q)],rfl,by simp,by simp[(zI q hq).1]⟩) (by rw[List.length_map];exact dD (by left))];have:(qs.map λq=>D.str (g q))=bV (qs.map g):=by unfold bV;rw[List.map_map];rfl
     rw[this,fO]
    obtain⟨u,e4,_⟩:=nG (sep:=" ") (ss:=qs.map g) (B:=60) .ow (by decide +kernel) (λt ht=>by obtain⟨q,hq,rfl⟩:=List.mem_map.mp ht;exact(zI q hq).2) (by rw[List.length_map];left);rw[<- T.Ck]at e4;rw[X3]at e1;have Z8:¬ (qs.length:Int)<1:=by left
    refine⟨.str u,?_⟩;generalize bV (qs.map g)=A at *;simp[mk_eq,c_,tl,Z8,e1,e3,e4]
   ·rw[ha,if_neg Bool.false_ne_true]at e1;simp[mk_eq,c_,tl,MV,U1,n1,e1]
  ·rw[decide_eq_false h1,Bool.false_and];have n1:(ds.length:Int)<1:=by left
   exact⟨λh=>(by cases h),λ_=>(by simp[mk_eq,c_,tl,MV,n1])⟩
 |_=>exact⟨λh=>(by cases h),λ_=>(by simp[mk_eq,c_,cW])⟩
def RY(ds:aa):Prop:=∃d,ds=[d]/\aY 8 d=true/\aw aA d=d/\jC d=false
def UC(p:D->Int->Bool)(ds:aa):Prop:=∃d n,ds=[d,.int n]/\jX d/\p d n=false
theorem CN{Ψ:Nat->aa->Prop}{f c:Nat}{p:D->Int->Bool}(hp:∀g d n,p (aw g d) n=p d n)(h:∀d n,jX d->Φ f [d,.int n]=ok (.bl (p d n)))(hm:UC p ds):ds.length=2/\Er Φ Ψ c (gp f c) (ds.map some++List.replicate (2 - ds.length) none):=by
 obtain⟨d,n,rfl,hc,hb⟩:=hm;have e1:=h (aw aA (aw aN d)) n (dh (dh hc));rw[hp,hp,hb]at e1;exact⟨rfl,.hd (.Mz (by simp[e1]) (.hd .rs))⟩
theorem CM{Ψ:Nat->aa->Prop}(Z3:∀ds,UC l_ ds->Ψ 47 ds)(hm:RY ds):ds.length=1/\Er Φ Ψ 4 c_ (ds.map some++List.replicate (1 - ds.length) none):=by
 obtain⟨d,rfl,hd,hz,hg⟩:=hm;have al:=lu hz;have tl:∀f ds,cW .list (.lst f ds)=true:=λ_ _=>rfl;refine⟨rfl,?_⟩;show Er Φ Ψ 4 c_ [some d];cases d with
 |lst f ds =>
  obtain⟨k,hk,hlen,FX,BS⟩:=fX hd;obtain⟨rfl,U1⟩:=nS hz BS;have MV:ah aN ds=ds:=(D.lst.inj al).2;have hg:(decide (1<=ds.length)&&ds.all bM)=false:=hg;by_cases h1:1<=ds.length
  ·rw[decide_eq_true h1,Bool.true_and]at hg;have n1:¬ (ds.length:Int)<1:=by left
   refine .tl (ρ':=[some (.lst .fz ds)]) (by simp[tl,MV,n1]) (.hd (.ex (xs:=[.lst .fz ds,.int ds.length]) (by simp[MV]) (Z3 _ ⟨.lst .fz ds,ds.length,by simp[ah,aw,U1],by show ds.length<=1000000;left,by rw[ya];exact hg⟩)))
  ·have n1:(ds.length:Int)<1:=by left
   exact .hd (.Mz (by simp[tl,MV,n1]) (.hd .rs))
 |_=>exact .hd (.Mz (by simp[cW]) (.hd .rs))
end DI
end
section
namespace DI
open PySem PySem.Spec PyProof.Rows L2
section
variable {X:Cx}{C B:Addr}{x n y:Str}{i j:Nat}{E1:XK}
end
variable {A:aJ}{B C C0:Addr}{E:Value->Shared->Prop}{base h:Heap}
theorem F9{M:Model}{nm q Z6 q':Str}{N N':Addr}{bs bm bs' WL:ak}{hdct PM:Bool}{sn ZD:ag}{sub TJ:ak}{ab ab':Bool}{col WK:Option Bool}{dd WH:Option Addr}{k0 k1 k2 k3 k5 l0 l1 l2 l3 l5:Option Value}{newId J_:String}
   {g:Array GenState} {d:Drawn} {t:Nat} {os:OsState} {e:Addr} {oe:Obj} {Q:Bool->Shared->Prop} {b:Bool}
  (hC:h.get? C=some (excClassObj nm q C N bs bm hdct sn sub ab col dd k0 k1 k2 k3 k5 newId)) (hB:h.get? B=some (excClassObj Z6 q' B N' bs' WL PM ZD TJ ab' WK WH l0 l1 l2 l3 l5 J_)) (he:h.get? e=some oe) (B_:oe.cls=.ref C) (t5:WL.contains (.type "BaseException")=true) (Pz:(Value.ref C::bm).contains (.ref B)=b)
  (hq:Q b ⟨h,g,d,t,os⟩):wpAny M A (excMatches (.ref e) (.ref B)) Q E ⟨h,g,d,t,os⟩:=by
 have hcB:(Value.ref B::WL).contains (.type "BaseException")=true:=by rw[List.contains_cons,t5,Bool.or_true]
 have f:=tc_notTuple;unfold excMatches;cases b
 all_goals
  repeat (first | (with_reducible refine aaZ he ?_;rw[B_])|with_reducible refine aaZ hB ?_ | (with_reducible refine wpAny_isSubtype_exc hB ?_;rw[hcB]) | (with_reducible refine wpAny_isSubtype_exc hC ?_;rw[Pz])|wp_step)
  exact hq
def sg(C B:Addr)(b:Bool)(h:Heap):Prop:=∃(nm q:Str) (N:Addr) (bs bm:ak) (hdct:Bool) (sn:ag) (sub:ak) (ab:Bool) (col:Option Bool) (dd:Option Addr) (k0 k1 k2 k3 k5:Option Value) (newId:String),h.get? C=some (excClassObj nm q C N bs bm hdct sn sub ab col dd k0 k1 k2 k3 k5 newId)/\(Value.ref C::bm).contains (.ref B)=b
noncomputable def G8(n y z:Str):ExceptHandler->Option (Str×Str)
 |.ExceptHandler (some (.Name x _)) (some n') [.Assign [.Name y' _] (.Constant (.str w) _ _) _,.Assign [.Name z' _] (.Name n'' _) _] _=>if n'=n/\y'=y/\z'=z/\n''=n then some (x,w)else none
 |_=>none
theorem zY{n y z x w:Str}{h:ExceptHandler}(e:G8 n y z h=some (x,w)):∃np p1 jj p2 p3 q1 q2 q3 pos,h=.ExceptHandler (some (.Name x np)) (some n) [.Assign [.Name y p1] (.Constant (.str w) jj p2) p3,.Assign [.Name z q1] (.Name n q2) q3] pos:=by
 unfold G8 at e;split at e
 ·split at e
  ·rename_i hh;obtain⟨rfl,rfl,rfl,rfl⟩:=hh;cases e;exact⟨_,_,_,_,_,_,_,_,_,rfl⟩
  ·cases e
 ·cases e
variable {H:Hp}{a1 a2 a3 b1 b2 b3 c1 DX DW c2 c3 c4 c5 c6 c7 c8 c9 d1 d2 pa pb pc pe pl pos pp pw:Pos}{σ:L2.St}
section
variable {X:Cx}{C:Addr}{n y z:Str}{i j l:Nat}{E1:XK}
inductive wy(X:Cx)(C:Addr)(n y z w:Str):List ExceptHandler->Prop
 |here {h:ExceptHandler} {hs:List ExceptHandler} {x:Str} (v:G8 n y z h=some (x,w)) (O:oB x C X.mg X.base) (g:Gl X x) (d:(x==("__debug__" : Str))=false):wy X C n y z w (h::hs)
 |next {h:ExceptHandler} {hs:List ExceptHandler} {x w':Str} {B:Addr} (v:G8 n y z h=some (x,w')) (O:oB x B X.mg X.base) (OS:sg C B false X.base) (g:Gl X x) (d:(x==("__debug__" : Str))=false) (r:wy X C n y z w hs):wy X C n y z w (h::hs)
theorem vo{M:Model}{pins:aj}{s:Shared}{Q:Unit->Shared->Prop}(I:Inv X pins σ H s)(hl:X.env.kindOf n=some .local)(nd:X.N.Nodup)(hi:X.N[i]?=some n)
  (h:∀s',Inv X pins (σ.set i none) H s'->Q () s'):wpAny M A (do bindName X.env n .none;unbindBehindTheSuite X.env n pos) Q E s:=by
 obtain⟨m,hn,hlk⟩:=id I.loc;have B_:(X.env.scope.kind==.class||(X.env.scope.kind==.module&&X.env.locals != X.env.globals))=false:=by rw[I.ok.kind];rfl
 refine wpAny_nameGoes_keeps hl hn B_ λh' u qY hs=>h _ ?_;have tracked:jt X.prog X.w H h':=λb ob e=>by
  refine(I.cB b ob e).kl (λc w' hc q=>(hs.2 c ?_).trans q) (λ_ q=>q) λ_ _ q=>q;rintro rfl;rcases hc with rfl|hc
  ·rw[I.free]at e;cases e
  ·rw[I.free]at hc;cases hc
 refine⟨I.ok,I.os,I.bare,⟨λb o e n hb hx=>?_,λb o e n hb hx=>?_,I.base.free,λb o e hx=>?_,I.base.lP,I.base.k_,I.base.lR⟩,⟨_,qY,λk z v' e1 e2 e3=>?_⟩,λz c e=>?_,I.free,I.fT,λp hp=>?_,tracked,by rw[List.length_set];exact I.len⟩
 ·exact(hs.2 b (aan (aap (aaj e) I.ok.above))).trans (I.base.keep b o e n hb hx)
 ·obtain⟨sl,e1⟩:=I.base.slot b o e n hb hx;exact⟨sl,(hs.2 b (aan (aap (aaj e) I.ok.above))).trans e1⟩
 ·obtain⟨o',e1⟩:=I.base.there b o e hx;exact⟨o',(hs.2 b (aan (aap (aaj e) I.ok.above))).trans e1⟩
 ·have X_:i≠k:=by
   rintro rfl;rw[List.getElem?_set]at e2;simp at e2
  rw[List.getElem?_set_ne X_]at e2;have U2:z≠n:=by
   rintro rfl;obtain⟨h1,h2⟩:=List.getElem?_eq_some_iff.mp e1;obtain⟨h3,h4⟩:=List.getElem?_eq_some_iff.mp hi;exact X_ ((abG nd).mp (h4.trans h2.symm))
  obtain⟨u',r',q⟩:=hlk k z _ e1 e2 e3;refine⟨u',r',?_⟩;rcases q with ⟨kk,e⟩|⟨kk,c,e,z'⟩
  ·exact .inl ⟨kk,by show(if z=n then u else m z)=_;rw[if_neg U2];exact e⟩
  ·exact .inr ⟨kk,c,e,z'.sameBut hs (I.GC z c e)⟩
 ·obtain⟨w',z'⟩:=I.cell z c e;exact⟨w',z'.sameBut hs (I.GC z c e)⟩
 ·obtain⟨e,n,ne,nf,d⟩:=I.pin p hp;exact⟨(hs.2 p.1 ne).trans e,n,ne,nf,d⟩
theorem yZ{Q:Flow->Shared->Prop}{pins:aj}{s:Shared}{ea:Addr}{w:Str}{hs:List ExceptHandler}(I:Inv X pins σ H s)(Sa:∃ob,s.heap.get? ea=some ob/\ob.cls=.ref C)(h:wy X C n y z w hs)
  (go:∀p1 jj p2 p3 q1 q2 q3 pos,codeAny (model X.prog X.w) (X.A.mark (some (.ref ea))) (.handlers (.ref ea) [.ExceptHandler none (some n) [.Assign [.Name y p1] (.Constant (.str w) jj p2) p3,.Assign [.Name z q1] (.Name n q2) q3] pos] X.env) (λr s₂=>match r with
     |.ok f=>wpAny (model X.prog X.w) X.A (do bindName X.env n .none;unbindBehindTheSuite X.env n pos) (λ_ s₃=>Q f s₃) X.xe s₂
     |.error x=>cameBackBy (model X.prog X.w) X.A X.env X.xe x s₂) s):wpAny (model X.prog X.w) X.A (handleBy (.ref ea) X.env hs) Q X.xe s:=by
 obtain⟨ob,Sa,Pm⟩:=Sa;induction h with
 |here v O g d =>
  obtain⟨np,p1,jj,p2,p3,q1,q2,q3,pos,rfl⟩:=zY v;refine wpAny_handleBy_cons (codeAny_handlers_test (aa6 I.ok.kind g (aby (by rw[I.ok.glob];exact I.mod.glob.keeps I.bk) O.bound ?_) d)) (by intro q;cases q);obtain⟨bm,Z5,nm,qn,bs,hdct,sn,sub,ab,col,dd,k0,k1,k2,k3,k5,mN,hC,_,_,TL⟩:=(O.keeps I.bk).obj;exact wpAny_excMatches_sub_self hC Sa Pm (TL.hasType (by decide +kernel)) (go p1 jj p2 p3 q1 q2 q3 pos)
 |next v O OS g d r ih =>
  obtain⟨np,p1,jj,p2,p3,q1,q2,q3,pos,rfl⟩:=zY v;refine wpAny_handleBy_cons (codeAny_handlers_test (aa6 I.ok.kind g (aby (by rw[I.ok.glob];exact I.mod.glob.keeps I.bk) O.bound ?_) d)) (by intro q;cases q);obtain⟨bm,Z5,nm,qn,bs,hdct,sn,sub,ab,col,dd,k0,k1,k2,k3,k5,mN,hB,_,_,TL⟩:=(O.keeps I.bk).obj;obtain⟨nm2,q2,N2,bs2,bm2,Yk,sn2,ZC,ab2,abL,v9,l0,l1,l2,l3,l5,id2,hC,Pz⟩:=OS;exact F9 (I.bk _ _ hC) hB Sa Pm (TL.hasType (by decide +kernel)) Pz ih
theorem EM{body:aS}{tb:TS}{w:Str}{h0:ExceptHandler}{hs:List ExceptHandler}(Pb:X.stack=X.env::X.outer)(MJ:X.env.frame=some X.env.locals)(Hs:wy X C n y z w (h0::hs))
  (nd:X.N.Nodup) (hi:X.N[i]?=some n) (hj:X.N[j]?=some y) (hl:X.N[l]?=some z) (hyn:y≠n) (U2:z≠n) (hyz:y≠z) (DR:X.env.scope.names.lookup n=some .local) (X9:X.env.scope.names.lookup y=some .local) (X8:X.env.scope.names.lookup z=some .local) (dn:(n==("__debug__" : Str))=false) (dc:(n==("__classdict__" : Str))=false)
  (hb:∀pn D8,Passes (sk X.prog X.w C) (Cx.lQ X pn D8) E1->ir (Cx.lQ X pn D8) body tb) :
  PS X (.Try body (h0::hs) [] [] pos)
   (λD σ H=>tb D σ H/\∀ea H' σ',E1 (.ref C) none H'->H' ea=none->σ'[j]?=some (some (.str w))->σ'[l]?=some (some (.ref ea))->D.nx σ' (upd H' ea (.ext (yc ea C)))):=by
 intro pins s σ H D I hw;obtain⟨hbd,hh⟩:=hw;have ok:=I.ok;have jE:∀{a b:Nat} {u v:Str},X.N[a]?=some u->X.N[b]?=some v->u≠v->a≠b:=λ{a b u v} h1 h2 h3 h4=>by
  subst h4;rw[h1]at h2;cases h2;exact h3 rfl
 refine wpAny_Try_except ?_;refine aav (hb pins _ ?_ [] s σ H D (FN I (λe s₁=>wpAny (model X.prog X.w) X.A (noteFrame e X.env) (λ_ s₂=>wpAny (model X.prog X.w) X.A (setFlight e none) (λ_ s₃=>wpAny (model X.prog X.w) X.A (handleBy e X.env (h0::hs)) (SP X pins D) X.xe s₃) X.xe s₂) X.xe s₁)) hbd) (λf s₁ q=>?_) (λ_ _ q=>q)
 ·intro AR σ1 H1 s1 e s2 I1 hx;obtain⟨ea,H',rfl,fl,he⟩:=hx;obtain⟨n1,n2⟩:=fl.new;obtain⟨⟨t,B,fw,DV⟩,os,bare,un,cB⟩:=fl;have I1:Inv X pins σ1 H1 s1:=gN I1;have fw:Heap.FlyingW B (X.env::X.outer) ea (.ref C) (.ref t) s2.heap:=Pb▸fw;have Wa:X.A.frames=some (X.env::X.outer):=Pb▸I1.ok.frames;show wpAny (model X.prog X.w) X.A (noteFrame (.ref ea) X.env) _ X.xe s2;refine wpAny_looks_onW Wa MJ fw λh4 held ZG=>?_;refine wpAny_landsW held λh5 V_ ZF=>?_;obtain⟨Xc,Pk,WI⟩:=moved un cB DV I1.stack I1.kj V_.1 (ZG.trans ZF);have I5:Inv X pins σ1 H' { s2 with heap:=h5 }:=I1.xW (ch:=[]) os Xc Pk bare λ_ z=>nomatch z;refine yZ I5 V_.there Hs λp1 jj p2 p3 q1 q2 q3 Vh=>codeAny_handlers_suite_as ?_;refine lands_againW V_ λh6 YC ZE=>?_;obtain⟨Zg,Vk,abK⟩:=moved Xc Pk WI I1.stack I1.kj YC.1 ZE;obtain⟨Zf,Vj⟩:=tracked (C:=C) Zg Vk n1 n2 YC.there;have I7:Inv X pins σ1 (upd H' ea (.ext (yc ea C))) { s2 with heap:=h6 }:=I1.xW (s':={ s2 with heap:=h6 }) (ch:=[]) os Zf Vj bare λ_ z=>nomatch z;have lG:i<σ1.length:=by rw[I7.len];exact(List.getElem?_eq_some_iff.mp hi).1
  have Pw:j<σ1.length:=by rw[I7.len];exact(List.getElem?_eq_some_iff.mp hj).1
  have oG:l<σ1.length:=by rw[I7.len];exact(List.getElem?_eq_some_iff.mp hl).1
  have ij:=jE hi hj (abi hyn);have il:=jE hi hl (abi U2);have jl:=jE hj hl hyz;refine gJ I7 nd hi (.inl DR) (v:=.ref ea) (u:=.ref ea) rfl (λs8 I8=>?_) (.inr DR)
  let X2:Cx:={ X with A:=X.A.mark (some (.ref ea)),calm:=false,xe:=AsSuiteRaised (model X.prog X.w) (X.A.mark (some (.ref ea))) X.env n Vh (notedBy (model X.prog X.w) (X.A.mark (some (.ref ea))) X.env (cameBackBy (model X.prog X.w) X.A X.env X.xe)) }
  have ps:ir X2 [.Assign [.Name y p1] (.Constant (.str w) jj p2) p3,.Assign [.Name z q1] (.Name n q2) q3] _:=cx (jN (X:=X2) (i:=j) nd hj (.inl X9) (nh (X:=X2) (x:=w) (j:=jj) (pos:=p2)) rfl (hf:=.inr X9)) (hU (jN (X:=X2) (i:=l) nd hl (.inl X8) (ET (X:=X2) (i:=i) (pos:=q2) hi (.inl DR) dn dc) rfl (hf:=.inr X8)));refine aav (ps pins s8 _ _ { nx:=λσ' jy=>jy=upd H' ea (.ext (yc ea C))/\σ'[j]?=some (some (.str w))/\σ'[l]?=some (some (.ref ea)),rt:=λ_ _=>False } (BO I8 _ _) ?_) (λf s9 q9=>?_) (λ_ _ q=>q)
  ·refine⟨.ref ea,?_,rfl,?_,?_⟩
   ·rw[List.getElem?_set_ne (Ne.symm ij),List.getElem?_set_self lG]
   ·rw[List.getElem?_set_ne (Ne.symm jl),List.getElem?_set_self (by simpa using Pw)]
   ·rw[List.getElem?_set_self (by simpa using oG)]
  ·cases f with
   |next =>
    obtain⟨σ9,H9,I9,rfl,e9,e10⟩:=q9;have I9:=vJ ok I9;exact vo I9 DR nd hi λs10 I10=>⟨_,_,I10,hh ea H' _ he n1 (by rw[List.getElem?_set_ne ij];exact e9) (by rw[List.getElem?_set_ne il];exact e10)⟩
   |ret v=>obtain⟨_,_,_,_,_,z⟩:=q9;exact z.elim
   |brk=>obtain⟨_,_,_,z⟩:=q9;exact z.elim
   |cont=>obtain⟨_,_,_,z⟩:=q9;exact z.elim
 ·cases f with
  |next=>obtain⟨σ',H',I',q⟩:=q;exact abo ⟨σ',H',gN I',q⟩
  |ret v=>obtain⟨v,σ',H',I',r,q⟩:=q;exact⟨v,σ',H',gN I',r,q⟩
  |brk=>obtain⟨σ',H',I',q⟩:=q;exact⟨σ',H',gN I',q⟩
  |cont=>obtain⟨σ',H',I',q⟩:=q;exact⟨σ',H',gN I',q⟩
end
section
variable {X:Cx}{S:Sx}{k n:Nat}{Φ:bg}{Ψ:Nat->aa->Prop}{F:ai}{C B:Addr}
end
def Df(K:aq)(x:Str)(st:Stmt):Prop:=∃f fd,zy K x x st f fd/\PySem.W.nsIn K mainGlobals x=some (some (.ref f))
variable {K:aq}{st:Stmt}
theorem dmk{x:Str}{f:Addr}{oc:Value}{od an:Option Addr}{sl:Array (Option Value)}{kV dc pm cd ct:Value}(a:PySem.W.nsIn K mainGlobals x=some (some (.ref f)))(l:K.lookup f=some ⟨oc,od,.func (PySem.W.fnOf x x (d7 st) (bw st) (aE st) .none kV dc pm an cd ct),sl⟩)(c:PySem.W.codeIn K cd x=true)(k:PySem.W.keepIn K (.ref f)=true):Df K x st:=⟨f,_,Lb l c k,a⟩
noncomputable def Ql(N P:ag)(sc:Scope):Bool:=decide (sc.kind=.function)&&(!sc.isCoroutine&&(!sc.isGenerator&&(decide N.Nodup&&(decide (N.take P.length=P)&&(P.all (λx=>decide (sc.names.lookup x=some .local\/sc.names.lookup x=some .cell))&&sc.names.all λy=>decide (y.2≠.free))))))
theorem t_{N P:ag}{sc:Scope}(h:Ql N P sc=true):eW N P sc:=by
 obtain⟨h1,h⟩:=aC h;obtain⟨h2,h⟩:=aC h;obtain⟨h3,h⟩:=aC h;obtain⟨h4,h⟩:=aC h;obtain⟨h5,h⟩:=aC h;obtain⟨h6,h7⟩:=aC h;exact⟨aab h1,dA h2,dA h3,aab h4,aab h5,λx hx=>aab (List.all_eq_true.mp h6 x hx),λy hy=>aab (List.all_eq_true.mp h7 y hy)⟩
def GF(st:Stmt)(N ps:ag)(tb:List (Nat×Str))(bl:ag)(cs:List (Str×GK))(px:Px)(b:ao):Bool:=Ql N ps (aE st)&&ja ⟨aE st,N,λn=>List.lookup n tb,bl,cs,px⟩ b (bw st)
theorem u1{α:Type}{P:List α->Prop}(h:∀a,P [a])(us:List α)(e:us.length=1):P us:=by obtain⟨a,rfl⟩:=OM e;exact h a
theorem u2{α:Type}{P:List α->Prop}(h:∀a b,P [a,b])(us:List α)(e:us.length=2):P us:=by obtain⟨a,b,rfl⟩:=FC e;exact h a b
theorem u3{α:Type}{P:List α->Prop}(h:∀a b c,P [a,b,c])(us:List α)(e:us.length=3):P us:=by obtain⟨a,b,c,rfl⟩:=FA e;exact h a b c
theorem u4{α:Type}{P:List α->Prop}(h:∀a b c d,P [a,b,c,d])(us:List α)(e:us.length=4):P us:=by obtain⟨a,b,c,d,rfl⟩:=Fz e;exact h a b c d
theorem u5{α:Type}{P:List α->Prop}(h:∀a b c d e,P [a,b,c,d,e])(us:List α)(e:us.length=5):P us:=by
 match us,e with
 |[a,b,c,d,e],_=>exact h a b c d e
variable {P:aF}{ga gb j0 j1 j2 j3 k':Nat}{mg:Str->Option Value}{w:World}
theorem Ent.u{k:Nat}{y:Str}{m:aI}(h:Ent P w K mg base k y m)(hk:k<=k':=by decide):Ent P w K mg base k' y m:=h.up hk
theorem en(X:K.In h)(G:h.Ns mainGlobals mg)⦃x:Str⦄⦃st:Stmt⦄⦃N ps bl:ag⦄⦃tb:List (Nat×Str)⦄⦃cs:List (Str×GK)⦄⦃px:Px⦄⦃b:ao⦄(k:Nat)(Φ:bg)(m:aI)(d:Df K x st)(hc:GF st N ps tb bl cs px b=true)
  (hp:mf px Φ/\DG px Φ) (q_:bO (λy=>mg y=none) bl) (nK:bO (λp:Str×GK=>∃u,mg p.1=some u/\wz K p.2 u) cs)
  (hf:bO (λp:Nat×Str=>Ent P w K mg base k p.2 (Φ p.1)) tb) (hm:∀ds r,m ds=ok r->ds.length=ps.length/\qy Φ N.length b ds=ok r) (hb:∀(kV doc pm:Value) (an:Option Addr) (fG ct:Value) (us:ak),us.length=ps.length->bindArgs (PySem.W.fnOf x x (d7 st) (bw st) (aE st) .none kV doc pm an fG ct) ⟨us,[]⟩=pure (ps.zip us):=by first|exact λ_ _ _ _ _ _=>u1 λ_=>rfl|exact λ_ _ _ _ _ _=>u2 λ_ _=>rfl|exact λ_ _ _ _ _ _=>u3 λ_ _ _=>rfl|exact λ_ _ _ _ _ _=>u4 λ_ _ _ _=>rfl|exact λ_ _ _ _ _ _=>u5 λ_ _ _ _ _=>rfl):Ent P w K mg base (k+1) x m:=by
 obtain⟨f,fd,Fu,a⟩:=d;obtain⟨h1,h2⟩:=aC hc;exact ent Fu (aa8 X G a) (Fu.binds hb) (t_ h1) h2 hp.1 hp.2 (bO.mem q_) (bO.two (P:=λy i=>∃u,mg y=some u/\wz K i u) nK) (bO.tab (P:=λg y=>Ent P w K mg base k y (Φ g)) hf) hm
noncomputable def xm(PT F:bg)(i:Nat)(m:aI):bg:=λn=>bif Nat.ble 1000 n then PT n else bif Nat.beq n i then m else F n
theorem XU{α:Type}{Q:Nat->Prop}(p:Nat){k:Nat}{a b c:α}(h:(if p=k then a else b)=c)(h1:a=c->Q k)(h2:b=c->Q p):Q p:=by
 by_cases e:p=k
 ·subst e;rw[if_pos rfl]at h;exact h1 h
 ·rw[if_neg e]at h;exact h2 h
variable {F R:Addr->Prop}{Z:Cx}{cs:az}{Φ:bg}
theorem zD{α:Type}{e:Expr}{p k:Nat}{a b c:α}(h:(if p=k then a else b)=c)(h1:a=c->PE Z e (tD Z F Φ (.cg k cs))/\L2.PT Z e (gI Z F Φ (.cg k cs)))(h2:b=c->PE Z e (tD Z F Φ (.cg p cs))/\L2.PT Z e (gI Z F Φ (.cg p cs))):PE Z e (tD Z F Φ (.cg p cs))/\L2.PT Z e (gI Z F Φ (.cg p cs)):=XU (Q:=λp=>PE Z e (tD Z F Φ (.cg p cs))/\L2.PT Z e (gI Z F Φ (.cg p cs))) p h h1 h2
theorem ifM{α:Type}{i p k:Nat}{a b c:α}(h:(if p=k then a else b)=c)(h1:a=c->PS Z st (qp Z F Φ (.mut k i cs)))(h2:b=c->PS Z st (qp Z F Φ (.mut p i cs))):PS Z st (qp Z F Φ (.mut p i cs)):=XU (Q:=λp=>PS Z st (qp Z F Φ (.mut p i cs))) p h h1 h2
theorem RW{A:Prop}(h:∃_:aa,False):A:=h.elim λ_ z=>z.elim
theorem fI:True:=trivial
theorem bO.nn{K:aq}{h:Heap}{mg:aR}(X:K.In h)(G:h.Ns mainGlobals mg):∀{l:ag},bO (λy=>PySem.W.nsIn K mainGlobals y=some none) l->bO (λy=>mg y=none) l
 |[],_=>trivial
 |_::_,z=>⟨PySem.W.mg_none_of X G z.1,bO.nn X G z.2⟩
theorem en7{P:aF}{w:World}{K:aq}{h base:Heap}{mg:aR}{bl:ag}{cs:List (Str×GK)}{px:Px}{PT:bg}(X:K.In h)(G:h.Ns mainGlobals mg)(hp:∀F i m,mf px (xm PT F i m)/\DG px (xm PT F i m))(q_:bO (λy=>mg y=none) bl)(nK:bO (λp:Str×GK=>∃u,mg p.1=some u/\wz K p.2 u) cs)
  ⦃x:Str⦄ ⦃st:Stmt⦄ (k:Nat) (Φ:bg) (d:Df K x st) (N:ag) (a:Nat) (tb:List (Nat×Str)) (b:ao)
  (hf:bO (λp:Nat×Str=>Ent P w K mg base k p.2 (Φ p.1)) tb) (hc:GF st N (N.take a) tb bl cs px b=true:=by decide +kernel) (e:∃F i m,Φ=xm PT F i m:=by exact⟨_,_,_,rfl⟩) (ha:(N.take a).length=a:=by rfl) (hb:∀(kV doc pm:Value) (an:Option Addr) (fG ct:Value) (us:ak),us.length=a->bindArgs (PySem.W.fnOf x x (d7 st) (bw st) (aE st) .none kV doc pm an fG ct) ⟨us,[]⟩=pure ((N.take a).zip us):=by first|exact λ_ _ _ _ _ _=>u1 λ_=>rfl|exact λ_ _ _ _ _ _=>u2 λ_ _=>rfl|exact λ_ _ _ _ _ _=>u3 λ_ _ _=>rfl|exact λ_ _ _ _ _ _=>u4 λ_ _ _ _=>rfl|exact λ_ _ _ _ _ _=>u5 λ_ _ _ _ _=>rfl):Ent P w K mg base (k+1) x (mk Φ a N.length b):=by
 obtain⟨F,i,m,e⟩:=e;exact en X G k Φ _ d hc (e▸hp F i m) q_ nK hf (λds r q=>⟨(vt ds r q).1.trans ha.symm,(vt ds r q).2⟩) (λkV doc pm an fG ct us hu=>hb kV doc pm an fG ct us (hu.trans ha))
variable {ps:ag}
theorem enL{x:Str}{N bl:ag}{tb:List (Nat×Str)}{cs:List (Str×GK)}{px:Px}{b:ao}{f:Addr}{fd:FuncData}(k:Nat)(Φ:bg)(m:aI)(Fu:zy K x x st f fd)(hc:GF st N ps tb bl cs px b=true)
  (hp:mf px Φ/\DG px Φ) (q_:bO (λy=>mg y=none) bl) (nK:bO (λp:Str×GK=>∃u,mg p.1=some u/\wz K p.2 u) cs)
  (hf:bO (λp:Nat×Str=>Ent P w K mg base k p.2 (Φ p.1)) tb) (hm:∀ds r,m ds=ok r->ds.length=ps.length/\qy Φ N.length b ds=ok r):fB P w K mg base so (k+1) f fd ps (Ak K ps.length m):=by
 obtain⟨h1,h2⟩:=aC hc;exact ue Fu (t_ h1) h2 hp.1 hp.2 (bO.mem q_) (bO.two (P:=λy i=>∃u,mg y=some u/\wz K i u) nK) (λg y h=>(bO.tab (P:=λg y=>Ent P w K mg base k y (Φ g)) hf g y h).ex) hm
noncomputable def RG:Px:=⟨λ_ _ _ _=>none,λ_ _ _ _=>none,λ_ _ _ _=>none⟩
theorem ZZ:mf RG Φ:=⟨(λX sc bl k L p e args he F cs hs=>by cases he),(λX sc bl k L p e args he F cs tg ht hs pins s σ H R τ ρ xs d items I Si cD ed ei Rr hR=>by cases he)⟩
def Rf(K:aq)(mg:aR)(sc:Scope)(C:Addr)(x:Str)(b:Bool):Prop :=
 (gz sc x=true/\(x==("__debug__" : Str))=false)/\((∃Ci,mg x=some (.ref Ci)/\PySem.W.kitOne K (.ref C) (.ref Ci)=some b)\/∃T,mg x=none/\bootBuiltins x=some (.type T)/\x ≠ "__name__" /\ PySem.W.kitOne K (.ref C) (.type T)=some b)
variable {qual w0 W9 w1 wn:Str}
theorem Dv{x:Str}{f:Addr}{fd:FuncData}{k:Nat}{bl:ag}{err told:Str}{cl:Str->Option Bool}{b1 b2 b3 b4 b5:List Bool}
  (Fu:zy K x qual st f fd) (Sc:eW [err,told] [err] (aE st)) {a b r:Expr} {l1 l2 l3 l4 l5:au} {po:Pos} {j:Nat} {pj pr ES p1 ER EO p2 Hq HA HH Hw p3 Ho Hz DP Hv p4 Hn Hy HG Hu p5 Hm Hx HF Ht EN:Pos}
  (FQ:bw st=ml told a b r l1 l2 l3 l4 l5 pa pb po j pj pr ES p1 ER EO p2 Hq HA HH Hw p3 Ho Hz DP Hv p4 Hn Hy HG Hu p5 Hm Hx HF Ht EN) (ha:tV err cl a=some true) (hb:tV err cl b=some true)
  (i1:dU err cl l1=some b1) (i2:dU err cl l2=some b2) (i3:dU err cl l3=some b3) (i4:dU err cl l4=some b4) (i5:dU err cl l5=some b5) (hr0:bZ ⟨aE st,[err,told],λ_=>none,bl,[],RG⟩ wo r=true)
  (he:(aE st).names.lookup err=some .local) (hl:(aE st).names.lookup told=some .local) (d1:(err==("__debug__" : Str))=false) (d2:(err==("__classdict__" : Str))=false) (d3:(told==("__debug__" : Str))=false) (d4:(told==("__classdict__" : Str))=false)
  (q_:∀y∈bl,mg y=none) (xc:XC K C) (gi:gz (aE st) "isinstance" = true) (ni:mg "isinstance" = none) (Yo:∀x b,cl x=some b->Rf K mg (aE st) C x b) (hlen:b1.length+b2.length+b3.length+b4.length+b5.length<=sizeLine)
  (vN:bj (λ_ _=>none) wo [none,some (.lst .fz ((b1++b2++b3++b4++b5).map DI.D.bl))]=ok (.bl true)):fB P w K mg base so (k+1) f fd [err] (qt C):=by
 refine Fu.ok (N:=[err,told]) Sc (λvs H Q E bK=>by obtain⟨_,h,_⟩:=bK;rw[h];rfl) λfG A outer s H vs Q E hr sj=>?_;obtain⟨ea,rfl,hH,hq⟩:=sj
 let X:=(iH so P w K mg base [err,told] qual (aE st) f fG A outer s H E).Bi
 have L:Lk X ⟨aE st,[err,told],λ_=>none,bl,[],RG⟩ k (λ_ _=>none):=⟨rfl,rfl,Sc.nd,rfl,hr,q_,(λg y h=>by cases h),(λy i h=>by cases h),ZZ⟩
 have Z:Ml X C cl:=⟨xc,L.gl gi,ni,λx b h p=>by
  obtain⟨⟨h1,h2⟩,h3⟩:=Yo x b h;rcases h3 with ⟨Ci,h3,h4⟩|⟨T,h3,h4,h5,h6⟩
  ·exact⟨.ref Ci,.ref Ci,mx (L.gl h1) h3 rfl h2,λu z=>z,h4⟩
  ·exact⟨.ty T,.type T,xb (L.gl h1) h3 h4 rfl h5 h2,λu z=>z,h6⟩⟩
 rw[FQ];exact⟨_,wq (X:=X) L Z rfl he hl d1 d2 d3 d4 Sc.nd hlen vN ha hb i1 i2 i3 i4 i5 hr0,ea,rfl,rfl,hH,hq⟩
theorem jz.up{k:Nat}{y:Str}{mr:aa->Prop}(h:jz P w K mg base k C y mr)(hk:k<=k'):jz P w K mg base k' C y mr:=by
 obtain⟨f,fd,ps,h1,h2⟩:=h.ex;exact⟨f,fd,ps,h1.mono hk,h2⟩
theorem jz.u{k:Nat}{y:Str}{mr:aa->Prop}(h:jz P w K mg base k C y mr)(hk:k<=k':=by decide):jz P w K mg base k' C y mr:=h.up hk
section
variable {P:aF}{w:World}{K:aq}{h base:Heap}{mg:aR}(X:K.In h)(G:h.Ns mainGlobals mg){C:Addr}⦃x:Str⦄⦃st:Stmt⦄⦃N ps bl:ag⦄⦃tb:List (Nat×Str)⦄⦃cs:List (Str×GK)⦄⦃px:Px⦄
include X G
theorem Sw{y:Str}(O:oB y C mg base)⦃b:ao⦄(n k:Nat)(Φ:bg)(Ψ:Nat->aa->Prop)(mr:aa->Prop)(d:Df K x st)(hc:GF st N ps tb bl cs px b=true)(U6:wC (gz (aE st) y&&!(y==("__debug__" : Str))) n y b (bw st)=true)
  (hp:mf px Φ/\DG px Φ) (q_:bO (λy=>mg y=none) bl) (nK:bO (λp:Str×GK=>∃u,mg p.1=some u/\wz K p.2 u) cs)
  (hf:bO (λp:Nat×Str=>Ent P w K mg base k p.2 (Φ p.1)) tb) (Vz:bO (λp:Nat×Str=>(∃ds,Ψ p.1 ds)->jz P w K mg base k C p.2 (Ψ p.1)) tb)
  (hm:∀ds,mr ds->ds.length=ps.length/\Er Φ Ψ n b (ds.map some++List.replicate (N.length - ds.length) none)) (hb:∀(kV doc pm:Value) (an:Option Addr) (fG ct:Value) (us:ak),us.length=ps.length->bindArgs (PySem.W.fnOf x x (d7 st) (bw st) (aE st) .none kV doc pm an fG ct) ⟨us,[]⟩=pure (ps.zip us):=by first|exact λ_ _ _ _ _ _=>u1 λ_=>rfl|exact λ_ _ _ _ _ _=>u2 λ_ _=>rfl|exact λ_ _ _ _ _ _=>u3 λ_ _ _=>rfl|exact λ_ _ _ _ _ _=>u4 λ_ _ _ _=>rfl|exact λ_ _ _ _ _ _=>u5 λ_ _ _ _ _=>rfl):jz P w K mg base (k+1) C x mr:=by
 obtain⟨f,fd,Fu,a⟩:=d;obtain⟨h1,h2⟩:=aC hc;exact⟨f,fd,ps,LG Fu (t_ h1) h2 U6 hp.1 hp.2 (bO.mem q_) (bO.two (P:=λy i=>∃u,mg y=some u/\wz K i u) nK) (bO.tab (P:=λg y=>Ent P w K mg base k y (Φ g)) hf) (bO.tab (P:=λg y=>(∃ds,Ψ g ds)->jz P w K mg base k C y (Ψ g)) Vz) O hm,aa8 X G a,Fu.kp,Fu.binds hb,λds q=>(hm ds q).1⟩
end
noncomputable def NH(y z al w0 w1:Str)(Ru:Stmt)(hs:List ExceptHandler)(j0 j1 j2 j3:Nat)(a1 a2 a3 b1 b2 b3 pos c1 c2 c3 c4 c5 c6 c7 c8 c9 DX DW d1 d2:Pos):aS :=
 [.Assign [.Name y a1] (.Constant (.str w0) j0 a2) a3,.Assign [.Name z b1] (.Constant .none j1 b2) b3,.Try [Ru] hs [] [] pos,.If (.BoolOp .And [.Compare (.Name z c1) [.IsNot] [.Constant .none j2 c2] c3,.UnaryOp .Not (.Call (.Name al c4) [.Name z c5] [] c6) c7] c8) [.Return (some (.Constant (.str w1) j3 c9)) DX] [] DW,.Return (some (.Name y d1)) d2]
def RS(sc:Scope)(N:ag)(n y z al:Str)(i j l:Nat):Bool:=(gz sc al&&!(al==("__debug__" : Str)))&&(decide (N[i]?=some n)&&(decide (N[j]?=some y)&&(decide (N[l]?=some z)&&(decide (y≠n/\z≠n/\y≠z)&&(decide (sc.names.lookup n=some .local)&&(decide (sc.names.lookup y=some .local)&&(decide (sc.names.lookup z=some .local)&&(v_ n&&(v_ y&&v_ z)))))))))
theorem LY{x:Str}(h:v_ x=true):(x==("__debug__" : Str))=false/\(x==("__classdict__" : Str))=false:=by
 unfold v_ at h;simpa only[Bool.and_eq_true,Bool.not_eq_true']using h
section
variable {X:Cx}{S:Sx}{k i j l:Nat}{Φ:bg}{C WT:Addr}{n y z al w:Str}{E1:XK}{Qs:FuncData}{N7:ag}
theorem sx{tb:TS}{nrm:Prop}{good:St->Hp->Prop}{Ru:Stmt}{h0:ExceptHandler}{hs:List ExceptHandler}(L:Lk X S k Φ)(hk:X.stack=X.env::X.outer)(hf:X.env.frame=some X.env.locals)(hn:RS S.sc S.N n y z al i j l=true)(Hs:wy X C n y z w (h0::hs))
  (Fal:fB X.prog X.w X.K X.mg X.base so k WT Qs N7 (qt C)) (VH:Binds X.K Qs N7 []) (Vu:PySem.W.keepIn X.K (.ref WT)=true) (Z9:X.mg al=some (.ref WT))
  (hb:∀pn D8,Passes (sk X.prog X.w C) (Cx.lQ X pn D8) E1->ir (Cx.lQ X pn D8) [Ru] tb)
  (htb:∀D σ H,good σ H->(∀σ' H',σ'[j]?=some (some (.str w0))->σ'[l]?=some (some .bB)->aK X.H₀ H'->nrm->D.nx σ' H')->tb D σ H) :
  ∀{j0 j1 j2 j3:Nat} {a1 a2 a3 b1 b2 b3 pos c1 c2 c3 c4 c5 c6 c7 c8 c9 DX DW d1 d2:Pos},ir X (NH y z al w0 w1 Ru (h0::hs) j0 j1 j2 j3 a1 a2 a3 b1 b2 b3 pos c1 c2 c3 c4 c5 c6 c7 c8 c9 DX DW d1 d2)
   (λD σ H=>good ((σ.set j (some (.str w0))).set l (some .bB)) H/\(nrm->∀H',aK X.H₀ H'->D.rt (.str w0) H')/\∀H',E1 (.ref C) none H'->∀jy,aK H' jy->D.rt (.str w) jy):=by
 intro j0 j1 j2 j3 a1 a2 a3 b1 b2 b3 pos c1 c2 c3 c4 c5 c6 c7 c8 c9 DX DW d1 d2;unfold NH;obtain⟨ga,hn⟩:=aC hn;obtain⟨ga,da⟩:=aC ga;obtain⟨hi,hn⟩:=aC hn;obtain⟨hj,hn⟩:=aC hn;obtain⟨hl,hn⟩:=aC hn;obtain⟨jE,hn⟩:=aC hn;obtain⟨ln,hn⟩:=aC hn;obtain⟨ly,hn⟩:=aC hn;obtain⟨lz,hn⟩:=aC hn;obtain⟨dn,hn⟩:=aC hn;obtain⟨dy,dz⟩:=aC hn;have hi:=aab hi;have hj:=aab hj;have hl:=aab hl;have jE:=aab jE;have ln:=aab ln;have ly:=aab ly;have lz:=aab lz;rw[<- L.N]at hi hj hl;rw[<- L.sc]at ln ly lz;have dn:=LY dn;have dy:=LY dy;have dz:=LY dz;have S1:=jN (X:=X) (pos:=a3) (pos':=a1) (i:=j) L.nd hj (.inl ly) (nh (x:=w0) (j:=j0) (pos:=a2)) (hf:=.inr ly);have S2:=jN (X:=X) (pos:=b3) (pos':=b1) (i:=l) L.nd hl (.inl lz) (AY (j:=j1) (pos:=b2)) (hf:=.inr lz);have S3:=EM (X:=X) (C:=C) (tb:=tb) (pos:=pos) (i:=i) (j:=j) (l:=l) (E1:=E1) hk hf Hs L.nd hi hj hl jE.1 jE.2.1 jE.2.2 ln ly lz dn.1 dn.2 hb;have T:=AL (pos:=c8) (rest:=[]) (JL (pos:=c3) (EY (j:=j2) (pos':=c2) (hX (pos:=c1) hl (.inl lz) dz.1 dz.2))) (wU (pos:=c8) (qF (pos:=c7) (qE (qL (X:=X) (p:=c4) (pos:=c6) (E:=E0) Fal L.room (L.gl ga) Z9 Vu VH .nil (xf (X:=X)) (bW (hX (pos:=c5) hl (.inl lz) dz.1 dz.2) dF) (dA da)))));have S4:=wW (X:=X) (pos:=DW) T.pt (hU (kY (X:=X) (pos:=DX) (nh (x:=w1) (j:=j3) (pos:=c9)))) qG;have S5:=kY (X:=X) (pos:=d2) (hX (X:=X) (i:=j) (pos:=d1) hj (.inl ly) dy.1 dy.2);refine ir.imp (cx S1 (cx S2 (cx S3 (cx S4 (hU S5))))) λD σ H hq=>?_;obtain⟨hg,q1,q2⟩:=hq;refine⟨htb _ _ _ hg λσ' H' e1 e2 sm nr=>?_,λea H' σ' he qY e1 e2=>?_⟩
 ·refine⟨.bB,e2,false,rfl,?_⟩;exact Kw ⟨_,e1,q1 nr H' sm⟩
 ·refine⟨.ref ea,e2,true,rfl,?_⟩;show(if true=true then _ else _);rw[if_pos rfl];refine⟨_,e2,ea,rfl,aX,λjy sm=>⟨true,rfl,?_⟩⟩;exact Kw ⟨_,e1,q2 H' he jy ((aK.upd qY).trans sm)⟩
end
structure uP(P:aF)(w:World)(K:aq)(mg:aR)(base:Heap)(k:Nat)(C:Addr)(y:Str):Prop where
 ex:∃(f:Addr) (fd:FuncData) (ps:ag),fB P w K mg base so k f fd ps (qt C)/\mg y=some (.ref f)/\PySem.W.keepIn K (.ref f)=true/\Binds K fd ps []
theorem uP.u{k:Nat}{y:Str}(h:uP P w K mg base k C y)(hk:k<=k':=by decide):uP P w K mg base k' C y:=by
 obtain⟨f,fd,ps,h1,h2⟩:=h.ex;exact⟨f,fd,ps,h1.mono hk,h2⟩
noncomputable def Il(l:List (Str×Bool)):Str->Option Bool:=λx=>if x = "ValueError" then some true else l.lookup x
theorem bO.look{P:Str->Bool->Prop}:∀{l:List (Str×Bool)},bO (λp=>P p.1 p.2) l->∀x b,l.lookup x=some b->P x b/\(x,b)∈l
 |[],_,x,b,h=>nomatch h
 | (y,c)::l,a,x,b,h=>by
  rw[List.lookup_cons]at h;by_cases e:x=y
  ·subst e;rw[beq_self_eq_true]at h;cases h;exact⟨a.1,aai⟩
  ·rw[beq_eq_false_iff_ne.mpr e]at h;obtain⟨h1,h2⟩:=bO.look a.2 x b h;exact⟨h1,aal _ h2⟩
def gB(sc:Scope)(x:Str):Bool:=gz sc x&&!(x==("__debug__" : Str))
def WR(sc:Scope)(err told:Str)(l:List (Str×Bool)):Bool:=Ql [err,told] [err] sc&&(decide (sc.names.lookup err=some .local)&&(decide (sc.names.lookup told=some .local)&&(v_ err&&(v_ told&&(gz sc "isinstance" && (gB sc "ValueError" && l.all λp=>gB sc p.1))))))
inductive SS(st:Stmt)(err told:Str)(l:List (Str×Bool))(b1 b2 b3 b4 b5:List Bool):Prop
 |mk {a b r:Expr} {l1 l2 l3 l4 l5:au} {pa pb po:Pos} {j:Nat} {pj pr ES p1 ER EO p2 Hq HA HH Hw p3 Ho Hz DP Hv p4 Hn Hy HG Hu p5 Hm Hx HF Ht EN:Pos} (hs:bw st=ml told a b r l1 l2 l3 l4 l5 pa pb po j pj pr ES p1 ER EO p2 Hq HA HH Hw p3 Ho Hz DP Hv p4 Hn Hy HG Hu p5 Hm Hx HF Ht EN)
  (h0:(decide (tV err (Il l) a=some true)&&(decide (tV err (Il l) b=some true)&&(decide (dU err (Il l) l1=some b1)&&(decide (dU err (Il l) l2=some b2)&&(decide (dU err (Il l) l3=some b3)&&(decide (dU err (Il l) l4=some b4)&&(decide (dU err (Il l) l5=some b5)&&bZ ⟨aE st,[err,told],λ_=>none,["len"],[],RG⟩ wo r)))))))=true):SS st err told l b1 b2 b3 b4 b5
section
variable {P:aF}{w:World}{K:aq}{h base:Heap}{mg:aR}(X:K.In h)(G:h.Ns mainGlobals mg){C:Addr}⦃x:Str⦄⦃st:Stmt⦄
include X G
theorem QC⦃err told:Str⦄⦃l:List (Str×Bool)⦄⦃b1 b2 b3 b4 b5:List Bool⦄(xc:XC K C)(k:Nat)(d:Df K x st)(hl:bO (λp:Str×Bool=>∃g,PySem.W.nsIn K mainGlobals p.1=some (some (.ref g))/\PySem.W.kitOne K (.ref C) (.ref g)=some p.2) l)(vv:PySem.W.kitOne K (.ref C) (.type "ValueError")=some true)(ni:mg "isinstance" = none)(nv:mg "ValueError" = none)(nl:mg "len" = none)
  (hc:WR (aE st) err told l=true) (FQ:SS st err told l b1 b2 b3 b4 b5) (hlen:b1.length+b2.length+b3.length+b4.length+b5.length<=100) (vN:bj (λ_ _=>none) wo [none,some (.lst .fz ((b1++b2++b3++b4++b5).map DI.D.bl))]=ok (.bl true)) (hb:∀(kV doc pm:Value) (an:Option Addr) (fG ct:Value) (us:ak),us.length=[err].length->bindArgs (PySem.W.fnOf x x (d7 st) (bw st) (aE st) .none kV doc pm an fG ct) ⟨us,[]⟩=pure ([err].zip us):=by exact λ_ _ _ _ _ _=>u1 λ_=>rfl):uP P w K mg base (k+1) C x:=by
 obtain⟨f,fd,Fu,a⟩:=d;cases FQ with
 |mk hs h0 =>
 obtain⟨i1,h0⟩:=aC h0;obtain⟨i2,h0⟩:=aC h0;obtain⟨i3,h0⟩:=aC h0;obtain⟨i4,h0⟩:=aC h0;obtain⟨i5,h0⟩:=aC h0;obtain⟨i6,h0⟩:=aC h0;obtain⟨i7,i8⟩:=aC h0;obtain⟨c1,hc⟩:=aC hc;obtain⟨c2,hc⟩:=aC hc;obtain⟨c3,hc⟩:=aC hc;obtain⟨c4,hc⟩:=aC hc;obtain⟨c5,hc⟩:=aC hc;obtain⟨c6,hc⟩:=aC hc;obtain⟨c7,c8⟩:=aC hc;obtain⟨c4,QU⟩:=aC c4;obtain⟨c5,L7⟩:=aC c5;obtain⟨c7,c7'⟩:=aC c7;refine⟨f,fd,[err],Dv (k:=k) Fu (t_ c1) hs (aab i1) (aab i2) (aab i3) (aab i4) (aab i5) (aab i6) (aab i7) i8 (aab c2) (aab c3) (dA c4) (dA QU) (dA c5) (dA L7) (bO.mem (l:=[("len" : Str)]) ⟨nl,trivial⟩) xc c6 ni (λy b hy=>?_) (by rw[sizeLine_eq];exact aaC hlen (by decide)) vN,aa8 X G a,Fu.kp,Fu.binds hb⟩;unfold Il at hy;by_cases e:y = "ValueError"
 ·subst e;rw[if_pos rfl]at hy;cases hy;exact⟨⟨c7,dA c7'⟩,.inr ⟨"ValueError",nv,by decide +kernel,by decide +kernel,vv⟩⟩
 ·rw[if_neg e]at hy;obtain⟨⟨g,h1,h2⟩,h3⟩:=bO.look (P:=λy b=>∃g,PySem.W.nsIn K mainGlobals y=some (some (.ref g))/\PySem.W.kitOne K (.ref C) (.ref g)=some b) hl y b hy;obtain⟨h4,h5⟩:=aC (List.all_eq_true.mp c8 _ h3);exact⟨⟨h4,dA h5⟩,.inl ⟨g,aa8 X G h1,h2⟩⟩
end
inductive DM(mg:aR)(base:Heap)(sc:Scope)(C:Addr)(n y z w:Str):List ExceptHandler->Prop
 |here {h:ExceptHandler} {hs:List ExceptHandler} {x:Str} (v:G8 n y z h=some (x,w)) (O:oB x C mg base) (g:gB sc x=true):DM mg base sc C n y z w (h::hs)
 |next {h:ExceptHandler} {hs:List ExceptHandler} {x w':Str} {B:Addr} (v:G8 n y z h=some (x,w')) (O:oB x B mg base) (OS:sg C B false base) (g:gB sc x=true) (r:DM mg base sc C n y z w hs):DM mg base sc C n y z w (h::hs)
theorem DM.ok{X:Cx}{S:Sx}{k:Nat}{Φ:bg}{C:Addr}{n y z w:Str}(L:Lk X S k Φ):∀{hs:List ExceptHandler},DM X.mg X.base S.sc C n y z w hs->wy X C n y z w hs
 |_,.here v O g=>.here v O (L.gl (aC g).1) (dA (aC g).2)
 |_,.next v O OS g r=>.next v O OS (L.gl (aC g).1) (dA (aC g).2) (r.ok L)
noncomputable def kX(N:ag)(j l:Nat)(w0:Str)(ds:aa):aZ:=((ds.map some++List.replicate (N.length - ds.length) none).set j (some (.str w0))).set l (some .bB)
variable {ew ey:Expr}
section
variable {X:Cx}
theorem nj{e0 e1 y:Expr}{ys:au}{p:Pos}{tf:TE}{CX:_}{k:Nat}{f:Addr}{fd:FuncData}{sp:Sp}{ds:ak}{gk:af}{E:XK}{t:TA}(hc:PE X (.Subscript e0 e1 p) tf)(F:fB X.prog X.w X.K X.mg X.base CX k f fd ps sp)(hr:gh k X.A)(hk:PySem.W.keepIn X.K (.ref f)=true)(hb:Binds X.K fd ps ds)(hd:Vals gk ds)(hx:Passes CX X E)(ha:PA X (y::ys) t)
  (he:starEach (y::ys) X.env=(false,eval y X.env)::starEach ys X.env) (hpl:(backTo pos (starEach ys X.env)).any (·.1)=false) :
  PE X (.Call (.Subscript e0 e1 p) (y::ys) [] pos) (λσ H Q=>tf σ H λv H1=>v=.ref f/\wN sp gk E t σ H1 Q):=by
 intro pins s σ H Q I h;show wpAny _ _ (eval (.Subscript e0 e1 p) X.env >>= λf=>callWith pos f [] (backTo pos (starEach (y::ys) X.env)) (backToKw pos (keywordEach [] X.env))) _ _ _;refine aaa (cQ (hc pins s σ H _ I h) λu s1 bK=>?_);obtain⟨x,H1,I1,r1,e,q⟩:=bK;subst e;cases r1;refine PySem.W.callWith_K (h₀:=X.base) I1.ok.mod.RZ hk (cQ (ha pos pins s1 σ H1 _ I1 q) λus s2 ⟨vs,H2,I2,r,q⟩=>⟨I2.vG,?_⟩) he hpl;exact AD F hr hb hd hx I2 r q
theorem HC{S:Sx}{k:Nat}{a b:Str}{fa fb:Addr}(L:Lk X S k Φ)(ga:Gl X a)(ma:X.mg a=some (.ref fa))(gb:Gl X b)(mb:X.mg b=some (.ref fb))(c0:bZ S (.v 0) ew=true)(hs:iq ew)
  (da:(a==("__debug__" : Str))=false) (db:(b==("__debug__" : Str))=false) :
  PE X (.Subscript (.List [.Name a pa,.Name b pb] pl) ew pp) (λσ H Q=>∃R τ ρ i v,SI X F R τ ρ σ H/\ρ[0]?=some (some (.int i))/\Iu [V.ref fa,.ref fb] i=some v/\∀H',aK H H'->Q v H'):=by
 refine PE.imp (AZ xq (qK (bW (mx (v:=.ref fa) ga ma rfl da) (bW (mx (v:=.ref fb) gb mb rfl db) dF))) (gv (F:=F) L (.v 0) ew c0).1 hs) λσ H Q hq=>?_;obtain⟨R,τ,ρ,i,v,Si,h0,hv,q⟩:=hq;refine⟨by show(2:Nat)<=sizeLine;rw[sizeLine_eq];decide,λl hl=>⟨R,τ,ρ,.int i,Si.go (aK.upd hl),?_,λy H2 e2 r2=>?_⟩⟩
 ·show pk ρ[0]?=_;rw[h0];rfl
 ·cases r2.isInt;exact⟨l,_,i,v,rfl,rfl,dO.of (e2 _ _ aX),hv,q _ ((aK.upd hl).trans e2)⟩
end
variable {Q:VK}{xs:aa}{ρ:aZ}{τ:Addr->Option bp}
section
variable {X:Cx}{S:Sx}{k:Nat}{Φ:bg}{Ψ:Nat->aa->Prop}{F:ai}{C:Addr}
noncomputable def Qr(a b:Str)(ew ey:Expr)(pa pb pl pp pc pos:Pos):Stmt:=.Expr (.Call (.Subscript (.List [.Name a pa,.Name b pb] pl) ew pp) [ey] [] pc) pos
noncomputable def DU(ga gb:Nat):CS:=.ifs (.cmp .eq (.v 0) (.int 0)) [.ex (.call ga [.v 1])] [.ex (.call gb [.v 1])]
def MR(S:Sx)(a b:Str)(ew ey:Expr)(ga gb:Nat):Bool:=(decide (S.fn ga=some a)&&decide (S.fn gb=some b))&&((gB S.sc a&&gB S.sc b)&&(bZ S (.v 0) ew&&bG S [.v 1] [ey]))
theorem Io{g:Nat}{r:D}{n:Nat}{E:XK}(Si:SI X F R τ ρ σ H)(hl:∀ds r,Φ g ds=ok r->ds.length=n)(cD:bz Φ cs ρ=ok xs)(er:Φ g (ah aA xs)=ok r)(hq:∀v H2,aK H H2->Q v H2):
  wN (Ak X.K n (Φ g)) [] E (oM X F Φ cs) σ H Q:=by
 refine⟨R,τ,ρ,xs,Si,cD,λvs H1 e1 r1=>?_⟩;obtain⟨τt,fr,rs⟩:=r1;have fresh:∀p,H p=none->jw (gP X F) τ (dg cs) p:=λp hp=>⟨.inr (Si.same.free hp),λc i e=>absurd hp (Si.th p _ e)⟩
 have hR:∀p,R p->jw (gP X F) τ (dg cs) p:=λp hp=>⟨Si.rf p hp,λc i e=>by rw[Si.rt p hp]at e;cases e⟩
 rw[List.append_nil];refine⟨jw (gP X F) τ (dg cs),ah aA xs,r,by rw[rs.length,<- hl _ _ er,aP,List.length_map],aG.gM (λ_ _ h=>h) (λk k' p xs f h=>?_) rs _ _,er,λv H2 e2 rr=>hq v H2 (e1.trans e2)⟩;cases f with
 |ow=>exact⟨h.1,fresh p (fr p _ h.2)⟩
 |fz=>exact⟨h.1,hR p h.2⟩
 |al=>exact h
 |sc=>exact h
theorem QL{mr:aa->Prop}{n:Nat}(Si:SI X F R τ ρ σ H)(hl:∀ds,mr ds->ds.length=n)(cD:bz Φ cs ρ=ok xs)(er:mr (ah aA xs)):
  wN (Rx X.K C n mr) [] (λc _ H'=>c=.ref C/\aK X.H₀ H') (oM X F Φ cs) σ H Q:=by
 refine⟨R,τ,ρ,xs,Si,cD,λZc H2 e2 rv=>?_⟩;obtain⟨τt,ft,NT⟩:=rv;rw[List.append_nil];refine⟨λ_=>True,ah aA xs,by rw[NT.length,<- hl _ er,aP,List.length_map],aG.gM (λ_ _ h=>h) (λk k' p xs f h=>?_) NT _ _,er,λH' e'=>⟨rfl,(Si.same.trans e2).trans e'⟩⟩;cases f with
 |ow=>exact⟨h.1,trivial⟩
 |fz=>exact⟨h.1,trivial⟩
 |al=>exact⟨h.1,trivial⟩
 |sc=>exact h
theorem CH{ρ1:aZ}{w:Int}(hw:w=0\/w=1)(h0:ρ[0]?=some (some (.int w)))(h:i0 Φ (DU ga gb) ρ=ok (.nx,ρ1)):ρ1=ρ/\∃xs r,bz Φ [.v 1] ρ=ok xs/\Φ (if w=0 then ga else gb) (ah aA xs)=ok r:=by
 have hc:bj Φ (.cmp .eq (.v 0) (.int 0)) ρ=ok (.bl (decide (w=0))):=by
  show bd (pk ρ[0]?) _=_;rw[h0];rfl
 have key:∀g,bd (bj Φ (.call g [.v 1]) ρ) (λ_=>ok (Fo.nx,ρ))=ok (.nx,ρ1)->ρ1=ρ/\∃xs r,bz Φ [.v 1] ρ=ok xs/\Φ g (ah aA xs)=ok r:=λg h=>by
  obtain⟨d,e1,e2⟩:=aH h;cases e2;obtain⟨xs,e3,e4⟩:=aH e1;obtain⟨r,e5,_⟩:=aH e4;exact⟨rfl,xs,r,e3,e5⟩
 have one:∀g,bF Φ [.ex (.call g [.v 1])] ρ=ok (.nx,ρ1)->ρ1=ρ/\∃xs r,bz Φ [.v 1] ρ=ok xs/\Φ g (ah aA xs)=ok r:=λg h=>key g (by
  revert h
  show(bd (bd (bj Φ (.call g [.v 1]) ρ) λ_=>ok (Fo.nx,ρ)) _=_)->_;cases bj Φ (.call g [.v 1]) ρ with
  |none=>intro h;cases h
  |some z=>cases z with
   |error c=>intro h;cases h
   |ok d=>intro h;exact h)
 rw[DU,yh,hc]at h;rcases hw with rfl|rfl
 ·exact one ga h
 ·exact one gb h
theorem PE.or{X:Cx}{e:Expr}{t t':TE}(h:PE X e t)(h':PE X e t'):PE X e λσ H Q=>t σ H Q\/t' σ H Q:=λpins s σ H Q I q=>q.elim (h pins s σ H Q I) (h' pins s σ H Q I)
theorem CJ{a b:Str}(h:MR S a b ew ey ga gb=true):S.fn ga=some a/\S.fn gb=some b/\gB S.sc a=true/\gB S.sc b=true/\bZ S (.v 0) ew=true/\bG S [.v 1] [ey]=true:=by
 obtain⟨h1,h2⟩:=aC h;obtain⟨h3,h4⟩:=aC h2;exact⟨aab (aC h1).1,aab (aC h1).2,(aC h3).1,(aC h3).2,(aC h4).1,(aC h4).2⟩
theorem Qp{a b:Str}(L:Lk X S k Φ)(h:MR S a b ew ey ga gb=true)(hs:iq ew)(KI:swapsWith (.Call (.Subscript (.List [.Name a pa,.Name b pb] pl) ew pp) [ey] [] pc) none pos.line X.env=pure false):
  PS X (Qr a b ew ey pa pb pl pp pc pos) (λD σ H=>∃R τ ρ ρ1,∃w:Int,SI X F R τ ρ σ H/\(w=0\/w=1)/\ρ[0]?=some (some (.int w))/\i0 Φ (DU ga gb) ρ=ok (.nx,ρ1)/\∀σ' H' R' τ',SI X F R' τ' ρ1 σ' H'->D.nx σ' H'):=by
 obtain⟨fa,fb,g1,g2,c0,c1⟩:=CJ h;obtain⟨a1,fd1,ZX,F1,m1,k1,b1,l1⟩:=(L.fn ga a fa).ex;obtain⟨a2,fd2,ZW,F2,m2,k2,b2,l2⟩:=(L.fn gb b fb).ex;have pf:=HC (F:=F) (pa:=pa) (pb:=pb) (pl:=pl) (pp:=pp) L (L.gl (aC g1).1) m1 (L.gl (aC g2).1) m2 c0 hs (dA (aC g1).2) (dA (aC g2).2);have pA:=jm (F:=F) L [.v 1] [ey] c1;have j8:=bx (aC c1).1 [] X.env;have P1:=nj (pos:=pc) pf F1 L.room k1 b1 .nil (xf (X:=X)) pA j8 rfl;have P2:=nj (pos:=pc) pf F2 L.room k2 b2 .nil (xf (X:=X)) pA j8 rfl;refine PS.imp (kn (PE.or P1 P2) KI) λD σ H bK=>?_;obtain⟨R,τ,ρ,ρ1,w,Si,hw,h0,ev,hq⟩:=bK;obtain⟨rfl,xs,r,e1,e2⟩:=CH hw h0 ev;have fin:∀(H':Hp),aK H H'->∀(v:V) (H2:Hp),aK H' H2->D.nx σ H2:=λH' e v H2 e'=>hq σ H2 R τ (Si.go (e.trans e'));rcases hw with rfl|rfl
 ·exact .inl ⟨R,τ,ρ1,0,_,Si,h0,rfl,λH' e=>⟨rfl,Io (Si.go e) l1 e1 e2 (fin H' e)⟩⟩
 ·exact .inr ⟨R,τ,ρ1,1,_,Si,h0,rfl,λH' e=>⟨rfl,Io (Si.go e) l2 e1 e2 (fin H' e)⟩⟩
theorem Qq{a b:Str}{n:Nat}(L:Lk X S k Φ)(hx:Passes (sk X.prog X.w C) X (λc _ H'=>c=.ref C/\aK X.H₀ H'))(fe:∀g x,S.fn g=some x->(∃ds,Ψ g ds)->jz X.prog X.w X.K X.mg X.base k C x (Ψ g))
  (h:MR S a b ew ey ga gb=true) (hs:iq ew) (KI:swapsWith (.Call (.Subscript (.List [.Name a pa,.Name b pb] pl) ew pp) [ey] [] pc) none pos.line X.env=pure false) :
  PS X (Qr a b ew ey pa pb pl pp pc pos) (qq X F λρ=>∃(w:Int) (xs:aa),(w=0\/w=1)/\ρ[0]?=some (some (.int w))/\bz Φ [.v 1] ρ=ok xs/\Ψ (if w=0 then ga else gb) (ah aA xs)):=by
 obtain⟨fa,fb,g1,g2,c0,c1⟩:=CJ h;obtain⟨a1,fd1,ZX,F1,m1,k1,b1,l1⟩:=(L.fn ga a fa).ex;obtain⟨a2,fd2,ZW,F2,m2,k2,b2,l2⟩:=(L.fn gb b fb).ex;have pf:=HC (F:=F) (pa:=pa) (pb:=pb) (pl:=pl) (pp:=pp) L (L.gl (aC g1).1) m1 (L.gl (aC g2).1) m2 c0 hs (dA (aC g1).2) (dA (aC g2).2);have pA:=jm (F:=F) L [.v 1] [ey] c1;have j8:=bx (aC c1).1 [] X.env;have one:∀(g:Nat) (y:Str) (ay:Addr),S.fn g=some y->X.mg y=some (.ref ay)->PE X (.Call (.Subscript (.List [.Name a pa,.Name b pb] pl) ew pp) [ey] [] pc) (λσ H Q=>∃R τ ρ i xs,SI X F R τ ρ σ H/\ρ[0]?=some (some (.int i))/\Iu [V.ref a1,.ref a2] i=some (.ref ay)/\bz Φ [.v 1] ρ=ok xs/\Ψ g (ah aA xs)):=λg y ay hg hm=>by
  by_cases jE:∃ds,Ψ g ds
  case neg=>exact λ_ _ _ _ _ _ ⟨_,_,_,_,xs,_,_,_,_,e2⟩=>absurd ⟨_,e2⟩ jE
  obtain⟨f,fd,ps,Fo,MG,hk,hb,hl⟩:=(fe g y hg jE).ex;obtain rfl:ay=f:=by rw[hm]at MG;cases MG;rfl
  refine PE.imp (nj (pos:=pc) pf Fo L.room hk hb .nil hx pA j8 rfl) λσ H Q bK=>?_;obtain⟨R,τ,ρ,i,xs,Si,h0,hi,e1,e2⟩:=bK;exact⟨R,τ,ρ,i,_,Si,h0,hi,λH' e=>⟨rfl,QL (Si.go e) hl e1 e2⟩⟩
 refine PS.imp (kn (PE.or (one ga a a1 fa m1) (one gb b a2 fb m2)) KI) λD σ H bK=>?_;obtain⟨R,τ,ρ,Si,w,xs,hw,h0,e1,e2⟩:=bK;rcases hw with rfl|rfl
 ·exact .inl ⟨R,τ,ρ,0,xs,Si,h0,rfl,e1,e2⟩
 ·exact .inr ⟨R,τ,ρ,1,xs,Si,h0,rfl,e1,e2⟩
end
theorem zT{x:Str}{f:Addr}{fd:FuncData}{k i j l:Nat}{N bl:ag}{cs:List (Str×GK)}{px:Px}{oX:Nat->Option Str}{m:aI}{n y z al:Str}{h0:ExceptHandler}{hs:List ExceptHandler}
  {a b:Str}   
   
  (Fu:zy K x qual st f fd) (Sc:eW N ps (aE st)) (FQ:bw st=NH y z al w0 w1 (Qr a b (.Name wn pw) ey pa pb pl pp pc pe) (h0::hs) j0 j1 j2 j3 a1 a2 a3 b1 b2 b3 pos c1 c2 c3 c4 c5 c6 c7 c8 c9 DX DW d1 d2) (hn:RS (aE st) N n y z al i j l=true)
  (BY:mf px Φ) (MC:DG px Φ) (q_:∀y∈bl,mg y=none) (nK:∀y i,(y,i)∈cs->∃u,mg y=some u/\wz K i u) (xB:∀g y,oX g=some y->Ent P w K mg base k y (Φ g)) (hc:MR ⟨aE st,N,oX,bl,cs,px⟩ a b (.Name wn pw) ey ga gb=true)
  (H0:DM mg base (aE st) C0 n y z W9 (h0::hs)) (A0:uP P w K mg base k C0 al)
  (hm:∀ds r,m ds=ok r->ds.length=ps.length/\((r=.str w0/\∃(w:Int) (ρ':aZ),(w=0\/w=1)/\(kX N j l w0 ds)[0]?=some (some (DI.D.int w))/\i0 Φ (DU ga gb) (kX N j l w0 ds)=ok (.nx,ρ')/\ρ'[j]?=some (some (.str w0))/\ρ'[l]?=some (some .bB)) \/
   ∃(ww:Str) (C:Addr) (Ψ:Nat->aa->Prop),r=.str ww/\DM mg base (aE st) C n y z ww (h0::hs)/\uP P w K mg base k C al/\(∀g y,oX g=some y->(∃ds,Ψ g ds)->jz P w K mg base k C y (Ψ g))/\∃(w:Int) (xs:aa),(w=0\/w=1)/\(kX N j l w0 ds)[0]?=some (some (DI.D.int w))/\bz Φ [.v 1] (kX N j l w0 ds)=ok xs/\Ψ (if w=0 then ga else gb) (ah aA xs))) :
  fB P w K mg base so (k+1) f fd ps (Ak K ps.length m):=by
 refine Fu.ok (N:=N) Sc (λvs H Q E ⟨_,_,_,h,_⟩=>h) λfG A outer s H vs Q E hr sj=>?_;obtain⟨F,ds,r,hl,rs,er,hq⟩:=sj;obtain⟨PK,PR⟩:=hm ds r er
 let X:=(iH so P w K mg base N qual (aE st) f fG A outer s H E).Bi
 have L:Lk X ⟨aE st,N,oX,bl,cs,px⟩ k Φ:=⟨rfl,rfl,Sc.nd,rfl,hr,q_,λg y h=>⟨(xB g y h).ex⟩,nK,BY⟩
 have hpl:ps.length<=N.length:=by have:=aaW List.length Sc.pre;rw[List.length_take]at this;left
 have Si:=sQ (X:=X) (F:=F) (N:=N) (vs:=vs) (ds:=ds) (H:=H) rfl (by left) rs;have Ya:j<N.length:=(List.getElem?_eq_some_iff.mp (aab (aC (aC (aC hn).2).2).1)).1;have hll:l<N.length:=(List.getElem?_eq_some_iff.mp (aab (aC (aC (aC (aC hn).2).2).2).1)).1;obtain⟨τ1,Dz⟩:=Si.set (i:=j) (v:=.str w0) (d:=.str w0) ⟨λ_=>none,λ_ _ h=>by simp at h,.str w0⟩ (by simp;left);obtain⟨τ2,yd⟩:=Dz.set (i:=l) (v:=.bB) (d:=.bB) ⟨λ_=>none,λ_ _ h=>by simp at h,.bB⟩ (by simp;left);rw[FQ];rcases PR with ⟨rfl,wv,ρ',hwv,h00,e1,e2,e3⟩|⟨ww,C,Ψ,rfl,Hs,EA,fe,e1⟩
 ·obtain⟨fa,fda,ZV,Fa,ma,ka,ba⟩:=A0.ex;refine⟨_,sx (X:=X) (nrm:=True) (E1:=λ_ _ _=>False) (good:=λσ H=>∃R τ ρ ρ1,∃w:Int,SI X F R τ ρ σ H/\(w=0\/w=1)/\ρ[0]?=some (some (DI.D.int w))/\i0 Φ (DU ga gb) ρ=ok (.nx,ρ1)/\ρ1[j]?=some (some (.str w0))/\ρ1[l]?=some (some .bB))
   (tb:=λD σ H=>∃R τ ρ ρ1,∃w:Int,SI X F R τ ρ σ H/\(w=0\/w=1)/\ρ[0]?=some (some (DI.D.int w))/\i0 Φ (DU ga gb) ρ=ok (.nx,ρ1)/\∀σ' H' R' τ',SI X F R' τ' ρ1 σ' H'->D.nx σ' H') L rfl rfl hn (H0.ok L) Fa ba ka ma (λpn D8 _=>?_) (λD σ H' hg hd=>?_),⟨_,_,_,_,wv,yd,hwv,h00,e1,e2,e3⟩,λ_ H' sm=>?_,λ_ z=>z.elim⟩
  ·refine ir.imp (hU (Qp (X:=Cx.lQ X pn D8) (F:=F) ⟨L.sc,L.N,L.nd,L.calm,L.room,L.bl,λf x h=>⟨(L.fn f x h).ex⟩,L.cs,L.pr⟩ hc (λ_ _=>rfl) rfl)) λD σ H ⟨R,τ,ρ,ρ1,w,Si,hw,h0,ev,hq⟩=>⟨R,τ,ρ,ρ1,w,Si.lQ,hw,h0,ev,λσ' H' R' τ' S=>hq σ' H' R' τ' ⟨S.len,S.rep,S.rt,S.rh,S.rf,S.th,S.t0,S.same⟩⟩
  ·obtain⟨R,τ,ρ,ρ1,w,Si,hw,h0,ev,f2,f3⟩:=hg;refine⟨R,τ,ρ,ρ1,w,Si,hw,h0,ev,λσ' H' R' τ' gq=>?_⟩;obtain⟨v1,g1,r1⟩:=gq.rep j _ f2;obtain⟨v2,g2,r2⟩:=gq.rep l _ f3;cases r1;cases r2;exact hd σ' H' g1 g2 gq.same trivial
  ·exact hq (.str w0) H' sm ⟨λ_=>none,λ_ _ h=>by simp at h,.str w0⟩
 ·obtain⟨fa,fda,ZV,Fa,ma,ka,ba⟩:=EA.ex;refine⟨_,sx (X:=X) (nrm:=False) (E1:=λc _ H'=>c=.ref C/\aK X.H₀ H') (good:=λσ H=>∃R τ ρ,SI X F R τ ρ σ H/\∃(w:Int) (xs:aa),(w=0\/w=1)/\ρ[0]?=some (some (DI.D.int w))/\bz Φ [.v 1] ρ=ok xs/\Ψ (if w=0 then ga else gb) (ah aA xs))
   (tb:=qq X F λρ=>∃(w:Int) (xs:aa),(w=0\/w=1)/\ρ[0]?=some (some (DI.D.int w))/\bz Φ [.v 1] ρ=ok xs/\Ψ (if w=0 then ga else gb) (ah aA xs)) L rfl rfl hn (Hs.ok L) Fa ba ka ma (λpn D8 hx=>?_) (λD σ H' hg hd=>hg),⟨_,_,_,yd,e1⟩,λz=>z.elim,λH' hE jy sm=>?_⟩
  ·exact ir.imp (hU (Qq (X:=Cx.lQ X pn D8) (F:=F) (n:=0) ⟨L.sc,L.N,L.nd,L.calm,L.room,L.bl,λf x h=>⟨(L.fn f x h).ex⟩,L.cs,L.pr⟩ hx fe hc (λ_ _=>rfl) rfl)) λD σ H ⟨R,τ,ρ,Si,hb⟩=>⟨R,τ,ρ,Si.lQ,hb⟩
  ·exact hq (.str ww) jy (hE.2.trans sm) ⟨λ_=>none,λ_ _ h=>by simp at h,.str ww⟩
theorem yC{b:Bool}(X:K.In h)(q:PySem.W.excIn K C IM "ValueError.__new__" = true)(m:PySem.W.mroIn K C (.ref B)=some b):sg C B b h:=by
 obtain⟨dd,nm,bs,bm,ns,qn,hd,sn,sub,ab,col,k0,k1,k2,k3,k5,ho,_,_,_⟩:=xM q;refine⟨_,_,_,_,_,_,_,_,_,_,_,_,_,_,_,_,_,X _ _ ho,?_⟩;unfold PySem.W.mroIn PySem.W.clsIn at m;rw[ho]at m;exact aat (show some ((Value.ref C::bm).contains (.ref B))=some b from m)
section
variable {P:aF}{w:World}{K:aq}{h base:Heap}{mg:aR}(X:K.In h)(G:h.Ns mainGlobals mg)⦃x:Str⦄⦃st:Stmt⦄⦃N ps bl:ag⦄⦃tb:List (Nat×Str)⦄⦃cs:List (Str×GK)⦄⦃px:Px⦄
include X G
theorem Ww{n y z al:Str}{a b:Str}{h0:ExceptHandler}{hs:List ExceptHandler}{Wd:Nat->Option Str}
    (i j l k:Nat) (Φ:bg) (Ψ:Nat->Nat->aa->Prop) (m:aI) (d:Df K x st) (BS:Ql N ps (aE st)=true)
  (FQ:bw st=NH y z al w0 w1 (Qr a b (.Name wn pw) ey pa pb pl pp pc pe) (h0::hs) j0 j1 j2 j3 a1 a2 a3 b1 b2 b3 pos c1 c2 c3 c4 c5 c6 c7 c8 c9 DX DW d1 d2/\(RS (aE st) N n y z al i j l&&MR ⟨aE st,N,λn=>List.lookup n tb,bl,cs,px⟩ a b (.Name wn pw) ey ga gb)=true)
  (hp:mf px Φ/\DG px Φ) (q_:bO (λy=>mg y=none) bl) (nK:bO (λp:Str×GK=>∃u,mg p.1=some u/\wz K p.2 u) cs)
  (hf:bO (λp:Nat×Str=>Ent P w K mg base k p.2 (Φ p.1)) tb)
  (H0:DM mg base (aE st) C0 n y z W9 (h0::hs)) (A0:uP P w K mg base k C0 al)
  (hw:∀e s,Wd e=some s->∃C,DM mg base (aE st) C n y z s (h0::hs)/\uP P w K mg base k C al/\bO (λp:Nat×Str=>(∃ds,Ψ e p.1 ds)->jz P w K mg base k C p.2 (Ψ e p.1)) tb)
  (hm:∀ds r,m ds=ok r->ds.length=ps.length/\((r=.str w0/\∃(w:Int) (ρ':aZ),(w=0\/w=1)/\(kX N j l w0 ds)[0]?=some (some (DI.D.int w))/\i0 Φ (DU ga gb) (kX N j l w0 ds)=ok (.nx,ρ')/\ρ'[j]?=some (some (.str w0))/\ρ'[l]?=some (some .bB))\/∃e s,Wd e=some s/\r=.str s/\∃(w:Int) (xs:aa),(w=0\/w=1)/\(kX N j l w0 ds)[0]?=some (some (DI.D.int w))/\bz Φ [.v 1] (kX N j l w0 ds)=ok xs/\Ψ e (if w=0 then ga else gb) (ah aA xs)))
  (hb:∀(kV doc pm:Value) (an:Option Addr) (fG ct:Value) (us:ak),us.length=ps.length->bindArgs (PySem.W.fnOf x x (d7 st) (bw st) (aE st) .none kV doc pm an fG ct) ⟨us,[]⟩=pure (ps.zip us):=by first|exact λ_ _ _ _ _ _=>u1 λ_=>rfl|exact λ_ _ _ _ _ _=>u2 λ_ _=>rfl|exact λ_ _ _ _ _ _=>u3 λ_ _ _=>rfl|exact λ_ _ _ _ _ _=>u4 λ_ _ _ _=>rfl|exact λ_ _ _ _ _ _=>u5 λ_ _ _ _ _=>rfl):Ent P w K mg base (k+1) x m:=by
 obtain⟨f,fd,Fu,a⟩:=d;obtain⟨s1,s2⟩:=FQ;obtain⟨s2,s3⟩:=aC s2;refine⟨f,fd,ps,zT Fu (t_ BS) s1 s2 hp.1 hp.2 (bO.mem q_) (bO.two (P:=λy i=>∃u,mg y=some u/\wz K i u) nK) (bO.tab (P:=λg y=>Ent P w K mg base k y (Φ g)) hf) s3 H0 A0 (λds r q=>?_),aa8 X G a,Fu.kp,Fu.binds hb,λds r q=>(hm ds r q).1⟩;obtain⟨q1,q2⟩:=hm ds r q;refine⟨q1,q2.imp (λz=>z) ?_⟩;rintro ⟨e,s,q3,rfl,q4⟩;obtain⟨C,z1,z2,z3⟩:=hw e s q3;exact⟨s,C,Ψ e,rfl,z1,z2,bO.tab (P:=λg y=>(∃ds,Ψ e g ds)->jz P w K mg base k C y (Ψ e g)) z3,q4⟩
end
theorem Xt{A:Prop}{a b:Nat}{P:aa->Prop}(h:∃ds,a=b/\P ds)(hn:(a==b)=false:=by rfl):A:=by
 obtain⟨_,rfl,_⟩:=h;simp at hn
end DI
end
section
namespace DI
open PySem (Str)
def zw(e:Nat):Nat->aa->Prop
 |17=>λds=>e=1/\Kb ds
 |113=>λds=>e=1/\Kb ds
 |47=>λds=>e=4/\UC l_ ds
 |114=>λds=>e=4/\RY ds
 |_=>λ_=>False
noncomputable def Rj(e:Nat):Option Str:=if e=1 then some "drawing" else if e=4 then some "worths" else none
open Classical in
noncomputable def qC(Φ:bg)(ds:aa):O D:=match ds with
 |[.int w,d]=>if aw aA d=d then(if w=0 then(if Kb [d]then ok (.str "drawing")else if ∃r,Φ 113 [d]=ok r then ok (.str "told")else none)else if w=1 then(if RY [d]then ok (.str "worths")else if ∃r,Φ 114 [d]=ok r then ok (.str "told")else none)else none)else none
 |_=>none
variable {Φ:bg}
theorem JG(K7:DC (Φ 113)){d:D}(hd:aY 8 d=true)(hz:aw aA d=d):qC Φ [.int 0,d]=ok (.str (if cj d then "told" else "drawing")):=by
 unfold qC;obtain⟨h1,h2⟩:=K7 d hd hz;simp only[hz,if_true];cases hg:cj d with
 |true =>
  rw[if_neg (λ⟨d',e,_,_,e'⟩=>by cases e;rw[hg]at e';cases e'),if_pos (h1 hg)];rfl
 |false =>
  rw[if_pos ⟨d,rfl,hd,hz,hg⟩];rfl
theorem JF(K6:rY (Φ 114)){d:D}(hd:aY 8 d=true)(hz:aw aA d=d):qC Φ [.int 1,d]=ok (.str (if jC d then "told" else "worths")):=by
 unfold qC;obtain⟨h1,h2⟩:=K6 d hd hz;simp only[hz,if_true];rw[if_neg (by decide)];cases hg:jC d with
 |true =>
  rw[if_neg (λ⟨d',e,_,_,e'⟩=>by cases e;rw[hg]at e';cases e'),if_pos (h1 hg)];rfl
 |false =>
  rw[if_pos ⟨d,rfl,hd,hz,hg⟩];rfl
theorem hmV{a b c d e:Str}(ds:aa)(r:D)(h:qC Φ ds=ok r):ds.length=[a,b].length/\((r=.str "told" /\ ∃(w:Int) (ρ':aZ),(w=0\/w=1)/\(kX [a,b,c,d,e] 2 3 "told" ds)[0]?=some (some (DI.D.int w))/\i0 Φ (DU 113 114) (kX [a,b,c,d,e] 2 3 "told" ds)=ok (.nx,ρ')/\ρ'[2]?=some (some (.str "told"))/\ρ'[3]?=some (some .bB)) \/
  ∃e' s,Rj e'=some s/\r=.str s/\∃(w:Int) (xs:aa),(w=0\/w=1)/\(kX [a,b,c,d,e] 2 3 "told" ds)[0]?=some (some (DI.D.int w))/\bz Φ [.v 1] (kX [a,b,c,d,e] 2 3 "told" ds)=ok xs/\zw e' (if w=0 then 113 else 114) (ah aA xs)):=by
 unfold qC at h;split at h
 ·rename_i w x;by_cases hz:aw aA x=x
  ·rw[if_pos hz]at h;have al:=lu hz;have r0:kX [a,b,c,d,e] 2 3 "told" [.int w,x]=[some (.int w),some x,some (.str "told"),some .bB,none]:=rfl;have ex:bz Φ [.v 1] [some (.int w),some x,some (.str "told"),some .bB,none]=ok [x]:=by
    show gm (ok (aw aN x)) (ok [])=_;rw[al];rfl
   have YR:∀g r,Φ g [x]=ok r->bF Φ [.ex (.call g [.v 1])] [some (.int w),some x,some (.str "told"),some .bB,none]=ok (.nx,[some (.int w),some x,some (.str "told"),some .bB,none]):=λg r hr=>by
    have:bj Φ (.call g [.v 1]) [some (.int w),some x,some (.str "told"),some .bB,none]=ok (aw dY r):=by
     rw[jS,ex,d_];show t8 (Φ g [aw aA x])=_;rw[hz,hr];rfl
    rw[bE];show mV Φ [] (bd (bj Φ (.call g [.v 1]) _) _)=_;rw[this];rfl
   refine⟨rfl,?_⟩;rw[r0];by_cases h0:w=0
   ·subst h0;rw[if_pos rfl]at h;by_cases hm:Kb [x]
    ·rw[if_pos hm]at h;cases h;exact .inr ⟨1,"drawing",rfl,rfl,0,[x],.inl rfl,rfl,ex,by rw[ah,ah,hz];exact⟨rfl,hm⟩⟩
    ·rw[if_neg hm]at h;by_cases hr:∃r,Φ 113 [x]=ok r
     ·rw[if_pos hr]at h;cases h;obtain⟨r,hr⟩:=hr;refine .inl ⟨rfl,0,[some (.int 0),some x,some (.str "told"),some .bB,none],.inl rfl,rfl,?_,rfl,rfl⟩;rw[DU,yh];show bF Φ [.ex (.call 113 [.v 1])] _=_;exact YR 113 r hr
     ·rw[if_neg hr]at h;cases h
   ·rw[if_neg h0]at h;by_cases h1:w=1
    ·subst h1;rw[if_pos rfl]at h;by_cases hm:RY [x]
     ·rw[if_pos hm]at h;cases h;exact .inr ⟨4,"worths",rfl,rfl,1,[x],.inr rfl,rfl,ex,by rw[ah,ah,hz];exact⟨rfl,hm⟩⟩
     ·rw[if_neg hm]at h;by_cases hr:∃r,Φ 114 [x]=ok r
      ·rw[if_pos hr]at h;cases h;obtain⟨r,hr⟩:=hr;refine .inl ⟨rfl,1,[some (.int 1),some x,some (.str "told"),some .bB,none],.inr rfl,rfl,?_,rfl,rfl⟩;rw[DU,yh];show bF Φ [.ex (.call 114 [.v 1])] _=_;exact YR 114 r hr
      ·rw[if_neg hr]at h;cases h
    ·rw[if_neg h1]at h;cases h
  ·rw[if_neg hz]at h;cases h
 ·cases h
theorem zU{e:Nat}{s:Str}(h:Rj e=some s):(e=1/\s = "drawing")\/(e=4/\s = "worths"):=by
 unfold Rj at h;split at h
 ·rename_i z;cases h;exact .inl ⟨z,rfl⟩
 ·split at h
  ·rename_i z;cases h;exact .inr ⟨z,rfl⟩
  ·cases h
theorem pS{m r:D}(h:∀n,m≠.int n):cj (.tup [m,r])=false:=by
 have:bY (.tup [m,r])=false:=by
  unfold bY;cases r<;>first|rfl|skip
  cases m<;>first|rfl|exact absurd rfl (h _)
 unfold cj;rw[this];rfl
theorem y3{m r:D}(h:∀f ds,r≠.lst f ds):cj (.tup [m,r])=false:=by
 have:bY (.tup [m,r])=false:=by
  unfold bY;cases r<;>first|rfl|exact absurd rfl (h _ _)
 unfold cj;rw[this];rfl
theorem pR{ds:aa}(hl:ds.length≠2):cj (.tup ds)=false:=by
 have:bY (.tup ds)=false:=by
  unfold bY
  match ds,hl with
  |[],_=>rfl
  |[_],_=>rfl
  |[_,_],h=>exact absurd rfl h
  |_::y::_::_,_=>cases y<;>rfl
 unfold cj;rw[this];rfl
theorem iY(n:Int)(f:Fl)(rows:aa):cj (.tup [.int n,.lst f rows])=((decide (1<=n)&&(decide (n<=12)&&(rows.all (dP n)&&(eY ((rows.map cG).map (·.2))&&decide ((gg (rows.map cG)).sum=1)))))&&rows.all (vy n)):=rfl
theorem k9{n:Int}(h:n<1\/12<n)(f:Fl)(rows:aa):cj (.tup [.int n,.lst f rows])=false:=by
 rw[iY];rcases h with h|h
 ·rw[decide_eq_false (by left:¬ 1<=n)];rfl
 ·rw[decide_eq_false (by left:¬ n<=12),Bool.false_and,Bool.and_false];rfl
variable {A rows:aa}
theorem b8{n:Int}{f:Fl}{d:D}(hd:d∈rows)(h:dP n d=false):cj (.tup [.int n,.lst f rows])=false:=by
 have:rows.all (dP n)=false:=by rw[List.all_eq_false];exact⟨d,hd,by rw[h];decide⟩
 rw[iY,this,Bool.false_and,Bool.and_false,Bool.and_false];rfl
theorem ia{n:Int}{f:Fl}(h:eY ((rows.map cG).map (·.2))=false):cj (.tup [.int n,.lst f rows])=false:=by
 rw[iY,h,Bool.false_and,Bool.and_false,Bool.and_false,Bool.and_false];rfl
theorem pQ{n:Int}{f:Fl}(h:¬ (gg (rows.map cG)).sum=1):cj (.tup [.int n,.lst f rows])=false:=by
 rw[iY,decide_eq_false h,Bool.and_false,Bool.and_false,Bool.and_false,Bool.and_false];rfl
theorem qT:∀l:ae,HT.lexLt l l=false
 |[]=>rfl
 |x::l=>by
  have ih:=qT l;unfold HT.lexLt;simp[ih]
theorem m8(a:ae):∀xs:aB,eY (xs++[a,a])=false
 |[]=>by show(HT.lexLt a a&&true)=false;rw[qT];rfl
 |[b]=>by show(HT.lexLt b a&&(HT.lexLt a a&&true))=false;rw[qT];simp
 |b::c::xs=>by
  show(HT.lexLt b c&&eY (c::xs++[a,a]))=false;rw[m8 a (c::xs),Bool.and_false]
theorem Ef(r:Row):cG (rD r)=r:=by
 show(Rat.divInt r.1.num r.1.den,numsOf (av r.2))=_;rw[gw,dH]
theorem uZ(rs:aL):(br rs).map cG=rs:=by
 unfold br;rw[List.map_map]
 conv=>rhs;rw[<- List.map_id rs]
 exact aau λr _=>Ef r
def Jq(n:Nat)(rs tl:aL)(r rl:Row):aa :=
 [.tup [.int 0,.lst .fz (br rs)],.tup [.int 13,.lst .fz (br rs)],.tup [.int (-1),.lst .fz (br rs)],.tup [.bB,.lst .fz (br rs)],.tup [.bl true,.lst .fz [.tup [.tup [.int 1,.int 1],.tup [.int 0]]]],.lst .fz [.int n,.lst .fz (br rs)]] ++
 [.tup [.int n,.lst .fz (br rs),.int 0],.tup [.int n],.tup [.int n,.tup (br rs)],.tup [.int n,.lst .fz []],.tup [.int n,.lst .fz (br (rs++[rl]))]] ++
 [.tup [.int n,.lst .fz (br (tl++[r]++[r]))]] ++
 [.tup [.int n,.lst .fz (.lst .fz [qD r.1,.tup (av r.2)]::br tl)],.tup [.int n,.lst .fz (.tup [qD r.1,.tup (av r.2),.int 0]::br tl)],.bB,.str "drawing",.int 1,.lst .fz []] ++
 [.tup [.int n,.lst .fz (.tup [qD r.1,.lst .fz (av r.2)]::br tl)],.tup [.int n,.lst .fz (.tup [.tup [.int 0,.int 1],.tup (av r.2)]::br tl)]] ++
 [.tup [.int n,.lst .fz [.tup [.tup [.int 2,.int 2],.tup [.int 0]]]],.tup [.int n,.lst .fz [.tup [.tup [.int 1,.int 2],.tup []],.tup [.tup [.int 1,.int 2],.tup []]]],.tup [.int n,.lst .fz [.tup [.tup [.int 1,.int 1],.tup [.int n]]]]] ++
 [.tup [.int n,.lst .fz [.tup [.tup [.int 1,.int 1],.tup [.int (-1)]]]],.tup [.int n,.lst .fz [.tup [.tup [.int 1,.int 1],.tup [.bl false]]]],.tup [.int n,.lst .fz [.tup [.tup [.int 1,.int 1],.tup [.int 0,.int 0]]]]] ++
 [.tup [.int n,.lst .fz [.tup [.tup [.int 1,.int 2],.tup [.int 0]],.tup [.tup [.int 1,.int 2],.tup []]]],.tup [.int n,.lst .fz [.tup [.tup [.int 3,.int 2],.tup []],.tup [.tup [.int (-1),.int 2],.tup [.int 0]]]],.tup [.int n,.lst .fz [.tup [.int 1,.tup [.int 0]]]]] ++
 [.tup [.int n,.lst .fz [.tup [.tup [.int 1,.int 1],.tup [.str "0"]]]],.tup [.int n,.lst .fz [.tup [.tup [.int 1,.int 1],.int 0]]],.tup [.int n,.lst .fz [.tup [.tup [.int 1,.int 2],.tup []]]]]
variable {UY:aL}{rl:Row}
theorem Ew{n:Nat}{rs tl:aL}{r:Row}(e2:rs=UY++[rl]):∀x∈Jq n rs tl r rl,cj x=false:=by
 intro x hx;simp only[Jq,List.cons_append,List.nil_append,List.mem_cons,List.not_mem_nil,or_false]at hx;rcases hx with rfl|rfl|rfl|rfl|rfl|rfl|rfl|rfl|rfl|rfl|rfl|rfl|rfl|rfl|rfl|rfl|rfl|rfl|rfl|rfl|rfl|rfl|rfl|rfl|rfl|rfl|rfl|rfl|rfl|rfl|rfl|rfl
 ·exact k9 (by left) _ _
 ·exact k9 (by left) _ _
 ·exact k9 (by left) _ _
 ·exact pS λ_ h=>by cases h
 ·exact pS λ_ h=>by cases h
 ·rfl
 ·exact pR (by simp)
 ·exact pR (by simp)
 ·exact y3 λ_ _ h=>by cases h
 ·exact pQ (by decide +kernel)
 ·refine ia ?_;rw[uZ,e2,List.append_assoc,List.map_append];exact m8 rl.2 _
 ·refine ia ?_;rw[uZ,List.append_assoc,List.map_append];exact m8 r.2 _
 ·exact b8 aai rfl
 ·exact b8 aai rfl
 ·rfl
 ·rfl
 ·rfl
 ·rfl
 ·exact b8 aai (by simp[dP,bu])
 ·exact b8 aai (by simp[dP,yB])
 ·exact b8 aai (by simp[dP,bM])
 ·exact ia (by decide +kernel)
 ·exact b8 aai (by simp[dP,bu,bR])
 ·exact b8 aai (by simp[dP,bu,bR])
 ·exact b8 aai (by simp[dP,bu,bR])
 ·exact b8 aai (by
   have:decide ((oY (numsOf [D.int 0,.int 0])).length=[D.int 0,.int 0].length)=false:=by decide +kernel
   simp only[dP,bu,this,Bool.and_false,Bool.false_and])
 ·exact ia (by decide +kernel)
 ·exact b8 (aal _ aai) (by simp[dP,yB])
 ·exact b8 aai (by simp[dP,bM])
 ·exact b8 aai (by simp[dP,bu,bR])
 ·exact b8 aai (by simp[dP,bu])
 ·exact pQ (by decide +kernel)
theorem zS(Φ:bg):∀(a b:ao) (ρ ρ':aZ),bF Φ a ρ=ok (.nx,ρ')->bF Φ (a++b) ρ=bF Φ b ρ'
 |[],b,ρ,ρ',h=>by cases h;rfl
 |s::a,b,ρ,ρ',h=>by
  rw[bE]at h;show bF Φ (s::(a++b)) ρ=_;rw[bE]
  revert h
  cases i0 Φ s ρ with
  |none=>intro h;cases h
  |some x=>cases x with
   |error c=>intro h;cases h
   |ok z =>
    obtain⟨f,ρ1⟩:=z;cases f<;>first|exact λh=>zS Φ a b ρ1 ρ' h | (intro h;cases h)
noncomputable def rJ(es:az):CS:=.asg (.nm 6) (.bin .add (.v 6) (.lst es))
def df(n:Nat)(rs:aL)(z:Int)(r:Row)(L:aO):aZ:=[some (mG n rs),some (.int z),some (.int n),some (.lst .fz (br rs)),some (qD r.1),some (.tup (av r.2)),L]
theorem Qm(is:aQ)(n:Nat)(rs:aL)(z:Int)(r:Row)(L:aO):∃L',nW is 0 (df n rs z r L)=df n rs z r L':=by
 have m1:aw aA (mG n rs)=mG n rs:=by simp[mG]
 have m2:aw aA (.lst .fz (br rs))=.lst .fz (br rs):=by show D.lst .fz (ah aA (br rs))=_;rw[cy]
 have m3:aw aA (.tup (av r.2))=.tup (av r.2):=by rw[aw,cz]
 have h:∀(c:Prop) [Decidable c] (d:D),aw aA d=d->(if c then(some d).map (aw aA)else some d)=some d:=λc _ d e=>by
  by_cases hc:c
  ·rw[if_pos hc,Option.map_some,e]
  ·rw[if_neg hc]
 refine⟨if 6∈is then L.map (aw aA)else L,?_⟩;unfold df;rw[bC,bC,bC,bC,bC,bC,bC,nV,h _ _ m1,h _ _ rfl,h _ _ rfl,h _ _ m2,h _ _ rfl,h _ _ m3]
theorem kH(ds:aa):ah aA (ah aN ds)=ah aA ds:=by
 rw[aP,aP,aP,List.map_map];exact aau λd _=>fS d
theorem t7(ds:aa):ah aA (ah aA ds)=ah aA ds:=by
 rw[dM];congr 1;funext f;cases f<;>rfl
theorem Q0{n:Nat}{rs:aL}{z:Int}{r:Row}{L:aO}{e:CE}(hv:US e=false)(he:bj Φ e (df n rs z r L)=ok (.lst .ow A)):∃f A',i0 Φ (.asg (.nm 6) e) (df n rs z r L)=ok (.nx,df n rs z r (some (.lst f A')))/\e_ f=false/\ah aA A'=ah aA A:=by
 rw[j_,Mv Φ e _ hv,he];cases ha:bo bX (.lst .ow A)with
 |false=>rw[cU ha];exact⟨.ow,A,rfl,rfl,rfl⟩
 |true =>
  rw[iT ha];obtain⟨L',e'⟩:=Qm (jr e) n rs z r L;rw[e'];exact⟨.fz,ah aA A,rfl,rfl,t7 A⟩
theorem iL{n:Nat}{rs:aL}{z:Int}{r:Row}{f:Fl}{xs W:aa}{es:az}(hf:e_ f=false)(hA:ah aA A=W)(he:bz Φ es (df n rs z r (some (.lst f A)))=ok xs)(hl:W.length+xs.length<=1000):
  ∃f' A',i0 Φ (rJ es) (df n rs z r (some (.lst f A)))=ok (.nx,df n rs z r (some (.lst f' A')))/\e_ f'=false/\ah aA A'=W++ah aA xs:=by
 have VQ:A.length=W.length:=by rw[<- hA,aP,List.length_map]
 have e1:bj Φ (.bin .add (.v 6) (.lst es)) (df n rs z r (some (.lst f A)))=ok (.lst .ow (ah aN (ah aN A++xs))):=by
  rw[i_,iB,he];show b0 .add (.lst (aN f) (ah aN A)) (.lst .ow xs)=_;show(if e_ (aN f)=false/\e_ .ow=false/\(ah aN A).length+xs.length<=ej then ok (D.lst .ow (ah aN (ah aN A++xs)))else none)=_;rw[if_pos ⟨(by cases f<;>first|rfl|cases hf),rfl,by rw[aP,List.length_map];show _<=1000000;left⟩]
 obtain⟨f',A',h1,h2,h3⟩:=Q0 (Φ:=Φ) rfl e1;exact⟨f',A',h1,h2,by rw[h3,kH,eC,kH,hA]⟩
noncomputable def Sr:az:=[(.tup [(.int 0),(.v 3)]),(.tup [(.int 13),(.v 3)]),(.tup [(.neg (.int 1)),(.v 3)]),(.tup [.bB,(.v 3)]),(.tup [(.bl true),(.lst [(.tup [(.tup [(.int 1),(.int 1)]),(.tup [(.int 0)])])])]),(.lst [(.v 2),(.v 3)])]
noncomputable def Ws:az:=[(.tup [(.v 2),(.v 3),(.int 0)]),(.tup [(.v 2)]),(.tup [(.v 2),(.bf .tuple1 [(.v 3)])]),(.tup [(.v 2),(.lst [])]),(.tup [(.v 2),(.bin .add (.v 3) (.cg 1083 [(.v 3),(.neg (.int 1))]))])]
noncomputable def Wr:az:=[(.tup [(.v 2),(.bin .add (.bin .add (.cg 1020 [(.v 3),(.int 1)]) (.cg 1021 [(.v 3),(.int 1)])) (.cg 1021 [(.v 3),(.int 1)]))])]
noncomputable def Wq:az:=[(.tup [(.v 2),(.bin .add (.lst [(.lst [(.v 4),(.v 5)])]) (.cg 1020 [(.v 3),(.int 1)]))]),(.tup [(.v 2),(.bin .add (.lst [(.tup [(.v 4),(.v 5),(.int 0)])]) (.cg 1020 [(.v 3),(.int 1)]))]),.bB,(.str "drawing"),(.int 1),(.lst [])]
noncomputable def Wo:az:=[(.tup [(.v 2),(.bin .add (.lst [(.tup [(.v 4),(.bf .list1 [(.v 5)])])]) (.cg 1020 [(.v 3),(.int 1)]))]),(.tup [(.v 2),(.bin .add (.lst [(.tup [(.tup [(.int 0),(.int 1)]),(.v 5)])]) (.cg 1020 [(.v 3),(.int 1)]))])]
noncomputable def Wn:az:=[(.tup [(.v 2),(.lst [(.tup [(.tup [(.int 2),(.int 2)]),(.tup [(.int 0)])])])]),(.tup [(.v 2),(.lst [(.tup [(.tup [(.int 1),(.int 2)]),(.tup [])]),(.tup [(.tup [(.int 1),(.int 2)]),(.tup [])])])]),(.tup [(.v 2),(.lst [(.tup [(.tup [(.int 1),(.int 1)]),(.tup [(.v 2)])])])])]
noncomputable def Wm:az:=[(.tup [(.v 2),(.lst [(.tup [(.tup [(.int 1),(.int 1)]),(.tup [(.neg (.int 1))])])])]),(.tup [(.v 2),(.lst [(.tup [(.tup [(.int 1),(.int 1)]),(.tup [(.bl false)])])])]),(.tup [(.v 2),(.lst [(.tup [(.tup [(.int 1),(.int 1)]),(.tup [(.int 0),(.int 0)])])])])]
noncomputable def Wl:az:=[(.tup [(.v 2),(.lst [(.tup [(.tup [(.int 1),(.int 2)]),(.tup [(.int 0)])]),(.tup [(.tup [(.int 1),(.int 2)]),(.tup [])])])]),(.tup [(.v 2),(.lst [(.tup [(.tup [(.int 3),(.int 2)]),(.tup [])]),(.tup [(.tup [(.neg (.int 1)),(.int 2)]),(.tup [(.int 0)])])])]),(.tup [(.v 2),(.lst [(.tup [(.int 1),(.tup [(.int 0)])])])])]
noncomputable def Wk:az:=[(.tup [(.v 2),(.lst [(.tup [(.tup [(.int 1),(.int 1)]),(.tup [(.str "0")])])])]),(.tup [(.v 2),(.lst [(.tup [(.tup [(.int 1),(.int 1)]),(.int 0)])])]),(.tup [(.v 2),(.lst [(.tup [(.tup [(.int 1),(.int 2)]),(.tup [])])])])]
noncomputable def JV:ao:=[.asg (.tp [2,3]) (.v 0),.asg (.tp [4,5]) (.ix (.v 3) (.int 0))]
def JK:ao:=[.asg (.nm 6) (.lst Sr),rJ Ws,rJ Wr,rJ Wq,rJ Wo,rJ Wn,rJ Wm,rJ Wl,rJ Wk,.ret (.ix (.v 6) (.bin .mod (.v 1) (.int 32)))]
def jc:ao:=JV++JK
variable {g:Fl}
theorem Dy{f:Fl}{a b:aa}(hf:e_ f=false)(hg:e_ g=false)(h:a.length+b.length<=1000):b0 .add (.lst f a) (.lst g b)=ok (.lst .ow (ah aN (a++b))):=aaQ ⟨hf,hg,by show _<=1000000;left⟩
theorem Md(f g:Fl)(a b:aL)(hf:e_ f=false)(hg:e_ g=false)(h:a.length+b.length<=1000):b0 .add (.lst f (br a)) (.lst g (br b))=ok (.lst .ow (br (a++b))):=by
 have e:br a++br b=br (a++b):=by unfold br;rw[List.map_append]
 rw[Dy hf hg (by rw[fF,fF];exact h),e,cy]
theorem Et(nN:Φ 1020=cutD true)(t6:Φ 1021=cutD false)(Cn:Φ 1083=uq){n:Nat}{rs tl:aL}{r:Row}(e1:rs=r::tl)(e2:rs=UY++[rl])(hl:rs.length<=10)(z:Int):
  ∃f A,bF Φ JK (df n rs z r none)=bF Φ [.ret (.ix (.v 6) (.bin .mod (.v 1) (.int 32)))] (df n rs z r (some (.lst f A)))/\e_ f=false/\ah aA A=Jq n rs tl r rl:=by
 have B4:tl.length+1<=10:=by rw[e1]at hl;simpa using hl
 have v2:∀L,bj Φ (.v 2) (df n rs z r L)=ok (.int n):=λ_=>rfl;have v3:∀L,bj Φ (.v 3) (df n rs z r L)=ok (.lst .fz (br rs)):=λ_=>by
  show ok (D.lst .fz (ah aN (br rs)))=_;rw[cy]
 have v4:∀L,bj Φ (.v 4) (df n rs z r L)=ok (qD r.1):=λ_=>rfl;have v5:∀L,bj Φ (.v 5) (df n rs z r L)=ok (.tup (av r.2)):=λ_=>by
  show ok (D.tup (ah aN (av r.2)))=_;rw[cz]
 have c0:Φ 1020 [.lst .fz (br rs),.int 1]=ok (.lst .ow (br tl)):=by
  rw[nN];show(if (0:Int)<=1 then ok (D.lst .ow (ah aN ((br rs).drop (1:Int).toNat)))else none)=_;rw[if_pos (by decide),e1];show ok (D.lst .ow (ah aN (br tl)))=_;rw[cy]
 have c1:Φ 1021 [.lst .fz (br rs),.int 1]=ok (.lst .ow (br [r])):=by
  rw[t6];show(if (0:Int)<=1 then ok (D.lst .ow (ah aN ((br rs).take (1:Int).toNat)))else none)=_;rw[if_pos (by decide),e1];show ok (D.lst .ow (ah aN (br [r])))=_;rw[cy]
 have c3:Φ 1083 [.lst .fz (br rs),.int (-1)]=ok (.lst .ow (br [rl])):=by
  rw[Cn];have h1:1<=(br rs).length:=by rw[fF,e1];simp
  show(if (-1:Int) = -1/\1<=(br rs).length then ok (D.lst .ow (ah aN ((br rs).drop ((br rs).length - 1))))else none)=_;rw[if_pos ⟨rfl,h1⟩];have:(br rs).drop ((br rs).length - 1)=br [rl]:=by
   unfold br;rw[<- List.map_drop,List.length_map,e2];simp
  rw[this,cy]
 have t1:rQ .tuple1 [.lst .fz (br rs)]=ok (.tup (br rs)):=by
  show ok (D.tup (ah aN (br rs)))=_;rw[cy]
 have l1:rQ .list1 [.tup (av r.2)]=ok (.lst .ow (av r.2)):=by
  show ok (D.lst .ow (ah aN (av r.2)))=_;rw[cz]
 have a1:=Md .fz .ow rs [rl] rfl rfl (by simp;left);have a2:=Md .ow .ow tl [r] rfl rfl (by simp;left);have a3:=Md .ow .ow (tl++[r]) [r] rfl rfl (by simp;left);have a4:∀x,b0 .add (.lst .ow [x]) (.lst .ow (br tl))=ok (.lst .ow (aw aN x::br tl)):=λx=>by
  rw[Dy rfl rfl (by rw[fF];simp;left)];show ok (D.lst .ow (aw aN x::ah aN (br tl)))=_;rw[cy]
 have q0:∀L,bz Φ Sr (df n rs z r L)=ok [.tup [.int 0,.lst .fz (br rs)],.tup [.int 13,.lst .fz (br rs)],.tup [.int (-1),.lst .fz (br rs)],.tup [.bB,.lst .fz (br rs)],.tup [.bl true,.lst .ow [.tup [.tup [.int 1,.int 1],.tup [.int 0]]]],.lst .ow [.int n,.lst .fz (br rs)]]:=λL=>by
  have ng:bj Φ (.neg (.int 1)) (df n rs z r L)=ok (.int (-1)):=rfl;simp only[Sr,iB,bN,kI,gR,i9,QD,Ii,ng,v2,v3,d8,ig]
 have q1:∀L,bz Φ Ws (df n rs z r L)=ok [.tup [.int n,.lst .fz (br rs),.int 0],.tup [.int n],.tup [.int n,.tup (br rs)],.tup [.int n,.lst .ow []],.tup [.int n,.lst .ow (br (rs++[rl]))]]:=λL=>by
  have ng:bj Φ (.neg (.int 1)) (df n rs z r L)=ok (.int (-1)):=rfl;simp only[Ws,iB,bN,kI,gR,i9,i_,CW,xO,ng,v2,v3,d8,ig,mK,t1,c3,a1]
 have q2:∀L,bz Φ Wr (df n rs z r L)=ok [.tup [.int n,.lst .ow (br (tl++[r]++[r]))]]:=λL=>by
  simp only[Wr,iB,bN,kI,gR,i9,i_,xO,v2,v3,d8,ig,mK,c0,c1,a2,a3]
 have q3:∀L,bz Φ Wq (df n rs z r L)=ok [.tup [.int n,.lst .ow (aw aN (.lst .ow [qD r.1,.tup (av r.2)])::br tl)],.tup [.int n,.lst .ow (aw aN (.tup [qD r.1,.tup (av r.2),.int 0])::br tl)],.bB,.str "drawing",.int 1,.lst .ow []]:=λL=>by
  simp only[Wq,iB,bN,kI,gR,i9,Ii,Ig,i_,xO,v2,v3,v4,v5,d8,ig,mK,c0,a4]
 have q4:∀L,bz Φ Wo (df n rs z r L)=ok [.tup [.int n,.lst .ow (aw aN (.tup [qD r.1,.lst .ow (av r.2)])::br tl)],.tup [.int n,.lst .ow (aw aN (.tup [.tup [.int 0,.int 1],.tup (av r.2)])::br tl)]]:=λL=>by
  simp only[Wo,iB,bN,kI,gR,i9,i_,CW,xO,v2,v3,v4,v5,d8,ig,mK,c0,a4,l1]
 have q5:∀L,bz Φ Wn (df n rs z r L)=ok [.tup [.int n,.lst .ow [.tup [.tup [.int 2,.int 2],.tup [.int 0]]]],.tup [.int n,.lst .ow [.tup [.tup [.int 1,.int 2],.tup []],.tup [.tup [.int 1,.int 2],.tup []]]],.tup [.int n,.lst .ow [.tup [.tup [.int 1,.int 1],.tup [.int n]]]]]:=λL=>by
  simp only[Wn,iB,bN,kI,gR,i9,v2,d8,ig]
 have q6:∀L,bz Φ Wm (df n rs z r L)=ok [.tup [.int n,.lst .ow [.tup [.tup [.int 1,.int 1],.tup [.int (-1)]]]],.tup [.int n,.lst .ow [.tup [.tup [.int 1,.int 1],.tup [.bl false]]]],.tup [.int n,.lst .ow [.tup [.tup [.int 1,.int 1],.tup [.int 0,.int 0]]]]]:=λL=>by
  have ng:bj Φ (.neg (.int 1)) (df n rs z r L)=ok (.int (-1)):=rfl;simp only[Wm,iB,bN,kI,gR,i9,QD,ng,v2,d8,ig]
 have q7:∀L,bz Φ Wl (df n rs z r L)=ok [.tup [.int n,.lst .ow [.tup [.tup [.int 1,.int 2],.tup [.int 0]],.tup [.tup [.int 1,.int 2],.tup []]]],.tup [.int n,.lst .ow [.tup [.tup [.int 3,.int 2],.tup []],.tup [.tup [.int (-1),.int 2],.tup [.int 0]]]],.tup [.int n,.lst .ow [.tup [.int 1,.tup [.int 0]]]]]:=λL=>by
  have ng:bj Φ (.neg (.int 1)) (df n rs z r L)=ok (.int (-1)):=rfl;simp only[Wl,iB,bN,kI,gR,i9,ng,v2,d8,ig]
 have q8:∀L,bz Φ Wk (df n rs z r L)=ok [.tup [.int n,.lst .ow [.tup [.tup [.int 1,.int 1],.tup [.str "0"]]]],.tup [.int n,.lst .ow [.tup [.tup [.int 1,.int 1],.int 0]]],.tup [.int n,.lst .ow [.tup [.tup [.int 1,.int 2],.tup []]]]]:=λL=>by
  simp only[Wk,iB,bN,kI,gR,i9,Ig,v2,d8,ig]
 have el:bj Φ (.lst Sr) (df n rs z r none)=ok (.lst .ow [.tup [.int 0,.lst .fz (br rs)],.tup [.int 13,.lst .fz (br rs)],.tup [.int (-1),.lst .fz (br rs)],.tup [.bB,.lst .fz (br rs)],.tup [.bl true,.lst .ow [.tup [.tup [.int 1,.int 1],.tup [.int 0]]]],.lst .ow [.int n,.lst .fz (br rs)]]):=by rw[iB,q0];rfl
 obtain⟨f0,A0,x0,s0,w0⟩:=Q0 (Φ:=Φ) rfl el;obtain⟨f1,A1,x1,s1,w1⟩:=iL s0 w0 (q1 _) (by simp[ah]);obtain⟨f2,A2,x2,s2,w2⟩:=iL s1 w1 (q2 _) (by simp[ah]);obtain⟨f3,A3,x3,s3,w3⟩:=iL s2 w2 (q3 _) (by simp[ah]);obtain⟨f4,A4,x4,s4,w4⟩:=iL s3 w3 (q4 _) (by simp[ah]);obtain⟨f5,A5,x5,s5,w5⟩:=iL s4 w4 (q5 _) (by simp[ah]);obtain⟨f6,A6,x6,s6,w6⟩:=iL s5 w5 (q6 _) (by simp[ah]);obtain⟨f7,A7,x7,s7,w7⟩:=iL s6 w6 (q7 _) (by simp[ah]);obtain⟨f8,A8,x8,s8,w8⟩:=iL s7 w7 (q8 _) (by simp[ah]);refine⟨f8,A8,?_,s8,?_⟩
 ·unfold JK;rw[bE,x0,bI,bE,x1,bI,bE,x2,bI,bE,x3,bI,bE,x4,bI,bE,x5,bI,bE,x6,bI,bE,x7,bI,bE,x8,bI]
 ·rw[w8];unfold Jq;have mq:∀g q,aw g (qD q)=qD q:=λ_ _=>rfl;simp only[ah,aw,cy,cz,mq,aA,aN]
def uK(m:aI):Prop:=∀n rs (z:Int),Dr 6 n rs->rs.length<=5->n<=4->∃d,m [mG n rs,.int z]=ok d/\aY 8 (aw aA d)=true/\cj (aw aA d)=false
theorem rz{q:Rat}{j:Nat}(hj:j<=50)(h:Sm j q)(k:Nat):aY (k+1) (qD q)=true:=by
 have h:=h.mono hj;have h1:decide (q.num.natAbs<2 ^ 50)=true:=aaG h.1;have h2:decide ((q.den:Int).natAbs<2 ^ 50)=true:=aaG (by rw[Int.natAbs_natCast];exact h.2);show(decide ((2:Nat)<=16)&&(aY k (.int q.num)&&(aY k (.int q.den)&&true)))=true;have e:∀i:Int,aY k (.int i)=decide (i.natAbs<2 ^ 50):=λi=>by cases k<;>rfl
 rw[e,e,h1,h2];rfl
theorem C5{l:ae}(h:∀x∈l,0<=x/\x<20)(k:Nat):(av l).all (aY k)=true:=by
 rw[List.all_eq_true];intro d hd;obtain⟨x,hx,rfl⟩:=List.mem_map.mp hd;have:=h x hx;have:decide (x.natAbs<2 ^ 50)=true:=aaG (aaz (by left:x.natAbs<=20) (by decide));cases k<;>exact this
theorem Eu{n:Nat}{rs tl:aL}{r:Row}(I:Dr 6 n rs)(hl:rs.length<=5)(hn:n<=4)(e1:rs=r::tl)(e2:rs=UY++[rl]):∀x∈Jq n rs tl r rl,aY 8 x=true:=by
 have hr:r∈rs:=by rw[e1];exact aai
 have hrl:rl∈rs:=by rw[e2];simp
 have X1:∀s∈tl,s∈rs:=λs hs=>by rw[e1];exact aal _ hs
 have iv:∀s∈rs,∀k,(av s.2).all (aY k)=true:=λs hs k=>C5 (λx hx=>by have:=(I.iG s hs).2 x hx;left) k;have il:∀s∈rs,s.2.length<=16:=λs hs=>aaC (I.iG s hs).len (by left);have dq:∀s∈rs,∀k,aY (k+1) (qD s.1)=true:=λs hs k=>rz (by decide) (I.sm s hs) k;have dl:∀s∈rs,∀k,aY (k+1) (.tup (av s.2))=true:=λs hs k=>by
  show(decide ((av s.2).length<=16)&&(av s.2).all (aY k))=true;rw[iv s hs,decide_eq_true (by simpa using il s hs)];rfl
 have dr:∀s∈rs,∀k,aY (k+2) (rD s)=true:=λs hs k=>by
  show(decide ((2:Nat)<=16)&&(aY (k+1) (qD s.1)&&(aY (k+1) (.tup (av s.2))&&true)))=true;rw[dq s hs,dl s hs];rfl
 have da:∀ss:aL,(∀s∈ss,s∈rs)->∀k,(br ss).all (aY (k+2))=true:=λss hs k=>List.all_eq_true.mpr λd hd=>by
  obtain⟨s,DQ,rfl⟩:=List.mem_map.mp hd;exact dr s (hs s DQ) k
 have Zk:tl.length<=4:=by rw[e1]at hl;simpa using hl
 have dL:∀ss:aL,(∀s∈ss,s∈rs)->ss.length<=16->∀k,aY (k+3) (.lst .fz (br ss))=true:=λss hs hl k=>by
  show(true&&(decide ((br ss).length<=16)&&(br ss).all (aY (k+2))))=true;rw[da ss hs,decide_eq_true (by rw[fF];exact hl)];rfl
 have dC:∀x k,aY (k+2) x=true->aY (k+3) (.lst .fz (x::br tl))=true:=λx k h=>by
  show(true&&(decide ((x::br tl).length<=16)&&(aY (k+2) x&&(br tl).all (aY (k+2)))))=true;rw[da tl X1,h,decide_eq_true (by rw[List.length_cons,fF];left)];rfl
 have dn:∀k,aY k (.int n)=true:=λk=>by
  have:decide ((n:Int).natAbs<2 ^ 50)=true:=aaG (by rw[Int.natAbs_natCast];exact aaz hn (by decide));cases k<;>exact this
 have two:∀x k,aY (k+1) x=true->aY (k+2) (.tup [.int n,x])=true:=λx k h=>by
  show(decide ((2:Nat)<=16)&&(aY (k+1) (.int n)&&(aY (k+1) x&&true)))=true;rw[dn,h];rfl
 have dR:=dL rs (λ_ h=>h) (by left);have dT:∀k,aY (k+3) (.tup (br rs))=true:=λk=>by
  show(decide ((br rs).length<=16)&&(br rs).all (aY (k+2)))=true;rw[da rs (λ_ h=>h),decide_eq_true (by rw[fF];left)];rfl
 have h2:∀x k,aY (k+1) x=true->∀y,aY (k+1) y=true->aY (k+2) (.tup [x,y])=true:=λx k h y h'=>by
  show(decide ((2:Nat)<=16)&&(aY (k+1) x&&(aY (k+1) y&&true)))=true;rw[h,h'];rfl
 intro x hx;simp only[Jq,List.cons_append,List.nil_append,List.mem_cons,List.not_mem_nil,or_false]at hx;rcases hx with rfl|rfl|rfl|rfl|rfl|rfl|rfl|rfl|rfl|rfl|rfl|rfl|rfl|rfl|rfl|rfl|rfl|rfl|rfl|rfl|rfl|rfl|rfl|rfl|rfl|rfl|rfl|rfl|rfl|rfl|rfl|rfl
 ·exact h2 _ 6 rfl _ (dR 4)
 ·exact h2 _ 6 rfl _ (dR 4)
 ·exact h2 _ 6 rfl _ (dR 4)
 ·exact h2 _ 6 rfl _ (dR 4)
 ·exact h2 _ 6 rfl _ rfl
 ·show(true&&(decide ((2:Nat)<=16)&&(aY 7 (.int n)&&(aY 7 (.lst .fz (br rs))&&true))))=true;rw[dn,dR 4];rfl
 ·show(decide ((3:Nat)<=16)&&(aY 7 (.int n)&&(aY 7 (.lst .fz (br rs))&&(aY 7 (.int 0)&&true))))=true;rw[dn,dR 4];rfl
 ·show(decide ((1:Nat)<=16)&&(aY 7 (.int n)&&true))=true;rw[dn];rfl
 ·exact two _ 6 (dT 4)
 ·exact two _ 6 rfl
 ·exact two _ 6 (dL _ (λs hs=>(List.mem_append.mp hs).elim id λh=>by rw[List.mem_singleton.mp h];exact hrl) (by simp;left) 4)
 ·exact two _ 6 (dL _ (λs hs=>by
   rcases List.mem_append.mp hs with h|h
   ·rcases List.mem_append.mp h with h|h
    ·exact X1 s h
    ·rw[List.mem_singleton.mp h];exact hr
   ·rw[List.mem_singleton.mp h];exact hr) (by simp;left) 4)
 ·refine two _ 6 (dC _ 4 ?_);show(true&&(decide ((2:Nat)<=16)&&(aY 5 (qD r.1)&&(aY 5 (.tup (av r.2))&&true))))=true;rw[dq r hr 4,dl r hr 4];rfl
 ·refine two _ 6 (dC _ 4 ?_);show(decide ((3:Nat)<=16)&&(aY 5 (qD r.1)&&(aY 5 (.tup (av r.2))&&(aY 5 (.int 0)&&true))))=true;rw[dq r hr 4,dl r hr 4];rfl
 ·rfl
 ·rfl
 ·rfl
 ·rfl
 ·refine two _ 6 (dC _ 4 (h2 _ 4 (dq r hr 4) _ ?_));show(true&&(decide ((av r.2).length<=16)&&(av r.2).all (aY 4)))=true;rw[iv r hr,decide_eq_true (by simpa using il r hr)];rfl
 ·exact two _ 6 (dC _ 4 (h2 _ 4 rfl _ (dl r hr 4)))
 ·exact two _ 6 rfl
 ·exact two _ 6 rfl
 ·refine two _ 6 ?_;show(true&&(decide ((1:Nat)<=16)&&(aY 6 (.tup [.tup [.int 1,.int 1],.tup [.int n]])&&true)))=true;rw[h2 (.tup [.int 1,.int 1]) 4 rfl (.tup [.int n]) (by show(decide ((1:Nat)<=16)&&(aY 4 (.int n)&&true))=true;rw[dn];rfl)];rfl
 ·exact two _ 6 rfl
 ·exact two _ 6 rfl
 ·exact two _ 6 rfl
 ·exact two _ 6 rfl
 ·exact two _ 6 rfl
 ·exact two _ 6 rfl
 ·exact two _ 6 rfl
 ·exact two _ 6 rfl
 ·exact two _ 6 rfl
theorem Ay(Φ:bg)(nN:Φ 1020=cutD true)(t6:Φ 1021=cutD false)(Cn:Φ 1083=uq):uK (mk Φ 2 7 jc):=by
 intro n rs z I hl hn;have jE:rs≠[]:=λe=>by
  have:=I.one;rw[e]at this;exact absurd this (by decide)
 obtain⟨r,tl,e1⟩:∃r tl,rs=r::tl:=by
  cases rs with
  |nil=>exact absurd rfl jE
  |cons r tl=>exact⟨r,tl,rfl⟩
 have e2:rs=rs.dropLast++[rs.getLast jE]:=(List.dropLast_concat_getLast jE).symm;obtain⟨f,A,ex,sf,hA⟩:=Et nN t6 Cn (n:=n) e1 e2 (by left) z;obtain⟨g1,g2⟩:=dZ z (b:=32) (by decide);obtain⟨j,hj⟩:∃j:Nat,z.fmod 32=(j:Int):=⟨(z.fmod 32).toNat,by left⟩
 have VQ:A.length=32:=by
  have:=aaW List.length hA;rw[aP,List.length_map]at this;rw[this];rfl
 have Yc:j<A.length:=by left
 have hW:aw aA A[j]∈Jq n rs tl r (rs.getLast jE):=by
  rw[<- hA,aP];exact aaM (abk Yc)
 have m1:b0 .mod (.int z) (.int 32)=ok (.int j):=by rw[uD (by decide),hj]
 have e3:bj Φ (.ix (.v 6) (.bin .mod (.v 1) (.int 32))) (df n rs z r (some (.lst f A)))=ok (aw aN (aw aN A[j])):=by
  rw[Gj,i_];show OU (ok (.lst (aN f) (ah aN A))) (b0 .mod (.int z) (.int 32))=_;rw[m1];exact at_of (by left) (by rw[Int.toNat_natCast,aP,List.getElem?_map,List.getElem?_eq_getElem Yc];rfl)
 have fin:∃d ρ',bF Φ [.ret (.ix (.v 6) (.bin .mod (.v 1) (.int 32)))] (df n rs z r (some (.lst f A)))=ok (.rt d,ρ')/\aw aA d=aw aA A[j]:=by
  rw[bE,zR,OR,e3];cases ha:bo bX (aw aN (aw aN A[j]))with
  |false=>rw[cU ha];exact⟨_,_,rfl,by rw[fS,fS]⟩
  |true=>rw[iT ha];exact⟨_,_,rfl,by rw[fS,fS,eE];congr 1;funext f;cases f<;>rfl⟩
 obtain⟨d,ρ',ef,hd⟩:=fin;refine⟨d,?_,by rw[hd];exact Eu I hl hn e1 e2 _ hW,by rw[hd];exact Ew e2 _ hW⟩;have s:bF Φ JV [some (mG n rs),some (.int z),none,none,none,none,none]=ok (.nx,df n rs z r none):=by
  have oW:mG n rs=.tup [.int n,.lst .fz (br rs)]:=rfl;have a1:uG (br rs) 0=ok (rD r):=by rw[e1];show uG (rD r::br tl) 0=_;rw[QX,Bu]
  have eD:rD r=.tup [qD r.1,.tup (av r.2)]:=rfl;unfold df;rw[oW];simp[JV,a1,eD]
 rw[mk_eq (ar:=2) (ds:=[mG n rs,.int z]) rfl];show lj (bF Φ jc [some (mG n rs),some (.int z),none,none,none,none,none])=_;unfold jc;rw[zS Φ _ _ _ _ s,ex,ef];rfl
noncomputable def Ih:CE:=.lst [.bB,(.int 1),(.tup [(.int 2),(.int 4)]),(.tup [(.int 1),(.int 0)]),(.tup [(.bl true),(.int 2)]),(.str "1"),(.lst [(.int 1),(.int 2)]),(.tup [(.int 1),(.int 2),(.int 3)])]
def oi:CE:=.comp 1 (.nm 0) [0,2] .seq [Ih] [] (.bin .add (.bin .add (.cg 1021 [(.v 1),(.v 2)]) (.lst [(.v 0)])) (.cg 1020 [(.v 1),(.bin .add (.v 2) (.int 1))]))
noncomputable def pY:az:=[(.tup []),(.lst []),(.bf .tuple1 [(.v 0)]),.bB,(.str ""),(.int 7),(.str "1 2"),(.ix (.v 0) (.int 0))]
def oz:ao:=[.asg (.nm 2) (.bin .mod (.bin .fdiv (.v 1) (.int 16)) (.bf .len [(.v 0)])),.asg (.nm 3) oi,.ret (.ix (.bin .add (.v 3) (.lst pY)) (.bin .mod (.v 1) (.int 16)))]
noncomputable def qN:aa:=[.bB,.int 1,.tup [.int 2,.int 4],.tup [.int 1,.int 0],.tup [.bl true,.int 2],.str "1",.lst .fz [.int 1,.int 2],.tup [.int 1,.int 2,.int 3]]
def putL(qs:aU)(k:Nat)(x:D):D:=.lst .fz (bD (qs.take k)++[x]++bD (qs.drop (k+1)))
def SE(qs:aU)(k:Nat)(q:Rat):aa:=qN.map (putL qs k)++[.tup [],.lst .fz [],.tup (bD qs),.bB,.str "",.int 7,.str "1 2",qD q]
variable {qs:aU}
theorem GP{k:Nat}{q:Rat}:∀x∈SE qs k q,jC x=false:=by
 intro x hx;rcases List.mem_append.mp hx with h|h
 ·obtain⟨y,hy,rfl⟩:=List.mem_map.mp h;have hf:bM y=false:=by
   simp only[qN,List.mem_cons,List.not_mem_nil,or_false]at hy;rcases hy with rfl|rfl|rfl|rfl|rfl|rfl|rfl|rfl<;>first|rfl|decide +kernel
  have:(bD (qs.take k)++[y]++bD (qs.drop (k+1))).all bM=false:=by
   rw[List.all_eq_false];exact⟨y,by simp,by rw[hf];decide⟩
  show(_&&(bD (qs.take k)++[y]++bD (qs.drop (k+1))).all bM)=false;rw[this,Bool.and_false]
 ·simp only[List.mem_cons,List.not_mem_nil,or_false]at h;rcases h with rfl|rfl|rfl|rfl|rfl|rfl|rfl|rfl<;>rfl
theorem GO{k:Nat}{q:Rat}(hl:qs.length<=12)(hk:k<qs.length)(hs:∀q∈qs,Sm 5 q)(hq:q∈qs):∀x∈SE qs k q,aY 8 x=true:=by
 have dq:∀q∈qs,∀j,aY (j+1) (qD q)=true:=λq h j=>rz (by decide) (hs q h) j;have da:∀ps:aU,(∀q∈ps,q∈qs)->∀j,(bD ps).all (aY (j+1))=true:=λps h j=>List.all_eq_true.mpr λd hd=>by
  obtain⟨p,hp,rfl⟩:=List.mem_map.mp hd;exact dq p (h p hp) j
 intro x hx;rcases List.mem_append.mp hx with h|h
 ·obtain⟨y,hy,rfl⟩:=List.mem_map.mp h;have hd:aY 7 y=true:=by
   simp only[qN,List.mem_cons,List.not_mem_nil,or_false]at hy;rcases hy with rfl|rfl|rfl|rfl|rfl|rfl|rfl|rfl<;>first|rfl|decide +kernel
  show(true&&(decide ((bD (qs.take k)++[y]++bD (qs.drop (k+1))).length<=16)&&(bD (qs.take k)++[y]++bD (qs.drop (k+1))).all (aY 7)))=true;rw[List.all_append,List.all_append,da _ (λq h=>List.mem_of_mem_take h) 6,da _ (λq h=>List.mem_of_mem_drop h) 6,List.all_cons,hd,decide_eq_true (by simp;left)];rfl
 ·simp only[List.mem_cons,List.not_mem_nil,or_false]at h;rcases h with rfl|rfl|rfl|rfl|rfl|rfl|rfl|rfl
  ·rfl
  ·rfl
  ·show(decide ((bD qs).length<=16)&&(bD qs).all (aY 7))=true;rw[da qs (λ_ h=>h) 6,decide_eq_true (by simp;left)];rfl
  ·rfl
  ·rfl
  ·rfl
  ·rfl
  ·exact dq q hq 7
def DE(m:aI):Prop:=∀qs (z:Int),1<=qs.length->qs.length<=12->(∀q∈qs,Sm 5 q)->∃d,m [.lst .fz (bD qs),.int z]=ok d/\aY 8 (aw aA d)=true/\jC (aw aA d)=false
theorem JC(Φ:bg)(nN:Φ 1020=cutD true)(t6:Φ 1021=cutD false):DE (mk Φ 2 4 oz):=by
 intro qs z h1 h2 hs;obtain⟨g1,g2⟩:=dZ (z.fdiv 16) (b:=(qs.length:Int)) (by left);obtain⟨k,hk⟩:∃k:Nat,(z.fdiv 16).fmod qs.length=(k:Int):=⟨((z.fdiv 16).fmod qs.length).toNat,by left⟩
 have hkl:k<qs.length:=by left
 obtain⟨g3,g4⟩:=dZ z (b:=16) (by decide);obtain⟨j,hj⟩:∃j:Nat,z.fmod 16=(j:Int):=⟨(z.fmod 16).toNat,by left⟩
 have m1:b0 .mod (.int (z.fdiv 16)) (.int qs.length)=ok (.int k):=by rw[uD (by left),hk]
 have m4:b0 .fdiv (.int z) (.int 16)=ok (.int (z.fdiv 16)):=uE (by decide) (by decide);have m3:b0 .mod (.int z) (.int 16)=ok (.int j):=by rw[uD (by decide),hj]
 have c1:Φ 1021 [.lst .fz (bD qs),.int k]=ok (.lst .ow (bD (qs.take k))):=by
  rw[t6];show(if (0:Int)<=k then ok (D.lst .ow (ah aN ((bD qs).take (k:Int).toNat)))else none)=_;rw[if_pos (by left),Int.toNat_natCast,show(bD qs).take k=bD (qs.take k) by unfold bD;rw[List.map_take]];simp
 have c2:Φ 1020 [.lst .fz (bD qs),.int ((k:Int)+1)]=ok (.lst .ow (bD (qs.drop (k+1)))):=by
  rw[nN];show(if (0:Int)<=(k:Int)+1 then ok (D.lst .ow (ah aN ((bD qs).drop ((k:Int)+1).toNat)))else none)=_;rw[if_pos (by left),show((k:Int)+1).toNat=k+1 by left,show(bD qs).drop (k+1)=bD (qs.drop (k+1)) by unfold bD;rw[List.map_drop]];simp
 have X4:∀x∈qN,aw aA x=x:=λx hx=>by
  simp only[qN,List.mem_cons,List.not_mem_nil,or_false]at hx;rcases hx with rfl|rfl|rfl|rfl|rfl|rfl|rfl|rfl<;>rfl
 have mq:∀(g:Fl->Fl) ps,ah g (bD ps)=bD ps:=λg ps=>by simp
 let B:aa:=qN.map λx=>.lst .ow (bD (qs.take k)++[x]++bD (qs.drop (k+1)))
 have eb:∀c3,bj Φ oi [some (.lst .fz (bD qs)),some (.int z),some (.int k),c3]=ok (.lst .ow (ah dY B)):=λc3=>by
  unfold oi;rw[eJ (xs:=[.lst .ow [.bB,.int 1,.tup [.int 2,.int 4],.tup [.int 1,.int 0],.tup [.bl true,.int 2],.str "1",.lst .ow [.int 1,.int 2],.tup [.int 1,.int 2,.int 3]]]) (items:=qN.map id) (ds:=B) (by simp[Ih]) (by rw[eT];rfl) (cL λx hx=>⟨[some x,some (.lst .fz (bD qs)),some (.int k)],?_,by simp,?_⟩) (by show(8:Nat)<=1000000;decide)]
  ·show cK (.nm 0) x [none,some (.lst .fz (ah aA (bD qs))),some (.int k)]=_;rw[mq];rfl
  ·have al:=lu (X4 x hx);have b1:b0 .add (.lst .ow (bD (qs.take k))) (.lst .ow [x])=ok (.lst .ow (bD (qs.take k)++[x])):=by
    rw[Dy rfl rfl (by simp;left),eC,mq];show ok (D.lst .ow (_++[aw aN x]))=_;rw[al]
   have b2:b0 .add (.lst .ow (bD (qs.take k)++[x])) (.lst .ow (bD (qs.drop (k+1))))=ok (.lst .ow (bD (qs.take k)++[x]++bD (qs.drop (k+1)))):=by
    rw[Dy rfl rfl (by simp;left),eC,eC,mq,mq];show ok (D.lst .ow (_++[aw aN x]++_))=_;rw[al]
   simp[c1,c2,b1,b2,al]
 have hB:ah aA (ah dY B)=qN.map (putL qs k):=by
  rw[dM,aP,List.map_map];refine aau λx hx=>?_;show D.lst .fz (ah (λf=>aA (dY f)) (bD (qs.take k)++[x]++bD (qs.drop (k+1))))=D.lst .fz _;rw[eC,eC,mq,mq];show D.lst .fz (_++[aw (λf=>aA (dY f)) x]++_)=_;have:aw (λf=>aA (dY f)) x=aw aA x:=by congr 1;funext f;cases f<;>rfl
  rw[this,X4 x hx]
 have e0:bj Φ (.bin .mod (.bin .fdiv (.v 1) (.int 16)) (.bf .len [(.v 0)])) [some (.lst .fz (bD qs)),some (.int z),none,none]=ok (.int k):=by simp[m1,m4]
 have s0:i0 Φ (.asg (.nm 2) (.bin .mod (.bin .fdiv (.v 1) (.int 16)) (.bf .len [(.v 0)]))) [some (.lst .fz (bD qs)),some (.int z),none,none]=ok (.nx,[some (.lst .fz (bD qs)),some (.int z),some (.int k),none]):=by
  rw[j_,OT,e0,cU rfl];rfl
 obtain⟨f,A,s1,sf,hA⟩:∃f A,i0 Φ (.asg (.nm 3) oi) [some (.lst .fz (bD qs)),some (.int z),some (.int k),none]=ok (.nx,[some (.lst .fz (bD qs)),some (.int z),some (.int k),some (.lst f A)])/\e_ f=false/\ah aA A=qN.map (putL qs k):=by
  rw[j_,Mv Φ oi _ rfl,eb];cases ha:bo bX (.lst .ow (ah dY B))with
  |false=>rw[cU ha];exact⟨.ow,_,rfl,rfl,hB⟩
  |true =>
   rw[iT ha];refine⟨.fz,ah aA (ah dY B),?_,rfl,by rw[t7,hB]⟩;have m2:aw aA (.lst .fz (bD qs))=.lst .fz (bD qs):=by show D.lst .fz (ah aA (bD qs))=_;rw[mq]
   have h:∀(c:Prop) [Decidable c] (d:D),aw aA d=d->(if c then(some d).map (aw aA)else some d)=some d:=λc _ d e=>by
    by_cases hc:c
    ·rw[if_pos hc,Option.map_some,e]
    ·rw[if_neg hc]
   have hn:∀(c:Prop) [Decidable c],(if c then(none:aO).map (aw aA)else none)=none:=λc _=>by split<;>rfl
   rw[bC,bC,bC,bC,nV,h _ _ m2,h _ _ rfl,h _ _ rfl,hn];rfl
 obtain⟨q,hq,a0⟩:∃q,q∈qs/\uG (bD qs) 0=ok (qD q):=by
  cases qs with
  |nil=>simp at h1
  |cons q qs=>exact⟨q,aai,by show uG (qD q::bD qs) 0=_;rw[QX];rfl⟩
 have VQ:A.length=8:=by
  have:=aaW List.length hA;rw[aP,List.length_map,List.length_map]at this;rw[this];rfl
 let xs:aa:=[.tup [],.lst .ow [],.tup (bD qs),.bB,.str "",.int 7,.str "1 2",qD q]
 have ex:bz Φ pY [some (.lst .fz (bD qs)),some (.int z),some (.int k),some (.lst f A)]=ok xs:=by
  simp[pY,a0,xs]
 have ea:bj Φ (.bin .add (.v 3) (.lst pY)) [some (.lst .fz (bD qs)),some (.int z),some (.int k),some (.lst f A)]=ok (.lst .ow (ah aN (ah aN A++xs))):=by
  rw[i_,iB,ex];show b0 .add (.lst (aN f) (ah aN A)) (.lst .ow xs)=_;exact Dy (by cases f<;>first|rfl|cases sf) rfl (by rw[aP,List.length_map,VQ];show 8+8<=1000;decide)
 have hW:ah aA (ah aN (ah aN A++xs))=SE qs k q:=by
  rw[kH,eC,kH,hA];show _++ah aA xs=_;have:ah aA xs=[.tup [],.lst .fz [],.tup (bD qs),.bB,.str "",.int 7,.str "1 2",qD q]:=by
   show[D.tup [],.lst .fz [],.tup (ah aA (bD qs)),.bB,.str "",.int 7,.str "1 2",qD q]=_;rw[mq]
  rw[this];rfl
 generalize hV:ah aN (ah aN A++xs)=V at *;have hVl:V.length=16:=by
  have:=aaW List.length hW;rw[aP,List.length_map]at this;rw[this];rfl
 have Yb:j<V.length:=by left
 have hm:aw aA V[j]∈SE qs k q:=by
  rw[<- hW,aP];exact aaM (abk Yb)
 have e3:bj Φ (.ix (.bin .add (.v 3) (.lst pY)) (.bin .mod (.v 1) (.int 16))) [some (.lst .fz (bD qs)),some (.int z),some (.int k),some (.lst f A)]=ok (aw aN V[j]):=by
  have em:bj Φ (.bin .mod (.v 1) (.int 16)) [some (.lst .fz (bD qs)),some (.int z),some (.int k),some (.lst f A)]=ok (.int j):=by
   rw[i_];exact m3
  rw[Gj,ea,em];exact at_of (by left) (by rw[Int.toNat_natCast];exact aas Yb)
 have fin:∃d ρ',bF Φ [.ret (.ix (.bin .add (.v 3) (.lst pY)) (.bin .mod (.v 1) (.int 16)))] [some (.lst .fz (bD qs)),some (.int z),some (.int k),some (.lst f A)]=ok (.rt d,ρ')/\aw aA d=aw aA V[j]:=by
  rw[bE,zR,OR,e3];cases ha:bo bX (aw aN V[j])with
  |false=>rw[cU ha];exact⟨_,_,rfl,by rw[fS]⟩
  |true=>rw[iT ha];exact⟨_,_,rfl,by rw[fS,eE];congr 1;funext f;cases f<;>rfl⟩
 obtain⟨d,ρ',ef,hd⟩:=fin;refine⟨d,?_,by rw[hd];exact GO h2 hkl hs hq _ hm,by rw[hd];exact GP _ hm⟩;rw[mk_eq (ar:=2) (ds:=[.lst .fz (bD qs),.int z]) rfl];show lj (bF Φ oz [some (.lst .fz (bD qs)),some (.int z),none,none])=_;unfold oz;rw[bE,s0,bI,bE,s1,bI,ef];rfl
mutual
theorem ui(g h:Fl->Fl):∀a b:D,ib (aw g a) (aw h b)=ib a b
 |.tup as,b=>by cases b<;>simp[ib,jR g h as]
 |.lst _ as,b=>by cases b<;>simp[ib,jR g h as]
 |.cJ _ _ _,b=>by cases b<;>simp[ib,aw]
 |.bB,b=>by cases b<;>simp[ib,aw]
 |.bl _,b=>by cases b<;>simp[ib,aw]
 |.int _,b=>by cases b<;>rfl
 |.str _,b=>by cases b<;>simp[ib,aw]
theorem jR(g h:Fl->Fl):∀as bs:aa,dQ (ah g as) (ah h bs)=dQ as bs
 |[],bs=>by cases bs<;>simp[ah,dQ]
 |a::as,bs=>by
  cases bs with
  |nil=>simp[ah,dQ]
  |cons b bs=>rw[ah,ah,dQ,dQ,ui g h a b,jR g h as bs]
end
theorem oh:∀(n:Nat) (d:D),fi n d=true->ib d d=true
 |n,.bB,_=>rfl
 |n,.bl b,_=>by simp[ib]
 |n,.int b,_=>by simp[ib]
 |n,.str b,_=>by simp[ib]
 |0,.tup ds,h=>by simp[fi]at h
 |0,.lst _ ds,h=>by simp[fi]at h
 |n+1,.tup ds,h=>by
  simp only[fi]at h;rw[ib];induction ds with
  |nil=>rfl
  |cons d ds ih =>
   rw[List.all_cons,Bool.and_eq_true]at h;rw[dQ,oh n d h.1,ih h.2];rfl
 |n+1,.lst _ ds,h=>by
  simp only[fi]at h;rw[ib];induction ds with
  |nil=>rfl
  |cons d ds ih =>
   rw[List.all_cons,Bool.and_eq_true]at h;rw[dQ,oh n d h.1,ih h.2];rfl
 |n,.cJ _ _ _,h=>by simp[fi]at h
noncomputable def Jd:ao:=[.asg (.nm 4) (.call 200 [(.v 0),(.v 3)]),.asg (.nm 5) (.call 252 [(.v 1),(.v 4)])]
noncomputable def QT:CE:=.or [(.cmp .ne (.call 253 [(.int 0),(.v 5)]) (.str "drawing")),(.cmp .ne (.v 5) (.call 252 [(.v 1),(.v 4)]))]
noncomputable def QS:CE:=.or [(.cmp .ne (.call 253 [(.int 1),(.v 5)]) (.str "worths")),(.cmp .ne (.v 5) (.call 257 [(.v 2),(.bin .fdiv (.v 4) (.int 32))]))]
def Nu:ao:=Jd++[.ifs QT [.ret (.bl false)] [],.asg (.nm 5) (.call 257 [(.v 2),(.bin .fdiv (.v 4) (.int 32))]),.ifs QS [.ret (.bl false)] []]
def kO:ao:=[.asg (.nm 1) (.call 212 [(.call 200 [(.v 0),(.int 0)]),(.int 4)]),.asg (.nm 2) (.call 256 [(.v 0),(.int 1),(.bin .add (.int 1) (.bin .mod (.call 200 [(.v 0),(.int 2)]) (.int 4)))]),.ifs (.or [(.cmp .ne (.call 253 [(.int 0),(.v 1)]) (.str "told")),(.cmp .ne (.call 253 [(.int 1),(.v 2)]) (.str "told"))]) [.ret (.bl false)] [],.fr (.nm 3) (.lV (.int 3) (.bf .max2 [(.int 6),(.bf .min2 [(.int 16),(.bf .len [(.v 0)])])])) Nu,.ret (.bl true)]
def DD(m:aI):Prop:=∀d,aY 8 d=true->aw aA d=d->m [.int 0,d]=ok (.str (if cj d then "told" else "drawing"))/\m [.int 1,d]=ok (.str (if jC d then "told" else "worths"))
theorem JA(Φ:bg)(K7:DC (Φ 113))(K6:rY (Φ 114)):DD (qC Φ):=λd hd hz=>⟨JG K7 hd hz,JF K6 hd hz⟩
structure YW(Φ:bg):Prop where
 F5:r9 (Φ 200)
 V1:Ra (Φ 212)
 V0:uK (Φ 252)
 F4:DD (Φ 253)
 VZ:Iz (Φ 256)
 VY:DE (Φ 257)
def vX(f:Fl)(n:Nat)(rs:aL):D:=.tup [.int n,.lst f (br rs)]
theorem ku(g:Fl->Fl)(f:Fl)(n:Nat)(rs:aL):aw g (vX f n rs)=vX (g f) n rs:=by
 show D.tup [.int n,.lst (g f) (ah g (br rs))]=_;rw[cy];rfl
theorem vq{ns:ae}(g:Fl->Fl)(hg:g .sc=.sc):aw g (.lst .sc (av ns))=.lst .sc (av ns):=by rw[aw,hg,cz]
theorem V9(d:D):aw aA (aw aA d)=aw aA d:=by
 rw[eE];congr 1;funext f;cases f<;>rfl
theorem mD(d:D):aw aA (aw dY d)=aw aA d:=by
 rw[eE];congr 1;funext f;cases f<;>rfl
theorem mH:∀(n:Nat) (d:D),aY n d=true->fi n d=true
 |0,d,h=>by cases d<;>first|rfl|cases h
 |n+1,d,h=>by
  cases d<;>first|rfl | (cases h;done)|skip
  ·obtain⟨m,e,_,h2⟩:=cY h;obtain rfl:n=m:=by left
   exact List.all_eq_true.mpr λx hx=>mH n x (h2 x hx)
  ·obtain⟨m,e,_,h2,_⟩:=fX h;obtain rfl:n=m:=by left
   exact List.all_eq_true.mpr λx hx=>mH n x (h2 x hx)
theorem J3:∀{m:Nat} {d:D},fi m d=true->fi (m+1) d=true:=by
 intro m;induction m with
 |zero=>intro d h;cases d<;>first|rfl|cases h
 |succ m ih =>
  intro d h;cases d<;>first|rfl | (cases h;done)|skip
  ·exact List.all_eq_true.mpr λd hd=>ih (List.all_eq_true.mp h d hd)
  ·exact List.all_eq_true.mpr λd hd=>ih (List.all_eq_true.mp h d hd)
theorem Oi{d:D}(h:aY 8 (aw aA d)=true):fi 8 d=true/\fi 40 d=true:=by
 have h1:fi 8 d=true:=mH 8 d (by rw[ll _ (λf=>by cases f<;>rfl)]at h;exact h);have up:∀k,fi (8+k) d=true:=λk=>by
  induction k with
  |zero=>exact h1
  |succ k ih=>exact J3 ih
 exact⟨h1,up 32⟩
theorem Ot{a b:D}(h:aw aA a=aw aA b)(hd:aY 8 (aw aA a)=true):ic .ne a b=ok (.bl false):=by
 have hb:aY 8 (aw aA b)=true:=h▸hd;rw[QQ (Oi hd).2 (Oi hb).2];have e:ib a b=ib (aw aA a) (aw aA b):=(ui aA aA a b).symm;have r:ib (aw aA a) (aw aA a)=true:=oh 8 _ (mH 8 _ hd);rw[e,<- h,r];rfl
def eu(ns:ae)(f:Fl)(n:Nat)(rs:aL)(g:Fl)(qs:aU)(c3 c4 c5:aO):aZ:=[some (.lst .sc (av ns)),some (vX f n rs),some (.lst g (bD qs)),c3,c4,c5]
theorem Ox(g:Fl->Fl)(ps:aU):ah g (bD ps)=bD ps:=by simp
variable {ρ:aZ}
section
variable {Φ:bg}(T:YW Φ){ns:ae}{n:Nat}{rs:aL}{qs:aU}(I:Dr 6 n rs)(hl:rs.length<=5)(hn:n<=4)(q1:1<=qs.length)(q2:qs.length<=12)(hs:∀q∈qs,Sm 5 q)
theorem Qw(h:r9 (Φ 200)){f:Fl}(k:Nat)(c4 c5:aO):bj Φ (.call 200 [(.v 0),(.v 3)]) (eu ns f n rs g qs (some (.int k)) c4 c5)=ok (.int (d9 ns k)):=by
 show fY (Φ 200) (ok [aw aN (.lst .sc (av ns)),.int k])=_;rw[d_];show t8 (Φ 200 [aw aA (aw aN (.lst .sc (av ns))),.int k])=_;rw[vq aN rfl,vq aA rfl,h ns k (by left)];rfl
theorem Ie{f:Fl}(hf:aA f=.fz){N:Int}{d:D}(h:Φ 252 [mG n rs,.int N]=ok d)(c3 c5:aO):bj Φ (.call 252 [(.v 1),(.v 4)]) (eu ns f n rs g qs c3 (some (.int N)) c5)=ok (aw dY d):=by
 show fY (Φ 252) (ok [aw aN (vX f n rs),.int N])=_;rw[d_];show t8 (Φ 252 [aw aA (aw aN (vX f n rs)),.int N])=_;rw[fS,ku,hf];show t8 (Φ 252 [mG n rs,.int N])=_;rw[h];rfl
theorem Ib{f:Fl}(hg:aA g=.fz){N:Int}{d:D}(h:Φ 257 [.lst .fz (bD qs),.int (N.fdiv 32)]=ok d)(c3 c5:aO):bj Φ (.call 257 [(.v 2),(.bin .fdiv (.v 4) (.int 32))]) (eu ns f n rs g qs c3 (some (.int N)) c5)=ok (aw dY d):=by
 have m4:b0 .fdiv (.int N) (.int 32)=ok (.int (N.fdiv 32)):=uE (by decide) (by decide);rw[jS,bN,bN,i_];show fY (Φ 257) (gm (ok (.lst (aN g) (ah aN (bD qs)))) (gm (b0 .fdiv (.int N) (.int 32)) (ok [])))=_;rw[m4,Ox];show fY (Φ 257) (ok [.lst (aN g) (bD qs),.int (N.fdiv 32)])=_;rw[d_];show t8 (Φ 257 [.lst (aA (aN g)) (ah aA (bD qs)),.int (N.fdiv 32)])=_;have hz:aA (aN g)=.fz:=by
  cases g<;>first|rfl|cases hg
 rw[Ox,hz,h];rfl
theorem Qn(is:aQ){f:Fl}(hf:aA f=.fz)(hg:aA g=.fz)(k N:Int)(x:aO):∃f' g' x',nW is 0 (eu ns f n rs g qs (some (.int k)) (some (.int N)) x)=eu ns f' n rs g' qs (some (.int k)) (some (.int N)) x'/\aA f'=.fz/\aA g'=.fz:=by
 unfold eu;rw[bC,bC,bC,bC,bC,bC,nV];have h:∀(c:Prop) [Decidable c] (d:D),aw aA d=d->(if c then(some d).map (aw aA)else some d)=some d:=λc _ d e=>by
  by_cases hc:c
  ·rw[if_pos hc,Option.map_some,e]
  ·rw[if_neg hc]
 have hd:∀(c:Prop) [Decidable c],∃f',(if c then(some (vX f n rs)).map (aw aA)else some (vX f n rs))=some (vX f' n rs)/\aA f'=.fz:=λc _=>by
  by_cases hc:c
  ·rw[if_pos hc,Option.map_some,ku,hf];exact⟨.fz,rfl,rfl⟩
  ·rw[if_neg hc];exact⟨f,rfl,hf⟩
 have hq:∀(c:Prop) [Decidable c],∃g',(if c then(some (D.lst g (bD qs))).map (aw aA)else some (.lst g (bD qs)))=some (.lst g' (bD qs))/\aA g'=.fz:=λc _=>by
  by_cases hc:c
  ·rw[if_pos hc,Option.map_some,aw,hg,Ox];exact⟨.fz,rfl,rfl⟩
  ·rw[if_neg hc];exact⟨g,rfl,hg⟩
 obtain⟨f',e1,e2⟩:=hd (0+1∈is);obtain⟨g',e3,e4⟩:=hq (0+1+1∈is);rw[h _ _ (vq aA rfl),e1,e3,h _ _ rfl,h _ _ rfl];exact⟨f',g',_,rfl,e2,e4⟩
theorem Q1{f:Fl}(hf:aA f=.fz)(hg:aA g=.fz)(k N:Int)(x:aO){e:CE}{d:D}(hv:US e=false)(he:bj Φ e (eu ns f n rs g qs (some (.int k)) (some (.int N)) x)=ok (aw dY d)):
  ∃f' g' d',i0 Φ (.asg (.nm 5) e) (eu ns f n rs g qs (some (.int k)) (some (.int N)) x)=ok (.nx,eu ns f' n rs g' qs (some (.int k)) (some (.int N)) (some d'))/\aA f'=.fz/\aA g'=.fz/\aw aA d'=aw aA d:=by
 rw[j_,Mv Φ e _ hv,he];cases ha:bo bX (aw dY d)with
 |false=>rw[cU ha];exact⟨f,g,_,rfl,hf,hg,mD d⟩
 |true =>
  rw[iT ha];obtain⟨f',g',x',e',PH,MI⟩:=Qn (ns:=ns) (n:=n) (rs:=rs) (qs:=qs) (jr e) hf hg k N x;rw[e'];exact⟨f',g',_,rfl,PH,MI,by rw[V9,mD]⟩
theorem Ic{f:Fl}(w:Int)(c3 c4:aO){d' x:D}{s:Str}(hx:aw aA d'=x)(h:Φ 253 [.int w,x]=ok (.str s)):bj Φ (.call 253 [(.int w),(.v 5)]) (eu ns f n rs g qs c3 c4 (some d'))=ok (.str s):=by
 show fY (Φ 253) (ok [.int w,aw aN d'])=_;rw[d_];show t8 (Φ 253 [.int w,aw aA (aw aN d')])=_;rw[fS,hx,h];rfl
theorem ne_str(s:Str):ic .ne (.str s) (.str s)=ok (.bl false):=by
 show ok (D.bl (!(s==s)))=_;rw[beq_self_eq_true];rfl
theorem Um{Φ:bg}{a b:CE}(h1:bj Φ a ρ=ok (.bl false))(h2:bj Φ b ρ=ok (.bl false)):bj Φ (.or [a,b]) ρ=ok (.bl false):=by
 show bd (bd (bj Φ a ρ) gG) _=_;rw[h1];show bd (bd (bj Φ b ρ) gG) _=_;rw[h2];rfl
theorem qk{c:CE}{a rest:ao}(h:bj Φ c ρ=ok (.bl false)):bF Φ (.ifs c a []::rest) ρ=bF Φ rest ρ:=by
 rw[bE,yh,h];rfl
include T I hl hn q1 q2 hs in
theorem TK{f:Fl}(hf:aA f=.fz)(hg:aA g=.fz)(k:Nat)(c4 c5:aO):∃f' g' QU L7,bF Φ Nu (eu ns f n rs g qs (some (.int k)) c4 c5)=ok (.nx,eu ns f' n rs g' qs (some (.int k)) QU L7)/\aA f'=.fz/\aA g'=.fz:=by
 have s1:i0 Φ (.asg (.nm 4) (.call 200 [(.v 0),(.v 3)])) (eu ns f n rs g qs (some (.int k)) c4 c5)=ok (.nx,eu ns f n rs g qs (some (.int k)) (some (.int (d9 ns k))) c5):=by
  rw[j_,vF,Qw T.F5,cU rfl];rfl
 generalize d9 ns k=N at *;obtain⟨d,QI,hd,hb⟩:=T.V0 n rs N I hl hn;obtain⟨f1,g1,d1,s2,Yi,zI,z1⟩:=Q1 hf hg k N c5 rfl (Ie hf QI _ _);obtain⟨d2,QH,hd2,hb2⟩:=T.VY qs (N.fdiv 32) q1 q2 hs;obtain⟨r1,_⟩:=T.F4 (aw aA d) hd (V9 d);obtain⟨_,r2⟩:=T.F4 (aw aA d2) hd2 (V9 d2);rw[hb]at r1;rw[hb2]at r2;have c1:bj Φ QT (eu ns f1 n rs g1 qs (some (.int k)) (some (.int N)) (some d1))=ok (.bl false):=by
  refine Um ?_ ?_
  ·rw[pZ,Ic 0 _ _ z1 r1];exact ne_str _
  ·rw[pZ,Ie Yi QI];show ic .ne (aw aN d1) (aw dY d)=_;exact Ot (by rw[fS,mD,z1]) (by rw[fS,z1];exact hd)
 obtain⟨f2,g2,d3,s3,hf2,Sd,z2⟩:=Q1 Yi zI k N (some d1) rfl (Ib zI QH _ _);have c2:bj Φ QS (eu ns f2 n rs g2 qs (some (.int k)) (some (.int N)) (some d3))=ok (.bl false):=by
  refine Um ?_ ?_
  ·rw[pZ,Ic 1 _ _ z2 r2];exact ne_str _
  ·rw[pZ,Ib Sd QH];show ic .ne (aw aN d3) (aw dY d2)=_;exact Ot (by rw[fS,mD,z2]) (by rw[fS,z2];exact hd2)
 refine⟨f2,g2,some (.int N),some d3,?_,hf2,Sd⟩;have e12:bF Φ Jd (eu ns f n rs g qs (some (.int k)) c4 c5)=ok (.nx,eu ns f1 n rs g1 qs (some (.int k)) (some (.int N)) (some d1)):=by
  unfold Jd;rw[bE,s1,bI,bE,s2];rfl
 unfold Nu;rw[zS Φ _ _ _ _ e12,qk c1,bE,s3,bI,qk c2];rfl
include T I hl hn q1 q2 hs in
theorem OJ:∀(ks:aQ) (f g:Fl) (c3 c4 c5:aO),aA f=.fz->aA g=.fz ->
  ∃ρ',fm (λd ρ=>cK (.nm 3) d ρ) (λρ=>bF Φ Nu ρ) (ks.map λ(i:Nat)=>D.int (i:Int)) (eu ns f n rs g qs c3 c4 c5)=ok (.nx,ρ')
 |[],f,g,c3,c4,c5,_,_=>⟨_,rfl⟩
 |k::ks,f,g,c3,c4,c5,hf,hg=>by
  obtain⟨f',g',QU,L7,e,PH,MI⟩:=TK T I hl hn q1 q2 hs (ns:=ns) hf hg k c4 c5;obtain⟨ρ',ih⟩:=OJ ks f' g' (some (.int k)) QU L7 PH MI;refine⟨ρ',?_⟩;rw[List.map_cons];exact lb (ρ1:=eu ns f n rs g qs (some (.int k)) c4 c5) rfl e ih
end
theorem OX{a b:CE}{m n:Int}(h1:bj Φ a ρ=ok (.int m))(h2:bj Φ b ρ=ok (.int n))(hm:0<=m)(MG:m<=1000)(hn:0<=n)(qY:n<=1000):fQ Φ (.lV a b) ρ=ok (((List.range (n - m).toNat).map λ(k:Nat)=>m+(k:Int)).map D.int,ρ):=by
 show bd (bj Φ a ρ) _=_;rw[h1,dv,h2,dv];show(if n<=(ej:Int) /\ -(ej:Int)<=n/\m<=(ej:Int) /\ -(ej:Int)<=m then _ else _)=_;have:(ej:Int)=1000000:=rfl;rw[if_pos (by left),List.map_map];rfl
theorem pz:∀{ls:aB},zu ls->eY ls=true
 |[],_=>rfl
 |[_],_=>rfl
 |a::b::l,h=>by
  obtain⟨h1,h2⟩:=List.pairwise_cons.mp h;show(HT.lexLt a b&&eY (b::l))=true;rw[h1 b (by simp),pz h2];rfl
theorem Gq{n:Nat}{rs:aL}(I:Dr 6 n rs)(hl:rs.length<=5):cj (mG n rs)=true/\aY 8 (mG n rs)=true:=by
 have n1:=I.n1;have n2:=I.n2;constructor
 ·have e:cj (mG n rs)=_:=iY n .fz (br rs);rw[e,uZ,decide_eq_true (by left:1<=(n:Int)),decide_eq_true (by left:(n:Int)<=12),pz I.rise,decide_eq_true (show(gg rs).sum=1 from I.one),List.all_eq_true.mpr,List.all_eq_true.mpr]
  ·rfl
  ·intro d hd;obtain⟨r,hr,rfl⟩:=List.mem_map.mp hd;exact(I.iG r hr).iS
  ·intro d hd;obtain⟨r,hr,rfl⟩:=List.mem_map.mp hd;show(bu (.tup (av r.2)) n&&(bM (qD r.1)&&yB (qD r.1)))=true;have h1:=(I.iG r hr).iS;unfold iS at h1;rw[Bool.and_eq_true]at h1;have p1:yB (qD r.1)=true:=aaG (pG (I.pos r hr));rw[h1.1,xK,p1];rfl
 ·show(decide ((2:Nat)<=16)&&(decide ((n:Int).natAbs<2 ^ 50)&&((true&&(decide ((br rs).length<=16)&&(br rs).all (aY 6)))&&true)))=true;rw[decide_eq_true (by rw[Int.natAbs_natCast];exact Nat.lt_of_le_of_lt n2 (by decide):(n:Int).natAbs<2 ^ 50),decide_eq_true (by rw[fF];left:(br rs).length<=16),List.all_eq_true.mpr]
  ·rfl
  ·intro d hd;obtain⟨r,hr,rfl⟩:=List.mem_map.mp hd;show(decide ((2:Nat)<=16)&&(aY 5 (qD r.1)&&((decide ((av r.2).length<=16)&&(av r.2).all (aY 4))&&true)))=true;have hll:=(I.iG r hr).len;rw[rz (by decide) (I.sm r hr) 4,C5 (λx hx=>by have:=(I.iG r hr).2 x hx;left) 4,decide_eq_true (by simp;left:(av r.2).length<=16)];rfl
theorem yI(q1:1<=qs.length)(q2:qs.length<=12)(hs:∀q∈qs,Sm 5 q):jC (.lst .fz (bD qs))=true/\aY 8 (.lst .fz (bD qs))=true:=by
 constructor
 ·show(decide (1<=(bD qs).length)&&(bD qs).all bM)=true;rw[decide_eq_true (by simpa using q1),List.all_eq_true.mpr]
  ·rfl
  ·intro d hd;obtain⟨q,hq,rfl⟩:=List.mem_map.mp hd;exact xK q
 ·show(true&&(decide ((bD qs).length<=16)&&(bD qs).all (aY 7)))=true;rw[decide_eq_true (by simp;left),List.all_eq_true.mpr]
  ·rfl
  ·intro d hd;obtain⟨q,hq,rfl⟩:=List.mem_map.mp hd;exact rz (by decide) (hs q hq) 6
theorem ON(Φ:bg)(T:YW Φ)(ns:ae):mk Φ 1 6 kO [.lst .sc (av ns)]=ok (.bl true):=by
 have QJ:∀k:Int,0<=k->∀(e:CE) (r:aZ),bj Φ e (some (.lst .sc (av ns))::r)=ok (.int k)->bj Φ (.call 200 [(.v 0),e]) (some (.lst .sc (av ns))::r)=ok (.int (d9 ns k)):=λk hk e r he=>by
  rw[jS,bN,bN,he];show fY (Φ 200) (ok [aw aN (.lst .sc (av ns)),.int k])=_;rw[d_];show t8 (Φ 200 [aw aA (aw aN (.lst .sc (av ns))),.int k])=_;rw[vq aN rfl,vq aA rfl,T.F5 ns k hk];rfl
 obtain⟨n,rs,WE,I,hl,_,hn⟩:=T.V1 (d9 ns 0) 4 (by decide) (by decide);have e1:∀r,bj Φ (.call 212 [(.call 200 [(.v 0),(.int 0)]),(.int 4)]) (some (.lst .sc (av ns))::r)=ok (vX .ow n rs):=λr=>by
  rw[jS,bN,QJ 0 (by decide) (.int 0) r rfl];show t8 (Φ 212 [.int (d9 ns 0),.int ((4:Nat):Int)])=_;rw[WE,Cy];exact aaW ok (ku dY .ow n rs)
 have s1:i0 Φ (.asg (.nm 1) (.call 212 [(.call 200 [(.v 0),(.int 0)]),(.int 4)])) [some (.lst .sc (av ns)),none,none,none,none,none]=ok (.nx,[some (.lst .sc (av ns)),some (vX .ow n rs),none,none,none,none]):=by
  rw[j_,vF,e1,cU (by show(false||(false||a_ bX (br rs)||false))=false;rw[Cb];rfl)];rfl
 obtain⟨g1,g2⟩:=dZ (d9 ns 2) (b:=4) (by decide);obtain⟨m,hm⟩:∃m:Nat,1+(d9 ns 2).fmod 4=(m:Int):=⟨(1+(d9 ns 2).fmod 4).toNat,by left⟩
 obtain⟨qs,WD,X3,hs⟩:=T.VZ ns 1 m (by decide) (by left);have q1:1<=qs.length:=by left
 have q2:qs.length<=12:=by left
 have em:bj Φ (.bin .add (.int 1) (.bin .mod (.call 200 [(.v 0),(.int 2)]) (.int 4))) [some (.lst .sc (av ns)),some (vX .ow n rs),none,none,none,none]=ok (.int m):=by
  have b1:b0 .mod (.int (d9 ns 2)) (.int 4)=ok (.int ((d9 ns 2).fmod 4)):=uD (by decide);rw[i_,i_,QJ 2 (by decide) (.int 2) _ rfl];show L9 .add (ok (.int 1)) (b0 .mod (.int (d9 ns 2)) (.int 4))=_;rw[b1];show ok (D.int (1+(d9 ns 2).fmod 4))=_;rw[hm]
 have e2:bj Φ (.call 256 [(.v 0),(.int 1),(.bin .add (.int 1) (.bin .mod (.call 200 [(.v 0),(.int 2)]) (.int 4)))]) [some (.lst .sc (av ns)),some (vX .ow n rs),none,none,none,none]=ok (.lst .ow (bD qs)):=by
  rw[jS,bN,bN,bN,em];show fY (Φ 256) (ok [aw aN (.lst .sc (av ns)),.int 1,.int m])=_;rw[d_];show t8 (Φ 256 [aw aA (aw aN (.lst .sc (av ns))),.int 1,.int m])=_;rw[vq aN rfl,vq aA rfl,WD,Cy];show ok (D.lst .ow (ah dY (bD qs)))=_;rw[Ox]
 have s2:i0 Φ (.asg (.nm 2) (.call 256 [(.v 0),(.int 1),(.bin .add (.int 1) (.bin .mod (.call 200 [(.v 0),(.int 2)]) (.int 4)))])) [some (.lst .sc (av ns)),some (vX .ow n rs),none,none,none,none]=ok (.nx,eu ns .ow n rs .ow qs none none none):=by
  rw[j_,vF,e2,cU (by simp)];rfl
 obtain⟨gd,dd⟩:=Gq I hl;obtain⟨lg,ld⟩:=yI q1 q2 hs;obtain⟨r1,_⟩:=T.F4 (mG n rs) dd (by simp[mG]);obtain⟨_,r2⟩:=T.F4 (.lst .fz (bD qs)) ld (by simp);rw[gd]at r1;rw[lg]at r2;have c1:bj Φ (.or [(.cmp .ne (.call 253 [(.int 0),(.v 1)]) (.str "told")),(.cmp .ne (.call 253 [(.int 1),(.v 2)]) (.str "told"))]) (eu ns .ow n rs .ow qs none none none)=ok (.bl false):=by
  refine Um ?_ ?_
  ·have:bj Φ (.call 253 [(.int 0),(.v 1)]) (eu ns .ow n rs .ow qs none none none)=ok (.str "told"):=by
    show fY (Φ 253) (ok [.int 0,aw aN (vX .ow n rs)])=_;rw[d_];show t8 (Φ 253 [.int 0,aw aA (aw aN (vX .ow n rs))])=_;rw[fS,ku];show t8 (Φ 253 [.int 0,mG n rs])=_;rw[r1];rfl
   rw[pZ,this];exact ne_str _
  ·have:bj Φ (.call 253 [(.int 1),(.v 2)]) (eu ns .ow n rs .ow qs none none none)=ok (.str "told"):=by
    show fY (Φ 253) (ok [.int 1,aw aN (.lst .ow (bD qs))])=_;rw[d_];show t8 (Φ 253 [.int 1,aw aA (aw aN (.lst .ow (bD qs)))])=_;rw[fS];show t8 (Φ 253 [.int 1,.lst .fz (ah aA (bD qs))])=_;rw[Ox,r2];rfl
   rw[pZ,this];exact ne_str _
 obtain⟨M,hM,h6,Sh⟩:∃M:Int,bj Φ (.bf .max2 [(.int 6),(.bf .min2 [(.int 16),(.bf .len [(.v 0)])])]) (eu ns .ow n rs .ow qs none none none)=ok (.int M)/\6<=M/\M<=16:=by
  have l0:bj Φ (.bf .len [(.v 0)]) (eu ns .ow n rs .ow qs none none none)=ok (.int ns.length):=by
   show rQ .len [.lst (aN .sc) (ah aN (av ns))]=_;show ok (D.int ((ah aN (av ns)).length:Nat))=_;rw[cz];simp
  refine⟨if (if (ns.length:Int)<16 then(ns.length:Int)else 16)>6 then(if (ns.length:Int)<16 then(ns.length:Int)else 16)else 6,?_,by split<;>left,by split<;>split<;>left⟩;rw[CW,bN,bN,CW,bN,bN,l0];rfl
 have hit:=OX (Φ:=Φ) (a:=.int 3) (b:=.bf .max2 [(.int 6),(.bf .min2 [(.int 16),(.bf .len [(.v 0)])])]) (ρ:=eu ns .ow n rs .ow qs none none none) (m:=3) (n:=M) rfl hM (by decide) (by decide) (by left) (by left);have ek:((List.range (M - 3).toNat).map λ(k:Nat)=>(3:Int)+(k:Int)).map D.int=((List.range (M - 3).toNat).map λk=>3+k).map λ(i:Nat)=>D.int (i:Int):=by
  rw[List.map_map,List.map_map];refine aau λk _=>?_;show D.int (3+(k:Int))=D.int ((3+k:Nat):Int);congr 1
 rw[ek]at hit;obtain⟨ρ',el⟩:=OJ T I hl hn q1 q2 hs (ns:=ns) ((List.range (M - 3).toNat).map λk=>3+k) .ow .ow none none none rfl rfl;have hf:=mP (Φ:=Φ) (t:=.nm 3) (b:=Nu) hit el;rw[mk_eq (ar:=1) (ds:=[.lst .sc (av ns)]) rfl];show lj (bF Φ kO [some (.lst .sc (av ns)),none,none,none,none,none])=_;unfold kO;rw[bE,s1,bI,bE,s2,bI,qk c1,bE,hf,bI];rfl
end DI
end
namespace PySem.W.Fast
def tw14765159309361217268:=0
def tw9074853408049451242:=0
def tw10029154993919244180:=0
def tw3659306813457329043:=0
def tw5125217829189781571:=0
def tw2092704582536692974:=0
def tw5930062820068250501:=0
def tw3417413996951143092:=0
def tw11321446508265702452:=0
def tw14167709213549287633:=0
def tw2558003819029719189:=0
def tw1716242133965347491:=0
def tw10104630051390523577:=0
def tw4686903889233068616:=0
def tw4298584355009294569:=0
def tw4761722808230526003:=0
def tw14960300390805172865:=0
def tw12654488042500936693:=0
def tw5868987766146551686:=0
def tw17377386186530929221:=0
def tw8549518579954800215:=0
def tw18236646416528189889:=0
def tw14995381566694979851:=0
def tw8229116070685912809:=0
def tw13174475356663934219:=0
def tw11181187654407242750:=0
def tw12059454123311480913:=0
def tw1134302137485939885:=0
def tw17541772640875393909:=0
def tw17310404825132236918:=0
def tw802556207309157727:=0
def tw8309637971119139769:=0
def tw3799284734442569816:=0
def tw11031661661027335664:=0
def tw2619583129513311852:=0
def tw637191426895623383:=0
def tw7158595779869963299:=0
def tw11910262512020218090:=0
def tw9906101608807264864:=0
def tw7226934649720966419:=0
def tw11997332848042885390:=0
def tw11857784730828816881:=0
def tw1704230754239704859:=0
def tw6577218278741764749:=0
def tw7512433663101686785:=0
def tw8866068510324105002:=0
def tw4830601003757626858:=0
def tw8461323212179221867:=0
def tw17281167991414859737:=0
def tw5816086196427782890:=0
def tw9038350119353986124:=0
def tw7240762473927278520:=0
def tw9873897987663041540:=0
def tw10406889531701236049:=0
def tw7054284296230124751:=0
def tw11987740980648049905:=0
def tw15437742090096957515:=0
def tw2492286613918480118:=0
def tw684675120149242551:=0
def tw14888361492974927548:=0
def tw8023836584772334954:=0
def tw9788524528811470636:=0
def tw5483845158438800332:=0
def tw1355870039003396047:=0
def tw6366930214770926167:=0
def tw7124801434887740949:=0
def tw16103591798262132006:=0
def tw7298076259248643792:=0
def tw6668182513065231955:=0
def tw15318678926077690520:=0
def tw13621930267021375612:=0
def tw12630266826587817232:=0
def tw11937032864625974286:=0
def tw15683442184118465954:=0
def tw14253716478845515952:=0
def tw1589112212082231696:=0
def tw14882776500227976018:=0
def tw4966040981439661982:=0
def tw15983988472959538859:=0
def tw1932452239014847759:=0
def tw11281585494053066824:=0
def tw6793938266814050453:=0
def tw9549119355744898046:=0
def tw6289615684158359956:=0
def tw10498236936456238822:=0
def tw2144840463572286857:=0
def tw11966437032637467544:=0
def tw7201649785761531279:=0
def tw5924694980291315190:=0
def tw17420240654446045865:=0
def tw5308921537577769058:=0
def tw17100086414315294032:=0
def tw13306377210713670622:=0
def tw11287931104634343294:=0
def tw11743250904791016478:=0
def tw14341763403051928428:=0
def tw6564552218110806879:=0
def tw6238678836143086835:=0
def tw1145662168433244228:=0
def tw5329773006847936192:=0
def tw14974474184369239312:=0
def tw11092427466962456150:=0
def tw2651551947061618729:=0
def tw18017874314919798980:=0
def tw8697540077787036781:=0
def tw2757499927566720656:=0
def tw1419169871535690254:=0
def tw7472877085472119639:=0
def tw12422074807395680313:=0
def tw4598700222109329646:=0
def tw3479138341836775538:=0
def tw13266372121851494574:=0
def tw10392032837667441310:=0
def tw5328383979442703773:=0
def tw4620305599434362750:=0
def tw17048938622531033651:=0
def tw17485076132688009520:=0
def tw15802216969886858462:=0
def tw6261255544674260256:=0
def tw16522251487211723619:=0
def tw8645302971791047674:=0
def tw11129202358396887018:=0
def tw8849341699270029565:=0
def tw138688211533277863:=0
def tw4915967823780860796:=0
def tw11284819912253022654:=0
def tw4000902117781271712:=0
def tw10854843529064622750:=0
def tw5694476213045413990:=0
def tw17383290697118173999:=0
def tw11498096497784252863:=0
def tw3820909190726634468:=0
def tw588245771417923840:=0
def tw15310300766372654669:=0
def tw16250145021881219756:=0
def tw16950770146513285115:=0
def tw17019462674585860547:=0
def tw11610798265897848601:=0
def tw1323698708389381333:=0
def tw13591124002080562473:=0
def tw16874862088279657462:=0
def tw17027727767456752278:=0
def tw7558987030231304245:=0
def tw948720817145218497:=0
def tw10491701612927905572:=0
def tw13810600232527129422:=0
def tw12198537818281732880:=0
def tw224746338877873753:=0
def tw16264633560290821312:=0
def tw17949730108834255314:=0
def tw7662529932922371829:=0
def tw17002225598674620898:=0
def tw9632970808892150272:=0
def tw3147699605486147655:=0
def tw14925356944807041670:=0
def tw17261076982299174480:=0
def tw10211099974362372112:=0
def tw5980773864482487809:=0
def tw14175965651027055753:=0
def tw16333337691145857383:=0
def tw14496836027559737511:=0
def tw15299625206069771395:=0
def tw3158430754046993732:=0
def tw12910988205585501150:=0
def tw12112014560960193007:=0
def tw12425619338311924906:=0
def tw4714136951118371763:=0
def tw17932404992372783353:=0
def tw17237538134223841018:=0
def tw5413029121782621510:=0
def tw16293775943525576691:=0
def tw3856554709026014402:=0
def tw16703644096258885776:=0
def tw7817745459603593538:=0
def tw4535324102995890847:=0
def tw14238478978156437707:=0
def tw641003420778670495:=0
def tw4192399822511028743:=0
def tw15929505295126398726:=0
def tw2550729113218417834:=0
end PySem.W.Fast
namespace Asm
open PySem PySem.Spec PyProof.Rows L2 DI
noncomputable def top(i:Nat):Stmt:=PySem.Challenge.pw_sharesample_k56_nothing_to_show.main.body.getD i (.Pass ⟨0,0,0,0⟩)
def px:Px:=⟨λn sc bl e=>if n=1020 then lq true sc bl e else if n=1021 then lq false sc bl e else if n=1022 then Dj sc bl e else if n=1030 then rG sc bl e else if n=1032 then wg sc bl e else if n=1035 then jW "sorted" sc bl e else if n=1038 then xT sc bl e else if n=1040 then Dh sc bl e else if n=1083 then lq true sc bl e else if n=1090 then jW "str" sc bl e else if n=1091 then rE sc bl e else if n=1092 then wj sc bl e else none,λn sc bl e=>if n=1000 then ox sc bl e else none,λn sc bl e=>if n=1033 then rF sc bl e else none⟩
noncomputable def PT:bg
 |1000=>D4
 |1020=>(cutD true)
 |1021=>(cutD false)
 |1022=>MO
 |1030=>um
 |1032=>vZ
 |1033=>oj
 |1035=>jU
 |1038=>Mn
 |1040=>OI
 |1083=>uq
 |1090=>yq
 |1091=>tT
 |1092=>uz
 |_=>λ_=>none
theorem pr(F:bg)(i:Nat)(m:aI):mf px (xm PT F i m)/\DG px (xm PT F i m):=⟨⟨(λX sc bl k L p e args he F cs hs=>zD he (λhe=>C7 rfl L he hs) λhe=>zD he (λhe=>C7 rfl L he hs) λhe=>zD he (λhe=>Qj rfl L he hs) λhe=>zD he (λhe=>Gu rfl L he hs) λhe=>zD he (λhe=>LX rfl L he hs) λhe=>zD he (λhe=>C1 rfl L he hs) λhe=>zD he (λhe=>Ny rfl L he hs) λhe=>zD he (λhe=>OH rfl L he hs) λhe=>zD he (λhe=>Gy rfl L he hs) λhe=>zD he (λhe=>Jh rfl L he hs) λhe=>zD he (λhe=>FF rfl L he hs) λhe=>zD he (λhe=>GI rfl L he hs) λhe=>nomatch he),(λX sc bl k L p e args he F cs tg ht hs pins s σ H R τ ρ xs d items I Si cD ed ei Rr hR=>by
  dsimp only[px]at he;by_cases hp:p=1000
  ·subst hp;rw[if_pos rfl]at he;exact ID rfl L he ht hs I Si cD ed ei Rr hR
  rw[if_neg hp]at he;clear hp;cases he)⟩,⟨(λX sc bl k L hN xB p st x pos args he i hi hl pe F cs hs=>ifM he (λhe=>Gs rfl L hN xB he hi hl pe hs) λhe=>nomatch he)⟩⟩
noncomputable def xt(F:bg)(i a b:Nat)(c:ao):bg:=xm PT F i (mk F a b c)
noncomputable def BL:ag:=["ValueError","abs","all","bool","int","isinstance","len","list","max","min","range","set","sorted","str","sum","tuple","zip"]
noncomputable def CC:List (Str×GK):=[("MOST_HOUSES",GK.i 12)]
noncomputable def gc:bg:=xm PT PT 0 λ_=>none
noncomputable def j4:bg:=xt gc 257 2 4 (oz)
noncomputable def jZ:bg:=xt j4 200 2 4 (fq)
noncomputable def gE:bg:=xt jZ 201 2 4 (kN)
noncomputable def f_:bg:=xt gE 212 2 8 (GS)
noncomputable def fC:bg:=xt f_ 255 1 2 (GU)
noncomputable def uO:bg:=xt fC 256 3 6 (xY)
noncomputable def j5:bg:=xm PT uO 210 λ_=>none
noncomputable def iy:bg:=xt j5 0 1 1 (ie)
noncomputable def eO:bg:=xt iy 43 2 2 (dj)
noncomputable def gF:bg:=xt eO 1 2 3 (di)
noncomputable def oE:bg:=xt gF 3 1 1 (b7)
noncomputable def jg:bg:=xt oE 12 2 2 (fg)
noncomputable def fD:bg:=xt jg 44 1 3 (ff)
noncomputable def je:bg:=xt fD 9 1 3 (cM)
noncomputable def f9:bg:=xt je 10 2 2 (gn)
noncomputable def gD:bg:=xt f9 14 1 4 (js)
noncomputable def j6:bg:=xt gD 15 1 2 (eU)
noncomputable def oF:bg:=xt j6 45 1 4 (cc)
noncomputable def iw:bg:=xt oF 11 2 2 (gW)
noncomputable def cO:bg:=xt iw 16 1 1 (eh)
noncomputable def eN:bg:=xt cO 17 1 1 (bH)
noncomputable def jf:bg:=xt eN 111 1 1 (uC)
noncomputable def cN:bg:=xt jf 112 1 1 (rR)
noncomputable def fE:bg:=xt cN 113 1 1 (lL)
noncomputable def de:bg:=xt fE 40 2 2 (cw)
noncomputable def dk:bg:=xt de 47 2 2 (gp 40 4)
noncomputable def dB:bg:=xt dk 114 1 1 (c_)
noncomputable def iu:bg:=xm PT dB 253 (qC dB)
noncomputable def DN:bg:=xt iu 252 2 7 (jc)
def t0:=vj j5
def t1:=kW eO
def t3:=oS gF t0 t1
def Xh:=lU fE t3
def t9:=lT fD t1
def ZA:=sW je
def Xg:=qx iy t0
def Zz:=Az oF Xg
def Zy:=Jz oE t3 Xg
def Zu:=EE jg rfl rfl rfl
def Zx:=yx f9 t9 ZA rfl
def Zw:=Jy gD Zx
def Zt:=AA j6 t0 Zy Zw Zu
def Xi:=EG iw Zz Zt
def Zv:=NR cO Xi
theorem Zs:r6 4 l_ (dk 47):=EH de (f:=40) qi Xh
def Nx:=NO eN ⟨rfl,rfl,rfl⟩
def TC:=NN jf ⟨rfl,rfl,rfl⟩ Nx
def TB:=NP cN ⟨rfl,rfl,rfl⟩ Zv TC
def Tz:=ED dk ⟨rfl,rfl,rfl⟩ Zs Nx
def Nw:=JB j4
def Nv:=EF jZ
def Tx:=TV gE ⟨rfl,rfl,rfl,rfl⟩ Nv rfl
def Tt:=TX f_ Nv
def Ts:=NQ fC Nw Tt
def Tv:=Ay iu rfl rfl rfl
def Tr:=JC gc rfl rfl
def Tu:=JA dB TB Tz
theorem yJ:∀ns:ae,(mk DN 1 6 (kO)) [.lst .sc (av ns)]=ok (.bl true):=ON DN ⟨Nw,Tx,Tv,Tu,Ts,Tr⟩
noncomputable def DK:List (Str×Bool):=[("ShareError",true),("NoBottom",false),("NoDrawing",true),("NoShares",false),("NoWeights",false),("NoWorths",false),("NoSize",false),("NoPair",false),("NoLot",false),("NoGuess",false),("NoGroups",false),("TooMany",false),("NoText",false),("NoLine",false)]
theorem Mc:WR (aE (top 48)) "_law_error" "_law_told" DK=true:=by decide +kernel
theorem L4:SS (top 48) "_law_error" "_law_told" DK [false,true,false] [false,false,false] [false,false,false] [false,false,false] [false]:=.mk rfl (by decide +kernel)
noncomputable def DJ:List (Str×Bool):=[("ShareError",true),("NoBottom",false),("NoDrawing",false),("NoShares",false),("NoWeights",false),("NoWorths",true),("NoSize",false),("NoPair",false),("NoLot",false),("NoGuess",false),("NoGroups",false),("TooMany",false),("NoText",false),("NoLine",false)]
theorem Mb:WR (aE (top 48)) "_law_error" "_law_told" DJ=true:=by decide +kernel
theorem L3:SS (top 48) "_law_error" "_law_told" DJ [false,false,false] [false,false,false] [false,false,false] [false,false,true] [false]:=.mk rfl (by decide +kernel)
theorem jI:wC (gz (aE (top 32)) "NoDrawing" && !(("NoDrawing" : Str)==("__debug__" : Str))) 1 "NoDrawing" (bH) (bw (top 32))=true:=by decide +kernel
theorem gU:GF (top 32) ["thing"] (List.take 1 ["thing"]) [(16,"is_drawing")] BL CC px (bH)=true:=by decide +kernel
theorem jH:wC (gz (aE (top 38)) "NoDrawing" && !(("NoDrawing" : Str)==("__debug__" : Str))) 1 "NoDrawing" (lL) (bw (top 38))=true:=by decide +kernel
theorem gS:GF (top 38) ["drawing"] (List.take 1 ["drawing"]) [(17,"check_drawing"),(112,"shown_row")] BL CC px (lL)=true:=by decide +kernel
theorem j9:wC (gz (aE (top 34)) "NoWorths" && !(("NoWorths" : Str)==("__debug__" : Str))) 4 "NoWorths" (gp 40 4) (bw (top 34))=true:=by decide +kernel
theorem iE:GF (top 34) ["thing","many"] (List.take 2 ["thing","many"]) [(40,"are_fractions")] BL CC px (gp 40 4)=true:=by decide +kernel
theorem lO:wC (gz (aE (top 39)) "NoWorths" && !(("NoWorths" : Str)==("__debug__" : Str))) 4 "NoWorths" (c_) (bw (top 39))=true:=by decide +kernel
theorem jF:GF (top 39) ["some"] (List.take 1 ["some"]) [(47,"check_worths"),(111,"shown_fraction")] BL CC px (c_)=true:=by decide +kernel
theorem nU:Ql ["_law_word","_law_thing","_law_told","_law_error","e"] ["_law_word","_law_thing"] (aE (top 50))=true:=by decide +kernel
theorem ou:∃ey pa pb pl pw pp pc pe h0 h1 j0 j1 j2 j3 a1 a2 a3 b1 b2 b3 pos c1 c2 c3 c4 c5 c6 c7 c8 c9 DX DW d1 d2,(bw (top 50)=NH "_law_told" "_law_error" "_law_alone" "told" "none of these" (Qr "shown_drawing" "shown_list" (.Name "_law_word" pw) ey pa pb pl pp pc pe) [h0,h1] j0 j1 j2 j3 a1 a2 a3 b1 b2 b3 pos c1 c2 c3 c4 c5 c6 c7 c8 c9 DX DW d1 d2/\(RS (aE (top 50)) ["_law_word","_law_thing","_law_told","_law_error","e"] "e" "_law_told" "_law_error" "_law_alone" 4 2 3&&MR ⟨aE (top 50),["_law_word","_law_thing","_law_told","_law_error","e"],λn=>List.lookup n [(113,"shown_drawing"),(114,"shown_list")],BL,CC,px⟩ "shown_drawing" "shown_list" (.Name "_law_word" pw) ey 113 114)=true)/\G8 "e" "_law_told" "_law_error" h0=some (("NoDrawing" : Str),("drawing" : Str))/\G8 "e" "_law_told" "_law_error" h1=some (("NoWorths" : Str),("worths" : Str)):=⟨_,_,_,_,_,_,_,_,_,_,_,_,_,_,_,_,_,_,_,_,_,_,_,_,_,_,_,_,_,_,_,_,_,_,⟨rfl,by decide +kernel⟩,rfl,rfl⟩
theorem L0:GF (top 52) ["_law_script","_law_drawing_here","_law_some","_law_k","_law_number","_law_thing"] ["_law_script"] [(200,"_law_cell"),(212,"_law_drawing"),(252,"_law_spoilt"),(253,"_law_refusal"),(256,"_law_fractions"),(257,"_law_bad_list")] BL CC px (kO)=true:=by decide +kernel
theorem all_mk{l:PySem.W.OpenLaw}{w:World}{K:aq}{h:Heap}{mg:aR}{fa g0 g1 g2 g3 g4 g5 g6 g7 g8 g9 V8 V7 V6 V5:Addr}{Xa:Value}(X:K.In h)(G:h.Ns mainGlobals mg)(hfa:mg "law" = some (.ref fa))
  (a0:Df K "_law_bad_list" (top 51))
  (a1:Df K "_law_cell" (top 41))
  (a2:Df K "_law_frac" (top 42))
  (a3:Df K "_law_drawing" (top 45))
  (a4:Df K "_law_fraction" (top 46))
  (a5:Df K "_law_fractions" (top 47))
  (a6:Df K "_law_alone" (top 48))
  (a7:Df K "is_whole" (top 16))
  (a8:Df K "are_houses" (top 24))
  (a9:Df K "common_divisor" (top 17))
  (a10:Df K "is_fraction" (top 18))
  (a11:Df K "is_row" (top 26))
  (a12:Df K "rows_rise" (top 27))
  (a13:Df K "common_bottom" (top 20))
  (a14:Df K "tops_over" (top 21))
  (a15:Df K "weighed_lots" (top 28))
  (a16:Df K "sums_to_one" (top 29))
  (a17:Df K "is_drawn" (top 30))
  (a18:Df K "is_lot" (top 25))
  (a19:Df K "is_drawing" (top 31))
  (a20:Df K "check_drawing" (top 32))
  (a21:Df K "shown_fraction" (top 36))
  (a22:Df K "shown_row" (top 37))
  (a23:Df K "shown_drawing" (top 38))
  (a24:Df K "are_fractions" (top 19))
  (a25:Df K "check_worths" (top 34))
  (a26:Df K "shown_list" (top 39))
  (a27:Df K "_law_refusal" (top 50))
  (a28:Df K "_law_spoilt" (top 49))
  (a29:Df K "law" (top 52))
  (z:bO (λy=>PySem.W.nsIn K mainGlobals y=some none) BL)
  (q0:PySem.W.nsIn K mainGlobals "MOST_HOUSES" = some (some Xa)) (r0:RelV (.int 12) Xa)
  (e0:PySem.W.nsIn K mainGlobals "ShareError" = some (some (.ref g0)))
  (e1:PySem.W.nsIn K mainGlobals "NoBottom" = some (some (.ref g1)))
  (e2:PySem.W.nsIn K mainGlobals "NoDrawing" = some (some (.ref g2)))
  (e3:PySem.W.nsIn K mainGlobals "NoShares" = some (some (.ref g3)))
  (e4:PySem.W.nsIn K mainGlobals "NoWeights" = some (some (.ref g4)))
  (e5:PySem.W.nsIn K mainGlobals "NoWorths" = some (some (.ref g5)))
  (e6:PySem.W.nsIn K mainGlobals "NoSize" = some (some (.ref g6)))
  (e7:PySem.W.nsIn K mainGlobals "NoPair" = some (some (.ref g7)))
  (e8:PySem.W.nsIn K mainGlobals "NoLot" = some (some (.ref g8)))
  (e9:PySem.W.nsIn K mainGlobals "NoGuess" = some (some (.ref g9)))
  (e10:PySem.W.nsIn K mainGlobals "NoGroups" = some (some (.ref V8)))
  (e11:PySem.W.nsIn K mainGlobals "TooMany" = some (some (.ref V7)))
  (e12:PySem.W.nsIn K mainGlobals "NoText" = some (some (.ref V6)))
  (e13:PySem.W.nsIn K mainGlobals "NoLine" = some (some (.ref V5)))
  (v1_0:PySem.W.kitOne K (.ref g2) (.ref g0)=some true) (v1_1:PySem.W.kitOne K (.ref g2) (.ref g1)=some false) (v1_2:PySem.W.kitOne K (.ref g2) (.ref g2)=some true) (v1_3:PySem.W.kitOne K (.ref g2) (.ref g3)=some false) (v1_4:PySem.W.kitOne K (.ref g2) (.ref g4)=some false) (v1_5:PySem.W.kitOne K (.ref g2) (.ref g5)=some false) (v1_6:PySem.W.kitOne K (.ref g2) (.ref g6)=some false) (v1_7:PySem.W.kitOne K (.ref g2) (.ref g7)=some false) (v1_8:PySem.W.kitOne K (.ref g2) (.ref g8)=some false) (v1_9:PySem.W.kitOne K (.ref g2) (.ref g9)=some false) (v1_10:PySem.W.kitOne K (.ref g2) (.ref V8)=some false) (v1_11:PySem.W.kitOne K (.ref g2) (.ref V7)=some false) (v1_12:PySem.W.kitOne K (.ref g2) (.ref V6)=some false) (v1_13:PySem.W.kitOne K (.ref g2) (.ref V5)=some false)
  (vv1:PySem.W.kitOne K (.ref g2) (.type "ValueError")=some true) (xx1:PySem.W.excIn K g2 IM "ValueError.__new__" = true)
  (w1_1:PySem.W.findIn K (.ref g2) "__getattribute__" = some (some (.builtin "BaseException.__getattribute__"))) (w2_1:PySem.W.findIn K (.ref g2) "__getattr__" = some none) (w3_1:PySem.W.findIn K (.ref g2) "__class__" = some (some (.builtin "object.__class__"))) (w4_1:PySem.W.mroIn K g2 (.type "BaseException")=some true) (w5_1:PySem.W.mroIn K g2 (.type "object")=some true)
  (v4_0:PySem.W.kitOne K (.ref g5) (.ref g0)=some true) (v4_1:PySem.W.kitOne K (.ref g5) (.ref g1)=some false) (v4_2:PySem.W.kitOne K (.ref g5) (.ref g2)=some false) (v4_3:PySem.W.kitOne K (.ref g5) (.ref g3)=some false) (v4_4:PySem.W.kitOne K (.ref g5) (.ref g4)=some false) (v4_5:PySem.W.kitOne K (.ref g5) (.ref g5)=some true) (v4_6:PySem.W.kitOne K (.ref g5) (.ref g6)=some false) (v4_7:PySem.W.kitOne K (.ref g5) (.ref g7)=some false) (v4_8:PySem.W.kitOne K (.ref g5) (.ref g8)=some false) (v4_9:PySem.W.kitOne K (.ref g5) (.ref g9)=some false) (v4_10:PySem.W.kitOne K (.ref g5) (.ref V8)=some false) (v4_11:PySem.W.kitOne K (.ref g5) (.ref V7)=some false) (v4_12:PySem.W.kitOne K (.ref g5) (.ref V6)=some false) (v4_13:PySem.W.kitOne K (.ref g5) (.ref V5)=some false)
  (vv4:PySem.W.kitOne K (.ref g5) (.type "ValueError")=some true) (xx4:PySem.W.excIn K g5 IM "ValueError.__new__" = true)
  (w1_4:PySem.W.findIn K (.ref g5) "__getattribute__" = some (some (.builtin "BaseException.__getattribute__"))) (w2_4:PySem.W.findIn K (.ref g5) "__getattr__" = some none) (w3_4:PySem.W.findIn K (.ref g5) "__class__" = some (some (.builtin "object.__class__"))) (w4_4:PySem.W.mroIn K g5 (.type "BaseException")=some true) (w5_4:PySem.W.mroIn K g5 (.type "object")=some true)
  (m1_0:PySem.W.mroIn K g5 (.ref g2)=some false) :
  ∃fd:FuncData,(∀(s:Shared) (v:Value),BindsTo s fd ⟨[v],[]⟩ [("_law_script",v)])/\∀base:Heap,K.In base->base.Ns mainGlobals mg->fB l.prog w K mg base so 31 fa fd ["_law_script"] (Ak K 1 qR):=by
 obtain⟨f,fd,Fu,a⟩:=a29;have e:=hfa.symm.trans (aa8 X G a);cases e;obtain⟨oc,od,kV,dc,pm,an,cd,ct,sl,rfl,_,_⟩:=id Fu.ex;have Y:=bO.nn X G z;have x0:∃u,mg "MOST_HOUSES" = some u/\wz K (GK.i 12) u:=⟨_,aa8 X G q0,r0⟩
 refine⟨PySem.W.fnOf "law" "law" (d7 (top 52)) (bw (top 52)) (aE (top 52)) .none kV dc pm an cd ct,λs v=>.of_eq rfl,λbase KB GB=>?_⟩;have N:=@en7 l.prog w K h base mg BL CC px PT X G pr Y ⟨x0,fI⟩;have Y8:XC K g2:=⟨w1_1,w2_1,w3_1,w4_1,w5_1,by
  unfold PySem.W.mroIn at w5_1;cases q:PySem.W.clsIn K g2 with
  |none=>rw[q]at w5_1;cases w5_1
  |some _=>rfl⟩
 have O1:oB "NoDrawing" g2 mg base:=xg KB GB e2 xx1;have Y7:XC K g5:=⟨w1_4,w2_4,w3_4,w4_4,w5_4,by
  unfold PySem.W.mroIn at w5_4;cases q:PySem.W.clsIn K g5 with
  |none=>rw[q]at w5_4;cases w5_4
  |some _=>rfl⟩
 have O4:oB "NoWorths" g5 mg base:=xg KB GB e5 xx4;have Uc:sg g5 g2 false base:=yC KB xx4 m1_0;have E0:=N 1 gc a0 ["_law_good","_law_number","_law_at","_law_some"] 2 [] (oz) fI;have E1:=N 2 j4 a1 ["_law_script","_law_k","_law_cell_here","_law_number"] 2 [] (fq) fI;have E2:=N 3 jZ a2 ["_law_top","_law_bottom","_law_one","_law_other"] 2 [] (kN) fI;have E3:=N 4 gE a3 ["_law_number","_law_most","_law_many","_law_count","_law_weights","_law_k","_law_lot","_law_whole"] 2 [(201,"_law_frac")] (GS) ⟨E2.u,fI⟩;have E4:=N 5 f_ a4 ["_law_number","_law_bottom"] 1 [(201,"_law_frac")] (GU) ⟨E2.u,fI⟩;have E5:=N 6 fC a5 ["_law_script","_law_at","_law_many","_law_found","_law_number","_law_k"] 3 [(200,"_law_cell"),(255,"_law_fraction")] (xY) ⟨E1.u,E4.u,fI⟩;have Rg:=QC (P:=l.prog) (w:=w) (base:=base) X G (l:=DK) Y8 7 a6 ⟨⟨_,e0,v1_0⟩,⟨_,e1,v1_1⟩,⟨_,e2,v1_2⟩,⟨_,e3,v1_3⟩,⟨_,e4,v1_4⟩,⟨_,e5,v1_5⟩,⟨_,e6,v1_6⟩,⟨_,e7,v1_7⟩,⟨_,e8,v1_8⟩,⟨_,e9,v1_9⟩,⟨_,e10,v1_10⟩,⟨_,e11,v1_11⟩,⟨_,e12,v1_12⟩,⟨_,e13,v1_13⟩,fI⟩ vv1 (Y.mem _ (by decide)) (Y.mem _ (by decide)) (Y.mem _ (by decide)) Mc L4 (by decide) rfl;have W6:=QC (P:=l.prog) (w:=w) (base:=base) X G (l:=DJ) Y7 7 a6 ⟨⟨_,e0,v4_0⟩,⟨_,e1,v4_1⟩,⟨_,e2,v4_2⟩,⟨_,e3,v4_3⟩,⟨_,e4,v4_4⟩,⟨_,e5,v4_5⟩,⟨_,e6,v4_6⟩,⟨_,e7,v4_7⟩,⟨_,e8,v4_8⟩,⟨_,e9,v4_9⟩,⟨_,e10,v4_10⟩,⟨_,e11,v4_11⟩,⟨_,e12,v4_12⟩,⟨_,e13,v4_13⟩,fI⟩ vv4 (Y.mem _ (by decide)) (Y.mem _ (by decide)) (Y.mem _ (by decide)) Mb L3 (by decide) rfl;have E7:=N 8 j5 a7 ["thing"] 1 [] (ie) fI;have E8:=N 9 iy a8 ["thing","many"] 2 [(0,"is_whole")] (dj) ⟨E7.u,fI⟩;have E9:=N 10 eO a9 ["one","other","rest"] 2 [] (di) fI;have Y4:=N 11 gF a10 ["thing"] 1 [(0,"is_whole"),(1,"common_divisor")] (b7) ⟨E7.u,E9.u,fI⟩;have E11:=N 12 oE a11 ["thing","many"] 2 [(3,"is_fraction"),(43,"are_houses")] (fg) ⟨Y4.u,E8.u,fI⟩;have E12:=N 13 jg a12 ["rows","ahead","behind"] 1 [] (ff) fI;have E13:=N 14 fD a13 ["some","bottom","part"] 1 [(1,"common_divisor")] (cM) ⟨E9.u,fI⟩;have E14:=N 15 je a14 ["some","bottom"] 2 [] (gn) fI;have E15:=N 16 f9 a15 ["rows","chances","lots","bottom"] 1 [(9,"common_bottom"),(10,"tops_over")] (js) ⟨E13.u,E14.u,fI⟩;have E16:=N 17 gD a16 ["rows","weighed"] 1 [(14,"weighed_lots")] (eU) ⟨E15.u,fI⟩;have E17:=N 18 j6 a17 ["thing","many","rows","row"] 1 [(0,"is_whole"),(12,"is_row"),(15,"sums_to_one"),(44,"rows_rise")] (cc) ⟨E7.u,E11.u,E16.u,E12.u,fI⟩;have E18:=N 19 oF a18 ["thing","many"] 2 [(43,"are_houses")] (gW) ⟨E8.u,fI⟩;have Y3:=N 20 iw a19 ["thing"] 1 [(11,"is_lot"),(45,"is_drawn")] (eh) ⟨E18.u,E17.u,fI⟩;have Y2:=N 21 cO a20 ["thing"] 1 [(16,"is_drawing")] (bH) ⟨Y3.u,fI⟩ gU;have Q9:=Sw (P:=l.prog) (w:=w) X G O1 1 21 cO (zw 1) (zw 1 17) a20 gU jI (pr _ _ _) Y ⟨x0,fI⟩ ⟨Y3.u,fI⟩ ⟨RW,fI⟩ (λds h=>Qz (Φ:=cO) (Ψ:=zw 1) Xi h.2);have W5:=N 22 eN a21 ["part"] 1 [] (uC) fI;have Y1:=N 23 jf a22 ["row"] 1 [(111,"shown_fraction")] (rR) ⟨W5.u,fI⟩;have E23:=N 24 cN a23 ["drawing"] 1 [(17,"check_drawing"),(112,"shown_row")] (lL) ⟨Y2.u,Y1.u,fI⟩ gS;have Q8:=Sw (P:=l.prog) (w:=w) X G O1 1 24 cN (zw 1) (zw 1 113) a23 gS jH (pr _ _ _) Y ⟨x0,fI⟩ ⟨Y2.u,Y1.u,fI⟩ ⟨λ_=>Q9.u,RW,fI⟩ (λds h=>LH (Φ:=cN) (Ψ:=zw 1) (λ_ h=>⟨rfl,h⟩) h.2);have Y0:=N 25 fE a24 ["thing","many"] 2 [(3,"is_fraction")] (cw) ⟨Y4.u,fI⟩;have YZ:=N 26 de a25 ["thing","many"] 2 [(40,"are_fractions")] (gp 40 4) ⟨Y0.u,fI⟩ iE;have Q7:=Sw (P:=l.prog) (w:=w) X G O4 4 26 de (zw 4) (zw 4 47) a25 iE j9 (pr _ _ _) Y ⟨x0,fI⟩ ⟨Y0.u,fI⟩ ⟨RW,fI⟩ (λds h=>CN (Φ:=de) (f:=40) qi Xh h.2);have E26:=N 27 dk a26 ["some"] 1 [(47,"check_worths"),(111,"shown_fraction")] (c_) ⟨YZ.u,W5.u,fI⟩ jF;have Q6:=Sw (P:=l.prog) (w:=w) X G O4 4 27 dk (zw 4) (zw 4 114) a26 jF lO (pr _ _ _) Y ⟨x0,fI⟩ ⟨YZ.u,W5.u,fI⟩ ⟨λ_=>Q7.u,RW,fI⟩ (λds h=>CM (Φ:=dk) (Ψ:=zw 4) (λ_ h=>⟨rfl,h⟩) h.2);obtain⟨_,_,_,_,_,_,_,_,Yg,Yf,_,_,_,_,_,_,_,_,_,_,_,_,_,_,_,_,_,_,_,_,_,_,_,_,hT,z0,z1⟩:=ou;have H0:DM mg base (aE (top 50)) _ "e" "_law_told" "_law_error" "drawing" [Yg,Yf]:=.here z0 O1 (by decide +kernel);have H1:DM mg base (aE (top 50)) _ "e" "_law_told" "_law_error" "worths" [Yg,Yf]:=.next z0 O1 Uc (by decide +kernel) (.here z1 O4 (by decide +kernel));have E27:=Ww (P:=l.prog) (w:=w) (Wd:=Rj) X G 4 2 3 28 dB zw (qC dB) a27 nU hT (pr _ _ _) Y ⟨x0,fI⟩ ⟨E23.u,E26.u,fI⟩ H0 Rg.u (λe s q=>by
  rcases zU q with ⟨rfl,rfl⟩|⟨rfl,rfl⟩
  ·exact⟨_,H0,Rg.u,⟨λ_=>Q8.u,(λh=>Xt h),fI⟩⟩
  ·exact⟨_,H1,W6.u,⟨(λh=>Xt h),λ_=>Q6.u,fI⟩⟩) hmV
 have E28:=N 29 iu a28 ["_law_drawing_here","_law_number","_law_many","_law_rows","_law_chance","_law_lot","_law_some"] 2 [] (jc) fI;exact enL 30 DN qR Fu L0 (pr _ _ _) Y ⟨x0,fI⟩ ⟨E1.u,E3.u,E28.u,E27.u,E5.u,E0.u,fI⟩ (Bw λns _=>(vt _ _ (yJ ns)).2)
theorem walk{l:PySem.W.OpenLaw}{q:aF}{loose:ag}{XP:(aR)->Heap->Prop}{YP:World->Heap->Prop}{d:DefRec}{K:Params->aq}(hn:l.most=some 63)(PL:d.params.defaults=[])
  (hY:∀(w:World) (h:Heap),YP w h->(K w.params).In h)
  (F:∀(w:World) (mg:aR) (fa:Addr) (h:Heap),(K w.params).In h->h.Ns mainGlobals mg->mg d.name=some (.ref fa) ->
   ∃fd:FuncData,(∀(s:Shared) (u:Value),BindsTo s fd ⟨[u],[]⟩ [("_law_script",u)])/\∀base:Heap,(K w.params).In base->base.Ns mainGlobals mg->fB l.prog w (K w.params) mg base so 31 fa fd ["_law_script"] (Ak (K w.params) 1 qR)) :
  PySem.W.WalkO q loose XP YP l.row.toRowW d [] (λf vs=>PySem.call f vs) :=
 L2.D_ (n:=63) (k:=31) (x:="_law_script") (CX:=λ_=>so) (sp:=λw=>Ak (K w.params) 1 qR) hn (by decide) PL ⟨rfl,by decide,by decide⟩ hY F (λw H a ns hl hO hS=>Km (K w.params) H a ns qR (Fw hl) hO hS) λ_ _ _ _ _ z=>z
end Asm
end
open PySem PySem.W PyProof.Rows
set_option maxRecDepth 100000 in
set_option maxHeartbeats 0 in
theorem PySem.Challenge.cw_sharesample_k56_nothing_to_show_holds : PySem.Challenge.rw_sharesample_k56_nothing_to_show.Holds := by
 w_on;o_law;k_head;(case hw=>w_witness2)
 k_fill
 refine Asm.walk (l:=PySem.Challenge.rw_sharesample_k56_nothing_to_show) rfl rfl (fun w h Y=>PySem.W.kIn_of Y) ?F
 case F =>
  intro w mg fa h KX G hmg
  refine' Asm.all_mk KX G hmg ?a0 ?a1 ?a2 ?a3 ?a4 ?a5 ?a6 ?a7 ?a8 ?a9 ?a10 ?a11 ?a12 ?a13 ?a14 ?a15 ?a16 ?a17 ?a18 ?a19 ?a20 ?a21 ?a22 ?a23 ?a24 ?a25 ?a26 ?a27 ?a28 ?a29 ?zz ?q0 ?r0 ?e0 ?e1 ?e2 ?e3 ?e4 ?e5 ?e6 ?e7 ?e8 ?e9 ?e10 ?e11 ?e12 ?e13 ?v1_0 ?v1_1 ?v1_2 ?v1_3 ?v1_4 ?v1_5 ?v1_6 ?v1_7 ?v1_8 ?v1_9 ?v1_10 ?v1_11 ?v1_12 ?v1_13 ?vv1 ?xx1 ?w1_1 ?w2_1 ?w3_1 ?w4_1 ?w5_1 ?v4_0 ?v4_1 ?v4_2 ?v4_3 ?v4_4 ?v4_5 ?v4_6 ?v4_7 ?v4_8 ?v4_9 ?v4_10 ?v4_11 ?v4_12 ?v4_13 ?vv4 ?xx4 ?w1_4 ?w2_4 ?w3_4 ?w4_4 ?w5_4 ?m1_0
  case a0 | a1 | a2 | a3 | a4 | a5 | a6 | a7 | a8 | a9 | a10 | a11 | a12 | a13 | a14 | a15 | a16 | a17 | a18 | a19 | a20 | a21 | a22 | a23 | a24 | a25 | a26 | a27 | a28 | a29 =>
   refine' DI.dmk ?x ?y ?z ?w
   case x | y | z | w=>k_is
  (case zz=>refine' ⟨?_,?_,?_,?_,?_,?_,?_,?_,?_,?_,?_,?_,?_,?_,?_,?_,?_,trivial⟩ <;> show PySem.W.nsIn _ _ _ = some none <;> k_is)
  (case q0=>k_is);(case r0=>exact ⟨_,rfl⟩)
  (case e0=>k_is)
  (case e1=>k_is)
  (case e2=>k_is)
  (case e3=>k_is)
  (case e4=>k_is)
  (case e5=>k_is)
  (case e6=>k_is)
  (case e7=>k_is)
  (case e8=>k_is)
  (case e9=>k_is)
  (case e10=>k_is)
  (case e11=>k_is)
  (case e12=>k_is)
  (case e13=>k_is)
  case v1_0 | v1_1 | v1_2 | v1_3 | v1_4 | v1_5 | v1_6 | v1_7 | v1_8 | v1_9 | v1_10 | v1_11 | v1_12 | v1_13=>kit_is
  (case vv1=>kit_is)
  (case xx1=>k_exc)
  case w1_1 | w2_1 | w3_1 | w4_1 | w5_1=>k_is
  case v4_0 | v4_1 | v4_2 | v4_3 | v4_4 | v4_5 | v4_6 | v4_7 | v4_8 | v4_9 | v4_10 | v4_11 | v4_12 | v4_13=>kit_is
  (case vv4=>kit_is)
  (case xx4=>k_exc)
  case w1_4 | w2_4 | w3_4 | w4_4 | w5_4=>k_is
  (case m1_0=>k_is)
