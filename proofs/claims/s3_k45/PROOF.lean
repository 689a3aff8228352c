import PyProof.Rows.All
import Wide.All
import OpenK.AllK
import Wide.FinOn
import Lean
import PyProof.EqAt
import PyProof.EqKinds
import PyProof.TupleCall
import PyProof.NeKinds
import KE.BitLaws
import PyProof.SumWalkG
import PyProof.ConsumeWalk
import PyProof.WalksMore
import KE.KSortedM
import PyProof.Rows.SetFrom
import PyProof.CompUse
import PyProof.ZipIter
import PyProof.EnumMake
import KE.KSortTup
import PyProof.ListRange
import PyProof.SliceList
import PyProof.DictIter
import PyProof.Rows.DictUnroll
import KE.KDictSum
import KE.KSortAsk
import PyProof.DictRoadsH
import PyProof.DictKinds
import PyProof.TupleOfGen
import PyProof.TupleOfSeq
import PyProof.DictItems
import PyProof.DictItemsLoops
import PyProof.Rows.TupDisplay
import KE.KDictList
import PyProof.DictValues
import PyProof.DictWalks
import PySem.Challenge.RW_sharesample_k45_layers
set_option bootstrap.genMatcherCode false
set_option genSizeOf false
set_option genSizeOfSpec false
set_option Elab.async false
set_option linter.all false
set_option maxRecDepth 100000
local macro_rules | `(tactic| left) => `(tactic| first | assumption | exact Nat.zero_le _ | exact Int.natCast_nonneg _ | exact Int.ofNat_lt.mpr (by assumption) | exact Nat.le_of_lt (by assumption) | exact Nat.le_trans (by assumption) (by assumption) | exact Nat.lt_of_lt_of_le (by assumption) (by assumption) | lia | omega)
noncomputable section
abbrev aaa:=@PySem.wpAny_bind
abbrev aab:=@PySem.wpAny_pure
abbrev aac:=@of_decide_eq_true
abbrev aad:=@Bool.false_ne_true
abbrev aae:=@List.mem_cons_of_mem
abbrev aaf:=@List.mem_cons_self
abbrev aag:=@PySem.Heap.get?_push_of_some
abbrev aah:=@PyProof.Rows.wpS_bind
abbrev aai:=@PySem.Heap.lt_size
abbrev aaj:=@PyProof.Rows.wpS_pure
abbrev aak:=@Nat.le_refl
abbrev aal:=@PySem.Heap.get?_push_size
abbrev aam:=@List.mem_append_right
abbrev aan:=@Nat.ne_of_lt
abbrev aao:=@Nat.lt_of_lt_of_le
abbrev aap:=@Option.some.inj
abbrev aaq:=@List.getElem?_eq_getElem
abbrev aar:=@List.mem_of_getElem?
abbrev aas:=@PyProof.Rows.callWith_type1
abbrev aat:=@Nat.ne_of_gt
abbrev aau:=@PyProof.Rows.wpS_forRange
abbrev aav:=@Nat.lt_irrefl
abbrev aaw:=@PySem.wpAny_mono
abbrev aax:=@List.mem_append_left
abbrev aay:=@Nat.pow_le_pow_right
abbrev aaz:=@Nat.le_trans
abbrev aaA:=@List.mem_map_of_mem
abbrev aaB:=@PySem.wpAny_newObj_type
abbrev aaC:=@Nat.lt_succ_of_lt
abbrev aaD:=@PySem.wpAny_holding
abbrev aaE:=@List.mergeSort_perm
abbrev aaF:=@Nat.zero_le
abbrev aaG:=@Nat.lt_of_le_of_lt
abbrev aaH:=@List.getElem_mem
abbrev aaI:=@PySem.wpAny_call_entry
abbrev aaJ:=@PySem.Heap.get?_update_other
abbrev aaK:=@PyProof.Rows.wpS_mono
abbrev aaL:=@List.map_congr_left
abbrev aaM:=@PySem.Heap.get?_update_self
abbrev aaN:=@if_pos
abbrev aaO:=@Int.le_trans
abbrev aaP:=@decide_eq_true
abbrev aaQ:=@PySem.wpAny_callSpecial?_slot
abbrev aaR:=@congrArg
abbrev aaS:=@PySem.F.slot_dict_keyiterator_next
abbrev aaT:=@decide_eq_false
abbrev aaU:=@PySem.Heap.SameBut.update
abbrev aaV:=@PySem.wpAny_Call_Name_kw
abbrev aaW:=@List.nodup_nil
abbrev aaX:=@Array.getElem?_eq_getElem
abbrev aaY:=@PySem.sizeLine_eq
abbrev aaZ:=@PySem.codeAny_builtin
abbrev aa0:=@Int.le_of_lt
abbrev aa1:=@List.length_map
abbrev aa2:=@PySem.F.slot_dict_valueiterator_next
abbrev aa3:=@PySem.wpAny_truthy_bool
abbrev aa4:=@PySem.wpAny_dictEntries
abbrev aa5:=@PySem.wpAny_typeNameOfWhole_keyiter
abbrev aa6:=@PySem.wpAny_typeNameOfWhole_valiter
abbrev aa7:=@PySem.mem_of_lookup
abbrev aa8:=@Nat.lt_succ_self
abbrev aa9:=@PySem.wpAny_rule
abbrev aa_:=@Int.le_refl
abbrev aba:=@List.idxOf_lt_length_of_mem
abbrev abb:=@PySem.wpAny_passesOwn
abbrev abc:=@PyProof.Rows.wpS_modify
abbrev abe:=@Int.mul_fdiv_cancel_left
abbrev abg:=@PySem.F.plainAttrs_list
abbrev abh:=@PySem.wpAny_attempt
abbrev abi:=@PyProof.Rows.wpS_get
abbrev abj:=@PySem.call_meets
abbrev abk:=@PySem.W.kia_one
abbrev abl:=@PySem.wpAny_dictEpoch
abbrev abm:=@Bool.false_eq_true
abbrev abn:=@PyProof.Rows.subscriptTail_builtinR
abbrev abo:=@PySem.F.slot_zip_next
abbrev abp:=@List.Perm.append_left
abbrev abq:=@List.ext_getElem
abbrev abr:=@List.mem_of_mem_take
abbrev abt:=@List.cons.inj
abbrev abu:=@PySem.wpAny_field
abbrev abv:=@PySem.SeqAt.EqAt.same
abbrev abw:=@PySem.Calls.spliced_cons
abbrev abx:=@PySem.codeAny_mono
abbrev aby:=@PySem.SeqAt.EqAt.int_int
abbrev abz:=@PySem.F.args_tuple_add_2
abbrev abA:=@PySem.F.slot_list_append
abbrev abB:=@Nat.lt_trans
abbrev abC:=@List.getElem_idxOf
abbrev abD:=@PySem.tupleKind_room_in1
abbrev abE:=@Ne.symm
abbrev abF:=@PySem.F.entry_tuple_add
abbrev abG:=@PySem.Calls.spliced_nil
abbrev abH:=@List.ext_getElem?
abbrev abI:=@PySem.F.slot_tuple_add
abbrev abJ:=@PySem.Calls.callWith_builtin
abbrev abK:=@List.drop_eq_nil_of_le
abbrev abL:=@PySem.wpAny_nextOf_list_item
abbrev abM:=@List.Perm.append_right
abbrev abN:=@Int.fmod_nonneg_of_pos
abbrev abO:=@PySem.W.mg_of
abbrev abP:=@List.getElem_inj
abbrev abQ:=@beq_self_eq_true
abbrev abR:=@PySem.F.slot_tuple_lt
abbrev abS:=@PySem.wpAny_notOrdered_dict
abbrev abT:=@List.perm_append_comm
abbrev abU:=@PySem.wpAny_isOneOf_valiter
abbrev abV:=@PySem.SeqAt.EqAt.none_bool
abbrev abW:=@PySem.SeqAt.EqAt.bool_none
abbrev abX:=@PySem.SeqAt.EqAt.bool_bool
abbrev abY:=@PySem.wpAny_updateSeq
abbrev abZ:=@getElem?_pos
abbrev ab0:=@List.mem_of_mem_drop
abbrev ab1:=@Int.mul_ne_zero
abbrev ab2:=@PySem.SeqAt.EqAt.none_int
abbrev ab3:=@PySem.SeqAt.EqAt.bool_int
abbrev ab4:=@PySem.SeqAt.EqAt.int_none
abbrev ab5:=@PySem.SeqAt.EqAt.int_bool
abbrev ab6:=@Nat.add_le_add_left
abbrev ab7:=@Array.length_toList
abbrev ab8:=@Nat.mul_le_mul_left
abbrev ab9:=@PySem.wpAny_fieldsOf
abbrev ab_:=@PySem.wpAny_setField
abbrev aca:=@Eq.symm
abbrev acb:=@Nat.le_succ
abbrev acd:=@Int.fmod_lt_of_pos
abbrev ace:=@PySem.wpAny_standAt
abbrev acf:=@PySem.wpAny_newList
abbrev acg:=@PySem.plainId_quiet
abbrev ach:=@Nat.le_of_dvd
abbrev aci:=@Nat.le_succ_of_le
abbrev acj:=@Nat.le_of_lt
abbrev ack:=@if_neg
abbrev acm:=@List.not_mem_nil
abbrev acn:=@if_false
abbrev aw:=List (List Int)
abbrev aa:=List Int
abbrev aO:=List Nat
abbrev aq:=List PySem.Str
abbrev ak:=List PySem.Value
abbrev aA:=List PySem.Expr
abbrev aR:=List PySem.Addr
abbrev bt:=List PySem.Stmt
abbrev aU:=List Rat
abbrev aM:=Array PySem.Value
abbrev av:=PySem.W.Frag
abbrev au:=PySem.Value->PySem.Shared->Prop
abbrev ao:=List (PySem.Addr×PySem.Obj)
abbrev ah:=PySem.Addr->Prop
abbrev aX:=PySem.Str->Option PySem.Value
abbrev aB:=PySem.Program
abbrev az:=PySem.Around
namespace L2
open PySem PySem.Spec PyProof.Rows
noncomputable abbrev Key:=Sum Int Str
def FX:Key->Value->Bool
 |.inl k,v=>Value.isInt k v
 |.inr x,v=>Value.isStrOf x v
def R4(w:World):Key->Int
 |.inl k=>hashInt k
 |.inr x=>hashStr w x
theorem b0:∀{k:Key} {v:Value},FX k v=true->(∃i t,k=Sum.inl i/\v=Value.int i t)\/(∃x t,k=Sum.inr x/\v=Value.str x t)
 |.inl i,v,h=>by
  obtain⟨t,e⟩:=Value.isInt_shape (k:=i) (v:=v) h;exact .inl ⟨i,t,rfl,e⟩
 |.inr x,v,h=>by
  obtain⟨t,e⟩:=Value.isStrOf_shape (x:=x) (v:=v) h;exact .inr ⟨x,t,rfl,e⟩
theorem Il(a b:Int):decide ((Sum.inl a:Key)=Sum.inl b)=(a==b):=by
 by_cases e:a=b
 ·subst e;simp
 ·have h:¬ (Sum.inl a:Key)=Sum.inl b:=λq=>e (Sum.inl.inj q);rw[decide_eq_false h];exact(beq_eq_false_iff_ne.mpr e).symm
theorem Ii(a b:Str):decide ((Sum.inr a:Key)=Sum.inr b)=decide (a=b):=by
 by_cases e:a=b
 ·subst e;simp
 ·have h:¬ (Sum.inr a:Key)=Sum.inr b:=λq=>e (Sum.inr.inj q);rw[decide_eq_false h,decide_eq_false e]
theorem Ik(a:Int)(b:Str):decide ((Sum.inl a:Key)=Sum.inr b)=false:=aaT (λq=>nomatch q)
theorem Ij(a:Str)(b:Int):decide ((Sum.inr a:Key)=Sum.inl b)=false:=aaT (λq=>nomatch q)
def vQ(prog:aB)(w:World):PySem.KeyKind prog w Key where
 is:=FX
 hash:=R4 w
 inj:=λv a b ha hb=>by
  rcases b0 ha with ⟨i,t,rfl,rfl⟩|⟨x,t,rfl,rfl⟩
  ·rcases b0 hb with ⟨j,u,rfl,e⟩|⟨y,u,rfl,e⟩
   ·injection e with e1 _;rw[e1]
   ·exact nomatch e
  ·rcases b0 hb with ⟨j,u,rfl,e⟩|⟨y,u,rfl,e⟩
   ·exact nomatch e
   ·injection e with e1 _;rw[e1]
 byValue:=λk v h=>by
  rcases b0 h with ⟨i,t,rfl,rfl⟩|⟨x,t,rfl,rfl⟩<;>rfl
 pyHash:=λhv h=>by
  rcases b0 hv with ⟨i,t,rfl,rfl⟩|⟨x,t,rfl,rfl⟩
  ·exact wpAny_pyHash_int h
  ·exact wpAny_pyHash_str h
 eqBool:=λhu hv h=>by
  rcases b0 hu with ⟨i,t,rfl,rfl⟩|⟨x,t,rfl,rfl⟩
  ·rcases b0 hv with ⟨j,u,rfl,rfl⟩|⟨y,u,rfl,rfl⟩
   ·rw[Il]at h;exact wpAny_eqBool_int h
   ·rw[Ik]at h;exact SeqAt.EqAt.int_str i t y u _ _ _ _ h
  ·rcases b0 hv with ⟨j,u,rfl,rfl⟩|⟨y,u,rfl,rfl⟩
   ·rw[Ij]at h;exact SeqAt.EqAt.str_int x t j u _ _ _ _ h
   ·rw[Ii]at h;exact wpAny_eqBool_str h
 «strs»:=λk x t v h=>by
  rcases b0 h with ⟨i,u,rfl,e⟩|⟨y,u,rfl,e⟩
  ·exact nomatch e
  ·injection e with e1 _
   subst e1;cases v<;>rfl
end L2
namespace L2
open PySem PySem.Spec PyProof.Rows
inductive V where
 |bW|bl (b:Bool)|int (i:Int)|str (x:Str)|UM (b:Array UInt8)|Ot (b:UInt64)|ref (a:Addr)|ty (n:String)
 deriving DecidableEq
abbrev af:=List V
noncomputable def RelV:V->Value->Prop
 |.bW,u=>u=Value.none
 |.bl b,u=>u=Value.bool b
 |.int i,u=>∃t,u=Value.int i t
 |.str x,u=>∃t,u=Value.str x t
 |.UM b,u=>∃t,u=Value.bytes b t
 |.Ot b,u=>∃t,u=Value.float b t
 |.ref a,u=>u=Value.ref a
 |.ty n,u=>u=Value.type n
abbrev Vals:af->ak->Prop:=Paired RelV
theorem Vals.length{xs:af}{us:ak}(r:Vals xs us):xs.length=us.length:=Paired.length r
theorem Vals.get:∀{xs:af} {us:ak} {i:Nat} {x:V},Vals xs us->xs[i]?=some x->∃u,us[i]?=some u/\RelV x u
 |_,_,_,_,.nil,e=>by simp at e
 |_,_,0,_,.cons r _,e=>by simp at e;subst e;exact⟨_,rfl,r⟩
 |_,_,i+1,x,.cons _ t,e=>by
  obtain⟨u,h1,h2⟩:=Vals.get (i:=i) (x:=x) t (by simpa using e);exact⟨u,by simpa using h1,h2⟩
theorem Vals.append:∀{xs ys:af} {us ws:ak},Vals xs us->Vals ys ws->Vals (xs++ys) (us++ws)
 |_,_,_,_,.nil,s=>s
 |_,_,_,_,.cons r t,s=>.cons r (Vals.append t s)
theorem Vals.take:∀{xs:af} {us:ak} (n:Nat),Vals xs us->Vals (xs.take n) (us.take n)
 |_,_,0,_=>.nil
 |_,_,_+1,.nil=>.nil
 |_,_,n+1,.cons r t=>.cons r (Vals.take n t)
theorem Vals.drop:∀{xs:af} {us:ak} (n:Nat),Vals xs us->Vals (xs.drop n) (us.drop n)
 |_,_,0,r=>r
 |_,_,_+1,.nil=>.nil
 |_,_,n+1,.cons _ t=>Vals.drop n t
def sY:Option V->Option Value->Prop
 |some v,some u=>RelV v u
 |none,none=>True
 |_,_=>False
def KV{κ:Type}:List (κ×V)->List (κ×Value)->Prop:=Paired λ(p:κ×V) (q:κ×Value)=>p.1=q.1/\RelV p.2 q.2
def kV:Key->V
 |.inl i=>.int i
 |.inr x=>.str x
inductive HO where
 |lst (xs:af)
 |tup (xs:af)
 |dK (mU:List (Key×V))|dT (mU:List (List Key×V))
 |set (S:Int->Bool) (n:Nat)
 |ins (C dx:Addr) (fs:List (Str×V))
 |own (x:Addr)
 |xd (fs:List (Str×V))
 |met (f x:Addr)
 |lM (lo hi:Int)
 |h_ (o:Obj) (u:HO)
 |FD (ps:aM)
 |ext (φ:Heap->Prop)
noncomputable abbrev Hp:=Addr->Option HO
noncomputable def upd(H:Hp)(a:Addr)(o:HO):Hp:=λb=>if b=a then some o else H b
theorem aV{H:Hp}{a:Addr}{o:HO}:upd H a o a=some o:=by unfold upd;rw[if_pos rfl]
theorem aZ{H:Hp}{a b:Addr}{o:HO}(h:b≠a):upd H a o b=H b:=by unfold upd;rw[if_neg h]
theorem b6{H:Hp}{a b:Addr}{o:HO}(h:H a=some o)(h':H b=none):a≠b:=by
 intro e;subst e;rw[h]at h';cases h'
section
variable (P:aB)(w:World)
def cu(H:Hp)(h:Heap)(a:Addr):HO->Prop
 |.lst xs=>xs.length<=sizeLine/\∃(aJ:ak) (n:Nat),Vals xs aJ/\h.get? a=some { cls:=.type "list",data:=.seq aJ.toArray n }
 |.tup xs=>xs.length<=sizeLine/\∃aJ:ak,Vals xs aJ/\IsTup h a aJ.toArray
 |.dK mU=>mU.length<=sizeLine/\(a==sysModules)=false/\∃vs,KV mU vs/\h.DictOf (vQ P w) a vs
 |.dT mU=>mU.length<=sizeLine/\(a==sysModules)=false/\∃xs:List (List Key×Addr×Value),
   Paired (λ(p:List Key×V) (q:List Key×Addr×Value)=>p.1=q.1/\H q.2.1=some (.tup (p.1.map kV))/\RelV p.2 q.2.2) mU xs /\
   ∃o es ep,h.get? a=some o/\o.ExactDict/\o.data=.dict es ep/\es.toList=xs.map (entryOfKey (tupleKind (vQ P w)))/\(xs.map (·.1)).Nodup
 |.set S n=>h.SetOf (intKind P w) a S n
 |.ins C dx fs=>H dx=some (.own a)/\fs.length<=1000/\dx≠a/\h.get? a=some (PySem.W.instObj C dx) /\
   ∃mA,h.Ns1 dx mA/\(∀f,sY (fs.lookup f) (mA f))/\PySem.Within mA (fs.map (·.1))
 |.own _=>∃o,h.get? a=some o
 |.xd fs=>∃mA,h.Ns1 a mA/\∀f,sY (fs.lookup f) (mA f)
 |.lM lo hi=>∃t u v,h.get? a=some { cls:=.type "range",data:=.fields #[.int lo t,.int hi u,.int 1 v] }
 |.h_ o u=>h.get? a=some o/\cu H h a u
 |.FD ps=>h.get? a=some { cls:=.none,data:=.fields ps }
 |.met f x=>h.get? a=some (PySem.W.methodObj (.ref f) (.ref x))
 |.ext φ=>φ h/\(∃o,h.get? a=some o)/\∀h1 h2:Heap,φ h1->(∀o,h1.get? a=some o->h2.get? a=some o)->φ h2
def kP(H:Hp)(h:Heap):Prop:=∀a o,H a=some o->cu P w H h a o
end
section
variable {P:aB}{w:World}{H H':Hp}{h h':Heap}{a:Addr}{o:HO}
theorem cu.lt(x:cu P w H h a o):a<h.objs.size:=by
 cases o with
 |lst xs=>obtain⟨_,_,_,_,e⟩:=x;exact aai e
 |tup xs=>obtain⟨_,_,_,p⟩:=x;exact p.lt
 |dK mU=>obtain⟨_,_,_,_,o,_,_,e,_⟩:=x;exact aai e
 |dT mU=>obtain⟨_,_,_,_,o,_,_,e,_⟩:=x;exact aai e
 |set S n=>obtain⟨o,_,_,_,e,_⟩:=x;exact aai e
 |ins C dx fs=>obtain⟨_,_,_,e,_⟩:=x;exact aai e
 |own y=>obtain⟨_,e⟩:=x;exact aai e
 |xd fs=>obtain⟨_,⟨_,_,_,e,_⟩,_⟩:=x;exact aai e
 |lM lo hi=>obtain⟨_,_,_,e⟩:=x;exact aai e
 |h_ ob u=>obtain⟨e,_⟩:=x;exact aai e
 |FD ps=>exact aai (show h.get? a=some _ from x)
 |met f y=>exact aai (show h.get? a=some _ from x)
 |ext φ=>obtain⟨_,⟨_,e⟩,_⟩:=x;exact aai e
theorem Paired.Na{α β:Type}{F G:α->β->Prop}:∀{l₁:List α} {l₂:List β},Paired F l₁ l₂->(∀a b,F a b->G a b)->Paired G l₁ l₂
 |_,_,.nil,_=>.nil
 |_,_,.cons r t,f=>.cons (f _ _ r) (Paired.Na t f)
theorem cu.mD(x:cu P w H h a o)(k:∀b u,(b=a\/H b=some (.own a))->h.get? b=some u->h'.get? b=some u)
  (ho:∀b,H b=some (.own a)->H' b=some (.own a)) (ht:∀b xs,H b=some (.tup xs)->H' b=some (.tup xs)):cu P w H' h' a o:=by
 induction o with
 |lst xs=>obtain⟨z,aJ,n,r,e⟩:=x;exact⟨z,aJ,n,r,k _ _ (.inl rfl) e⟩
 |tup xs=>obtain⟨z,aJ,r,ob,e,c⟩:=x;exact⟨z,aJ,r,ob,k _ _ (.inl rfl) e,c⟩
 |dK mU=>obtain⟨z,y,vs,r,ob,es,ep,e,c⟩:=x;exact⟨z,y,vs,r,ob,es,ep,k _ _ (.inl rfl) e,c⟩
 |dT mU =>
  obtain⟨z,y,xs,r,ob,es,ep,e,c⟩:=x;exact⟨z,y,xs,Paired.Na r λp q z=>⟨z.1,ht _ _ z.2.1,z.2.2⟩,ob,es,ep,k _ _ (.inl rfl) e,c⟩
 |set S n=>obtain⟨ob,es,ep,t,e,c⟩:=x;exact⟨ob,es,ep,t,k _ _ (.inl rfl) e,c⟩
 |ins C dx fs =>
  obtain⟨d,z,ne,e,mA,⟨od,es,ep,e2,c⟩,r⟩:=x;exact⟨ho _ d,z,ne,k _ _ (.inl rfl) e,mA,⟨od,es,ep,k _ _ (.inr d) e2,c⟩,r⟩
 |own y=>obtain⟨ob,e⟩:=x;exact⟨ob,k _ _ (.inl rfl) e⟩
 |xd fs=>obtain⟨mA,⟨od,es,ep,e,c⟩,r⟩:=x;exact⟨mA,⟨od,es,ep,k _ _ (.inl rfl) e,c⟩,r⟩
 |lM lo hi=>obtain⟨t,u,v,e⟩:=x;exact⟨t,u,v,k _ _ (.inl rfl) e⟩
 |h_ ob u ih=>obtain⟨e,q⟩:=x;exact⟨k _ _ (.inl rfl) e,ih q⟩
 |FD ps =>
  have e:h.get? a=some { cls:=.none,data:=.fields ps }:=x;show h'.get? a=some { cls:=.none,data:=.fields ps };exact k a _ (.inl rfl) e
 |met f y =>
  have e:h.get? a=some (PySem.W.methodObj (.ref f) (.ref y)):=x;show h'.get? a=some (PySem.W.methodObj (.ref f) (.ref y));exact k a _ (.inl rfl) e
 |ext φ=>obtain⟨p,⟨o,e⟩,st⟩:=x;exact⟨st _ _ p λo q=>k _ _ (.inl rfl) q,⟨o,k _ _ (.inl rfl) e⟩,st⟩
theorem kP.lt(x:kP P w H h)(e:H a=some o):a<h.objs.size:=(x a o e).lt
theorem kP.fresh(x:kP P w H h)(e:h.objs.size<=a):H a=none:=by
 cases q:H a with
 |none=>rfl
 |some u=>exact absurd (aao (x.lt q) e) (aav _)
theorem kP.kept(x:kP P w H h)(k:∀b u,h.get? b=some u->h'.get? b=some u):kP P w H h':=λa o e =>
 (x a o e).mD (λb u _ q=>k b u q) (λ_ q=>q) λ_ _ q=>q
theorem kP.laid(x:kP P w H h)(k:∀b u,h.get? b=some u->h'.get? b=some u)(hp:h.objs.size<=a)(new:cu P w (upd H a o) h' a o):kP P w (upd H a o) h':=λb u e=>by
 have hn:=x.fresh hp;by_cases hb:b=a
 ·subst hb;rw[aV]at e;cases e;exact new
 ·rw[aZ hb]at e;exact(x b u e).mD (λc v _ q=>k c v q) (λc q=>by rw[aZ (b6 q hn)];exact q) λc xs q=>by rw[aZ (b6 q hn)];exact q
end
def Rd(H:Hp)(a:Addr)(u:HO):Prop:=H a=some u\/∃o,H a=some (.h_ o u)
variable {h:Heap}
theorem Rd.ok{P:aB}{w:World}{H:Hp}{a:Addr}{u:HO}(r:Rd H a u)(x:kP P w H h):cu P w H h a u:=by
 rcases r with r|⟨o,r⟩
 ·exact x a u r
 ·obtain⟨_,q⟩:=x a _ r;exact q
noncomputable def QE:Option HO->Prop
 |some (.lst _)=>True
 |some (.dK _)=>True
 |some (.dT _)=>True
 |some (.set _ _)=>True
 |some (.ins _ _ _)=>True
 |some (.ext _)=>True
 |_=>False
section
variable {P:aB}{w:World}{H:Hp}{h h':Heap}{x e:Addr}{o':HO}
theorem kP.write(ok:kP P w H h)(mu:QE (H x))(he:e=x\/H e=some (.own x))(k:∀b u,b≠e->h.get? b=some u->h'.get? b=some u)(Le:∃u,h'.get? e=some u)
  (new:cu P w (upd H x o') h' x o'):kP P w (upd H x o') h':=λb u q=>by
 have M3:∀c y,H c=some (.own y)->c≠x:=λc y r z=>by subst z;rw[r]at mu;exact mu
 have RP:∀c xs,H c=some (.tup xs)->c≠x:=λc xs r z=>by subst z;rw[r]at mu;exact mu
 by_cases hb:b=x
 ·subst hb;rw[aV]at q;cases q;exact new
 ·rw[aZ hb]at q;by_cases IW:b=e
  ·have q':H b=some (.own x):=by
    rcases he with z|z
    ·exact absurd (IW.trans z) hb
    ·rw[IW];exact z
   rw[q]at q';cases q';obtain⟨v,hv⟩:=Le;exact⟨v,by rw[IW];exact hv⟩
  ·refine(ok b u q).mD (λc v hc r=>k c v ?_ r) (λc r=>by rw[aZ (M3 c b r)];exact r) λc xs r=>by rw[aZ (RP c xs r)];exact r
   rcases hc with rfl|hc
   ·exact IW
   ·rintro rfl;rcases he with z|z
    ·exact M3 c b hc z
    ·rw[hc]at z;cases z;exact hb rfl
end
structure Un(fs ex:aR)(H H':Hp)(h h':Heap):Prop where
 keep:∀b o,h.get? b=some o->H b=none->b∉fs->b∉ex->h'.get? b=some o
 slot:∀b o,h.get? b=some o->H b=none->b∈fs->b∉ex->∃sl,h'.get? b=some { o with slots:=sl }
 free:∀b o,h.get? b=some o->H b=none->b∉ex->H' b=none
 there:∀b o,h.get? b=some o->b∉ex->∃o',h'.get? b=some o'
 pq:∀b xs,H b=some (.tup xs)->H' b=some (.tup xs)
 oi:∀b o u,H b=some (.h_ o u)->H' b=some (.h_ o u)
 pv:∀b ps,H b=some (.FD ps)->∃more,H' b=some (.FD (ps++more))
section
variable {fs YY ex Ut:aR}{H H1 H2:Hp}{h h1 h2 h':Heap}{a x e:Addr}{o:HO}
theorem Un.any(u:Un fs ex H H1 h h1){b:Addr}{ob:Obj}(q:h.get? b=some ob)(n:H b=none)(hx:b∉ex):∃sl,h1.get? b=some { ob with slots:=sl }:=by
 by_cases hb:b∈fs
 ·exact u.slot b ob q n hb hx
 ·exact⟨ob.slots,u.keep b ob q n hb hx⟩
theorem Un.kept(k:∀b u,h.get? b=some u->h'.get? b=some u):Un fs ex H H h h' :=
 ⟨λb ob q _ _ _=>k b ob q,λb ob q _ _ _=>⟨ob.slots,k b ob q⟩,λ_ _ _ n _=>n,λb ob q _=>⟨ob,k b ob q⟩,λ_ _ q=>q,λ_ _ _ q=>q,λ_ ps q=>⟨#[],by rw[q];simp⟩⟩
theorem Un.refl:Un fs ex H H h h:=Un.kept λ_ _ q=>q
theorem Un.laid(k:∀b u,h.get? b=some u->h'.get? b=some u)(hp:h.objs.size<=a)(hn:H a=none):Un fs ex H (upd H a o) h h' where
 keep:=λb u q _ _ _=>k b u q
 slot:=λb u q _ _ _=>⟨u.slots,k b u q⟩
 free:=λb u q n _=>by rw[aZ (Nat.ne_of_lt (Nat.lt_of_lt_of_le (Heap.lt_size q) hp))];exact n
 there:=λb u q _=>⟨u,k b u q⟩
 pq:=λb xs q=>by rw[aZ (b6 q hn)];exact q
 oi:=λb u xs q=>by rw[aZ (b6 q hn)];exact q
 pv:=λb ps q=>⟨#[],by rw[aZ (b6 q hn),q];simp⟩
theorem Un.write(mu:QE (H x))(he:e=x\/H e=some (.own x))(k:∀b u,b≠e->h.get? b=some u->h'.get? b=some u)(Le:∃u,h'.get? e=some u):Un fs ex H (upd H x o) h h':=by
 have hx:∀b,H b=none->b≠x:=λb n z=>by subst z;rw[n]at mu;exact mu
 have hb:∀b,H b=none->b≠e:=λb n z=>by
  subst z;rcases he with r|r
  ·exact hx b n r
  ·rw[n]at r;cases r
 have hm:∀b u,H b=some u->¬ QE (some u)->b≠x:=λb u q nm z=>by subst z;rw[q]at mu;exact nm mu
 refine⟨λb u q n _ _=>k b u (hb b n) q,λb u q n _ _=>⟨u.slots,k b u (hb b n) q⟩,λb u q n _=>by rw[aZ (hx b n)];exact n,λb u q _=>?_,
  λb xs q=>by rw[aZ (hm b _ q λz=>z)];exact q,λb u xs q=>by rw[aZ (hm b _ q λz=>z)];exact q,λb ps q=>⟨#[],by rw[aZ (hm b _ q λz=>z),q];simp⟩⟩
 by_cases IW:b=e
 ·subst IW;exact Le
 ·exact⟨u,k b u IW q⟩
end
noncomputable def Pt(h:Heap)(H:Hp):aR:=(List.range h.objs.size).filter λa=>(H a).isSome
def qc(h:Heap)(H:Hp):Heap:=PySem.W.hideAll h (Pt h H)
theorem yb(h:Heap)(H:Hp):(qc h H).objs.size=h.objs.size:=PySem.W.hideAll_size _ _
variable {o:Obj}
theorem AY{H:Hp}{b:Addr}(e:h.get? b=some o)(n:H b=none):(qc h H).get? b=some o :=
 PySem.W.hideAll_get _ e λhm=>by
  have q:(H b).isSome=true:=(List.mem_filter.mp hm).2;rw[n]at q;simp at q
theorem DQ{H:Hp}{b:Addr}(e:(qc h H).get? b=some o):h.get? b=some o/\H b=none:=by
 have e':h.get? b=some o:=PySem.W.of_hideAll (Pt h H) e;refine⟨e',?_⟩;cases q:H b with
 |none=>rfl
 |some x =>
  have hm:b∈Pt h H:=List.mem_filter.mpr ⟨List.mem_range.mpr (aai e'),by simp[q]⟩;have z:(qc h H).get? b=none:=PySem.W.hideAll_none (Pt h H) hm;rw[z]at e;cases e
end L2
namespace L2
open PySem PySem.Spec PyProof.Rows
structure Mod(K:av)(mg:aX)(base:Heap):Prop where
 RZ:K.In base
 glob:base.Ns mainGlobals mg
 blt:∃mb,base.Ns builtinsNs mb/\∀x:Str,x ≠ "__name__" -> mb x=bootBuiltins x
 nolimit:base.NoLimit
structure Cx where
 prog:aB
 w:World
 K:av
 mg:aX
 base:Heap
 A:az
 N:aq
 s₀:Shared
 H₀:Hp
 env:Env
 outer:List Env
 stack:List Env
 ex:aR
 fn:Str->Bool
 calm:Bool
 pn:ao
 xe:au
noncomputable def yT(l:List Env):aR:=l.filterMap (·.frame)
abbrev Cx.fs(X:Cx):aR:=yT X.outer
def Kl(sc:Scope)(x:Str):Prop:=sc.names.lookup x=some .local\/sc.names.lookup x=some .cell\/sc.names.lookup x=some .free
def Loc(sc:Scope)(x:Str):Prop:=sc.names.lookup x=some .local\/sc.names.lookup x=some .cell
noncomputable def Look(env:Env)(h:Heap)(m:aX)(x:Str)(u:Value):Prop :=
 (env.kindOf x=some .local/\m x=some u)\/((env.kindOf x=some .cell\/env.kindOf x=some .free)/\∃c,env.cells.lookup x=some c/\h.IsCell c (some u))
structure Cx.Ok(X:Cx):Prop where
 mod:Mod X.K X.mg X.base
 kind:X.env.scope.kind=.function
 glob:X.env.globals=mainGlobals
 blt:X.env.builtins=builtinsNs
 above:X.s₀.heap.objs.size<=X.env.locals
 inj:∀x y c,X.env.cells.lookup x=some c->X.env.cells.lookup y=some c->x=y
 has:∀x,(X.env.kindOf x=some .cell\/X.env.kindOf x=some .free)->∃c,X.env.cells.lookup x=some c
 OP:∀x c,X.fn x=true->X.env.cells.lookup x=some c->X.s₀.heap.objs.size<=c
 hd:X.calm=true->X.A.handled=none
 frames:X.A.frames=some X.stack
 PC:X.stack=X.outer\/(X.stack=X.env::X.outer/\X.env.frame=some X.env.locals)
 Wl:∀b∈X.ex,b≠X.env.locals/\∀x c,X.env.cells.lookup x=some c->c≠b
 bs:∀b o,X.base.get? b=some o->X.s₀.heap.get? b=some o/\X.H₀ b=none
 Gm:X.base.objs.size<=X.s₀.heap.objs.size
 Af:∀b o,X.base.get? b=some o->b∉X.ex
 Eu:∀b∈X.ex,b∉X.fs
 lD:X.s₀.heap.FunFrames X.base X.outer
 Ll:∀b∈X.fs,X.H₀ b=none
structure Inv(X:Cx)(pins:ao)(σ:List (Option V))(H:Hp)(s:Shared):Prop where
 ok:X.Ok
 os:s.os=X.s₀.os
 bare:AllBare s.gens
 base:Un X.fs X.ex X.H₀ H X.s₀.heap s.heap
 loc:∃m,s.heap.Ns X.env.locals m/\∀(i:Nat) (x:Str) (v:V),X.N[i]?=some x->σ[i]?=some (some v)->Kl X.env.scope x->∃u,RelV v u/\Look X.env s.heap m x u
 cell:∀x c,X.env.cells.lookup x=some c->∃v,s.heap.IsCell c v
 free:H X.env.locals=none
 iZ:∀x c,X.env.cells.lookup x=some c->H c=none
 pin:∀p∈X.pn++pins,s.heap.get? p.1=some p.2/\H p.1=none/\p.1≠X.env.locals/\p.1∉X.fs/\∀v,p.2.data≠.cell v
 cN:kP X.prog X.w H s.heap
 len:σ.length=X.N.length
variable {A:az}{E:Value->Shared->Prop}{Q:Unit->Shared->Prop}{ch:aR}{t':Nat}
section
variable {X:Cx}{pins:ao}{σ:List (Option V)}{H H':Hp}{s:Shared}{h':Heap}
theorem Cx.Ok.RQ(ok:X.Ok){b:Addr}{o:Obj}(e:X.base.get? b=some o):b∉X.fs:=λhb=>by
 have:=(ok.lD.mem hb).1;rw[e]at this;cases this
theorem Inv.bs(I:Inv X pins σ H s):∀b o,X.base.get? b=some o->s.heap.get? b=some o/\H b=none:=λb o e =>
 ⟨I.base.keep b o (I.ok.bs b o e).1 (I.ok.bs b o e).2 (I.ok.RQ e) (I.ok.Af b o e),I.base.free b o (I.ok.bs b o e).1 (I.ok.bs b o e).2 (I.ok.Af b o e)⟩
theorem Inv.bk(I:Inv X pins σ H s):∀b o,X.base.get? b=some o->s.heap.get? b=some o:=λb o e=>(I.bs b o e).1
theorem Inv.mod(I:Inv X pins σ H s):Mod X.K X.mg X.base:=I.ok.mod
theorem Inv.yL(I:Inv X pins σ H s):X.K.In s.heap:=I.ok.mod.RZ.keeps I.bk
theorem Inv.lt(I:Inv X pins σ H s):X.env.locals<s.heap.objs.size:=let ⟨_,hn,_⟩:=I.loc;hn.lt
theorem Inv.sz(I:Inv X pins σ H s):X.s₀.heap.objs.size<=s.heap.objs.size:=aaz I.ok.above (acj I.lt)
theorem Inv.HS(I:Inv X pins σ H s){a:Addr}(h:s.heap.objs.size<=a):a∉X.fs:=λhb=>by
 obtain⟨_,o,ho,_⟩:=I.ok.lD.mem hb;exact absurd (aao (aai ho) (aaz I.sz h)) (aav _)
theorem Inv.J9(I:Inv X pins σ H s):∀x c,X.env.cells.lookup x=some c->c≠X.env.locals:=λx c e z=>by
 obtain⟨v,o,ho,hd⟩:=I.cell x c e;obtain⟨m,⟨o',es,ep,fY,Eg,_⟩,_⟩:=I.loc;rw[z,fY]at ho;cases ho;rw[Eg]at hd;cases hd
theorem Inv.lD(I:Inv X pins σ H s):s.heap.FunFrames X.base X.outer:=by
 have all:∀(l:List Env),(∀b∈yT l,b∈X.fs)->X.s₀.heap.FunFrames X.base l->s.heap.FunFrames X.base l:=by
  intro l;induction l with
  |nil=>intro _ _;trivial
  |cons env r ih =>
   intro hs hl;obtain⟨hk,⟨L,o,hf,hn,ho,hd⟩,hr⟩:=hl;have hL:L∈X.fs:=hs L (by unfold yT;rw[List.filterMap_cons,hf];exact aaf);obtain⟨sl,e⟩:=I.base.slot L o ho (I.ok.Ll L hL) hL λz=>I.ok.Eu L z hL;exact⟨hk,⟨L,_,hf,hn,e,hd⟩,ih (λb hb=>hs b (by unfold yT;rw[List.filterMap_cons,hf];exact aae _ hb)) hr⟩
 exact all X.outer (λ_ hb=>hb) I.ok.lD
theorem Inv.stack(I:Inv X pins σ H s):s.heap.FunFrames X.base X.stack:=by
 rcases I.ok.PC with e|⟨e,hf⟩
 ·rw[e];exact I.lD
 ·rw[e];obtain⟨m,hn,_⟩:=I.loc;refine .cons (by rw[I.ok.kind];decide) hf hn ?_ I.lD;exact Heap.get?_none_of_le (aaz I.ok.Gm I.ok.above)
theorem Inv.kj(I:Inv X pins σ H s):∀b∈yT X.stack,b∈X.env.locals::X.fs:=λb hb=>by
 rcases I.ok.PC with e|⟨e,hf⟩
 ·rw[e]at hb;exact aae _ hb
 ·rw[e]at hb;unfold yT at hb;rw[List.filterMap_cons,hf]at hb;exact hb
theorem Inv.vo(I:Inv X pins σ H s):∀b∈yT X.stack,H b=none:=λb hb=>by
 rcases List.mem_cons.mp (I.kj b hb)with e|hb
 ·rw[e];exact I.free
 ·obtain⟨_,o,ho,_⟩:=I.ok.lD.mem hb;exact I.base.free b o ho (I.ok.Ll b hb) λz=>I.ok.Eu b z hb
theorem Inv.step{g':Array GenState}{d':Drawn}(I:Inv X pins σ H s)
  (Cc:∀b∈ch,(b∈X.ex\/X.s₀.heap.objs.size<=b)/\b≠X.env.locals/\(∀x c,X.env.cells.lookup x=some c->c≠b)/\∀p∈X.pn++pins,p.1≠b)
  (keep:∀b o,b≠X.env.locals->b∉X.fs->b∉ch->s.heap.get? b=some o->H b=none->h'.get? b=some o)
  (slot:∀b o,b≠X.env.locals->b∈X.fs->b∉ch->s.heap.get? b=some o->H b=none->∃sl,h'.get? b=some { o with slots:=sl }) (free:∀b o,b∉ch->s.heap.get? b=some o->H b=none->H' b=none)
  (there:∀b o,b∉ch->s.heap.get? b=some o->∃o',h'.get? b=some o')
  (pq:∀b xs,H b=some (.tup xs)->H' b=some (.tup xs)) (oi:∀b o u,H b=some (.h_ o u)->H' b=some (.h_ o u)) (pv:∀b ps,H b=some (.FD ps)->∃more,H' b=some (.FD (ps++more)))
  (ns:∀m,s.heap.Ns X.env.locals m->h'.Ns X.env.locals m) (cN:kP X.prog X.w H' h') (hg:AllBare g') :
  Inv X pins σ H' { s with heap:=h',gens:=g',drawn:=d',toks:=t' }:=by
 have Vs:∀b o,X.s₀.heap.get? b=some o->b≠X.env.locals:=λb o e=>aan (aao (aai e) I.ok.above);have FW:∀b o,X.s₀.heap.get? b=some o->b∉X.ex->b∉ch:=λb o e hx hb=>by
  rcases(Cc b hb).1 with z|z
  ·exact hx z
  ·exact absurd (aao (aai e) z) (aav _)
 have cellK:∀x c,X.env.cells.lookup x=some c->∀v,s.heap.IsCell c v->h'.IsCell c v:=λx c e v bN=>by
  obtain⟨o,ho,hd⟩:=bN;have M7:c∉ch:=λz=>(Cc c z).2.2.1 x c e rfl;by_cases hc:c∈X.fs
  ·obtain⟨sl,q⟩:=slot c o (I.J9 x c e) hc M7 ho (I.iZ x c e);exact⟨_,q,hd⟩
  ·exact⟨o,keep c o (I.J9 x c e) hc M7 ho (I.iZ x c e),hd⟩
 refine⟨I.ok,I.os,hg,⟨λb o e n hb hx=>?_,λb o e n hb hx=>?_,λb o e n hx=>?_,λb o e hx=>?_,λb xs e=>pq b xs (I.base.pq b xs e),λb o xs e=>oi b o xs (I.base.oi b o xs e),λb ps e=>?_⟩,?_,λx c e=>?_,?_,λx c e=>?_,λp hp=>?_,cN,I.len⟩
 ·exact keep b o (Vs b o e) hb (FW b o e hx) (I.base.keep b o e n hb hx) (I.base.free b o e n hx)
 ·obtain⟨sl,e1⟩:=I.base.slot b o e n hb hx;obtain⟨Xq,e2⟩:=slot b _ (Vs b o e) hb (FW b o e hx) e1 (I.base.free b o e n hx);exact⟨Xq,e2⟩
 ·obtain⟨o',e1⟩:=I.base.there b o e hx;exact free b o' (FW b o e hx) e1 (I.base.free b o e n hx)
 ·obtain⟨o',e1⟩:=I.base.there b o e hx;exact there b o' (FW b o e hx) e1
 ·obtain⟨m1,e1⟩:=I.base.pv b ps e;obtain⟨m2,e2⟩:=pv b _ e1;exact⟨m1++m2,by rw[e2,Array.append_assoc]⟩
 ·obtain⟨m,hn,hl⟩:=I.loc;refine⟨m,ns m hn,λi x v e1 e2 e3=>?_⟩;obtain⟨u,r,l⟩:=hl i x v e1 e2 e3;refine⟨u,r,?_⟩;rcases l with l|⟨k,c,e,z⟩
  ·exact .inl l
  ·exact .inr ⟨k,c,e,cellK x c e _ z⟩
 ·obtain⟨v,z⟩:=I.cell x c e;exact⟨v,cellK x c e v z⟩
 ·obtain⟨m,⟨o,_,_,ho,_⟩,_⟩:=I.loc;exact free _ o (λz=>(Cc _ z).2.1 rfl) ho I.free
 ·obtain⟨v,o,ho,hd⟩:=I.cell x c e;exact free c o (λz=>(Cc c z).2.2.1 x c e rfl) ho (I.iZ x c e)
 ·obtain⟨e,n,ne,nf,d⟩:=I.pin p hp;have M7:p.1∉ch:=λz=>(Cc p.1 z).2.2.2 p hp rfl;exact⟨keep p.1 p.2 ne nf M7 e n,free p.1 p.2 M7 e n,ne,nf,d⟩
theorem Inv.un(I:Inv X pins σ H s)(u:Un X.fs [] H H' s.heap h')(cN:kP X.prog X.w H' h'):Inv X pins σ H' { s with heap:=h',toks:=t' }:=by
 obtain⟨m,⟨o,es,ep,ho,r⟩,_⟩:=id I.loc;obtain⟨sl,hL⟩:=u.any ho I.free (by simp);exact I.step (g':=s.gens) (d':=s.drawn) (ch:=[]) (λ_ z=>nomatch z) (λb o _ hb _ e n=>u.keep b o e n hb (by simp)) (λb o _ hb _ e n=>u.slot b o e n hb (by simp)) (λb o _ e n=>u.free b o e n (by simp)) (λb o _ e=>u.there b o e (by simp)) u.pq u.oi u.pv (λm' hm=>by
  obtain⟨o',Gh,j0,fY,r'⟩:=hm;rw[ho]at fY;cases fY;exact⟨_,Gh,j0,hL,r'⟩) cN I.bare
theorem Inv.call{g':Array GenState}{d':Drawn}(I:Inv X pins σ H s)(u:Un (yT X.stack) ch H H' s.heap h')(cN:kP X.prog X.w H' h')(hg:AllBare g')
  (Cc:∀b∈ch,(b∈X.ex\/X.s₀.heap.objs.size<=b)/\b≠X.env.locals/\(∀x c,X.env.cells.lookup x=some c->c≠b)/\∀p∈X.pn++pins,p.1≠b) :
  Inv X pins σ H' { s with heap:=h',gens:=g',drawn:=d',toks:=t' }:=by
 obtain⟨m,⟨o,es,ep,ho,r⟩,_⟩:=id I.loc;obtain⟨sl,hL⟩:=u.any ho I.free λz=>(Cc _ z).2.1 rfl;exact I.step (ch:=ch) Cc (λb o hL hb hc e n=>u.keep b o e n (λz=>(List.mem_cons.mp (I.kj b z)).elim hL hb) hc) (λb o _ _ hc e n=>u.any e n hc) (λb o hc e n=>u.free b o e n hc) (λb o hc e=>u.there b o e hc) u.pq u.oi u.pv (λm' hm=>by
  obtain⟨o',Gh,j0,fY,r'⟩:=hm;rw[ho]at fY;cases fY;exact⟨_,Gh,j0,hL,r'⟩) cN hg
theorem Inv.turned{it:Addr}(I:Inv X pins σ H s)(k:∀b o,b≠it->s.heap.get? b=some o->h'.get? b=some o)(hn:H it=none)(hL:it≠X.env.locals)
  (h1:it∈X.ex\/X.s₀.heap.objs.size<=it) (h2:∀x c,X.env.cells.lookup x=some c->c≠it) (h3:∀p∈X.pn++pins,p.1≠it):Inv X pins σ H { s with heap:=h',toks:=t' }:=by
 have FV:∀b u,H b=some u->b≠it:=λb u e z=>by rw[z,hn]at e;cases e
 refine I.step (g':=s.gens) (d':=s.drawn) (ch:=[it]) (λb hb=>?_) (λb o _ _ hc e _=>k b o (λz=>hc (by simp[z])) e) (λb o _ _ hc e _=>⟨o.slots,k b o (λz=>hc (by simp[z])) e⟩) (λ_ _ _ _ n=>n)
  (λb o hc e=>⟨o,k b o (λz=>hc (by simp[z])) e⟩) (λ_ _ e=>e) (λ_ _ _ e=>e) (λb ps e=>⟨#[],by rw[e];simp⟩) (λm hm=>?_) (λb u e=>?_) I.bare
 ·have e:b=it:=by simpa using hb
  subst e;exact⟨h1,hL,h2,h3⟩
 ·obtain⟨o,es,ep,ho,r⟩:=hm;exact⟨o,es,ep,k _ o (abE hL) ho,r⟩
 ·refine(I.cN b u e).mD (λc v hc q=>k c v ?_ q) (λ_ q=>q) λ_ _ q=>q;rcases hc with z|z
  ·rw[z];exact FV b u e
  ·exact FV c _ z
theorem Inv.tok(I:Inv X pins σ H s)(t:Nat):Inv X pins σ H { s with toks:=t }:=I.un (h':=s.heap) (t':=t) Un.refl I.cN
theorem Inv.kept{t':Nat}(I:Inv X pins σ H s)(k:∀b u,s.heap.get? b=some u->h'.get? b=some u):Inv X pins σ H { s with heap:=h',toks:=t' }:=I.un (Un.kept k) (I.cN.kept k)
theorem Inv.laid{a:Addr}{o:HO}{t':Nat}(I:Inv X pins σ H s)(k:∀b u,s.heap.get? b=some u->h'.get? b=some u)(hp:s.heap.objs.size<=a)(new:cu X.prog X.w (upd H a o) h' a o):
  Inv X pins σ (upd H a o) { s with heap:=h',toks:=t' }:=I.un (Un.laid k hp (I.cN.fresh hp)) (I.cN.laid k hp new)
theorem Inv.write{x e:Addr}{o:HO}{t':Nat}(I:Inv X pins σ H s)(mu:QE (H x))(he:e=x\/H e=some (.own x))(k:∀b u,b≠e->s.heap.get? b=some u->h'.get? b=some u)(Le:∃u,h'.get? e=some u)
  (new:cu X.prog X.w (upd H x o) h' x o):Inv X pins σ (upd H x o) { s with heap:=h',toks:=t' }:=I.un (Un.write mu he k Le) (I.cN.write mu he k Le new)
theorem Inv.iE{FQ:ao}(I:Inv X pins σ H s)(h:∀p∈FQ,s.heap.get? p.1=some p.2/\H p.1=none/\p.1≠X.env.locals/\p.1∉X.fs/\∀v,p.2.data≠.cell v):Inv X FQ σ H s :=
 ⟨I.ok,I.os,I.bare,I.base,I.loc,I.cell,I.free,I.iZ,λp hp=>(List.mem_append.mp hp).elim (λz=>I.pin p (aax _ z)) (h p),I.cN,I.len⟩
theorem rN{N:aq}(hN:N.Nodup){i j:Nat}{x:Str}(a:N[i]?=some x)(b:N[j]?=some x):i=j:=by
 obtain⟨h1,e1⟩:=List.getElem?_eq_some_iff.mp a;obtain⟨h2,e2⟩:=List.getElem?_eq_some_iff.mp b;exact(abP hN).mp (e1.trans e2.symm)
theorem xu{M:Model}{i:Nat}{x:Str}{v:V}{u:Value}(I:Inv X pins σ H s)(hN:X.N.Nodup)(hi:X.N[i]?=some x)(hx:Loc X.env.scope x)(r:RelV v u)
  (h:∀s',Inv X pins (σ.set i (some v)) H s'->(∃a,Heap.SameBut a s.heap s'.heap/\(a=X.env.locals\/X.env.cells.lookup x=some a))->Q () s') (hf:X.fn x=true\/X.env.scope.names.lookup x=some .local:=by first|exact .inl rfl|exact .inr rfl|assumption):wpAny M A (storeName X.env x u) Q E s:=by
 obtain⟨m,hn,hl⟩:=id I.loc;have Tz:(X.env.scope.kind==.class||(X.env.scope.kind==.module&&X.env.locals != X.env.globals))=false:=by rw[I.ok.kind];rfl
 have NV:i<σ.length:=by rw[I.len];exact(List.getElem?_eq_some_iff.mp hi).1
 have J9:=I.J9;have tracked:∀{a:Addr} {h':Heap},(∃o,s.heap.get? a=some o/\H a=none)->Heap.SameBut a s.heap h'->kP X.prog X.w H h':=λ{a h'} ha hs b ob e=>by
  obtain⟨_,_,F9⟩:=ha;refine(I.cN b ob e).mD (λc w' hc q=>(hs.2 c ?_).trans q) (λ_ q=>q) λ_ _ q=>q;rintro rfl;rcases hc with rfl|hc
  ·rw[F9]at e;cases e
  ·rw[F9]at hc;cases hc
 rcases hx with hk|hk
 ·refine wpAny_storeName_local hk hn (λh' wj hs=>?_) Tz;obtain⟨oL,_,_,NQ,_⟩:=id hn;refine h _ ⟨I.ok,I.os,I.bare,⟨λb o e n hb hx=>?_,λb o e n hb hx=>?_,I.base.free,λb o e hx=>?_,I.base.pq,I.base.oi,I.base.pv⟩,⟨_,wj,λj y v' e1 e2 e3=>?_⟩,λy c e=>?_,I.free,I.iZ,λp hp=>?_,tracked ⟨oL,NQ,I.free⟩ hs,by simpa using I.len⟩ ⟨_,hs,.inl rfl⟩
  ·exact(hs.2 b (aan (aao (aai e) I.ok.above))).trans (I.base.keep b o e n hb hx)
  ·obtain⟨sl,e1⟩:=I.base.slot b o e n hb hx;exact⟨sl,(hs.2 b (aan (aao (aai e) I.ok.above))).trans e1⟩
  ·obtain⟨o',e1⟩:=I.base.there b o e hx;exact⟨o',(hs.2 b (aan (aao (aai e) I.ok.above))).trans e1⟩
  ·by_cases hj:j=i
   ·subst hj;rw[hi]at e1;cases e1;rw[List.getElem?_set_self NV]at e2;cases e2;exact⟨u,r,.inl ⟨hk,by simp⟩⟩
   ·rw[List.getElem?_set_ne (Ne.symm hj)]at e2;obtain⟨u',r',q⟩:=hl j y v' e1 e2 e3;refine⟨u',r',?_⟩;rcases q with ⟨k,e⟩|⟨k,c,e,z⟩
    ·refine .inl ⟨k,?_⟩;have:y≠x:=λe=>hj (rN hN e1 (e▸hi));simp[this,e]
    ·exact .inr ⟨k,c,e,z.sameBut hs (J9 y c e)⟩
  ·obtain⟨w',z⟩:=I.cell y c e;exact⟨w',z.sameBut hs (J9 y c e)⟩
  ·obtain⟨e,n,ne,nf,d⟩:=I.pin p hp;exact⟨(hs.2 p.1 ne).trans e,n,ne,nf,d⟩
 ·have oT:X.fn x=true:=by
   rcases hf with z|z
   ·exact z
   ·rw[z]at hk;cases hk
  obtain⟨c,hc⟩:=I.ok.has x (.inl hk);obtain⟨w',z⟩:=I.cell x c hc;refine wpAny_storeName_cell I.ok.kind hk hc z (λh' yQ hs=>?_);obtain⟨oc,K8,SX⟩:=id z;refine h { s with heap:=h' } ⟨I.ok,I.os,I.bare,⟨λb o e n hb hx=>?_,λb o e n hb hx=>?_,I.base.free,λb o e hx=>?_,I.base.pq,I.base.oi,I.base.pv⟩,⟨m,hn.sameBut hs (abE (J9 x c hc)),λj y v' e1 e2 e3=>?_⟩,λy c' e=>?_,I.free,I.iZ,λp hp=>?_,tracked ⟨oc,K8,I.iZ x c hc⟩ hs,by simpa using I.len⟩ ⟨c,hs,.inr hc⟩
  ·exact(hs.2 b (aan (aao (aai e) (I.ok.OP x c oT hc)))).trans (I.base.keep b o e n hb hx)
  ·obtain⟨sl,e1⟩:=I.base.slot b o e n hb hx;exact⟨sl,(hs.2 b (aan (aao (aai e) (I.ok.OP x c oT hc)))).trans e1⟩
  ·obtain⟨o',e1⟩:=I.base.there b o e hx;exact⟨o',(hs.2 b (aan (aao (aai e) (I.ok.OP x c oT hc)))).trans e1⟩
  ·by_cases hj:j=i
   ·subst hj;rw[hi]at e1;cases e1;rw[List.getElem?_set_self NV]at e2;cases e2;exact⟨u,r,.inr ⟨.inl hk,c,hc,yQ⟩⟩
   ·rw[List.getElem?_set_ne (Ne.symm hj)]at e2;obtain⟨u',r',q⟩:=hl j y v' e1 e2 e3;refine⟨u',r',?_⟩;rcases q with q|⟨k,c',e,z'⟩
    ·exact .inl q
    ·refine .inr ⟨k,c',e,z'.sameBut hs ?_⟩;rintro rfl;exact hj (rN hN e1 (I.ok.inj _ _ _ e hc▸hi))
  ·by_cases TB:c'=c
   ·subst TB;exact⟨_,yQ⟩
   ·obtain⟨w2,z2⟩:=I.cell y c' e;exact⟨w2,z2.sameBut hs TB⟩
  ·obtain⟨e,n,ne,nf,d⟩:=I.pin p hp;refine⟨(hs.2 p.1 ?_).trans e,n,ne,nf,d⟩;intro q;rw[q,K8]at e;have q':oc=p.2:=aap e;exact d w' (by rw[<- q'];exact SX)
theorem jK{M:Model}{i:Nat}{x:Str}{v:V}{u:Value}(I:Inv X pins σ H s)(hN:X.N.Nodup)(hi:X.N[i]?=some x)(hx:Loc X.env.scope x)(r:RelV v u)
  (h:∀s',Inv X pins (σ.set i (some v)) H s'->Q () s') (hf:X.fn x=true\/X.env.scope.names.lookup x=some .local:=by first|exact .inl rfl|exact .inr rfl|assumption):wpAny M A (storeName X.env x u) Q E s :=
 xu I hN hi hx r (λs' I' _=>h s' I') hf
theorem Inv.OO{s':Shared}(I:Inv X pins σ H s)(ho:s'.os=s.os)(u:Un (yT X.stack) ch H H' s.heap s'.heap)(cN:kP X.prog X.w H' s'.heap)(hg:AllBare s'.gens)
  (Cc:∀b∈ch,(b∈X.ex\/X.s₀.heap.objs.size<=b)/\b≠X.env.locals/\(∀x c,X.env.cells.lookup x=some c->c≠b)/\∀p∈X.pn++pins,p.1≠b):Inv X pins σ H' s':=by
 obtain⟨h',g',d',t',o'⟩:=s';have e:o'=s.os:=ho;subst e;exact I.call (g':=g') (t':=t') (d':=d') u cN hg Cc
end
noncomputable abbrev XK:=Value->Option Addr->Hp->Prop
noncomputable abbrev St:=List (Option V)
noncomputable abbrev VK:=V->Hp->Prop
noncomputable abbrev TE:=St->Hp->VK->Prop
noncomputable abbrev TT:=St->Hp->(Bool->Hp->Prop)->Prop
noncomputable abbrev TA:=St->Hp->(af->Hp->Prop)->Prop
structure Ends where
 nx:St->Hp->Prop
 rt:VK
 bk:St->Hp->Prop:=λ_ _=>False
 ct:St->Hp->Prop:=λ_ _=>False
noncomputable abbrev TS:=Ends->St->Hp->Prop
def EP(X:Cx)(pins:ao)(σ:St)(Q:VK)(u:Value)(s':Shared):Prop:=∃v H',Inv X pins σ H' s'/\RelV v u/\Q v H'
def TP(X:Cx)(pins:ao)(σ:St)(Q:Bool->Hp->Prop)(b:Bool)(s':Shared):Prop:=∃H',Inv X pins σ H' s'/\Q b H'
def AP(X:Cx)(pins:ao)(σ:St)(Q:af->Hp->Prop)(us:ak)(s':Shared):Prop:=∃vs H',Inv X pins σ H' s'/\Vals vs us/\Q vs H'
def SP(X:Cx)(pins:ao)(D:Ends)(f:Flow)(s':Shared):Prop :=
 match f with
 |.next=>∃σ' H',Inv X pins σ' H' s'/\D.nx σ' H'
 |.brk=>∃σ' H',Inv X pins σ' H' s'/\D.bk σ' H'
 |.cont=>∃σ' H',Inv X pins σ' H' s'/\D.ct σ' H'
 |.ret u=>∃v σ' H',Inv X pins σ' H' s'/\RelV v u/\D.rt v H'
noncomputable def PE(X:Cx)(e:Expr)(t:TE):Prop :=
 ∀(pins:ao) (s:Shared) (σ:St) (H:Hp) (Q:VK),Inv X pins σ H s->t σ H Q->wpAny (model X.prog X.w) X.A (eval e X.env) (EP X pins σ Q) X.xe s
noncomputable def PT(X:Cx)(e:Expr)(t:TT):Prop :=
 ∀(pins:ao) (s:Shared) (σ:St) (H:Hp) (Q:Bool->Hp->Prop),Inv X pins σ H s->t σ H Q->wpAny (model X.prog X.w) X.A (isTrue e X.env (eval e X.env)) (TP X pins σ Q) X.xe s
noncomputable def PW(X:Cx)(e:Expr)(t:TT):Prop :=
 ∀(whole:Sem Value) (pins:ao) (s:Shared) (σ:St) (H:Hp) (Q:Bool->Hp->Prop),Inv X pins σ H s->t σ H Q->wpAny (model X.prog X.w) X.A (isTrue e X.env whole) (TP X pins σ Q) X.xe s
theorem PW.pt{X:Cx}{e:Expr}{t:TT}(h:PW X e t):PT X e t:=h _
noncomputable def PA(X:Cx)(es:aA)(t:TA):Prop :=
 ∀(pos:Pos) (pins:ao) (s:Shared) (σ:St) (H:Hp) (Q:af->Hp->Prop),Inv X pins σ H s->t σ H Q->wpAny (model X.prog X.w) X.A (spliced (backTo pos (starEach es X.env))) (AP X pins σ Q) X.xe s
noncomputable def PS(X:Cx)(st:Stmt)(t:TS):Prop :=
 ∀(pins:ao) (s:Shared) (σ:St) (H:Hp) (D:Ends),Inv X pins σ H s->t D σ H->wpAny (model X.prog X.w) X.A (exec st X.env) (SP X pins D) X.xe s
noncomputable def me(X:Cx)(st:bt)(t:TS):Prop :=
 ∀(pins:ao) (s:Shared) (σ:St) (H:Hp) (D:Ends),Inv X pins σ H s->t D σ H->wpAny (model X.prog X.w) X.A (execs st X.env) (SP X pins D) X.xe s
theorem cV{α:Type}{t:Sem α}{Q Q':α->Shared->Prop}{M:Model}{s:Shared}(h:wpAny M A t Q E s)(hQ:∀a s,Q a s->Q' a s):wpAny M A t Q' E s:=aaw h hQ λ_ _ x=>x
end L2
namespace L2
open PySem PySem.Spec PyProof.Rows
variable {E Q:Value->Shared->Prop}{pos:Pos}{σ:L2.St}
section
variable {X:Cx}
noncomputable def pz(i:Nat):TE:=λσ H Q=>∃v,σ[i]?=some (some v)/\Q v H
noncomputable def tC(v:V):TE:=λ_ H Q=>Q v H
theorem t7{i:Nat}{x:Str}(hN:X.N[i]?=some x)(hv:Kl X.env.scope x)(hd:(x==("__debug__" : Str))=false:=by decide)(yd:(x==("__classdict__" : Str))=false:=by decide):PE X (.Name x pos) (pz i):=by
 intro pins s σ H Q I h;obtain⟨v,e,h⟩:=h;obtain⟨m,hn,hl⟩:=I.loc;obtain⟨u,r,l⟩:=hl i x v hN e hv;have fin:EP X pins σ Q u s:=⟨v,H,I,r,h⟩
 rcases l with ⟨hk,hm⟩|⟨hk,c,hc,hcell⟩
 ·exact wpAny_Name (wpAny_loadName_local I.ok.kind hk hn hm fin) hd
 ·rcases hk with hk|hk
  ·exact wpAny_Name (wpAny_loadName_cell I.ok.kind hk hc hcell fin) hd
  ·exact wpAny_Name (wpAny_loadName_free I.ok.kind hk hc hcell fin yd) hd
theorem HA{i j pos}:PE X (.Constant (.int i) j pos) (tC (.int i)):=λ_ _ _ H _ I h=>wpAny_Constant_int ⟨.int i,H,I.tok _,⟨_,rfl⟩,h⟩
theorem MS{b j pos}:PE X (.Constant (.bool b) j pos) (tC (.bl b)):=λ_ _ _ H _ I h=>Constant_bool ⟨.bl b,H,I,rfl,h⟩
theorem Hz{j pos}:PE X (.Constant .none j pos) (tC .bW):=λ_ _ _ H _ I h=>Constant_none ⟨.bW,H,I,rfl,h⟩
def Gl(X:Cx)(x:Str):Prop:=X.env.kindOf x=some .globalImplicit
theorem vV{pins:ao}{s:Shared}{H:Hp}{x:Str}{u:Value}(I:Inv X pins σ H s)(hg:Gl X x)(hm:X.mg x=some u)(h:Q u s)
  (hd:(x==("__debug__" : Str))=false:=by decide):wpAny (model X.prog X.w) X.A (eval (.Name x pos) X.env) Q E s :=
 Calls.Name_function_global I.ok.kind hg (Calls.loadGlobal_global (by rw[I.ok.glob];exact I.mod.glob.keeps I.bk) hm h) hd
theorem eE{pins:ao}{s:Shared}{H:Hp}{x:Str}{u:Value}(I:Inv X pins σ H s)(hg:Gl X x)(hm:X.mg x=none)(hv:bootBuiltins x=some u)(h:Q u s)
  (hn:x ≠ "__name__":=by decide) (hd:(x==("__debug__" : Str))=false:=by decide):wpAny (model X.prog X.w) X.A (eval (.Name x pos) X.env) Q E s:=by
 obtain⟨mb,h1,h2⟩:=I.mod.blt;exact Calls.Name_function_global I.ok.kind hg (Calls.loadGlobal_builtin (by rw[I.ok.glob];exact I.mod.glob.keeps I.bk) hm (by rw[I.ok.blt];exact h1.keeps I.bk) ((h2 x hn).trans hv) h) hd
theorem vL{x:Str}{v:V}{u:Value}(hg:Gl X x)(hm:X.mg x=some u)(r:RelV v u)(hd:(x==("__debug__" : Str))=false:=by decide):PE X (.Name x pos) (tC v) :=
 λ_ _ _ H _ I h=>vV I hg hm ⟨v,H,I,r,h⟩ hd
theorem DD{x:Str}{v:V}{u:Value}(hg:Gl X x)(hm:X.mg x=none)(hv:bootBuiltins x=some u)(r:RelV v u)(hn:x ≠ "__name__":=by decide)(hd:(x==("__debug__" : Str))=false:=by decide):PE X (.Name x pos) (tC v) :=
 λ_ _ _ H _ I h=>eE I hg hm hv ⟨v,H,I,r,h⟩ hn hd
variable {a b:Expr}{ta tb:TE}{pos:Pos}
noncomputable def tB(t:TE):TT:=λσ H Q=>t σ H λx H1=>∃c,x=.bl c/\Q c H1
theorem Hn{e:Expr}{t:TE}(h:PE X e t)(he:∀whole,isTrue e X.env whole=(do let v <- whole;standAt e.pos;holding [v] (truthy v)):=by intro _;rfl):PT X e (tB t):=by
 intro pins s σ H Q I hw;refine isTrue_plain (cV (h pins s σ H _ I hw) λv s1 bN=>?_) (he _);obtain⟨x,H1,I1,r1,q1⟩:=bN;obtain⟨d,rfl,q⟩:=q1;cases r1;exact aa3 ⟨H1,I1,q⟩
variable {tA Pz:TT}{rest:aA}
noncomputable def Mf(t u:TT):TT:=λσ H Q=>t σ H λc H1=>if c=true then u σ H1 Q else Q false H1
noncomputable def Vg(t u:TT):TT:=λσ H Q=>t σ H λc H1=>if c=true then Q true H1 else u σ H1 Q
noncomputable def QR(t:TT):TT:=λσ H Q=>t σ H λc H1=>Q (!c) H1
theorem Dt(ha:PT X a tA):PW X (.BoolOp .And [a] pos) tA:=by
 intro wh pins s σ H Q I h;refine isTrue_and (cV (ha pins s σ H Q I h) λc s1 e=>?_);cases c with
 |true=>exact isTrue_and_nil e
 |false=>exact e
theorem Hl(ha:PT X a tA):PW X (.BoolOp .Or [a] pos) tA:=by
 intro wh pins s σ H Q I h;refine isTrue_or (cV (ha pins s σ H Q I h) λc s1 e=>?_);cases c with
 |false=>exact isTrue_or_nil e
 |true=>exact e
theorem Hm(ha:PT X a tA)(hb:PW X (.BoolOp .And (b::rest) pos) Pz):PW X (.BoolOp .And (a::b::rest) pos) (Mf tA Pz):=by
 intro wh pins s σ H Q I h;refine isTrue_and (cV (ha pins s σ H _ I h) λc s1 ⟨H1,I1,q1⟩=>?_);cases c with
 |true=>exact hb wh pins s1 σ H1 Q I1 q1
 |false=>exact⟨H1,I1,q1⟩
theorem MJ(ha:PT X a tA)(hb:PW X (.BoolOp .Or (b::rest) pos) Pz):PW X (.BoolOp .Or (a::b::rest) pos) (Vg tA Pz):=by
 intro wh pins s σ H Q I h;refine isTrue_or (cV (ha pins s σ H _ I h) λc s1 ⟨H1,I1,q1⟩=>?_);cases c with
 |true=>exact⟨H1,I1,q1⟩
 |false=>exact hb wh pins s1 σ H1 Q I1 q1
theorem Ho(ha:PT X a tA):PT X (.UnaryOp .Not a pos) (QR tA):=by
 intro pins s σ H Q I h;exact isTrue_not (ha pins s σ H (λc H1=>Q (!c) H1) I h)
noncomputable def FI(ta tb:TE):TE:=λσ H Q=>ta σ H λx H1=>∃c,x=.bl c/\if c=true then tb σ H1 Q else Q (.bl false) H1
noncomputable def L_(ta tb:TE):TE:=λσ H Q=>ta σ H λx H1=>∃c,x=.bl c/\if c=true then Q (.bl true) H1 else tb σ H1 Q
noncomputable def Ma(ta:TE):TE:=λσ H Q=>ta σ H λx H1=>∃c,x=.bl c/\Q (.bl (!c)) H1
theorem z6{op}{t:TE}(h:PE X a t):PE X (.BoolOp op [a] pos) t:=λpins s σ H Q I hw=>BoolOp_one (h pins s σ H Q I hw)
theorem HC(ha:PE X a ta)(hb:PE X (.BoolOp .And (b::rest) pos) tb):PE X (.BoolOp .And (a::b::rest) pos) (FI ta tb):=by
 intro pins s σ H Q I h;refine BoolOp_and (cV (ha pins s σ H _ I h) λv s1 bN=>?_);obtain⟨x,H1,I1,r1,q1⟩:=bN;obtain⟨c,rfl,q1⟩:=q1;cases r1;refine aa3 ?_;cases c with
 |true=>exact hb pins s1 σ H1 Q I1 q1
 |false=>exact⟨.bl false,H1,I1,rfl,q1⟩
theorem MQ(ha:PE X a ta)(hb:PE X (.BoolOp .Or (b::rest) pos) tb):PE X (.BoolOp .Or (a::b::rest) pos) (L_ ta tb):=by
 intro pins s σ H Q I h;refine BoolOp_or (cV (ha pins s σ H _ I h) λv s1 bN=>?_);obtain⟨x,H1,I1,r1,q1⟩:=bN;obtain⟨c,rfl,q1⟩:=q1;cases r1;refine aa3 ?_;cases c with
 |false=>exact hb pins s1 σ H1 Q I1 q1
 |true=>exact⟨.bl true,H1,I1,rfl,q1⟩
theorem Hy(ha:PE X a ta):PE X (.UnaryOp .Not a pos) (Ma ta):=by
 intro pins s σ H Q I h;refine UnaryOp_ (cV (ha pins s σ H _ I h) λv s1 bN=>?_);obtain⟨x,H1,I1,r1,q1⟩:=bN;obtain⟨c,rfl,q1⟩:=q1;cases r1;exact not_of (aa3 ⟨.bl (!c),H1,I1,rfl,q1⟩)
end
end L2
namespace L2
open PySem PySem.Spec PyProof.Rows
def dh(K:av)(H:Hp)(a:Addr)(xs:af):Prop :=
 Rd H a (.lst xs) \/
  ∃(o:Obj) (aJ:aM) (n:Nat),K.lookup a=some o/\o.cls=.type "list" /\ o.dict=none/\o.data=.seq aJ n/\aJ.size<=sizeLine/\Vals xs aJ.toList
def aW(K:av)(H:Hp)(a:Addr)(xs:af):Prop :=
 Rd H a (.tup xs) \/
  ∃(o:Obj) (aJ:aM) (n:Nat),K.lookup a=some o/\o.cls=.type "tuple" /\ o.data=.seq aJ n/\aJ.size<=sizeLine/\Vals xs aJ.toList
noncomputable def UX:Value->Option V
 |.none=>some .bW
 |.bool b=>some (.bl b)
 |.int i _=>some (.int i)
 |.str x _=>some (.str x)
 |.bytes b _=>some (.UM b)
 |.float b _=>some (.Ot b)
 |.ref a=>some (.ref a)
 |.type n=>some (.ty n)
 |_=>none
theorem RelV.abs{x:V}{u:Value}(r:RelV x u):UX u=some x:=by
 cases x with
 |bW=>cases r;rfl
 |bl _=>cases r;rfl
 |int _=>obtain⟨t,rfl⟩:=r;rfl
 |str _=>obtain⟨t,rfl⟩:=r;rfl
 |UM _=>obtain⟨t,rfl⟩:=r;rfl
 |Ot _=>obtain⟨t,rfl⟩:=r;rfl
 |ref _=>cases r;rfl
 |ty _=>cases r;rfl
theorem RelV.inj{x y:V}{u:Value}(r:RelV x u)(q:RelV y u):x=y:=aap (r.abs.symm.trans q.abs)
theorem Vals.inj:∀{xs ys:af} {us:ak},Vals xs us->Vals ys us->xs=ys
 |_,_,_,.nil,.nil=>rfl
 |_,_,_,.cons r t,.cons r' t'=>by rw[r.inj r',Vals.inj t t']
variable {K:av}
section
variable {X:Cx}{pins:ao}{σ:St}{H:Hp}{s:Shared}{a:Addr}{xs ys:af}
theorem dh.of(h:H a=some (.lst xs)):dh K H a xs:=.inl (.inl h)
theorem aW.of(h:H a=some (.tup xs)):aW K H a xs:=.inl (.inl h)
theorem Inv.list(I:Inv X pins σ H s)(h:dh X.K H a xs):∃aJ:ak,Vals xs aJ/\PlainL s.heap a aJ.toArray/\xs.length<=sizeLine:=by
 rcases h with h|⟨o,aJ,n,hk,hc,hd,hs,hz,r⟩
 ·obtain⟨z,aJ,n,r,e⟩:=h.ok I.cN;exact⟨aJ,r,⟨_,n,e,rfl,rfl,rfl⟩,z⟩
 ·refine⟨aJ.toList,r,⟨o,n,I.yL a o hk,hc,hd,by simpa using hs⟩,?_⟩;have e:=r.length;simp only[Array.length_toList]at e;left
theorem Inv.tuple(I:Inv X pins σ H s)(h:aW X.K H a xs):∃aJ:ak,Vals xs aJ/\IsTup s.heap a aJ.toArray/\xs.length<=sizeLine:=by
 rcases h with h|⟨o,aJ,n,hk,hc,hs,hz,r⟩
 ·obtain⟨z,aJ,r,p⟩:=h.ok I.cN;exact⟨aJ,r,p,z⟩
 ·refine⟨aJ.toList,r,⟨o,I.yL a o hk,hc,n,by simpa using hs⟩,?_⟩;have e:=r.length;simp only[Array.length_toList]at e;left
theorem Inv.jQ(I:Inv X pins σ H s)(h:dh X.K H a xs)(h':dh X.K H a ys):xs=ys:=by
 obtain⟨aJ,r,⟨o,n,e,_,_,d⟩,_⟩:=I.list h;obtain⟨its',r',⟨o',n',e',_,_,d'⟩,_⟩:=I.list h';rw[e]at e';cases e';rw[d]at d';injection d' with d1 _;have:aJ=its':=by simpa using congrArg Array.toList d1
 subst this;exact r.inj r'
theorem Inv.oD(I:Inv X pins σ H s)(h:aW X.K H a xs)(h':aW X.K H a ys):xs=ys:=by
 obtain⟨aJ,r,⟨o,e,_,n,d⟩,_⟩:=I.tuple h;obtain⟨its',r',⟨o',e',_,n',d'⟩,_⟩:=I.tuple h';rw[e]at e';cases e';rw[d]at d';injection d' with d1 _;have:aJ=its':=by simpa using congrArg Array.toList d1
 subst this;exact r.inj r'
end
noncomputable abbrev Cx.nP(X:Cx)(E:au):Cx:={ X with xe:=E }
abbrev Cx.M1(X:Cx):Cx:=X.nP λ_ _=>False
theorem Cx.Ok.nP{X:Cx}(ok:X.Ok)(E:au):(X.nP E).Ok :=
 ⟨ok.mod,ok.kind,ok.glob,ok.blt,ok.above,ok.inj,ok.has,ok.OP,ok.hd,ok.frames,ok.PC,ok.Wl,ok.bs,ok.Gm,ok.Af,ok.Eu,ok.lD,ok.Ll⟩
variable {E:Value->Shared->Prop}{X:Cx}
theorem Cx.Ok.gS(ok:(X.nP E).Ok):X.Ok :=
 ⟨ok.mod,ok.kind,ok.glob,ok.blt,ok.above,ok.inj,ok.has,ok.OP,ok.hd,ok.frames,ok.PC,ok.Wl,ok.bs,ok.Gm,ok.Af,ok.Eu,ok.lD,ok.Ll⟩
section
variable {X:Cx}{pins:ao}{σ:St}{H:Hp}{s:Shared}{E:au}
theorem Inv.nP(I:Inv X pins σ H s)(E:au):Inv (X.nP E) pins σ H s:=⟨I.ok.nP E,I.os,I.bare,I.base,I.loc,I.cell,I.free,I.iZ,I.pin,I.cN,I.len⟩
theorem Inv.gS(I:Inv (X.nP E) pins σ H s):Inv X pins σ H s:=⟨I.ok.gS,I.os,I.bare,I.base,I.loc,I.cell,I.free,I.iZ,I.pin,I.cN,I.len⟩
theorem SP.gS{D:Ends}{f:Flow}{s':Shared}(h:SP (X.nP E) pins D f s'):SP X pins D f s':=by
 cases f with
 |next=>obtain⟨σ',H',I,q⟩:=h;exact⟨σ',H',I.gS,q⟩
 |brk=>obtain⟨σ',H',I,q⟩:=h;exact⟨σ',H',I.gS,q⟩
 |cont=>obtain⟨σ',H',I,q⟩:=h;exact⟨σ',H',I.gS,q⟩
 |ret u=>obtain⟨v,σ',H',I,r,q⟩:=h;exact⟨v,σ',H',I.gS,r,q⟩
theorem me.M1{st:bt}{t:TS}(h:me X.M1 st t):me X st t:=λpins s σ H D I hw =>
 aaw (h pins s σ H D (I.nP _) hw) (λ_ _ q=>q.gS) λ_ _ z=>False.elim z
end
variable {σ:L2.St}
section
variable {X:Cx}{st:Stmt}{rest:bt}{t u:TS}{e:Expr}{te:TE}{pos:Pos}
noncomputable def FH:TS:=λD σ H=>D.nx σ H
noncomputable def QO(t u:TS):TS:=λD σ H=>t { D with nx:=u D } σ H
theorem Du:me X [] FH:=λ_ _ σ H _ I h=>wpAny_execs_nil ⟨σ,H,I,h⟩
theorem zM(h1:PS X st t)(h2:me X rest u):me X (st::rest) (QO t u):=by
 intro pins s σ H D I h;refine wpAny_execs_cons (cV (h1 pins s σ H { D with nx:=u D } I h) λf s1 q=>?_);cases f with
 |next =>
  obtain⟨σ',H',I',q⟩:=q;exact h2 pins s1 σ' H' D I' q
 |ret v=>exact q
 |brk=>exact q
 |cont=>exact q
theorem Inv.quiet{pins:ao}{H:Hp}{s:Shared}(I:Inv X pins σ H s):interactive X.env=false:=by simp[interactive,I.ok.kind]
noncomputable def Mb(te:TE):TS:=λD σ H=>te σ H λ_ H1=>D.nx σ H1
theorem jN(he:PE X e te)(hs:swapsWith e none pos.line X.env=pure false:=by rfl):PS X (.Expr e pos) (Mb te):=by
 intro pins s σ H D I h;exact wpAny_Expr_any (cV (he pins s σ H _ I h) λv s1 ⟨x,H1,I1,r1,q1⟩=>⟨σ,H1,I1,q1⟩) I.quiet hs
noncomputable def QP(te:TE):TS:=λD σ H=>te σ H D.rt
theorem Hq(he:PE X e te):PS X (.Return (some e) pos) (QP te):=by
 intro pins s σ H D I h;exact wpAny_Return_some (cV (he pins s σ H _ I h) λv s1 ⟨x,H1,I1,r1,q1⟩=>⟨x,σ,H1,I1,r1,q1⟩)
noncomputable def QT(c:TT)(t u:TS):TS:=λD σ H=>c σ H λb H1=>if b=true then t D σ H1 else u D σ H1
theorem MM{c:Expr}{a b:bt}{tc:TT}(hc:PT X c tc)(ha:me X a t)(hb:me X b u):PS X (.If c a b pos) (QT tc t u):=by
 intro pins s σ H D I h;refine wpAny_If (cV (hc pins s σ H _ I h) λd s1 ⟨H1,I1,q1⟩=>?_);cases d with
 |true=>exact ha pins s1 σ H1 D I1 q1
 |false=>exact hb pins s1 σ H1 D I1 q1
end
noncomputable abbrev TG:=V->St->Hp->(St->Hp->Prop)->Prop
noncomputable abbrev Fp:=af->St->Hp->(St->Hp->Prop)->Prop
def PG(X:Cx)(target:Expr)(t:TG):Prop :=
 ∀(pins:ao) (s:Shared) (σ:St) (H:Hp) (v:V) (u:Value) (Q:St->Hp->Prop),Inv X pins σ H s->RelV v u->t v σ H Q ->
  wpAny (model X.prog X.w) X.A (assign target X.env u) (λ_ s'=>∃σ' H',Inv X pins σ' H' s'/\Q σ' H') X.xe s
def Ly(X:Cx)(ts:aA)(t:Fp):Prop :=
 ∀(pins:ao) (s:Shared) (σ:St) (H:Hp) (vs:af) (us:ak) (Q:St->Hp->Prop),Inv X pins σ H s->Vals vs us->t vs σ H Q ->
  wpAny (model X.prog X.w) X.A (assignInOrder ((assignEach ts X.env).map (·.2)) us) (λ_ s'=>∃σ' H',Inv X pins σ' H' s'/\Q σ' H') X.xe s
noncomputable abbrev QD:=V->V->Hp->VK->Prop
def Pl(X:Cx)(op:Operator)(t:QD):Prop :=
 ∀(pins:ao) (s:Shared) (σ:St) (H:Hp) (x y:V) (v u:Value) (Q:VK),Inv X pins σ H s->RelV x v->RelV y u->t x y H Q ->
  wpAny (model X.prog X.w) X.A (inplaceOp op v u) (EP X pins σ Q) X.xe s
variable {es:aA}{te:TE}{tg:Expr}
section
variable {X:Cx}{pos:Pos}
noncomputable def oW(i:Nat):TG:=λv σ H Q=>Q (σ.set i (some v)) H
theorem pO{i:Nat}{x:Str}(hN:X.N.Nodup)(hi:X.N[i]?=some x)(hx:Loc X.env.scope x)(hf:X.fn x=true\/X.env.scope.names.lookup x=some .local:=by first|exact .inl rfl|exact .inr rfl|assumption):PG X (.Name x pos) (oW i):=by
 intro pins s σ H v u Q I r h;exact wpAny_assign_Name (jK I hN hi hx r (λs' I'=>⟨_,H,I',h⟩) hf)
noncomputable def Jh:Fp:=λvs σ H Q=>vs=[]/\Q σ H
noncomputable def Bh(t:TG)(u:Fp):Fp:=λvs σ H Q=>∃v r,vs=v::r/\t v σ H λσ' H'=>u r σ' H' Q
theorem vI:Ly X [] Jh:=by
 intro pins s σ H vs us Q I r h;obtain⟨e,h⟩:=h;subst e;cases r;exact assignInOrder_nil ⟨σ,H,I,h⟩
theorem rH{e:Expr}{t:TG}{u:Fp}(h1:PG X e t)(h2:Ly X es u)
  (hs:(assignEach (e::es) X.env).map (·.2)=assign e X.env::(assignEach es X.env).map (·.2):=by rfl):Ly X (e::es) (Bh t u):=by
 intro pins s σ H vs us Q I r h;obtain⟨v,vr,e1,h⟩:=h;subst e1;cases r with
 |cons r rr =>
  rw[hs];refine assignInOrder_cons (cV (h1 pins s σ H _ _ _ I r h) λ_ s1 bN=>?_);obtain⟨σ1,H1,I1,q1⟩:=bN;exact h2 pins s1 σ1 H1 _ _ Q I1 rr q1
def Ue(K:av)(n:Nat)(t:Fp):TG:=λv σ H Q=>∃a xs,v=.ref a/\aW K H a xs/\xs.length=n/\t xs σ H Q
theorem zV{k:Nat}{t:Fp}{n:Nat}(hc:X.calm=true)(h:Ly X es t)
  (hn:(assignEach es X.env).length=n:=by rfl) (lA:(assignEach es X.env).findIdx? (·.1)=none:=by rfl):PG X (.Tuple es k pos) (Ue X.K n t):=by
 intro pins s σ H v u Q I r hw;obtain⟨a,xs,e1,hq,hl,hw⟩:=hw;subst e1;cases r;obtain⟨aJ,rv,ht,hz⟩:=I.tuple hq;refine assign_Tuple_tuple (I.ok.hd hc) ht (by simp[hn,<- hl,rv.length]) lA λh' hx=>?_;have I1:Inv X pins σ H { s with heap:=h' }:=I.kept (t':=s.toks) λb o e=>hx b o (aan (aai e)) e;exact h pins _ σ H xs _ Q I1 (by simpa using rv) hw
noncomputable def QX(te:TE)(g:TG):TS:=λD σ H=>te σ H λx H1=>g x σ H1 D.nx
theorem Hs{e:Expr}{g:TG}(he:PE X e te)(hg:PG X tg g)(hs:swapsWithSole [tg] e pos.line X.env=pure false:=by rfl)(hw:swappedStores [tg] e X.env=pure none:=by rfl)
  (h1:(assignEach [tg] X.env).map (·.2)=[assign tg X.env]:=by rfl):PS X (.Assign [tg] e pos) (QX te g):=by
 intro pins s σ H D I h;refine wpAny_Assign_stores (cV (he pins s σ H _ I h) λv s1 bN=>?_) hs hw;obtain⟨x,H1,I1,r1,q1⟩:=bN;rw[h1];exact cV (hg pins s1 σ H1 x v _ I1 r1 q1) λ_ s2 q=>q
noncomputable def QQ(i j:Nat)(ta:TA):TS:=λD σ H=>ta σ H λvs H1=>∃v w,vs=[v,w]/\D.nx ((σ.set i (some v)).set j (some w)) H1
theorem Hr{i j:Nat}{x y:Str}{a b:Expr}{ta:TA}{px py pt:Pos}{kt k2 KG}(hc:X.calm=true)(hN:X.N.Nodup)(hi:X.N[i]?=some x)(hj:X.N[j]?=some y)(de:i≠j)
  (hx:X.env.scope.names.lookup x=some .local) (hy:X.env.scope.names.lookup y=some .local) (ha:PA X [a,b] ta)
  (hw:swappedStores [.Tuple [.Name x px,.Name y py] kt pt] (.Tuple [a,b] k2 KG) X.env=pure (some [x,y]))
  (hs:swapsWithSole [.Tuple [.Name x px,.Name y py] kt pt] (.Tuple [a,b] k2 KG) pos.line X.env=pure false:=by rfl) :
  PS X (.Assign [.Tuple [.Name x px,.Name y py] kt pt] (.Tuple [a,b] k2 KG) pos) (QQ i j ta):=by
 intro pins s σ H D I h;rw[exec_Assign_arm];refine aaa (ace ?_);rw[hs];refine aaa (aab ?_);rw[if_neg (by decide)];refine aaa (Tuple_ (cV (ha _ pins s σ H _ I h) λus s1 bN=>?_));obtain⟨vs,H1,I1,r1,q1⟩:=bN;obtain⟨v,w,e1,q1⟩:=q1;subst e1;obtain⟨u1,u2,rfl,rv,iD⟩:∃u1 u2,us=[u1,u2]/\RelV v u1/\RelV w u2:=by
  cases r1 with
  |cons p q =>
   cases q with
   |cons p' q' =>
    cases q';exact⟨_,_,rfl,p,p'⟩
 refine aaB ?_ (by show 2<=sizeLine;decide);have I2:Inv X pins σ H1 { s1 with heap:=s1.heap.push { cls:=.type "tuple",data:=.seq [u1,u2].toArray } }:=I1.kept (t':=s1.toks) λb o e=>aag _ e;rw[hw];refine aaa (aab ?_);show wpAny (model X.prog X.w) X.A (do rule "assign.swapped-stores";let items <- unpackItems (.ref s1.heap.objs.size) 2 none;assignInOrder [λv=>bindName X.env y v,λv=>bindName X.env x v] items.reverse;pure Flow.next) _ _ _;refine aaa (aa9 (aaa (unpackItems_tuple (items:=#[u1,u2]) (I.ok.hd hc) (IsTup.new s1.heap _) λh' v_=>?_)));have I3:=I2.kept (h':=h') (t':=s1.toks) λb o e=>v_ b o (aan (aai e)) e;show wpAny _ _ (assignInOrder [λv=>bindName X.env y v,λv=>bindName X.env x v] [u2,u1] >>= λ_=>pure Flow.next) _ _ _;refine aaa (assignInOrder_cons (wpAny_bindName (jK I3 hN hj (.inl hy) iD (λs2 I4=>?_) (.inr hy))));refine assignInOrder_cons (wpAny_bindName (jK I4 hN hi (.inl hx) rv (λs3 I5=>assignInOrder_nil (aab ?_)) (.inr hx)));rw[List.set_comm _ _ (Ne.symm de)]at I5;exact⟨_,H1,I5,q1⟩
noncomputable def QW(i:Nat)(te:TE)(ti:QD):TS:=λD σ H=>∃x,σ[i]?=some (some x)/\te σ H λy H1=>ti x y H1 λz H2=>D.nx (σ.set i (some z)) H2
theorem zP{i:Nat}{x:Str}{e:Expr}{op:Operator}{ti:QD}{pos':Pos}(hN:X.N.Nodup)(hi:X.N[i]?=some x)(hx:Loc X.env.scope x)(he:PE X e te)(ho:Pl X op ti)(hf:X.fn x=true\/X.env.scope.names.lookup x=some .local:=by first|exact .inl rfl|exact .inr rfl|assumption):
  PS X (.AugAssign (.Name x pos') op e pos) (QW i te ti):=by
 intro pins s σ H D I h;obtain⟨v,e1,h⟩:=h;obtain⟨m,hn,hl⟩:=I.loc;have Pp:Kl X.env.scope x:=by rcases hx with k|k;exact .inl k;exact .inr (.inl k)
 obtain⟨u,r,l⟩:=hl i x v hi e1 Pp;refine wpAny_AugAssign_Name ?_;have go:wpAny (model X.prog X.w) X.A (eval e X.env) (λw s₂=>wpAny (model X.prog X.w) X.A (inplaceOp op u w) (λr s₃=>wpAny (model X.prog X.w) X.A (storeName X.env x r) (λ_=>SP X pins D .next) X.xe s₃) X.xe s₂) X.xe s:=by
  refine cV (he pins s σ H _ I h) λw s1 bN=>?_;obtain⟨y,H1,I1,r1,q1⟩:=bN;refine cV (ho pins s1 σ H1 v y u w _ I1 r r1 q1) λz s2 bN=>?_;obtain⟨zv,H2,I2,r2,q2⟩:=bN;exact jK I2 hN hi hx r2 (λs3 I3=>⟨_,H2,I3,q2⟩) hf
 rcases l with ⟨hk,hm⟩|⟨hk,c,hc,hcell⟩
 ·exact wpAny_loadName_local I.ok.kind hk hn hm go
 ·rcases hk with hk|hk
  ·exact wpAny_loadName_cell I.ok.kind hk hc hcell go
  ·rcases hx with k|k
   ·have:X.env.scope.names.lookup x=some .free:=hk;rw[k]at this;cases this
   ·have:X.env.scope.names.lookup x=some .free:=hk;rw[k]at this;cases this
noncomputable def Sk(f:Int->Int->Int):QD:=λx y H Q=>∃i j,x=.int i/\y=.int j/\Q (.int (f i j)) H
theorem Iz:Pl X .Add (Sk λi j=>i+j):=by
 intro pins s σ H x y v u Q I r1 r2 h;obtain⟨i,j,e1,e2,q⟩:=h;subst e1;subst e2;obtain⟨t,rfl⟩:=r1;obtain⟨t',rfl⟩:=r2;exact iadd_int ⟨.int _,H,I.tok _,⟨_,rfl⟩,q⟩
theorem Iw:Pl X .Sub (Sk λi j=>i - j):=by
 intro pins s σ H x y v u Q I r1 r2 h;obtain⟨i,j,e1,e2,q⟩:=h;subst e1;subst e2;obtain⟨t,rfl⟩:=r1;obtain⟨t',rfl⟩:=r2;exact isub_int ⟨.int _,H,I.tok _,⟨_,rfl⟩,q⟩
end
section
variable {X:Cx}{pos:Pos}
noncomputable def GR(c:TT)(tb:TS):TS:=λD σ H=>∃W:Nat->St->Hp->Prop,(∃m,W m σ H)/\∀m σ H,W m σ H ->
 c σ H λb H1=>if b=true then ∃N:St->Hp->Prop,(∀σ' H',N σ' H'->∃m',m'<m/\W m' σ' H')/\tb { D with nx:=N,ct:=N,bk:=D.nx } σ H1 else D.nx σ H1
theorem zN{c:Expr}{body:bt}{tc:TT}{tb:TS}(hp:PassesOwn (model X.prog X.w) X.A X.env X.xe)(hc:PT X c tc)(hb:me X body tb):PS X (.While c body [] pos) (GR tc tb):=by
 intro pins s σ H D I h;obtain⟨W,⟨m0,w0⟩,turn⟩:=h;refine wpAny_While (codeAny_whileLoop (λn s'=>∃σ' H',Inv X pins σ' H' s'/\W n σ' H') ?_ m0 ⟨σ,H,I,w0⟩);rintro n s1 ⟨σ1,H1,I1,w1⟩;refine abb hp (cV (hc pins s1 σ1 H1 _ I1 (turn n σ1 H1 w1)) λb s2 ⟨H2,I2,q2⟩=>?_);cases b with
 |true =>
  obtain⟨N,hN,q2⟩:=q2;rw[if_pos rfl];refine abb hp (cV (hb pins s2 σ1 H2 _ I2 q2) λf s3 q3=>?_);cases f with
  |next =>
   obtain⟨σ3,H3,I3,n3⟩:=q3;obtain⟨m',hm,w3⟩:=hN σ3 H3 n3;exact⟨m',hm,σ3,H3,I3,w3⟩
  |cont =>
   obtain⟨σ3,H3,I3,n3⟩:=q3;obtain⟨m',hm,w3⟩:=hN σ3 H3 n3;exact⟨m',hm,σ3,H3,I3,w3⟩
  |brk=>exact q3
  |ret v=>exact q3
 |false =>
  rw[if_neg Bool.false_ne_true];exact wpAny_execs_nil ⟨σ1,H2,I2,q2⟩
end
structure It where
 go:Nat->Hp->Prop
 s_:Nat->Hp->V->Hp->Prop
 stop:Nat->Hp->Prop
noncomputable def nI(X:Cx)(pins:ao)(H:Hp)(b:Addr):Prop :=
 H b=none/\b≠X.env.locals/\b∉X.fs/\(b∈X.ex\/X.s₀.heap.objs.size<=b)/\(∀x c,X.env.cells.lookup x=some c->c≠b)/\∀p∈X.pn++pins,p.1≠b
theorem Inv.Er{pins:ao}{H H':Hp}{s:Shared}{b:Addr}(I:Inv X pins σ H s)(hb:s.heap.objs.size<=b)(hn:H' b=none):nI X pins H' b:=by
 refine⟨hn,aat (aao I.lt hb),I.HS hb,.inr (aaz I.sz hb),λx c e z=>?_,λp hp z=>?_⟩
 ·obtain⟨v,q⟩:=I.cell x c e;exact absurd (aao q.lt (by rw[z];exact hb)) (aav _)
 ·exact absurd (aao (aai (I.pin p hp).1) (by rw[z];exact hb)) (aav _)
structure Turn(P:aB)(w:World)(K:av)(tg:Expr)(J:It)(fp:aR)(it:Addr)(tn:Nat->Heap->Prop):Prop where
 mem:it∈fp
 obj:∀i h,tn i h->∀b∈fp,∃o,h.get? b=some o/\∀v,o.data≠.cell v
 keep:∀i h h',tn i h->(∀b∈fp,∀o,h.get? b=some o->h'.get? b=some o)->tn i h'
 item:∀(X:Cx),X.prog=P->X.w=w->X.K=K->X.calm=true->∀(i:Nat) (pins:ao) (s:Shared) (σ:St) (H:Hp) (E:au),Inv X pins σ H s->(∀b∈fp,nI X pins H b)->tn i s.heap->J.go i H ->
  wpAny (model P w) X.A (pyNext (.ref it)) (λr s1=>∃u,r=some u /\
   wpAny (model P w) X.A (letOwnedTupleGo tg (.ref it) u) (λ_ s2=>∃x H',Inv X pins σ H' s2/\RelV x u/\J.s_ i H x H'/\tn (i+1) s2.heap/\∀b∈fp,H' b=none) E s1) E s
 done:∀(X:Cx),X.prog=P->X.w=w->X.K=K->X.calm=true->∀(i:Nat) (pins:ao) (s:Shared) (σ:St) (H:Hp) (E:au),Inv X pins σ H s->(∀b∈fp,nI X pins H b)->tn i s.heap->J.stop i H ->
  wpAny (model P w) X.A (pyNext (.ref it)) (λr s1=>r=none/\Inv X pins σ H s1) E s
 self:∀(A:az) (i:Nat) (s:Shared) (Q:au) (E:au),tn i s.heap->Q (.ref it) s->wpAny (model P w) A (pyIter (.ref it)) Q E s
noncomputable abbrev TI:=St->Hp->(It->Hp->Prop)->Prop
def Cf(X:Cx)(pins:ao)(σ:St)(tg:Expr)(R:It->Hp->Prop)(R9:Value)(s2:Shared):Prop :=
 ∃(it:Addr) (fp:aR) (tn:Nat->Heap->Prop) (J:It) (H':Hp),R9=.ref it/\Inv X pins σ H' s2/\Turn X.prog X.w X.K tg J fp it tn/\tn 0 s2.heap/\(∀b∈fp,nI X pins H' b)/\R J H'
def PI(X:Cx)(tg iter:Expr)(wi:TI):Prop :=
 ∀(pins:ao) (s:Shared) (σ:St) (H:Hp) (R:It->Hp->Prop),Inv X pins σ H s->wi σ H R ->
  wpAny (model X.prog X.w) X.A (eval iter X.env) (λv s1=>wpAny (model X.prog X.w) X.A (pyIter v) (Cf X pins σ tg R) X.xe s1) X.xe s
theorem Bd{M:Model}{A:az}{s:Shared}{it:Addr}{u:Value}{o:Obj}{n:String}{vs:aM}{Q:Unit->Shared->Prop}(ho:s.heap.get? it=some o)(hc:o.cls=.type n)(hd:o.data=.fields vs)
    (hn:["enumerate","zip","dict_itemiterator","dict_reverseitemiterator","odict_iterator","itertools.zip_longest","itertools.pairwise"].contains n=false) (hQ:Q () s):wpAny M A (letOwnedTupleGo tg (.ref it) u) Q E s:=by
  unfold letOwnedTupleGo;cases tg<;>first
    |exact aab hQ
    | (cases u<;>first
        |exact aab hQ
        | (refine aaa (wpAny_load ho ?_)
           rw[hc,hd];show wpAny M A (if (["enumerate","zip","dict_itemiterator","dict_reverseitemiterator","odict_iterator","itertools.zip_longest","itertools.pairwise"].contains n&&vs[0]?==some (rawInt _))=true then _ else _) Q E s;rw[if_neg (by intro h;rw[hn,Bool.false_and]at h;cases h)];exact aab hQ))
def LB(K:av)(a:Addr):It :=
 ⟨λi H=>∃xs x,dh K H a xs/\xs[i]?=some x,λi H x H'=>H'=H/\∀xs,dh K H a xs->xs[i]?=some x,λi H=>∃xs,dh K H a xs/\xs.length<=i⟩
def LA(K:av)(a:Addr):It :=
 ⟨λi H=>∃xs x,aW K H a xs/\xs[i]?=some x,λi H x H'=>H'=H/\∀xs,aW K H a xs->xs[i]?=some x,λi H=>∃xs,aW K H a xs/\xs.length<=i⟩
noncomputable def yH(lo:Int)(n:Nat):It:=⟨λi _=>i<n,λi H x H'=>H'=H/\x=.int (lo+i),λi _=>n<=i⟩
variable {P:aB}{w:World}
theorem xq(a it:Addr):Turn P w K tg (LB K a) [it] it (λi h=>h.IsListIter it a i) where
 mem:=by simp
 obj:=λi h st b hb=>by
  have e:b=it:=by simpa using hb
  subst e;obtain⟨o,e,c,d⟩:=st;exact⟨o,e,λv z=>by rw[d]at z;cases z⟩
 keep:=λi h h' st k=>st.at λo e=>k it (by simp) o e
 item:=by
  intro X hP hw hK hc i pins s σ H E I hf st hg;subst hP hw hK;obtain⟨xs,x,hq,hx⟩:=hg;obtain⟨aJ,rv,p,hz⟩:=I.list hq;obtain⟨u,hu,ru⟩:=rv.get hx;obtain⟨f0,f1,f2,f3,f4,f5⟩:=hf it (by simp);refine wpAny_pyNext_list_item st p.isList (x:=u) (by simpa using hu) λh' aP sb=>?_;have I1:Inv X pins σ H { s with heap:=h' }:=I.turned (t':=s.toks) (λb o hb e=>(sb.2 b hb).trans e) f0 f1 f3 f4 f5;obtain⟨o,e,c,d⟩:=id aP;exact⟨u,rfl,Bd (s:={ s with heap:=h' }) e c d (by decide) ⟨x,H,I1,ru,⟨rfl,λys hy=>by rw[I.jQ hy hq];exact hx⟩,aP,λb hb=>(hf b hb).1⟩⟩
 done:=by
  intro X hP hw hK hc i pins s σ H E I hf st hg;subst hP hw hK;obtain⟨xs,hq,hx⟩:=hg;obtain⟨aJ,rv,p,hz⟩:=I.list hq;obtain⟨f0,f1,f2,f3,f4,f5⟩:=hf it (by simp);have hl:=rv.length;exact wpAny_pyNext_list_end (I.ok.hd hc) st p.isList (by simp;left) λh' eb=>⟨rfl,I.turned (t':=s.toks) (λb o hb e=>eb b o hb e) f0 f1 f3 f4 f5⟩
 self:=λ_ _ _ _ _ st h=>wpAny_pyIter_listiter st h
theorem tN(a it:Addr):Turn P w K tg (LA K a) [it] it (λi h=>h.IsTupleIter it a i) where
 mem:=by simp
 obj:=λi h st b hb=>by
  have e:b=it:=by simpa using hb
  subst e;obtain⟨o,e,c,d⟩:=st;exact⟨o,e,λv z=>by rw[d]at z;cases z⟩
 keep:=λi h h' st k=>st.at λo e=>k it (by simp) o e
 item:=by
  intro X hP hw hK hc i pins s σ H E I hf st hg;subst hP hw hK;obtain⟨xs,x,hq,hx⟩:=hg;obtain⟨aJ,rv,p,hz⟩:=I.tuple hq;obtain⟨u,hu,ru⟩:=rv.get hx;obtain⟨f0,f1,f2,f3,f4,f5⟩:=hf it (by simp);refine wpAny_pyNext_tuple_item st (show s.heap.IsTuple a aJ.toArray from p) (x:=u) (by simpa using hu) λh' aP sb=>?_;have I1:Inv X pins σ H { s with heap:=h' }:=I.turned (t':=s.toks) (λb o hb e=>(sb.2 b hb).trans e) f0 f1 f3 f4 f5;obtain⟨o,e,c,d⟩:=id aP;exact⟨u,rfl,Bd (s:={ s with heap:=h' }) e c d (by decide) ⟨x,H,I1,ru,⟨rfl,λys hy=>by rw[I.oD hy hq];exact hx⟩,aP,λb hb=>(hf b hb).1⟩⟩
 done:=by
  intro X hP hw hK hc i pins s σ H E I hf st hg;subst hP hw hK;obtain⟨xs,hq,hx⟩:=hg;obtain⟨aJ,rv,p,hz⟩:=I.tuple hq;obtain⟨f0,f1,f2,f3,f4,f5⟩:=hf it (by simp);have hl:=rv.length;exact wpAny_pyNext_tuple_end (I.ok.hd hc) st (show s.heap.IsTuple a aJ.toArray from p) (by simp;left) λh' eb=>⟨rfl,I.turned (t':=s.toks) (λb o hb e=>eb b o hb e) f0 f1 f3 f4 f5⟩
 self:=λ_ _ _ _ _ st h=>wpAny_pyIter_tupleiter st h
theorem tO(it:Addr)(lo:Int)(n:Nat):Turn P w K tg (yH lo n) [it] it (λi h=>IsRangeIter h it (lo+(i:Nat)*1) ((n:Int) - (i:Nat)) 1) where
 mem:=by simp
 obj:=λi h st b hb=>by
  have e:b=it:=by simpa using hb
  subst e;exact⟨_,st,λv z=>by
   have z':Data.fields _=Data.cell v:=z;cases z'⟩
 keep:=λi h h' st k=>k it (by simp) _ st
 item:=by
  intro X hP hw hK hc i pins s σ H E I hf st hg;subst hP hw hK;obtain⟨f0,f1,f2,f3,f4,f5⟩:=hf it (by simp);have W:=Walks.range (prog:=X.prog) (w:=X.w) (I.ok.hd hc) it lo 1 n;refine W.item i s _ _ hg st λv h' tk hv aP kk=>?_;obtain⟨t,rfl⟩:=hv;have I1:Inv X pins σ H { s with heap:=h',toks:=tk }:=I.turned (λb o hb e=>kk b o (by simpa using hb) e) f0 f1 f3 f4 f5;refine⟨_,rfl,Bd (s:={ s with heap:=h',toks:=tk }) (n:="range_iterator") aP rfl rfl (by decide) ⟨.int (lo+i),H,I1,⟨t,?_⟩,⟨rfl,rfl⟩,aP,λb hb=>(hf b hb).1⟩⟩;rw[Int.mul_one]
 done:=by
  intro X hP hw hK hc i pins s σ H E I hf st hg;subst hP hw hK;obtain⟨f0,f1,f2,f3,f4,f5⟩:=hf it (by simp);exact wpAny_pyNext_range_end (I.ok.hd hc) st (by have:n<=i:=hg;left) λh' eb=>⟨rfl,I.turned (t':=s.toks) (λb o hb e=>eb b o hb e) f0 f1 f3 f4 f5⟩
 self:=λ_ _ _ _ _ st h=>wpAny_pyIter_rangeiter st h
end L2
namespace L2
open PySem PySem.Spec PyProof.Rows
variable {fp:aR}{h:Heap}{lo:Int}{pos:Pos}{ta:TA}{σ:L2.St}
section
variable {X:Cx}{tg:Expr}
def ND(K:av)(tl:TE):TI:=λσ H R=>tl σ H λx H1=>∃a,x=.ref a/\(∃xs,dh K H1 a xs)/\R (LB K a) H1
def Sq(K:av)(tl:TE):TI:=λσ H R=>tl σ H λx H1=>∃a,x=.ref a/\(∃xs,aW K H1 a xs)/\R (LA K a) H1
theorem vH{l:Expr}{tl:TE}(hl:PE X l tl):PI X tg l (ND X.K tl):=by
 intro pins s σ H R I h;refine cV (hl pins s σ H _ I h) λv s1 bN=>?_;obtain⟨x,H1,I1,r1,q1⟩:=bN;obtain⟨a,e,⟨xs,hq⟩,q⟩:=q1;subst e;cases r1;obtain⟨aJ,rv,p,hz⟩:=I1.list hq;refine wpAny_pyIter_list p.isList ?_;refine⟨s1.heap.objs.size,[s1.heap.objs.size],_,_,H1,rfl,I1.kept (t':=s1.toks) λb o e=>aag _ e,xq a _,⟨_,aal _ rfl,rfl,rfl⟩,λb hb=>?_,q⟩;have e:b=s1.heap.objs.size:=by simpa using hb
 subst e;exact I1.Er (aak _) (I1.cN.fresh (aak _))
theorem zU{l:Expr}{tl:TE}(hl:PE X l tl):PI X tg l (Sq X.K tl):=by
 intro pins s σ H R I h;refine cV (hl pins s σ H _ I h) λv s1 bN=>?_;obtain⟨x,H1,I1,r1,q1⟩:=bN;obtain⟨a,e,⟨xs,hq⟩,q⟩:=q1;subst e;cases r1;obtain⟨aJ,rv,p,hz⟩:=I1.tuple hq;refine wpAny_pyIter_tuple (show s1.heap.IsTuple a aJ.toArray from p) ?_;refine⟨s1.heap.objs.size,[s1.heap.objs.size],_,_,H1,rfl,I1.kept (t':=s1.toks) λb o e=>aag _ e,tN a _,⟨_,aal _ rfl,rfl,rfl⟩,λb hb=>?_,q⟩;have e:b=s1.heap.objs.size:=by simpa using hb
 subst e;exact I1.Er (aak _) (I1.cN.fresh (aak _))
theorem rC{pins:ao}{H:Hp}{s:Shared}{R:It->Hp->Prop}{E:au}{hi:Int}{t u v:Tok}{tk:Nat}(I:Inv X pins σ H s)(h1:-(2 ^ 62)<=lo)(h2:lo<2 ^ 62)(h3:-(2 ^ 62)<=hi)(h4:hi<2 ^ 62)
  (q:R (yH lo (hi - lo).toNat) H):wpAny (model X.prog X.w) X.A (pyIter (.ref s.heap.objs.size)) (Cf X pins σ tg R) E { s with heap:=s.heap.push { cls:=.type "range",data:=.fields #[.int lo t,.int hi u,.int 1 v] },toks:=tk }:=by
 refine wpAny_pyIter_range (IsRange.new ..) (small_one h1 h2 h3 h4) ?_;have I1:Inv X pins σ H { s with heap:=s.heap.push { cls:=.type "range",data:=.fields #[.int lo t,.int hi u,.int 1 v] },toks:=tk }:=I.kept λb o e=>aag _ e;refine⟨(s.heap.push { cls:=.type "range",data:=.fields #[.int lo t,.int hi u,.int 1 v] }).objs.size,[(s.heap.push { cls:=.type "range",data:=.fields #[.int lo t,.int hi u,.int 1 v] }).objs.size],_,_,H,rfl,
  I1.kept (t':=tk) λb o e=>aag _ e,tO _ lo (hi - lo).toNat,?_,λb hb=>?_,q⟩
 ·have e1:lo+((0:Nat):Int)*1=lo:=by simp
  have e2:(((hi - lo).toNat:Nat):Int) - ((0:Nat):Int)=Builtin.Range.rangeSize lo hi 1:=by rw[rangeSize_one];split<;>left
  show IsRangeIter _ _ (lo+((0:Nat):Int)*1) ((((hi - lo).toNat:Nat):Int) - ((0:Nat):Int)) 1;rw[e1,e2];exact aal _ rfl
 ·have e:b=(s.heap.push { cls:=.type "range",data:=.fields #[.int lo t,.int hi u,.int 1 v] }).objs.size:=by simpa using hb
  subst e;exact I1.Er (aak _) (I1.cN.fresh (aak _))
def NC(ta:TA):TI:=λσ H R=>ta σ H λvs H1=>∃j:Int,vs=[.int j] /\ -(2 ^ 62)<=j/\j<2 ^ 62/\R (yH 0 j.toNat) H1
theorem oJ{a:Expr}{p:Pos}(hg:Gl X "range")(hm:X.mg "range" = none)(ha:PA X [a] ta)(hs:starEach [a] X.env=[(false,eval a X.env)]:=by rfl):PI X tg (.Call (.Name "range" p) [a] [] pos) (NC ta):=by
 intro pins s σ H R I h;refine Call_ (eE I hg hm boot_range (aas (cV (ha pos pins s σ H _ I h) λus s1 bN=>?_) hs rfl));obtain⟨vs,H1,I1,r1,q1⟩:=bN;obtain⟨j,e,q1,q2,q⟩:=q1;subst e;cases r1 with
 |cons r rr =>
  cases rr;obtain⟨t,rfl⟩:=r;exact call_range_1 (rC I1 (by left) (by left) q1 q2 (by simpa using q))
noncomputable def QU(wi:TI)(g:TG)(tb:TS):TS:=λD σ H=>wi σ H λJ H1=>∃W:Nat->Nat->St->Hp->Prop,(∃m,W 0 m σ H1)/\∀i m σ H,W i m σ H ->
 (J.stop i H/\D.nx σ H)\/(J.go i H/\∃N:St->Hp->Prop,(∀σ' H',N σ' H'->∃m',m'<m/\W (i+1) m' σ' H')/\∀x H',J.s_ i H x H'->g x σ H' λσ2 H2=>tb { D with nx:=N,ct:=N,bk:=D.nx } σ2 H2)
noncomputable def gY(fp:aR)(h:Heap):ao:=fp.filterMap λb=>(h.get? b).map λo=>(b,o)
theorem gq{b:Addr}{o:Obj}(hb:b∈fp)(e:h.get? b=some o):(b,o)∈gY fp h:=List.mem_filterMap.mpr ⟨b,hb,by rw[e];rfl⟩
theorem oM{p:Addr×Obj}(hp:p∈gY fp h):p.1∈fp/\h.get? p.1=some p.2:=by
 obtain⟨b,hb,e⟩:=List.mem_filterMap.mp hp;cases q:h.get? b with
 |none=>rw[q]at e;cases e
 |some o =>
  rw[q]at e;have e':(b,o)=p:=aap e;subst e';exact⟨hb,q⟩
theorem Inv.pinned{pins:ao}{H:Hp}{s:Shared}(I:Inv X pins σ H s)(hf:∀b∈fp,nI X pins H b)(ho:∀b∈fp,∃o,s.heap.get? b=some o/\∀v,o.data≠.cell v):Inv X (pins++gY fp s.heap) σ H s :=
 I.iE λp hp=>(List.mem_append.mp hp).elim (λz=>I.pin p (aam _ z)) λz=>by
  obtain⟨hb,e⟩:=oM z;obtain⟨f0,f1,f2,_⟩:=hf p.1 hb;obtain⟨o,e',d⟩:=ho p.1 hb;rw[e]at e';cases e';exact⟨e,f0,f1,f2,d⟩
theorem Inv.jI{pins pl:ao}{H:Hp}{s:Shared}(I:Inv X (pins++pl) σ H s):Inv X pins σ H s:=I.iE λp hp=>I.pin p (aam _ (aax _ hp))
theorem pN{iter:Expr}{body:bt}{wi:TI}{g:TG}{tb:TS}(hp:PassesOwn (model X.prog X.w) X.A X.env X.xe)(hc:X.calm=true)(hi:PI X tg iter wi)(hg:PG X tg g)(hb:me X body tb)
  (hs:∀x,foldedSetIterable iter X.env x=pure x:=by intro _;rfl):PS X (.For tg iter body [] pos) (QU wi g tb):=by
 intro pins s σ H D I h;refine wpAny_For (cV (hi pins s σ H _ I h) λv s1 h1=>cV h1 λR9 s2 h2=>?_) hs;obtain⟨it,fp,tn,J,H2,e,I2,T,fu,f2,W,⟨m0,w0⟩,turn⟩:=h2;subst e;have GX:∀{H':Hp},(∀b∈fp,H' b=none)->∀b∈fp,nI X pins H' b:=λhn b hb=>⟨hn b hb,(f2 b hb).2⟩
 refine codeAny_forLoop_any (λn s'=>∃i σ' H',Inv X pins σ' H' s'/\tn i s'.heap/\(∀b∈fp,H' b=none)/\W i n σ' H') ?_ m0 ⟨0,σ,H2,I2,fu,λb hb=>(f2 b hb).1,w0⟩;rintro n s3 ⟨i,σ3,H3,I3,qU,fr3,w3⟩;rcases turn i n σ3 H3 w3 with ⟨stop,qn⟩|⟨go,N,hN,step⟩
 ·refine abb hp (cV (T.done X rfl rfl rfl hc i pins s3 σ3 H3 X.xe I3 (GX fr3) qU stop) λr s4 bN=>?_);obtain⟨hr,I4⟩:=bN;subst hr;exact wpAny_execs_nil ⟨σ3,H3,I4,qn⟩
 ·refine abb hp (cV (T.item X rfl rfl rfl hc i pins s3 σ3 H3 X.xe I3 (GX fr3) qU go) λr s4 bN=>?_);obtain⟨u,hr,h4⟩:=bN;subst hr;refine abb hp (cV h4 λ_ s5 bN=>?_);obtain⟨x,H5,I5,r5,y5,C6,Uk⟩:=bN;have U5:=I5.pinned (GX Uk) (T.obj _ _ C6);refine abb hp (cV (hg _ s5 σ3 H5 x u _ U5 r5 (step x H5 y5)) λ_ s6 bN=>?_);obtain⟨σ6,H6,I6,q6⟩:=bN;refine abb hp (cV (hb _ s6 σ6 H6 _ I6 q6) λf s7 q7=>?_);have again:∀{σ7:St} {H7:Hp},Inv X (pins++gY fp s5.heap) σ7 H7 s7->N σ7 H7->∃m,m<n/\∃i σ' H',Inv X pins σ' H' s7/\tn i s7.heap/\(∀b∈fp,H' b=none)/\W i m σ' H':=λ{σ7 H7} I7 n7=>by
   obtain⟨m',hm,w7⟩:=hN σ7 H7 n7;refine⟨m',hm,i+1,σ7,H7,I7.jI,T.keep _ _ _ C6 λb hb o e=>(I7.pin (b,o) (aam _ (aam _ (gq hb e)))).1,λb hb=>?_,w7⟩;obtain⟨o,e,d⟩:=T.obj _ _ C6 b hb;exact(I7.pin (b,o) (aam _ (aam _ (gq hb e)))).2.1
  cases f with
  |next=>obtain⟨σ7,H7,I7,n7⟩:=q7;exact again I7 n7
  |cont=>obtain⟨σ7,H7,I7,n7⟩:=q7;exact again I7 n7
  |brk=>obtain⟨σ7,H7,I7,q7⟩:=q7;exact⟨σ7,H7,I7.jI,q7⟩
  |ret v=>obtain⟨x7,σ7,H7,I7,r7,q7⟩:=q7;exact⟨x7,σ7,H7,I7.jI,r7,q7⟩
end
variable {K:av}{xs:af}
theorem Bj{a:Addr}{g:TG}{tb:TS}{D:Ends}{H:Hp}(Pv:Nat->St->Hp->Prop)(h0:Pv 0 σ H)(hl:∀i σ H,i<=xs.length->Pv i σ H->dh K H a xs)
  (hs:∀i x σ H,xs[i]?=some x->Pv i σ H->g x σ H λσ2 H2=>tb { D with nx:=Pv (i+1),ct:=Pv (i+1),bk:=D.nx } σ2 H2) (hd:∀σ H,Pv xs.length σ H->D.nx σ H) :
  ∃W:Nat->Nat->St->Hp->Prop,(∃m,W 0 m σ H)/\∀i m σ H,W i m σ H ->
   ((LB K a).stop i H/\D.nx σ H)\/((LB K a).go i H/\∃N:St->Hp->Prop,(∀σ' H',N σ' H'->∃m',m'<m/\W (i+1) m' σ' H')/\∀x H',(LB K a).s_ i H x H'->g x σ H' λσ2 H2=>tb { D with nx:=N,ct:=N,bk:=D.nx } σ2 H2):=by
 refine⟨λi m σ H=>m=xs.length - i/\i<=xs.length/\Pv i σ H,⟨xs.length,by simp,aaF _,h0⟩,?_⟩;rintro i m σ H ⟨rfl,hi,p⟩;have q:=hl i σ H hi p;by_cases cL:i<xs.length
 ·refine .inr ⟨⟨xs,xs[i],q,by simp[cL]⟩,Pv (i+1),λσ' H' p'=>⟨xs.length - (i+1),by left,rfl,cL,p'⟩,λx H' y=>?_⟩;obtain⟨e,y⟩:=y;subst e;exact hs i x σ _ (y xs q) p
 ·have e:i=xs.length:=by left
  subst e;exact .inl ⟨⟨xs,q,aak _⟩,hd σ H p⟩
theorem Es{a:Addr}{g:TG}{tb:TS}{D:Ends}{H:Hp}(Pv:Nat->St->Hp->Prop)(h0:Pv 0 σ H)(hl:∀i σ H,i<=xs.length->Pv i σ H->aW K H a xs)
  (hs:∀i x σ H,xs[i]?=some x->Pv i σ H->g x σ H λσ2 H2=>tb { D with nx:=Pv (i+1),ct:=Pv (i+1),bk:=D.nx } σ2 H2) (hd:∀σ H,Pv xs.length σ H->D.nx σ H) :
  ∃W:Nat->Nat->St->Hp->Prop,(∃m,W 0 m σ H)/\∀i m σ H,W i m σ H ->
   ((LA K a).stop i H/\D.nx σ H)\/((LA K a).go i H/\∃N:St->Hp->Prop,(∀σ' H',N σ' H'->∃m',m'<m/\W (i+1) m' σ' H')/\∀x H',(LA K a).s_ i H x H'->g x σ H' λσ2 H2=>tb { D with nx:=N,ct:=N,bk:=D.nx } σ2 H2):=by
 refine⟨λi m σ H=>m=xs.length - i/\i<=xs.length/\Pv i σ H,⟨xs.length,by simp,aaF _,h0⟩,?_⟩;rintro i m σ H ⟨rfl,hi,p⟩;have q:=hl i σ H hi p;by_cases cL:i<xs.length
 ·refine .inr ⟨⟨xs,xs[i],q,by simp[cL]⟩,Pv (i+1),λσ' H' p'=>⟨xs.length - (i+1),by left,rfl,cL,p'⟩,λx H' y=>?_⟩;obtain⟨e,y⟩:=y;subst e;exact hs i x σ _ (y xs q) p
 ·have e:i=xs.length:=by left
  subst e;exact .inl ⟨⟨xs,q,aak _⟩,hd σ H p⟩
theorem ym{n:Nat}{g:TG}{tb:TS}{D:Ends}{H:Hp}(Pv:Nat->St->Hp->Prop)(h0:Pv 0 σ H)
  (hs:∀i σ H,i<n->Pv i σ H->g (.int (lo+i)) σ H λσ2 H2=>tb { D with nx:=Pv (i+1),ct:=Pv (i+1),bk:=D.nx } σ2 H2) (hd:∀σ H,Pv n σ H->D.nx σ H) :
  ∃W:Nat->Nat->St->Hp->Prop,(∃m,W 0 m σ H)/\∀i m σ H,W i m σ H ->
   ((yH lo n).stop i H/\D.nx σ H)\/((yH lo n).go i H/\∃N:St->Hp->Prop,(∀σ' H',N σ' H'->∃m',m'<m/\W (i+1) m' σ' H')/\∀x H',(yH lo n).s_ i H x H'->g x σ H' λσ2 H2=>tb { D with nx:=N,ct:=N,bk:=D.nx } σ2 H2):=by
 refine⟨λi m σ H=>m=n - i/\i<=n/\Pv i σ H,⟨n,by simp,aaF _,h0⟩,?_⟩;rintro i m σ H ⟨rfl,hi,p⟩;by_cases cL:i<n
 ·refine .inr ⟨cL,Pv (i+1),λσ' H' p'=>⟨n - (i+1),by left,rfl,cL,p'⟩,λx H' y=>?_⟩;obtain⟨e,y⟩:=y;subst e y;exact hs i σ _ cL p
 ·have e:i=n:=by left
  subst e;exact .inl ⟨aak _,hd σ H p⟩
end L2
namespace L2
open PySem PySem.Spec PyProof.Rows
noncomputable abbrev R2:=V->V->Hp->VK->Prop
def jr(X:Cx)(f:Value->Value->Sem Value)(r:R2):Prop :=
 ∀(pins:ao) (s:Shared) (σ:St) (H:Hp) (x y:V) (v u:Value) (Q:VK),Inv X pins σ H s->RelV x v->RelV y u->r x y H Q ->
  wpAny (model X.prog X.w) X.A (f v u) (EP X pins σ Q) X.xe s
def UY(X:Cx)(f:Value->Sem Value)(r:V->Hp->VK->Prop):Prop :=
 ∀(pins:ao) (s:Shared) (σ:St) (H:Hp) (x:V) (v:Value) (Q:VK),Inv X pins σ H s->RelV x v->r x H Q ->
  wpAny (model X.prog X.w) X.A (f v) (EP X pins σ Q) X.xe s
def ft(X:Cx)(f:Value)(r:af->Hp->VK->Prop):Prop :=
 ∀(pins:ao) (s:Shared) (σ:St) (H:Hp) (xs:af) (us:ak) (Q:VK),Inv X pins σ H s->Vals xs us->r xs H Q ->
  wpAny (model X.prog X.w) X.A (call f us) (EP X pins σ Q) X.xe s
noncomputable def FG(r:R2)(ta tb:TE):TE:=λσ H Q=>ta σ H λx H1=>tb σ H1 λy H2=>r x y H2 Q
noncomputable def W8(r:V->Hp->VK->Prop)(ta:TE):TE:=λσ H Q=>ta σ H λx H1=>r x H1 Q
noncomputable def rI(C:Int->Int->Prop)(g:Int->Int->V):R2:=λx y H Q=>∃i j,x=.int i/\y=.int j/\C i j/\Q (g i j) H
noncomputable def zL(g:Int->Int->V):R2:=λx y H Q=>∃i j,x=.int i/\y=.int j/\Q (g i j) H
noncomputable def rU(g:Int->V):V->Hp->VK->Prop:=λx H Q=>∃i,x=.int i/\Q (g i) H
variable {σ:L2.St}
section
variable {X:Cx}{a b c:Expr}{ta tb tc:TE}{pos:Pos}
theorem Ki(ha:PE X a ta)(hb:PE X b tb){pins:ao}{s:Shared}{H:Hp}{R:V->V->Hp->Prop}(I:Inv X pins σ H s)
  (h:ta σ H λx H1=>tb σ H1 λy H2=>R x y H2) {Q:au} {f:Value->Value->Sem Value}
  (hf:∀v u s2 x y H2,Inv X pins σ H2 s2->RelV x v->RelV y u->R x y H2->wpAny (model X.prog X.w) X.A (f v u) Q X.xe s2) :
  wpAny (model X.prog X.w) X.A (eval a X.env) (λv s₁=>wpAny (model X.prog X.w) X.A (eval b X.env) (λu s₂=>wpAny (model X.prog X.w) X.A (f v u) Q X.xe s₂) X.xe s₁) X.xe s:=by
 refine cV (ha pins s σ H _ I h) λv s1 bN=>?_;obtain⟨x,H1,I1,r1,q1⟩:=bN;refine cV (hb pins s1 σ H1 _ I1 q1) λu s2 bN=>?_;obtain⟨y,H2,I2,r2,q2⟩:=bN;exact hf v u s2 x y H2 I2 r1 r2 q2
theorem z5{op:Operator}{r:R2}(ho:jr X (binaryOp op) r)(ha:PE X a ta)(hb:PE X b tb):PE X (.BinOp a op b pos) (FG r ta tb):=by
 intro pins s σ H Q I h;exact wpAny_BinOp (Ki ha hb I h λv u s2 x y H2 I2 rx ry q=>ho pins s2 σ H2 x y v u Q I2 rx ry q)
theorem MP{op:UnaryOp}{r:V->Hp->VK->Prop}(ho:UY X (unaryOp op) r)(ha:PE X a ta):PE X (.UnaryOp op a pos) (W8 r ta):=by
 intro pins s σ H Q I h;exact UnaryOp_ (cV (ha pins s σ H _ I h) λv s1 ⟨x,H1,I1,r1,q1⟩=>ho pins s1 σ H1 x v Q I1 r1 q1)
theorem HL{f:Value->Value->Sem Value}{C:Int->Int->Prop}{g:Int->Int->Int}
  (rule:∀(i j:Int) (t u:Tok) (s:Shared) (Q:au) (E:au),C i j->Q (.int (g i j) s.toks) { s with toks:=s.toks+1 }->wpAny (model X.prog X.w) X.A (f (.int i t) (.int j u)) Q E s) :
  jr X f (rI C λi j=>.int (g i j)):=by
 intro pins s σ H x y v u Q I rx ry h;obtain⟨i,j,rfl,rfl,hc,q⟩:=h;obtain⟨t,rfl⟩:=rx;obtain⟨t',rfl⟩:=ry;exact rule i j t t' s _ _ hc ⟨.int (g i j),H,I.tok _,⟨_,rfl⟩,q⟩
theorem RK{f:Value->Value->Sem Value}{g:Int->Int->Int}
  (rule:∀(i j:Int) (t u:Tok) (s:Shared) (Q:au) (E:au),Q (.int (g i j) s.toks) { s with toks:=s.toks+1 }->wpAny (model X.prog X.w) X.A (f (.int i t) (.int j u)) Q E s) :
  jr X f (zL λi j=>.int (g i j)):=by
 intro pins s σ H x y v u Q I rx ry h;obtain⟨i,j,rfl,rfl,q⟩:=h;obtain⟨t,rfl⟩:=rx;obtain⟨t',rfl⟩:=ry;exact rule i j t t' s _ _ ⟨.int (g i j),H,I.tok _,⟨_,rfl⟩,q⟩
theorem DM{f:Value->Value->Sem Value}{g:Int->Int->Bool}
  (rule:∀(i j:Int) (t u:Tok) (s:Shared) (Q:au) (E:au),Q (.bool (g i j)) s->wpAny (model X.prog X.w) X.A (f (.int i t) (.int j u)) Q E s) :
  jr X f (zL λi j=>.bl (g i j)):=by
 intro pins s σ H x y v u Q I rx ry h;obtain⟨i,j,rfl,rfl,q⟩:=h;obtain⟨t,rfl⟩:=rx;obtain⟨t',rfl⟩:=ry;exact rule i j t t' s _ _ ⟨.bl (g i j),H,I,rfl,q⟩
theorem HK:jr X (binaryOp .Add) (zL λi j=>.int (i+j)):=RK λ_ _ _ _ _ _ _ q=>add_int q
theorem DJ:jr X (binaryOp .Mod) (rI (λ_ j=>j≠0) λi j=>.int (i.fmod j)):=HL λ_ _ _ _ _ _ _ hc q=>mod_int' hc q
theorem WY{f:Value->Sem Value}{g:Int->Int}
  (rule:∀(i:Int) (t:Tok) (s:Shared) (Q:au) (E:au),Q (.int (g i) s.toks) { s with toks:=s.toks+1 }->wpAny (model X.prog X.w) X.A (f (.int i t)) Q E s) :
  UY X f (rU λi=>.int (g i)):=by
 intro pins s σ H x v Q I rx h;obtain⟨i,rfl,q⟩:=h;obtain⟨t,rfl⟩:=rx;exact rule i t s _ _ ⟨.int (g i),H,I.tok _,⟨_,rfl⟩,q⟩
theorem GL:UY X (unaryOp .USub) (rU λi=>.int (-i)):=WY λ_ _ _ _ _ q=>neg_int q
end
variable {us:ak}
section
variable {X:Cx}{a b c:Expr}{ta tb tc:TE}{pos:Pos}
theorem MU:jr X (compareOp .Lt) (zL λi j=>.bl (decide (i<j))):=DM λ_ _ _ _ _ _ _ q=>lt_int q
theorem MV:jr X (compareOp .LtE) (zL λi j=>.bl (decide (i<=j))):=DM λ_ _ _ _ _ _ _ q=>le_int q
theorem MW:jr X (compareOp .Gt) (zL λi j=>.bl (decide (j<i))):=DM λ_ _ _ _ _ _ _ q=>gt_int q
theorem MX:jr X (compareOp .GtE) (zL λi j=>.bl (decide (j<=i))):=DM λ_ _ _ _ _ _ _ q=>ge_int q
theorem jr.or{f:Value->Value->Sem Value}{r r':R2}(h:jr X f r)(h':jr X f r'):jr X f (λx y H Q=>r x y H Q\/r' x y H Q):=by
 intro pins s σ H x y v u Q I rx ry q;rcases q with q|q
 ·exact h pins s σ H x y v u Q I rx ry q
 ·exact h' pins s σ H x y v u Q I rx ry q
theorem Ae(b:Expr){op:CmpOp}(h:op≠.In:=by decide)(h2:op≠.NotIn:=by decide):behindInMarks op b=false:=by
 have e1:(op==CmpOp.In)=false:=by cases op<;>first|rfl|exact absurd rfl h
 have e2:(op==CmpOp.NotIn)=false:=by cases op<;>first|rfl|exact absurd rfl h2
 cases b<;>simp[behindInMarks,e1,e2]
theorem vM{op:CmpOp}{r:R2}(ho:jr X (compareOp op) r)(ha:PE X a ta)(hb:PE X b tb)(hm:behindInMarks op b=false):PE X (.Compare a [op] [b] pos) (FG r ta tb):=by
 intro pins s σ H Q I h;exact wpAny_Compare1 (Ki ha hb I h λv u s2 x y H2 I2 rx ry q=>ho pins s2 σ H2 x y v u Q I2 rx ry q) hm
noncomputable def FF(t:TE):TT:=λσ H Q=>t σ H λx H'=>∃k,x=.bl k/\Q k H'
theorem vE{op:CmpOp}{r:R2}(ho:jr X (compareOp op) r)(ha:PE X a ta)(hb:PE X b tb)(hm:behindInMarks op b=false):PT X (.Compare a [op] [b] pos) (FF (FG r ta tb)):=by
 intro pins s σ H Q I h;refine wpAny_isTrue_Compare1 (cV (ha pins s σ H _ I h) λv s1 ⟨x,H1,I1,r1,q1⟩=>cV (hb pins s1 σ H1 _ I1 q1) λu s2 ⟨y,H2,I2,r2,q2⟩ =>
  cV (ho pins s2 σ H2 x y v u _ I2 r1 r2 q2) λc s3 ⟨z,H3,I3,r3,k,e,q3⟩=>?_) hm
 subst e;cases r3;exact aa3 ⟨H3,I3,q3⟩
theorem p9:(sizeLine:Nat)<2 ^ 63:=by rw[sizeLine_eq];decide
theorem vals1{x:V}(r:Vals [x] us):∃u,us=[u]/\RelV x u:=by
 cases r with
 |cons r1 r2=>cases r2;exact⟨_,rfl,r1⟩
theorem vals2{x y:V}(r:Vals [x,y] us):∃u w',us=[u,w']/\RelV x u/\RelV y w':=by
 cases r with
 |cons r1 r2 =>
  cases r2 with
  |cons r3 r4=>cases r4;exact⟨_,_,rfl,r1,r3⟩
theorem BP:ft X (.builtin "abs") (λxs H Q=>∃i,xs=[.int i]/\Q (.int (if i<0 then -i else i)) H):=by
 intro pins s σ H xs us Q I r h;obtain⟨i,rfl,q⟩:=h;obtain⟨u,rfl,t,rfl⟩:=vals1 r;exact call_abs_int λu tk=>⟨.int (if i<0 then -i else i),H,I.tok _,⟨_,rfl⟩,q⟩
end
end L2
namespace L2
open PySem PySem.Spec PyProof.Rows
structure Zo(h:Heap)(x dx C:Addr)(mA:aX):Prop where
 obj:h.get? x=some (PySem.W.instObj C dx)
 ns:h.Ns1 dx mA
 ne:dx≠x
section
variable {prog:aB}{w:World}{A:az}{E:au}{s:Shared}{K:av}{x dx C f:Addr}{mA:aX}{name:Str}{v:Value}
end
theorem sY.some_of{v:V}{o:Option Value}(r:sY (some v) o):∃u,o=some u/\RelV v u:=by
 cases o with
 |none=>exact(show False from r).elim
 |some u=>exact⟨u,rfl,r⟩
section
variable {P:aB}{w:World}{H H':Hp}{h h':Heap}{a C dx:Addr}{fs YY:List (Str×V)}
end
structure ZL(K:av)(C:Addr):Prop where
 pg:PySem.W.plainGet K C Str.empty=true
 hd:PySem.W.hasDictIn K C=true
 po:PySem.W.plainOver K C=true
 sa:PySem.W.findIn K (.ref C) "__setattr__" = some (some (.builtin "object.__setattr__"))
structure Con(K:av)(C:Addr)(f:Str)(v:V)(u:Value):Prop where
 at_:PySem.W.findIn K (.ref C) f=some (some u)
 rel:RelV v u
 get:PySem.W.specialIn K u "__get__" = some none
 cp:PySem.W.copiedNames.contains f=false
structure Meth(K:av)(C:Addr)(m:Str)(f:Addr):Prop where
 at_:PySem.W.findIn K (.ref C) m=some (some (.ref f))
 fn:PySem.W.isFn K (.ref f)=true
 kp:PySem.W.keepIn K (.ref f)=true
section
variable {X:Cx}{pins:ao}{σ:St}{H:Hp}{s:Shared}{a C dx:Addr}{fs:List (Str×V)}{f:Str}{v:V}{A:az}{E:au}
end
section
variable {X:Cx}{o e value:Expr}{f:Str}{pos pos' W5:Pos}{ta tv:TE}
end
section
variable {X:Cx}{pins:ao}{σ:St}{H:Hp}{s:Shared}{A:az}{E:au}{Q:au}{c:Value}{b:Bool}
inductive nF(K:av)(H:Hp):V->Value->Prop where
 |bW:nF K H .bW (.type "NoneType")
 |bl (x:Bool):nF K H (.bl x) (.type "bool")
 |int (i:Int):nF K H (.int i) (.type "int")
 |str (x:Str):nF K H (.str x) (.type "str")
 |Ot (x:UInt64):nF K H (.Ot x) (.type "float")
 |lst {a:Addr} {xs:af} (e:H a=some (.lst xs)):nF K H (.ref a) (.type "list")
 |h_ {a:Addr} {o:Obj} {xs:af} (e:H a=some (.h_ o (.lst xs))):nF K H (.ref a) (.type "list")
 |tup {a:Addr} {xs:af} (e:H a=some (.tup xs)):nF K H (.ref a) (.type "tuple")
 |dK {a:Addr} {mU:List (Key×V)} (e:H a=some (.dK mU)):nF K H (.ref a) (.type "dict")
 |dT {a:Addr} {mU:List (List Key×V)} (e:H a=some (.dT mU)):nF K H (.ref a) (.type "dict")
 |ins {a C dx:Addr} {fs:List (Str×V)} (e:H a=some (.ins C dx fs)) (cl:ZL K C) (ha:PySem.W.findIn K (.ref C) "__class__" = some (some (.builtin "object.__class__")))
   (hn:PySem.W.specialIn K (.builtin "object.__class__") "__get__" = some (some (.builtin "getset_descriptor.__get__"))) (ZY:PySem.W.takesIn K (.builtin "object.__class__")=some true)
   (hm:PySem.W.mroIn K C (.type "object")=some true):nF K H (.ref a) (.ref C)
end
end L2
namespace L2
open PySem PySem.Spec PyProof.Rows
structure fO(k:Nat)(A:az):Prop where
 hd:A.handled=none
 dp:A.depth+3*k+5<recursionLimit
 un:A.units+16*k+200<cLine
variable {A:az}
theorem fO.mono{j k:Nat}(r:fO k A)(h:j<=k):fO j A:=⟨r.hd,by have:=r.dp;left,by have:=r.un;left⟩
theorem fO.deeper{k:Nat}{A:az}(r:fO (k+1) A)(env:Env):fO k (A.deeper env) :=
 ⟨r.hd,by have:=r.dp;show A.depth+1+3*k+5<_;left,by have:=r.un;show A.units+3+16*k+200<_;left⟩
theorem fO.depth{k:Nat}{A:az}(r:fO k A):A.depth<recursionLimit:=by have:=r.dp;left
theorem fO.units{k:Nat}{A:az}(r:fO k A):A.units+64<cLine:=by have:=r.un;left
noncomputable def GS:TA:=λ_ H Q=>Q [] H
noncomputable def zk(ta:TE)(tr:TA):TA:=λσ H Q=>ta σ H λx H1=>tr σ H1 λxs H2=>Q (x::xs) H2
section
variable {X:Cx}{e:Expr}{es:aA}{te:TE}{t:TA}{pos:Pos}
theorem dI:PA X [] GS:=λ_ _ _ _ H Q I h=>abG ⟨[],H,I,.nil,h⟩
theorem cv(ha:PE X e te)(hr:PA X es t)(hs:starEach (e::es) X.env=(false,eval e X.env)::starEach es X.env:=by rfl):PA X (e::es) (zk te t):=by
 intro pos pins s σ H Q I h;rw[hs];show wpAny _ _ (spliced ((false,eval e X.env)::backTo pos (starEach es X.env))) _ _ s;refine abw (cV (ha pins s σ H _ I h) λu s1 bN=>?_);obtain⟨x,H1,I1,r1,q1⟩:=bN;exact cV (hr pos pins s1 σ H1 _ I1 q1) λus s2 ⟨xs,H2,I2,r2,q2⟩=>⟨x::xs,H2,I2,.cons r1 r2,q2⟩
def QN(t:TA):TE:=λσ H Q=>t σ H λxs H1=>xs.length<=sizeLine/\∀p,H1 p=none->Q (.ref p) (upd H1 p (.tup xs))
def QS(t:TA):TE:=λσ H Q=>t σ H λxs H1=>xs.length<=sizeLine/\∀p,H1 p=none->Q (.ref p) (upd H1 p (.lst xs))
theorem Hw{x1}(h:PA X es t):PE X (.Tuple es x1 pos) (QN t):=by
 intro pins s σ H Q I hq;refine wpAny_Tuple_spliced (cV (h pos pins s σ H _ I hq) λus s1 ⟨xs,H1,I1,r,z,q⟩=>⟨by rw[<- r.length];exact z,?_⟩);have hf:H1 s1.heap.objs.size=none:=I1.cN.fresh (aak _);refine⟨.ref s1.heap.objs.size,upd H1 s1.heap.objs.size (.tup xs),I1.laid (t':=s1.toks) (λb u e=>aag _ e) (aak _) ?_,rfl,q _ hf⟩;exact⟨z,us,r,⟨_,aal _ rfl,rfl,_,rfl⟩⟩
theorem z7(h:PA X es t):PE X (.List es pos) (QS t):=by
 intro pins s σ H Q I hq;refine wpAny_List_spliced (cV (h pos pins s σ H _ I hq) λus s1 ⟨xs,H1,I1,r,z,q⟩=>⟨by rw[<- r.length];exact z,?_⟩);have hf:H1 s1.heap.objs.size=none:=I1.cN.fresh (aak _);refine⟨.ref s1.heap.objs.size,upd H1 s1.heap.objs.size (.lst xs),I1.laid (t':=s1.toks) (λb u e=>aag _ e) (aak _) ?_,rfl,q _ hf⟩;exact⟨z,us,0,r,aal _ rfl⟩
end
noncomputable abbrev Sp:=af->Hp->VK->XK->Prop
noncomputable abbrev yV:=List Env->Hp->Shared->XK->au
structure Fw(P:aB)(w:World)(K:av)(mg:aX)(base:Heap)(A:az)(outer:List Env)(s:Shared)(H:Hp):Prop where
 frames:A.frames=some outer
 mod:Mod K mg base
 bs:∀b o,base.get? b=some o->s.heap.get? b=some o/\H b=none
 Gm:base.objs.size<=s.heap.objs.size
 lD:s.heap.FunFrames base outer
 Ll:∀b∈yT outer,H b=none
 cN:kP P w H s.heap
 bare:AllBare s.gens
def CE(outer:List Env)(P:aB)(w:World)(H:Hp)(s:Shared)(Q:VK)(u:Value)(s':Shared):Prop :=
 ∃v H',s'.os=s.os/\AllBare s'.gens/\Un (yT outer) [] H H' s.heap s'.heap/\kP P w H' s'.heap/\RelV v u/\Q v H'
noncomputable def CR(CX:yV)(outer:List Env)(P:aB)(w:World)(H:Hp)(s:Shared)(Q:VK)(E:XK)(r:Result)(s':Shared):Prop :=
 match r with
 |.ok (.ret u)=>CE outer P w H s Q u s'
 |.ok _=>False
 |.error e=>CX outer H s E e s'
structure iT(P:aB)(w:World)(K:av)(mg:aX)(base:Heap)(CX:yV)(k:Nat)(f:Addr)(fd:FuncData)(ps:aq)(sp:Sp):Prop where
 len:∀vs H Q E,sp vs H Q E->vs.length=ps.length
 run:∀(A:az) (outer:List Env) (s:Shared) (H:Hp) (args:Args) (us:ak) (vs:af) (Q:VK) (E:XK),fO k A->Fw P w K mg base A outer s H->BindsTo s fd args (ps.zip us)->Vals vs us->sp vs H Q E ->
  codeAny (model P w) A (.call (.ref f) args) (CR CX outer P w H s Q E) s
theorem iT.mono{P:aB}{w:World}{K:av}{mg:aX}{base:Heap}{CX:yV}{j k:Nat}{f:Addr}{fd:FuncData}{ps:aq}{sp:Sp}(F:iT P w K mg base CX j f fd ps sp)(h:j<=k):
  iT P w K mg base CX k f fd ps sp:=⟨F.len,λA outer s H args us vs Q E hr=>F.run A outer s H args us vs Q E (hr.mono h)⟩
variable {Q:VK}
section
variable {X:Cx}{pins:ao}{σ:St}{H:Hp}{s s':Shared}
theorem Inv.Ux(I:Inv X pins σ H s):Fw X.prog X.w X.K X.mg X.base X.A X.stack s H :=
 ⟨I.ok.frames,I.ok.mod,I.bs,aaz I.ok.Gm I.sz,I.stack,I.vo,I.cN,I.bare⟩
theorem Inv.after{u:Value}(I:Inv X pins σ H s)(h:CE X.stack X.prog X.w H s Q u s'):EP X pins σ Q u s':=by
 obtain⟨v,H',os,bare,un,cN,r,q⟩:=h;obtain⟨hh,g,d,t,RH⟩:=s';obtain rfl:RH=s.os:=os;exact⟨v,H',I.call (h':=hh) (g':=g) (d':=d) (t':=t) (ch:=[]) un cN bare (λb z=>absurd z (by simp)),r,q⟩
end
noncomputable def Md(sp:Sp)(fe:af)(E:XK)(t:TA):TE:=λσ H Q=>t σ H λvs H1=>sp (vs++fe) H1 Q E
noncomputable def Binds(K:av)(fd:FuncData)(ps:aq)(ds:ak):Prop :=
 ∀(s:Shared) (us:ak),K.In s.heap->(us++ds).length=ps.length->BindsTo s fd ⟨us,[]⟩ (ps.zip (us++ds))
variable {K:av}{N ps:aq}
theorem Binds.all{fd:FuncData}(h:∀us:ak,us.length=ps.length->bindArgs fd ⟨us,[]⟩=pure (ps.zip us)):Binds K fd ps []:=λs us _ hl=>by
 rw[List.append_nil]at hl ⊢;exact .of_eq (h us hl)
def Passes(CX:yV)(X:Cx)(E:XK):Prop:=∀(pins:ao) (σ:St) (H:Hp) (s:Shared) (e:Value) (s':Shared),Inv X pins σ H s->CX X.stack H s E e s'->X.xe e s'
variable {us:ak}{vs:af}
section
variable {X:Cx}{CX:yV}{k:Nat}{f C:Addr}{fd:FuncData}{ps:aq}{sp:Sp}{fe:af}{ds:ak}{E:XK}{x m:Str}{p pos apos:Pos}{e o:Expr}{es:aA}{ta:TE}{t:TA}
theorem Hd{pins:ao}{σ:St}{H:Hp}{s:Shared}(F:iT X.prog X.w X.K X.mg X.base CX k f fd ps sp)(hr:fO k X.A)(hb:Binds X.K fd ps ds)(hd:Vals fe ds)(hx:Passes CX X E)
  (I:Inv X pins σ H s) (r:Vals vs us) (h:sp (vs++fe) H Q E):wpAny (model X.prog X.w) X.A (call (.ref f) us) (EP X pins σ Q) X.xe s:=by
 have r2:Vals (vs++fe) (us++ds):=r.append hd;have hl:(us++ds).length=ps.length:=by rw[<- r2.length];exact F.len _ _ _ _ h
 refine wpAny_call (abx (F.run X.A X.stack s H ⟨us,[]⟩ (us++ds) (vs++fe) Q E hr I.Ux (hb s us I.yL hl) r2 h) λr s' hq=>?_);cases r with
 |error e=>exact hx pins σ H s e s' I hq
 |ok fl =>
  cases fl with
  |ret u=>exact I.after hq
  |next=>exact False.elim hq
  |brk=>exact False.elim hq
  |cont=>exact False.elim hq
theorem DC(F:iT X.prog X.w X.K X.mg X.base CX k f fd ps sp)(hr:fO k X.A)(hg:Gl X x)(hm:X.mg x=some (.ref f))(hk:PySem.W.keepIn X.K (.ref f)=true)(hb:Binds X.K fd ps ds)(hd:Vals fe ds)(hx:Passes CX X E)
  (ha:PA X (e::es) t) (N0:(x==("__debug__" : Str))=false:=by decide) (he:starEach (e::es) X.env=(false,eval e X.env)::starEach es X.env:=by rfl) (hpl:(backTo pos (starEach es X.env)).any (·.1)=false:=by rfl) :
  PE X (.Call (.Name x p) (e::es) [] pos) (Md sp fe E t):=by
 intro pins s σ H Q I h;refine aaV (vV I hg hm ?_ N0);refine PySem.W.callWith_K (h₀:=X.base) I.ok.mod.RZ hk (cV (ha pos pins s σ H _ I h) λus s1 ⟨vs,H1,I1,r,q⟩=>⟨I1.yL,?_⟩) he hpl;exact Hd F hr hb hd hx I1 r q
structure Mk(K:av)(C f:Addr):Prop where
 makes:PySem.W.makesIn K C=true
 init:PySem.W.findIn K (.ref C) "__init__" = some (some (.ref f))
 fn:PySem.W.isFn K (.ref f)=true
 kp:PySem.W.keepIn K (.ref C)=true
end
section
variable {X:Cx}{CX:yV}{k:Nat}{f C:Addr}{fd:FuncData}{ps ks:aq}{sp:Sp}{E:XK}{x m:Str}{p pos apos XR:Pos}{e o:Expr}{es:aA}{ZU:List Keyword}{te ta:TE}{t tk:TA}{nm:Option Str}
structure U2(K:av)(fd:FuncData)(ps ks:aq)(g:ak->ak->ak)(gV:af->af->af):Prop where
 to:∀(s:Shared) (us ws:ak),K.In s.heap->(g us ws).length=ps.length->BindsTo s fd ⟨us,ks.zip ws⟩ (ps.zip (g us ws))
 rel:∀{vs:af} {us:ak} {zs:af} {ws:ak},Vals vs us->Vals zs ws->Vals (gV vs zs) (g us ws)
variable {g:ak->ak->ak}{gV:af->af->af}
end
structure iM(N P:aq)(sc:Scope):Prop where
 kind:sc.kind=.function
 co:sc.isCoroutine=false
 gen:sc.isGenerator=false
 nd:N.Nodup
 pre:N.take P.length=P
 par:∀x∈P,sc.names.lookup x=some .local\/sc.names.lookup x=some .cell
 HU:∀y∈sc.names,y.2≠.free
theorem o_{kindOf:Str->Option NameKind}{x:Str}:∀{binds:List (Str×Value)} {m:aX},(∀v,(x,v)∉binds)->bindL kindOf binds m x=m x
 |[],_,_=>rfl
 | (n,v)::r,m,h=>by
  unfold bindL;rw[o_ λw hw=>h w (List.mem_cons_of_mem _ hw)];split
  ·have:x≠n:=by rintro rfl;exact h v aaf
   simp[this]
  ·rfl
theorem pd{kindOf:Str->Option NameKind}{x:Str}:∀{binds:List (Str×Value)} {m:aX},(∀v,(x,v)∉binds)->bindC kindOf binds m x=m x
 |[],_,_=>rfl
 | (n,v)::r,m,h=>by
  unfold bindC;rw[pd λw hw=>h w (List.mem_cons_of_mem _ hw)];split
  ·rfl
  ·have:x≠n:=by rintro rfl;exact h v aaf
   simp[this]
theorem pb{kindOf:Str->Option NameKind}{x:Str}{v:Value}:∀{P:aq} {vs:ak} {i:Nat} {m:aX},P.Nodup->P[i]?=some x->vs[i]?=some v->kindOf x=some .local ->
  bindL kindOf (P.zip vs) m x=some v
 |[],_,_,_,_,h,_,_=>by simp at h
 |_::_,[],_,_,_,_,h,_=>by simp at h
 |p::P,w::vs,0,m,nd,h1,h2,hk=>by
  simp at h1 h2;subst h1;subst h2;show bindL kindOf ((p,w)::P.zip vs) m p=_;unfold bindL;rw[o_ λv hv=>(List.nodup_cons.mp nd).1 (List.of_mem_zip hv).1,if_pos hk];simp
 |p::P,w::vs,i+1,m,nd,h1,h2,hk=>by
  show bindL kindOf ((p,w)::P.zip vs) m x=_;unfold bindL;exact pb (i:=i) (List.nodup_cons.mp nd).2 (by simpa using h1) (by simpa using h2) hk
theorem pf{kindOf:Str->Option NameKind}{x:Str}{v:Value}:∀{P:aq} {vs:ak} {i:Nat} {m:aX},P.Nodup->P[i]?=some x->vs[i]?=some v->kindOf x≠some .local ->
  bindC kindOf (P.zip vs) m x=some v
 |[],_,_,_,_,h,_,_=>by simp at h
 |_::_,[],_,_,_,_,h,_=>by simp at h
 |p::P,w::vs,0,m,nd,h1,h2,hk=>by
  simp at h1 h2;subst h1;subst h2;show bindC kindOf ((p,w)::P.zip vs) m p=_;unfold bindC;rw[pd λv hv=>(List.nodup_cons.mp nd).1 (List.of_mem_zip hv).1,if_neg hk];simp
 |p::P,w::vs,i+1,m,nd,h1,h2,hk=>by
  show bindC kindOf ((p,w)::P.zip vs) m x=_;unfold bindC;exact pf (i:=i) (List.nodup_cons.mp nd).2 (by simpa using h1) (by simpa using h2) hk
noncomputable def start(N:aq)(vs:af):St:=vs.map some++List.replicate (N.length - vs.length) none
noncomputable def uG(CX:yV)(P:aB)(w:World)(K:av)(mg:aX)(base:Heap)(N:aq)(qual:Str)(scope:Scope)(f:Addr)(cd:Value)(A:az)(outer:List Env)(s:Shared)(H:Hp)(E:XK):Cx where
 prog:=P
 w:=w
 K:=K
 mg:=mg
 base:=base
 A:=A.deeper (envOfC qual scope s.heap.objs.size f cd)
 N:=N
 s₀:=s
 H₀:=H
 env:=envOfC qual scope s.heap.objs.size f cd
 outer:=outer
 stack:=envOfC qual scope s.heap.objs.size f cd::outer
 ex:=[]
 calm:=true
 fn:=λ_=>true
 pn:=[]
 xe:=λe s'=>wpAny (model P w) (A.deeper (envOfC qual scope s.heap.objs.size f cd)) (leaving (envOfC qual scope s.heap.objs.size f cd) e) (λ_ Rq=>CX outer H s E e Rq) (λe' Rq=>CX outer H s E e' Rq) s'
theorem sO{sc:Scope}{n:Nat}{x:Str}(h:sc.names.lookup x=some .cell):∃c,(cellsFrom n sc.names []).lookup x=some c:=by
 have q:=PySem.W.cellsFrom_some sc.names n [] (.inl h);exact Option.isSome_iff_exists.mp q
variable {P:aB}{base:Heap}{f:Addr}{mg:Str->Option Value}{qual:Str}{scope:Scope}{w:World}
theorem xZ{CX:yV}{cd:Value}{outer:List Env}{s s1:Shared}{H:Hp}{E:XK}  
  (S:iM N ps scope) (hd:A.handled=none) (e0:Fw P w K mg base A outer s H) (hl:vs.length=ps.length) (r:Vals vs us)
  (x:InCallC s s.heap.objs.size (bindL (envOfC qual scope s.heap.objs.size f cd).kindOf (ps.zip us) λ_=>none) (cellsFrom (s.heap.objs.size+1) scope.names []) (bindC (envOfC qual scope s.heap.objs.size f cd).kindOf (ps.zip us) λ_=>none) s1) :
  Inv (uG CX P w K mg base N qual scope f cd A outer s H E) [] (start N vs) H s1:=by
 have hpl:ps.length<=N.length:=by have:=aaR List.length S.pre;rw[List.length_take]at this;left
 obtain⟨h1,tk,rfl,hk⟩:=x.done;have M5:∀b:Addr,b∉(uG CX P w K mg base N qual scope f cd A outer s H E).ex:=λb z=>absurd (show b∈([]:aR) from z) (by simp);refine⟨⟨e0.mod,S.kind,rfl,rfl,aak _,λy z c h1 h2=>?_,λy hy=>?_,λy c _ h=>?_,λ_=>hd,Around.frames_deeper e0.frames,.inr ⟨rfl,rfl⟩,λb z=>absurd z (M5 b),e0.bs,e0.Gm,λb _ _=>M5 b,λb z=>absurd z (M5 b),e0.lD,e0.Ll⟩,
  rfl,e0.bare,Un.kept hk,⟨_,x.toInCall.ns,λi y v h1 h2 h3=>?_⟩,λy c h=>⟨_,x.cell y c h⟩,e0.cN.fresh (aak _),λy c h=>?_,λp hp=>absurd (show p∈([]:ao) from hp) (by simp),e0.cN.kept hk,?_⟩
 ·exact name_of_addr x.apart (aa7 h1) (aa7 h2)
 ·have hy:scope.names.lookup y=some .cell\/scope.names.lookup y=some .free:=hy;rcases hy with hy|hy
  ·exact sO hy
  ·exact absurd rfl (S.HU _ (aa7 hy))
 ·exact acj (x.above y c (aa7 h))
 ·have hi:i<vs.length:=by
   unfold start at h2;by_cases hi:i<vs.length
   ·exact hi
   ·rw[List.getElem?_append_right (by simpa using hi)]at h2;rw[List.getElem?_replicate]at h2;split at h2<;>cases h2
  have ha:vs[i]?=some v:=by
   unfold start at h2;rw[List.getElem?_append_left (by simpa using hi),List.getElem?_map]at h2;cases e:vs[i]? with
   |none=>rw[e]at h2;cases h2
   |some a=>rw[e]at h2;cases h2;rfl
  obtain⟨u,hu,rv⟩:=r.get ha;have hp:ps[i]?=some y:=by
   rw[<- S.pre,List.getElem?_take_of_lt (by left)];exact h1
  have Vt:ps.Nodup:=by rw[<- S.pre];exact S.nd.sublist (List.take_sublist _ _)
  refine⟨u,rv,?_⟩;rcases S.par y (aar hp)with k|k
  ·exact .inl ⟨k,pb Vt hp hu k⟩
  ·obtain⟨c,e⟩:=sO (n:=s.heap.objs.size+1) k;refine .inr ⟨.inl k,c,e,?_⟩;have q:=x.cell y c e;rw[pf Vt hp hu (by show scope.names.lookup y≠_;rw[k];decide)]at q;exact q
 ·exact e0.cN.fresh (acj (x.above y c (aa7 h)))
 ·unfold start;show _=N.length;rw[List.length_append,List.length_map,List.length_replicate];left
theorem Oo{CX:yV}{k:Nat}{name:Str}{params:Arguments}{body:bt}{dV kV doc pm i4 ct oc:Value}{an od:Option Addr}
  {B_:Array (Option Value)} {sp:Sp} (lk:K.lookup f=some ⟨oc,od,.func (PySem.W.fnOf name qual params body scope dV kV doc pm an i4 ct),B_⟩) (yd:PySem.W.codeIn K i4 qual=true) (S:iM N ps scope)
  (len:∀vs H Q E,sp vs H Q E->vs.length=ps.length)
  (A2:∀(A:az) (outer:List Env) (s:Shared) (H:Hp) (vs:af) (Q:VK) (E:XK),fO k (A.deeper (envOfC qual scope s.heap.objs.size f i4))->sp vs H Q E ->
   ∃t,me (uG CX P w K mg base N qual scope f i4 A outer s H E) body t/\t { nx:=λ_ H'=>Q .bW H',rt:=Q } (start N vs) H) :
  iT P w K mg base CX (k+1) f (PySem.W.fnOf name qual params body scope dV kV doc pm an i4 ct) ps sp:=by
 refine⟨len,λA outer s H args us vs Q E hr e0 hb r Cb=>?_⟩;have hl:=len _ _ _ _ Cb;have KX:K.In s.heap:=e0.mod.RZ.keeps λb o e=>(e0.bs b o e).1;have lim:s.heap.NoLimit:=e0.mod.nolimit.keeps λb o e=>(e0.bs b o e).1;have NU:∀y∈ps.zip us,scope.names.lookup y.1=some .local\/(scope.names.lookup y.1=some .cell/\((cellsFrom (s.heap.objs.size+1) scope.names []).lookup y.1).isSome=true):=λ⟨n,v⟩ hy=>by
  rcases S.par n (List.of_mem_zip hy).1 with q|q
  ·exact .inl q
  ·exact .inr ⟨q,PySem.W.cellsFrom_some _ _ _ (.inl q)⟩
 refine codeAny_call_function hr.depth (KX _ _ lk) rfl S.co S.gen rfl (PySem.W.codeRec_of KX yd) (hb _ _ _ _ ?_);refine wpAny_newFunctionEnv_cells S.kind NU λenv he s1 x=>?_;subst he;refine⟨lim.keeps x.toInCall.keep,codeAny_func ?_⟩;obtain⟨t,ht,hq⟩:=A2 A outer s H vs Q E (hr.deeper _) Cb;have I:Inv (uG CX P w K mg base N qual scope f i4 A outer s H E) [] (start N vs) H s1:=xZ S hr.hd e0 hl r x;refine aaw (ht [] s1 (start N vs) H _ I hq) (λfl s' hs=>?_) λe s' hs=>hs;have fin:∀{σ':St} {H':Hp} {v:V} {u:Value},Inv (uG CX P w K mg base N qual scope f i4 A outer s H E) [] σ' H' s'->RelV v u->Q v H'->CE outer P w H s Q u s' :=
  λ{σ' H' v u} J rv q=>⟨v,H',J.os,J.bare,J.base,J.cN,rv,q⟩
 cases fl with
 |ret u =>
  obtain⟨v,σ',H',J,rv,q⟩:=hs;exact fin J rv q
 |next =>
  obtain⟨σ',H',J,q⟩:=hs;exact fin (v:=V.bW) (u:=Value.none) J rfl q
 |brk =>
  obtain⟨_,_,_,q⟩:=hs;exact False.elim q
 |cont =>
  obtain⟨_,_,_,q⟩:=hs;exact False.elim q
end L2
namespace L2
open PySem PySem.Spec PyProof.Rows
section
variable {X:Cx}{x:Str}{p pos:Pos}{e:Expr}{es:aA}{t:TA}{id T:String}{r:af->Hp->VK->Prop}
noncomputable def Me(r:af->Hp->VK->Prop)(t:TA):TE:=λσ H Q=>t σ H λvs H1=>r vs H1 Q
theorem dZ(hc:ft X (.builtin id) r)(hg:Gl X x)(hm:X.mg x=none)(hv:bootBuiltins x=some (.builtin id))(ha:PA X (e::es) t)(hn:x ≠ "__name__":=by decide)(N0:(x==("__debug__" : Str))=false:=by decide)
  (he:starEach (e::es) X.env=(false,eval e X.env)::starEach es X.env:=by rfl) (hpl:(backTo pos (starEach es X.env)).any (·.1)=false:=by rfl):PE X (.Call (.Name x p) (e::es) [] pos) (Me r t):=by
 intro pins s σ H Q I h;refine aaV (eE I hg hm hv ?_ hn N0);exact PyProof.Rows.callWith_builtin1 (cV (ha pos pins s σ H _ I h) λus s1 ⟨vs,H1,I1,r1,q1⟩=>hc pins s1 σ H1 vs us Q I1 r1 q1) he hpl
theorem oK(hc:ft X (.type T) r)(hg:Gl X x)(hm:X.mg x=none)(hv:bootBuiltins x=some (.type T))(ha:PA X (e::es) t)(hn:x ≠ "__name__":=by decide)(N0:(x==("__debug__" : Str))=false:=by decide)
  (he:starEach (e::es) X.env=(false,eval e X.env)::starEach es X.env:=by rfl) (hpl:(backTo pos (starEach es X.env)).any (·.1)=false:=by rfl):PE X (.Call (.Name x p) (e::es) [] pos) (Me r t):=by
 intro pins s σ H Q I h;refine aaV (eE I hg hm hv ?_ hn N0);exact aas (cV (ha pos pins s σ H _ I h) λus s1 ⟨vs,H1,I1,r1,q1⟩=>hc pins s1 σ H1 vs us Q I1 r1 q1) he hpl
end
end L2
namespace HT
open PySem PyProof.Rows
noncomputable def lexLt:aa->aa->Bool
 |[],[]=>false
 |[],_::_=>true
 |_::_,[]=>false
 |x::xs,y::ys=>if x=y then lexLt xs ys else decide (x<y)
theorem dj(x y:Int)(xs ys:aa):lexLt (x::xs) (y::ys)=if x=y then lexLt xs ys else decide (x<y):=rfl
theorem iY:lexLt [] []=false:=rfl
theorem mT(y:Int)(ys:aa):lexLt [] (y::ys)=true:=rfl
theorem cI(x:Int)(xs:aa):lexLt (x::xs) []=false:=rfl
theorem sj(A:az)(s:Shared)(a:Int)(t:Tok)(c:Int)(u:Tok):∃e,SeqAt.EqAt A s (.int a t) (.int c u) e/\(e=true ↔ a=c) :=
 ⟨(a==c),aby a t c u,by simp⟩
theorem zJ(A:az)(s:Shared)(a:Int)(t:Tok)(c:Int)(u:Tok)(prog:aB)(w:World)(E:au)(Q:au)(h:Q (.bool (decide (a<c))) s):
  wpAny (model prog w) A (richCompare .Lt (.int a t) (.int c u)) Q E s :=
 (PyProof.Rows.lt_int h:wpAny (model prog w) A (compareOp .Lt (.int a t) (.int c u)) Q E s)
section
open PySem.SeqAt
open PySem.AutoSeq1 (wpAny_loadPart')
open PySem.MeetsSeq PySem.MeetsSeq2 PySem.MeetsSeq3
theorem iV(l b:Addr)(items cX:aM)(n n2:Nat)(dd wM:Option Addr)(sl vw:Array (Option Value))(ns ms:aa)(hi:IntsAre items.toList ns)(hj:IntsAre cX.toList ms):
  Meets (Builtin.«tuple.__lt__» ⟨[.ref l,.ref b],[]⟩)
   (λ_ R s=>s.heap.get? l=some { cls:=.type "tuple",dict:=dd,data:=.seq items n,slots:=sl }/\s.heap.get? b=some { cls:=.type "tuple",dict:=wM,data:=.seq cX n2,slots:=vw } /\
    R (.ok (.ret (.bool (lexLt ns ms)))) s) :=
 .of_wp λprog w A R s h=>by
  obtain⟨hp,g,d,tk,os⟩:=s;obtain⟨hl,hb,h⟩:=h;have f2:=AutoSeq1.sub_tuple_tuple;have z1:items.size=ns.length:=by rw[<- hi.length];simp
  have z2:cX.size=ms.length:=by rw[<- hj.length];simp
  wp_walk using wpAny_loadPart' hl,wpAny_loadPart' hb,wpAny_forIn_list _ (λrest b s'=>b.1=none/\s'=⟨hp,g,d,tk,os⟩/\∃(vs ws:ak) (ka yK:aa),rest=vs.zip ws /\
   IntsAre vs ka/\IntsAre ws yK/\ka.length+cX.size=yK.length+items.size/\R (.ok (.ret (.bool (lexLt ka yK)))) ⟨hp,g,d,tk,os⟩) _
  case turn =>
   rintro ⟨y,x⟩ rest b s' ⟨wo,rfl,vs,ws,ka,yK,hz,IC,F4,hlen,hR⟩;cases IC with
   |nil=>rw[List.zip_nil_left]at hz;cases hz
   |cons a t hvi' =>
    cases F4 with
    |nil=>rw[List.zip_nil_right]at hz;cases hz
    |cons c u hwi' =>
     rw[List.zip_cons_cons]at hz;injection hz with Sr AQ
     injection Sr with hy hx
     subst hy hx;rw[dj]at hR;simp only[List.length_cons]at hlen;obtain⟨e,he,AX⟩:=sj A.in1 ⟨hp,g,d,tk,os⟩ a t c u;refine aaa (he prog w _ _ ?_);cases e with
     |true =>
      rw[if_pos (AX.mp rfl)]at hR
      wp_walk
      exact⟨rfl,rfl,_,_,_,_,AQ,hvi',hwi',by left,hR⟩
     |false =>
      rw[if_neg (λq=>absurd (AX.mpr q) Bool.false_ne_true)]at hR;have SJ:=zJ A.in1 ⟨hp,g,d,tk,os⟩ a t c u prog w
      wp_walk using SJ
      exact⟨_,rfl,by simpa using hR⟩
  case fin =>
   rintro ⟨b1,b2⟩ s' ⟨wo,rfl,vs,ws,ka,yK,hz,IC,F4,hlen,hR⟩;simp only at wo;subst wo;have hv:lexLt ka yK=decide (items.size<cX.size):=by
    cases IC with
    |nil =>
     cases F4 with
     |nil =>
      simp only[List.length_nil]at hlen;rw[iY];exact(aaT (by left)).symm
     |cons c u hw =>
      simp only[List.length_nil,List.length_cons]at hlen;rw[mT];exact(aaP (by left)).symm
    |cons a t hv =>
     cases F4 with
     |nil =>
      simp only[List.length_nil,List.length_cons]at hlen;rw[cI];exact(aaT (by left)).symm
     |cons c u hw =>
      rw[List.zip_cons_cons]at hz;cases hz
   rw[hv]at hR
   wp_walk
   exact⟨_,rfl,by simpa [Builtin.Tuple.tupleCompareSizes]using hR⟩
  case h =>
   exact⟨rfl,rfl,items.toList,cX.toList,ns,ms,rfl,hi,hj,by left,h⟩
end
variable {Q:Value->Shared->Prop}
section
variable {prog:aB}{w:World}{A:az}{E:au}{s:Shared}
theorem ub{l b:Addr}{items cX:aM}{ns ms:aa}(hl:IsTup s.heap l items)(hb:IsTup s.heap b cX)(hi:IntsAre items.toList ns)(hj:IntsAre cX.toList ms)
  (hu:A.units<cLine) (h:Q (.bool (lexLt ns ms)) s):wpAny (model prog w) A (compareOp .Lt (.ref l) (.ref b)) Q E s:=by
 obtain⟨⟨cls,dd,data,sl⟩,ho,hc,n,hd⟩:=id hl;obtain⟨⟨EN,wM,data2,vw⟩,qa,hc2,n2,hd2⟩:=id hb;simp only at hc hd hc2 hd2;subst hc hd hc2 hd2;exact richCompare_meets_room (op:=.Lt) ⟨_,ho,rfl⟩ ⟨_,qa,rfl⟩ abR PySem.F.entry_tuple_lt (PySem.F.args_tuple_lt_2 _ _) (iV l b items cX n n2 dd wM sl vw ns ms hi hj)
  ⟨ho,qa,show Value.bool (lexLt ns ms)≠Value.notImplemented/\Q (.bool (lexLt ns ms)) s from⟨(λx=>nomatch x),h⟩⟩ hu
theorem ES{t b:Addr}{vs ws:ak}(ht:IsTup s.heap t vs.toArray)(hb:IsTup s.heap b ws.toArray)(hv:vs≠[])
  (h1:ws=[]->Q (.ref t) s) (h2:ws≠[]->Q (.ref s.heap.objs.size) { s with heap:=s.heap.push { cls:=.type "tuple",data:=.seq (vs++ws).toArray } })
  (hsz:vs.length+ws.length<=sizeLine):wpAny (model prog w) A (binaryOp .Add (.ref t) (.ref b)) Q E s:=by
 obtain⟨⟨cls,dd,data,sl⟩,ho,hc,n,hd⟩:=id ht;obtain⟨⟨EN,wM,data2,vw⟩,qa,hc2,n2,hd2⟩:=id hb;simp only at hc hd hc2 hd2;subst hc hd hc2 hd2;have e:vs.toArray++ws.toArray=(vs++ws).toArray:=by simp
 by_cases hw:ws=[]
 ·exact concat_meets ⟨_,ho,rfl⟩ ⟨_,qa,rfl⟩ noFill_tuple_add seq_tuple_add abI abF (abz _ _)
   (tuple_addW1 t b vs.toArray ws.toArray n n2 dd wM sl vw (by simpa using hv) (by simp[hw])) ⟨ho,qa,h1 hw⟩
 ·refine concat_meets ⟨_,ho,rfl⟩ ⟨_,qa,rfl⟩ noFill_tuple_add seq_tuple_add abI abF (abz _ _)
   (tuple_addW2 t b vs.toArray ws.toArray n n2 dd wM sl vw (by simpa using hv) (by simpa using hw) (by rw[List.size_toArray,List.size_toArray];exact hsz)) ⟨ho,qa,?_⟩
  rw[e];exact h2 hw
end
end HT
namespace L2
open PySem PySem.Spec PyProof.Rows
noncomputable abbrev TO:=St->Hp->(Option Int->Hp->Prop)->Prop
noncomputable def PO(X:Cx)(e:Option Expr)(t:TO):Prop :=
 ∀(pins:ao) (s:Shared) (σ:St) (H:Hp) (Q:Option Int->Hp->Prop),Inv X pins σ H s->t σ H Q ->
  wpAny (model X.prog X.w) X.A (evalPart e X.env) (λu s'=>∃o H',Inv X pins σ H' s'/\IsPart u o/\Q o H') X.xe s
noncomputable def C1:TO:=λ_ H Q=>Q none H
noncomputable def L9(t:TE):TO:=λσ H Q=>t σ H λx H1=>∃i,x=.int i/\Q (some i) H1
theorem intsAre_of{ns:aa}:∀{us:ak},Vals (ns.map V.int) us->IntsAre us ns:=by
 induction ns with
 |nil=>intro us r;rw[List.map_nil]at r;cases r;exact .nil
 |cons n ns ih =>
  intro us r;rw[List.map_cons]at r;cases r with
  |cons r1 r2 =>
   obtain⟨t,e⟩:=r1;subst e;exact .cons n t (ih r2)
section
variable {X:Cx}{e:Expr}{te:TE}{lo hi:Option Expr}{tl th:TO}{pos p2:Pos}
theorem vG:PO X none C1:=by
 intro pins s σ H Q I h;rw[evalPart_none];exact aab ⟨none,H,I,.none,h⟩
theorem vF(h:PE X e te):PO X (some e) (L9 te):=by
 intro pins s σ H Q I hw;rw[evalPart_some];refine cV (h pins s σ H _ I hw) λu s1 bN=>?_;obtain⟨x,H1,I1,r1,q1⟩:=bN;obtain⟨i,rfl,q⟩:=q1;obtain⟨t,rfl⟩:=r1;exact⟨some i,H1,I1,.int i t,q⟩
def UZ(X:Cx)(r:V->Option Int->Option Int->Hp->VK->Prop):Prop :=
 ∀(pins:ao) (s:Shared) (σ:St) (H:Hp) (x:V) (v vl vu:Value) (lo hi:Option Int) (sl:Addr) (Q:VK),Inv X pins σ H s->RelV x v->s.heap.IsSliceOf sl vl vu .none->IsPart vl lo->IsPart vu hi->r x lo hi H Q ->
  ∃T id,typeLookup (.type T) "__getitem__" = pure (some (.builtin id))/\s.TypeIs v T/\wpAny (model X.prog X.w) X.A (getItem v (.ref sl)) (EP X pins σ Q) X.xe s
noncomputable def W_(r:V->Option Int->Option Int->Hp->VK->Prop)(te:TE)(tl th:TO):TE:=λσ H Q=>te σ H λx H1=>tl σ H1 λl H2=>th σ H2 λu H3=>r x l u H3 Q
theorem z4{r:V->Option Int->Option Int->Hp->VK->Prop}(hr:UZ X r)(he:PE X e te)(hl:PO X lo tl)(hu:PO X hi th):PE X (.Subscript e (.Slice lo hi none p2) pos) (W_ r te tl th):=by
 intro pins s σ H Q I h;refine Subscript_ (cV (he pins s σ H _ I h) λv s1 bN=>?_);obtain⟨x,H1,I1,r1,q1⟩:=bN;refine wpAny_Slice (cV (hl pins s1 σ H1 _ I1 q1) λvl s2 ⟨l,H2,I2,pl,q2⟩=>cV (hu pins s2 σ H2 _ I2 q2) λvu s3 bN=>?_);obtain⟨u,H3,I3,pu,q3⟩:=bN;rw[evalPart_none];refine aab ?_;have I4:Inv X pins σ H3 { s3 with heap:=s3.heap.push { cls:=.type "slice",data:=.fields #[vl,vu,.none] } }:=I3.kept (t':=s3.toks) λb ob q=>aag _ q;obtain⟨T,id,hT,ht,hg⟩:=hr pins { s3 with heap:=s3.heap.push { cls:=.type "slice",data:=.fields #[vl,vu,.none] } } σ H3 x v vl vu l u s3.heap.objs.size Q I4 r1 (Heap.IsSliceOf.new ..) pl pu q3;show wpAny (model X.prog X.w) X.A (subscriptTail e (.Slice lo hi none p2) v (.ref s3.heap.objs.size)) (EP X pins σ Q) X.xe { s3 with heap:=s3.heap.push { cls:=.type "slice",data:=.fields #[vl,vu,.none] } };exact tail_any (ops:=[.ref s3.heap.objs.size,v]) ht hT hg (by with_unfolding_all rfl)
def MD(K:av):R2:=λx y H Q=>∃a b xs ys,x=.ref a/\y=.ref b/\aW K H a xs/\aW K H b ys/\xs≠[]/\xs.length+ys.length<=sizeLine /\
 (ys=[]->Q (.ref a) H)/\(ys≠[]->∀p,H p=none->Q (.ref p) (upd H p (.tup (xs++ys))))
theorem Vals.pR{xs:af}{us:ak}(r:Vals xs us):us=[] ↔ xs=[]:=by
 cases r with
 |nil=>simp
 |cons _ _=>simp
theorem DK:jr X (binaryOp .Add) (MD X.K):=by
 intro pins s σ H x y v u Q I rx ry h;obtain⟨a,b,xs,ys,rfl,rfl,ha,hb,hx,hz,q1,q2⟩:=h;cases rx;cases ry;obtain⟨aJ,r1,p1,_⟩:=I.tuple ha;obtain⟨lu,r2,p2,_⟩:=I.tuple hb;refine HT.ES p1 p2 (λz=>hx (r1.pR.mp z)) (λz=>⟨.ref a,H,I,rfl,q1 (r2.pR.mp z)⟩) (λz=>?_) (by rw[<- r1.length,<- r2.length];exact hz);refine⟨.ref s.heap.objs.size,_,I.laid (t':=s.toks) (o:=.tup (xs++ys)) (λb ob q=>aag _ q) (aak _) ?_,rfl,q2 (λw=>z (r2.pR.mpr w)) _ (I.cN.fresh (aak _))⟩;exact⟨by rw[List.length_append];exact hz,_,r1.append r2,IsTup.new _ _⟩
end
end L2
namespace L2
open PySem PySem.Spec PyProof.Rows
noncomputable def xU(n:Nat)(i:Int):Option Nat:=if 0<=i then(if i<n then some i.toNat else none)else if -(n:Int)<=i then some (i+n).toNat else none
def Gu{α:Type}(xs:List α)(i:Int):Option α:=(xU xs.length i).bind λj=>xs[j]?
theorem vZ{n:Nat}{i:Int}{j:Nat}(h:xU n i=some j):seqIndex? i n=some j/\j<n /\ -(n:Int)<=i/\i<n:=by
 unfold xU at h;by_cases h0:0<=i
 ·rw[if_pos h0]at h;by_cases h1:i<n
  ·rw[if_pos h1]at h;have e:i.toNat=j:=aap h;exact⟨by rw[seqIndex_of h0 h1,e],by left,by left,h1⟩
  ·rw[if_neg h1]at h;cases h
 ·rw[if_neg h0]at h;by_cases h1:-(n:Int)<=i
  ·rw[if_pos h1]at h;have e:(i+n).toNat=j:=aap h;exact⟨by rw[seqIndex_neg (by left) h1,e],by left,h1,by left⟩
  ·rw[if_neg h1]at h;cases h
theorem xg{α:Type}{xs:List α}{i:Int}{v:α}(h:Gu xs i=some v):∃j,seqIndex? i xs.length=some j/\xs[j]?=some v/\j<xs.length /\ -(xs.length:Int)<=i/\i<xs.length:=by
 unfold Gu at h;cases e:xU xs.length i with
 |none=>rw[e]at h;cases h
 |some j =>
  rw[e]at h;obtain⟨h1,h2,h3,h4⟩:=vZ e;exact⟨j,h1,h,h2,h3,h4⟩
def md(b:Expr):Prop:=∀o i,subscripted b false o i=operate [o,i] (getItem o i)
def Ft(X:Cx)(r:R2):Prop :=
 ∀(value slice:Expr) (pins:ao) (s:Shared) (σ:St) (H:Hp) (x y:V) (v u:Value) (Q:VK),Inv X pins σ H s->RelV x v->RelV y u->r x y H Q ->
  subscripted slice false v u=operate [v,u] (getItem v u)->wpAny (model X.prog X.w) X.A (subscriptTail value slice v u) (EP X pins σ Q) X.xe s
def U0(X:Cx)(id:String)(r:V->af->Hp->VK->Prop):Prop :=
 ∀(pins:ao) (s:Shared) (σ:St) (H:Hp) (x:V) (xs:af) (v:Value) (us:ak) (Q:VK),Inv X pins σ H s->RelV x v->Vals xs us->r x xs H Q ->
  wpAny (model X.prog X.w) X.A (call (.builtin id) (v::us)) (EP X pins σ Q) X.xe s
variable {σ:L2.St}
section
variable {X:Cx}{a b:Expr}{ta tb:TE}{pos:Pos}
theorem Ft.or{r r':R2}(h:Ft X r)(h':Ft X r'):Ft X (λx y H Q=>r x y H Q\/r' x y H Q):=by
 intro value slice pins s σ H x y v u Q I rx ry q hs;rcases q with q|q
 ·exact h value slice pins s σ H x y v u Q I rx ry q hs
 ·exact h' value slice pins s σ H x y v u Q I rx ry q hs
theorem vK{r:R2}(hr:Ft X r)(ha:PE X a ta)(hb:PE X b tb)(hs:md b):PE X (.Subscript a b pos) (FG r ta tb):=by
 intro pins s σ H Q I h;exact Subscript_ (Ki ha hb I h λv u s2 x y H2 I2 rx ry q=>hr a b pins s2 σ H2 x y v u Q I2 rx ry q (hs _ _))
def Rz(K:av):R2:=λx y H Q=>∃p xs i v,x=.ref p/\y=.int i/\dh K H p xs/\Gu xs i=some v/\Q v H
def Hi(K:av):R2:=λx y H Q=>∃p xs i v,x=.ref p/\y=.int i/\aW K H p xs/\Gu xs i=some v/\Q v H
theorem vY:Ft X (Rz X.K):=by
 intro value slice pins s σ H x y v u Q I rx ry h hs;obtain⟨p,xs,i,z,rfl,rfl,hq,he,q⟩:=h;cases rx;obtain⟨t,rfl⟩:=ry;obtain⟨aJ,r,pl,hz⟩:=I.list hq;obtain⟨j,h1,h2,h3,h4,h5⟩:=xg he;obtain⟨w,ew,iD⟩:=r.get h2;have hl:=r.length;have hn:=p9;have fin:EP X pins σ Q w s:=⟨z,H,I,iD,q⟩
 by_cases h0:0<=i
 ·have hj:i.toNat=j:=by
   rw[seqIndex_of h0 h5]at h1;exact aap h1
  exact item_listR pl.isList h0 (by left) (by rw[hj];simpa using ew) fin hs
 ·have hj:(i+(aJ.toArray.size:Int)).toNat=j:=by
   rw[seqIndex_neg (by left) h4]at h1;rw[List.size_toArray,<- hl];exact aap h1
  exact abn (x:=w) pl.isList.typeIs slot_list_getitem.lookup
   (wpAny_getItem_list_neg (Q:=λr s'=>r=w/\EP X pins σ Q r s') pl.isList (by left) (by rw[List.size_toArray]<;>omega) (by left) (by rw[hj];simpa using ew) ⟨rfl,fin⟩) hs
theorem AD:Ft X (Hi X.K):=by
 intro value slice pins s σ H x y v u Q I rx ry h hs;obtain⟨p,xs,i,z,rfl,rfl,hq,he,q⟩:=h;cases rx;obtain⟨t,rfl⟩:=ry;obtain⟨aJ,r,pl,hz⟩:=I.tuple hq;obtain⟨j,h1,h2,h3,h4,h5⟩:=xg he;obtain⟨w,ew,iD⟩:=r.get h2;have hl:=r.length;have hn:=p9;have fin:EP X pins σ Q w s:=⟨z,H,I,iD,q⟩
 exact abn (x:=w) pl.typeIs slot_tuple_getitem.lookup
  (getItem_tuple (j:=j) (Q:=λr s'=>r=w/\EP X pins σ Q r s') pl (by left) (by left) (by rw[List.size_toArray,<- hl];exact h1) (by simpa using ew) ⟨rfl,fin⟩) hs
theorem Inv.lst{pins:ao}{σ:St}{H:Hp}{s:Shared}{p:Addr}{xs:af}(I:Inv X pins σ H s)(h:H p=some (.lst xs)):
  ∃(aJ:ak) (n:Nat),Vals xs aJ/\s.heap.get? p=some { cls:=.type "list",data:=.seq aJ.toArray n }/\xs.length<=sizeLine:=by
 obtain⟨z,aJ,n,r,e⟩:=I.cN p _ h;exact⟨aJ,n,r,e,z⟩
theorem qA:ft X (.builtin "len") (λxs H Q=>∃p ys,xs=[.ref p]/\(dh X.K H p ys\/aW X.K H p ys)/\Q (.int ys.length) H):=by
 intro pins s σ H xs us Q I r h;obtain⟨p,ys,rfl,hq,q⟩:=h;obtain⟨u,rfl,rx⟩:=vals1 r;cases rx;have hn:=p9;rcases hq with hq|hq
 ·obtain⟨aJ,r',pl,hz⟩:=I.list hq;have hlen:=r'.length;exact Calls.call_len_list pl.isList (by simp only[List.size_toArray]<;>omega) ⟨.int ys.length,H,I.tok _,⟨s.toks+1,by rw[List.size_toArray,hlen]⟩,q⟩
 ·obtain⟨aJ,r',pl,hz⟩:=I.tuple hq;have hlen:=r'.length;exact len_tuple pl (by simp only[List.size_toArray]<;>omega) ⟨.int ys.length,H,I.tok _,⟨s.toks+1,by rw[List.size_toArray,hlen]⟩,q⟩
theorem qz:ft X (.type "list") (λxs H Q=>∃p ys,xs=[.ref p]/\(dh X.K H p ys\/aW X.K H p ys)/\∀l,H l=none->Q (.ref l) (upd H l (.lst ys))):=by
 intro pins s σ H xs us Q I r h;obtain⟨p,ys,rfl,hq,q⟩:=h;obtain⟨u,rfl,rx⟩:=vals1 r;cases rx;have fin:∀(aJ:ak),Vals ys aJ->ys.length<=sizeLine->∀(h':Heap) (c':Nat),(∀b o',s.heap.get? b=some o'->h'.get? b=some o') ->
   h'.get? s.heap.objs.size=some { cls:=.type "list",dict:=none,data:=.seq aJ.toArray c',slots:=#[] }->EP X pins σ Q (.ref s.heap.objs.size) { s with heap:=h' }:=λaJ r' hz h' c' kp e =>
  ⟨.ref s.heap.objs.size,_,I.laid (t':=s.toks) kp (aak _) (show cu X.prog X.w _ h' _ (.lst ys) from⟨hz,aJ,c',r',e⟩),rfl,q _ (I.cN.fresh (aak _))⟩
 rcases hq with hq|hq
 ·obtain⟨aJ,r',pl,hz⟩:=I.list hq;have hlen:=r'.length;obtain⟨o,ho,hc,n,hd⟩:=pl.isList;exact call_list_seq p (.inl rfl) ho hc hd (λh' c' kp e=>fin aJ r' hz h' c' kp e) (by simp only[List.size_toArray]<;>omega)
 ·obtain⟨aJ,r',pl,hz⟩:=I.tuple hq;have hlen:=r'.length;obtain⟨o,ho,hc,n,hd⟩:=pl;exact call_list_seq p (.inr rfl) ho hc hd (λh' c' kp e=>fin aJ r' hz h' c' kp e) (by simp only[List.size_toArray]<;>omega)
theorem oo:ft X (.type "tuple") (λxs H Q=>∃p ys,xs=[.ref p]/\((dh X.K H p ys/\∀l,H l=none->Q (.ref l) (upd H l (.tup ys)))\/(aW X.K H p ys/\Q (.ref p) H))):=by
 intro pins s σ H xs us Q I r h;obtain⟨p,ys,rfl,h⟩:=h;obtain⟨u,rfl,rx⟩:=vals1 r;cases rx;rcases h with ⟨hq,q⟩|⟨hq,q⟩
 ·obtain⟨aJ,r',pl,hz⟩:=I.list hq;have hlen:=r'.length;refine call_tuple_list pl.isList (λh' kp=>?_) (by simp only[List.size_toArray]<;>omega);have I1:Inv X pins σ H { s with heap:=h' }:=I.kept (t':=s.toks) kp;have I2:Inv X pins σ (upd H h'.objs.size (.tup ys)) { s with heap:=h'.push { cls:=.type "tuple",data:=.seq aJ.toArray } } :=
   I1.laid (t':=s.toks) (λb o e=>aag _ e) (aak _) (show cu X.prog X.w _ _ _ (.tup ys) from⟨hz,aJ,r',IsTup.new _ _⟩)
  exact⟨.ref h'.objs.size,_,I2,rfl,q _ (I1.cN.fresh (aak _))⟩
 ·obtain⟨aJ,r',pl,hz⟩:=I.tuple hq;exact call_tuple_same pl ⟨.ref p,H,I,rfl,q⟩
def Pq(K:av)(T:String)(x:V)(H:Hp):Prop:=match x with
 |.str _=>T = "str"
 |.int _=>T = "int"
 |.ref p=>(T = "list" /\ ∃xs,dh K H p xs)\/(T = "tuple" /\ ∃o,K.lookup p=some o/\o.cls=.type "tuple" /\ o.dict=none) \/
   (T = "dict" /\ ((∃mU,H p=some (.dK mU))\/∃mU,H p=some (.dT mU)))\/(T = "set" /\ ∃S n,H p=some (.set S n))
 |_=>False
theorem za{pins:ao}{H:Hp}{s:Shared}{T:String}{x:V}{v:Value}(I:Inv X pins σ H s)(r:RelV x v)(ty:Pq X.K T x H):
  s.TypeIs v T/\∀a,v=.ref a->∃ob,s.heap.get? a=some ob/\ob.dict=none:=by
 cases x with
 |str z =>
  obtain⟨t,rfl⟩:=r;cases (show T = "str" from ty);exact⟨typeIs_str s z t,λ_ e=>nomatch e⟩
 |int i =>
  obtain⟨t,rfl⟩:=r;cases (show T = "int" from ty);exact⟨typeIs_int s i t,λ_ e=>nomatch e⟩
 |ref p =>
  cases r;rcases ty with ⟨rfl,xs,hq⟩|⟨rfl,o,hk,hc,hd⟩|⟨rfl,hk⟩|⟨rfl,S,n,hk⟩
  ·obtain⟨aJ,_,pl,_⟩:=I.list hq;refine⟨pl.isList.typeIs,λa e=>?_⟩;cases e;obtain⟨o,n,e,c,hd,_⟩:=pl;exact⟨o,e,hd⟩
  ·refine⟨⟨o,I.yL p o hk,hc⟩,λa e=>?_⟩;cases e;exact⟨o,I.yL _ o hk,hd⟩
  ·have z:∃o,s.heap.get? p=some o/\o.ExactDict:=by
    rcases hk with ⟨mU,hk⟩|⟨mU,hk⟩
    ·obtain⟨_,_,_,_,o,_,_,e,ex,_⟩:=I.cN p _ hk;exact⟨o,e,ex⟩
    ·obtain⟨_,_,_,_,o,_,_,e,ex,_⟩:=I.cN p _ hk;exact⟨o,e,ex⟩
   obtain⟨o,e,ex⟩:=z;refine⟨⟨o,e,ex.1⟩,λa e2=>?_⟩;cases e2;exact⟨o,e,ex.2.1⟩
  ·obtain⟨o,_,_,_,e,ex,_⟩:=I.cN p _ hk;refine⟨⟨o,e,ex.1⟩,λa e2=>?_⟩;cases e2;exact⟨o,e,ex.2.1⟩
 |_=>exact False.elim ty
def QV(K:av)(T:String)(r:V->af->Hp->VK->Prop)(to:TE):TE:=λσ H Q=>to σ H λx H1=>Pq K T x H1/\r x [] H1 Q
def Xc(K:av)(T:String)(r:V->af->Hp->VK->Prop)(to:TE)(t:TA):TE:=λσ H Q=>to σ H λx H1=>Pq K T x H1/\t σ H1 λxs H2=>r x xs H2 Q
variable {o e:Expr}{es:aA}{to:TE}{t:TA}{name:Str}{apos qo:Pos}{T id:String}{r:V->af->Hp->VK->Prop}
theorem HB(pa:PlainAttrs T)(slot:Slot T name id)(SD:typeOf (.builtin id)=pure (.type "method_descriptor"))(hm:U0 X id r)(ho:PE X o to)
  (A4:attributeBase o name X.env (eval o X.env)=eval o X.env:=by rfl) (hline:(apos.endLine==qo.line)=true:=by rfl):PE X (.Call (.Attribute o name apos) [] [] qo) (QV X.K T r to):=by
 intro pins s σ H Q I h;refine wpAny_Call_method0_late A4 hline (cV (ho pins s σ H _ I h) λv s1 bN=>?_);obtain⟨x,H1,I1,r1,ty,q1⟩:=bN;obtain⟨h1,h2⟩:=za I1 r1 ty;exact⟨T,id,pa,slot,SD,h1,h2,abJ rfl (PySem.evalArgs_none (hm pins s1 σ H1 x [] v [] Q I1 r1 .nil q1))⟩
theorem z8(pa:PlainAttrs T)(slot:Slot T name id)(SD:typeOf (.builtin id)=pure (.type "method_descriptor"))(hm:U0 X id r)(ho:PE X o to)(ha:PA X (e::es) t)
  (A4:attributeBase o name X.env (eval o X.env)=eval o X.env:=by rfl)
  (hfew:((backTo qo (starEach (e::es) X.env)).all (λx=>!x.1)&&(backToKw qo (keywordEach [] X.env)).all (λx=>x.1.isSome)
   && decide ((e::es).length+([]:List Keyword).length+(if ([]:List Keyword).isEmpty then 0 else 1)<30))=true:=by rfl)
  (hline:(apos.endLine==qo.line)=true:=by rfl) (hs:starEach (e::es) X.env=(false,eval e X.env)::starEach es X.env:=by rfl) (IF:(backTo qo (starEach es X.env)).any (·.1)=false:=by rfl) :
  PE X (.Call (.Attribute o name apos) (e::es) [] qo) (Xc X.K T r to t):=by
 intro pins s σ H Q I h;refine wpAny_Call_method_late A4 hfew hline rfl (cV (ho pins s σ H _ I h) λv s1 bN=>?_);obtain⟨x,H1,I1,r1,ty,q1⟩:=bN;obtain⟨h1,h2⟩:=za I1 r1 ty;refine⟨T,id,pa,slot,SD,h1,h2,?_⟩;have hA:=ha qo pins s1 σ H1 _ I1 q1;rw[hs]at hA ⊢;refine abJ (by show(false||(backTo qo (starEach es X.env)).any (·.1))=false;rw[IF]<;>rfl) (Calls.evalArgs_plain ?_);exact cV hA λus s2 ⟨vs,H2,I2,r2,q2⟩=>hm pins s2 σ H2 x vs v us Q I2 r1 r2 q2
/- xs.append(e),list.index on a module's tuple .. are U0 facts of 06m -/
end
end L2
namespace L2
open PySem PySem.Spec PyProof.Rows
def Pm(X:Cx)(id:String)(r:V->af->Hp->VK->Prop):Prop :=
 ∀(pins:ao) (s:Shared) (σ:St) (H:Hp) (x:V) (xs:af) (v:Value) (us:ak) (Q:VK),Inv X pins σ H s->RelV x v->Vals xs us->r x xs H Q ->
  wpAny (model X.prog X.w) X.A (call (.builtin id) (v::us)) (EP X pins σ Q) X.xe s
theorem Vals.one:∀{x:V} {us:ak},Vals [x] us->∃u,us=[u]/\RelV x u
 |_,_,.cons r .nil=>⟨_,rfl,r⟩
theorem Vals.zero:∀{us:ak},Vals [] us->us=[]
 |_,.nil=>rfl
theorem Vals.rep{xs:af}{us:ak}(h:Vals xs us):∀k:Nat,Vals (List.replicate k xs).flatten (List.replicate k us).flatten
 |0=>.nil
 |k+1=>by
  rw[List.replicate_succ,List.replicate_succ,List.flatten_cons,List.flatten_cons];exact Vals.append h (Vals.rep h k)
theorem foldl_rep(aJ:ak):∀(k:Nat) (acc:ak),
  List.foldl (λx1 x2=>x1++x2) acc.toArray (List.replicate k aJ.toArray)=(acc++(List.replicate k aJ).flatten).toArray
 |0,acc=>by simp
 |k+1,acc=>by
  have e:acc.toArray++aJ.toArray=(acc++aJ).toArray:=by simp
  have e2:(acc++aJ)++(List.replicate k aJ).flatten=acc++(List.replicate (k+1) aJ).flatten:=by
   rw[List.replicate_succ,List.flatten_cons,List.append_assoc]
  rw[<- e2,<- foldl_rep aJ k (acc++aJ),<- e,List.replicate_succ,List.foldl_cons]
variable {aJ:ak}{t':Nat}
section
variable {X:Cx}{pins:ao}{σ:St}{H:Hp}{s:Shared}{l b:Addr}{xs ys zs:af}
theorem Inv.iP{its':ak}{n:Nat}{f:aM->aM}(I:Inv X pins σ H s)(hH:H l=some (.lst xs))
  (e:s.heap.get? l=some { cls:=.type "list",data:=.seq aJ.toArray n }) (hf:f aJ.toArray=its'.toArray) (hv:Vals ys its') (hz:ys.length<=sizeLine) :
  Inv X pins σ (upd H l (.lst ys)) { s with heap:=s.heap.update l (Obj.mapSeq f),toks:=t' }:=by
 have q:=PySem.IsL.update e f;rw[hf]at q;refine I.write (x:=l) (e:=l) (by rw[hH];exact trivial) (.inl rfl) (λb' u hb hu=>(aaJ s.heap (Obj.mapSeq f) (abE hb)).trans hu) ⟨_,q⟩ ?_;exact⟨hz,its',_,hv,q⟩
theorem Inv.Ib(I:Inv X pins σ H s)(hv:Vals ys aJ)(hz:ys.length<=sizeLine):
  Inv X pins σ (upd H s.heap.objs.size (.lst ys)) { s with heap:=s.heap.push { cls:=.type "list",data:=.seq aJ.toArray },toks:=t' } :=
 I.laid (λ_ _ q=>aag _ q) (aak _) ⟨hz,aJ,0,hv,aal _ rfl⟩
theorem Inv.fresh(I:Inv X pins σ H s):H s.heap.objs.size=none:=I.cN.fresh (aak _)
theorem Inv.p7(I:Inv X pins σ H s)(hH:H l=some (.lst xs)):xs.length<=sizeLine/\∃(aJ:ak) (n:Nat),Vals xs aJ/\xs.length=aJ.length/\s.heap.get? l=some { cls:=.type "list",data:=.seq aJ.toArray n }:=by
 obtain⟨z,aJ,n,r,e⟩:=I.cN l _ hH;exact⟨z,aJ,n,r,r.length,e⟩
theorem rL{n:Nat}(h:n<=sizeLine):Builtin.List.listTooLong n=false:=by
 unfold Builtin.List.listTooLong;exact aaT (by left)
end
section
variable {X:Cx}
def vD:V->af->Hp->VK->Prop:=λx vs H Q=>∃l xs y,x=.ref l/\vs=[y]/\H l=some (.lst xs)/\xs.length<sizeLine/\Q .bW (upd H l (.lst (xs++[y])))
theorem oO:Pm X "list.append" vD:=by
 intro pins s σ H x vs v us Q I rx rv h;obtain⟨l,xs,y,rfl,rfl,hH,hz,q⟩:=h;cases rx;obtain⟨u,rfl,ru⟩:=rv.one;obtain⟨z,aJ,n,r,hl,e⟩:=I.p7 hH;refine abj F.slot_list_append ⟨_,e,rfl⟩ F.entry_list_append (F.args_list_append_2 _ _) (PySem.list_append l aJ.toArray n u (by rw[List.size_toArray];left)) ⟨e,?_⟩;refine⟨.bW,_,I.iP (its':=aJ++[u]) hH e (by simp) (r.append (.cons ru .nil)) ?_,rfl,q⟩;rw[List.length_append,List.length_singleton];left
def Dq:V->af->Hp->VK->Prop:=λx vs H Q=>∃l b xs zs,x=.ref l/\vs=[.ref b]/\H l=some (.lst xs)/\H b=some (.lst zs)/\xs.length+zs.length<=sizeLine/\Q .bW (upd H l (.lst (xs++zs)))
theorem xK:Pm X "list.extend" Dq:=by
 intro pins s σ H x vs v us Q I rx rv h;obtain⟨l,b,xs,zs,rfl,rfl,hH,hB,hz,q⟩:=h;cases rx;obtain⟨u,rfl,ru⟩:=rv.one;cases ru;obtain⟨z,aJ,n,r,hl,e⟩:=I.p7 hH;obtain⟨z2,lu,n2,r2,uo,e2⟩:=I.p7 hB;have hsz:aJ.toArray.size+lu.toArray.size<=sizeLine:=by rw[List.size_toArray,List.size_toArray];left
 have AU:¬ (!aJ.toArray.isEmpty&&Builtin.List.listTooLong (aJ.toArray.size+lu.toArray.size))=true:=by
  rw[rL hsz,Bool.and_false];exact aad
 refine abj F.slot_list_extend ⟨_,e,rfl⟩ F.entry_list_extend (F.args_list_extend_2 _ _)
  (AutoSeq1.list_extend_list_list_0 l aJ.toArray n b lu.toArray n2 AU (by rw[List.size_toArray];left) (by left)) ⟨e,e2,?_⟩
 refine⟨.bW,_,I.iP (its':=aJ++lu) hH e (by simp) (r.append r2) ?_,rfl,q⟩;rw[List.length_append];left
def Hk:V->af->Hp->VK->Prop:=λx vs H Q=>∃l xs,x=.ref l/\vs=[]/\H l=some (.lst xs)/\Q .bW (upd H l (.lst []))
theorem Ak:Pm X "list.clear" Hk:=by
 intro pins s σ H x vs v us Q I rx rv h;obtain⟨l,xs,rfl,rfl,hH,q⟩:=h;cases rx;have Sy:=rv.zero;subst Sy;obtain⟨z,aJ,n,r,hl,e⟩:=I.p7 hH;refine abj F.slot_list_clear ⟨_,e,rfl⟩ F.entry_list_clear (F.args_list_clear_1 _) (AutoSeq1.list_clear_list_0 l aJ.toArray n (by rw[List.size_toArray];left)) ⟨e,?_⟩;exact⟨.bW,_,I.iP (its':=[]) (ys:=[]) hH e rfl .nil (aaF _),rfl,q⟩
def RB:R2:=λx y H Q=>∃l b xs zs,x=.ref l/\y=.ref b/\H l=some (.lst xs)/\H b=some (.lst zs)/\xs.length+zs.length<=sizeLine/\∀p,H p=none->Q (.ref p) (upd H p (.lst (xs++zs)))
theorem HJ:jr X (binaryOp .Add) RB:=by
 intro pins s σ H x y v u Q I rx ry h;obtain⟨l,b,xs,zs,rfl,rfl,hH,hB,hz,q⟩:=h;cases rx;cases ry;obtain⟨z,aJ,n,r,hl,e⟩:=I.p7 hH;obtain⟨z2,lu,n2,r2,uo,e2⟩:=I.p7 hB;refine PySem.P.add_list e e2 ?_ (by rw[List.size_toArray,List.size_toArray];left);have ea:aJ.toArray++lu.toArray=(aJ++lu).toArray:=by simp
 rw[ea];exact⟨.ref _,_,I.Ib (t':=s.toks) (r.append r2) (by rw[List.length_append];left),rfl,q _ I.fresh⟩
def Rx:R2:=λx y H Q=>∃l k xs,x=.ref l/\y=.int k/\H l=some (.lst xs) /\ -(2 ^ 63)<=k/\k<2 ^ 63/\xs.length*k.toNat<=sizeLine /\
 ∀p,H p=none->Q (.ref p) (upd H p (.lst (List.replicate k.toNat xs).flatten))
theorem len_rep{α:Type}(xs:List α)(k:Nat):(List.replicate k xs).flatten.length=k*xs.length:=by
 induction k with
 |zero=>simp
 |succ k ih=>rw[List.replicate_succ,List.flatten_cons,List.length_append,ih,Nat.succ_mul,Nat.add_comm]
theorem HG:jr X (binaryOp .Mult) Rx:=by
 intro pins s σ H x y v u Q I rx ry h;obtain⟨l,k,xs,rfl,rfl,hH,h1,h2,hz,q⟩:=h;cases rx;obtain⟨t,rfl⟩:=ry;obtain⟨z,aJ,n,r,hl,e⟩:=I.p7 hH;have hlen:aJ.toArray.size*k.toNat<=sizeLine:=by rw[List.size_toArray,<- hl];exact hz
 have jX:¬ aJ.toArray.size*k.toNat>(2 ^ 63 - 1) / 8:=by
  have:(sizeLine:Nat)<=(2 ^ 63 - 1) / 8:=by decide
  left
 have Tu:¬ (!Builtin.List.listFitsIndex k)=true:=by
  rw[fitsIndex_both h1 h2];exact aad
 have AU:¬ Builtin.List.listTooLong (aJ.toArray.size*k.toNat)=true:=by
  rw[rL hlen];exact aad
 have D_:List.foldl (λx1 x2=>x1++x2) #[] (List.replicate (if aJ.toArray.isEmpty=true then 0 else k.toNat) aJ.toArray)=(List.replicate k.toNat aJ).flatten.toArray:=by
  have f0:∀m:Nat,List.foldl (λx1 x2=>x1++x2) #[] (List.replicate m aJ.toArray)=(List.replicate m aJ).flatten.toArray:=λm=>by
   have:=foldl_rep aJ m [];rw[List.nil_append]at this;exact this
  rw[f0];cases aJ with
  |nil=>simp
  |cons a r'=>rw[if_neg (by simp)]
 refine wpAny_binaryOp_repeat_ref (T:="list") (U:="int") (by decide) ⟨_,e,rfl⟩ (λs'=>typeIs_int s' k t) noFill_list_mul F.fills_int_mul F.slot_int_rmul repeat_list F.slot_int_index.lookup
  (abj F.slot_int_rmul (typeIs_int s k t) F.entry_int_rmul (F.args_int_rmul_2 _ _) (int___rmul___int_list k t l aJ.toArray n)
   ⟨e,rfl,⟨_,e,rfl⟩,abj F.slot_list_mul ⟨_,e,rfl⟩ F.entry_list_mul (F.args_list_mul_2 _ _) (AutoListH.list___mul___list_int_3 l aJ.toArray n k t Tu jX AU) ⟨e,?_⟩⟩)
 rw[D_];exact⟨.ref _,_,I.Ib (t':=s.toks) (r.rep k.toNat) (by rw[len_rep,Nat.mul_comm];exact hz),rfl,q _ I.fresh⟩
end
section
variable {prog:aB}{w:World}{A:az}{E:au}{s:Shared}
set_option maxRecDepth 100000 in
end
section
variable {X:Cx}
end
end L2
namespace Att
open PySem PySem.W PySem.Calls PyProof.Rows
variable {h:Heap}
theorem lz{P:Params}:∀(ns:aa) (vs:ak),WellAll P h vs (ns.map WData.int)->IntsAre vs ns:=by
 intro ns;induction ns with
 |nil =>
  intro vs w;rw[List.map_nil]at w;cases w;exact .nil
 |cons n ns ih =>
  intro vs w;rw[List.map_cons]at w;cases w with
  |cons a b =>
   cases a;exact .cons _ _ (ih _ b)
theorem xC{l:OpenLaw}{n:Nat}(hn:l.most=some n){P:Params}{args:List WData}{vals:ak}
  (D9:l.row.toRowW.claim.pre args=true) (Sv:WellAll P h vals args) :
  ∃a vs ns,vals=[Value.ref a]/\args=[WData.list (ns.map WData.int)]/\h.get? a=some { cls:=.type "list",data:=.seq vs.toArray }/\IntsAre vs ns/\ns.length<=n:=by
 have Ya:WShape.hasAll [] args [.list .int]=true:=(pre_splitW D9).1;have hc:l.pre.holds [] { args:=args }=true:=(pre_splitW D9).2;obtain⟨d,r,rfl,h1,h2⟩:=hasAllW_cons Ya;obtain rfl:=hasAllW_nil h2;obtain⟨xs,rfl,h3⟩:=hasW_list h1;obtain⟨ns,rfl⟩:=items_int h3;have hlen:ns.length<=n:=by
  unfold OpenLaw.pre at hc;have h4:(WTm.not (.lt (.lit (.int (n:Int))) (.len (.arg 0)))).holds [] { args:=[.list (ns.map .int)] }=true:=by
   have h4:=(holds_andW hc).1;rw[hn]at h4;exact h4
  have h5:=condW_of h4 (w_not (w_lt w_lit (w_len_list (w_arg rfl))));rw[List.length_map]at h5;refine Nat.le_of_not_lt λq=>?_;have q':(n:Int)<((ns.length:Nat):Int):=by left
  first
   | (rw[decide_eq_true q']at h5;exact absurd h5 (by decide))
   | (simp at h5;left)
 cases Sv with
 |cons w1 w2 =>
  cases w2;cases w1 with
  |list ho A9=>exact⟨_,_,ns,rfl,rfl,ho,lz ns _ A9,hlen⟩
theorem xH(l:OpenLaw)(args:List WData):l.row.toRowW.claim.post args (.bool true) args=true :=
 postW_of (r:=l.row.toRowW) (X:=(true==true))
  (show WShape.has [] (.bool true) .bool=true by first|rfl|decide|simp[WShape.has,WShape.arms,WShape.armsAll])
  (show(WTm.eq .res (.lit (.bool true))).value [] { args:=args,res:=some (.bool true),after:=args }=some (.bool (true==true)) from w_eq_bool (w_res rfl) w_lit) rfl
theorem sS{l:OpenLaw}{n:Nat}{q:aB}{loose:aq}{XP:(aX)->Heap->Prop}{YP:World->Heap->Prop}{d:DefRec}
  (hn:l.most=some n) (NZ:d.params.defaults=[])
  (call:∀(w:World) (s₀ s₁:Shared) (mg mb:aX) (fa:Addr) (o:Obj) (pm cd doc:Value) (a:Addr) (vs:ak) (ns:aa),
   Ground q loose [] XP w s₀ mg mb s₁.heap->YP w s₁.heap ->
   s₁.heap.get? fa=some o->o.data=.func (docDef d.name d.params d.body d.scope pm cd doc)->s₁.heap.CodeRec cd d.name->mg d.name=some (.ref fa) ->
   s₁.heap.get? a=some { cls:=.type "list",data:=.seq vs.toArray }->IntsAre vs ns->ns.length<=n->s₁.gens = #[] ->
   codeAny (model l.prog w) callerA (.call (.ref fa) ⟨[.ref a],[]⟩) (λr s'=>r=.ok (.ret (.bool true))/\OldK s₁.heap s'.heap/\s'.os=s₁.os/\AllBare s'.gens) s₁) :
  WalkO q loose XP YP l.row.toRowW d [] (λf vs=>PySem.call f vs):=by
 intro w s₀ s₁ mg mb G Y fa o pm cd doc dV kV ho hd yd hD hmg hg args vals as D9 Yn ZZ Sv IP;obtain rfl:dV=.none:=Dflts.none hD NZ;obtain rfl:kV=.none:=Dflts.noKw hD;obtain⟨a,vs,ns,rfl,rfl,IJ,hints,hlen⟩:=xC hn D9 Sv;refine enter_call (abx (call w s₀ s₁ mg mb fa o pm cd doc a vs ns G Y ho (fd_plain hd) yd hmg IJ hints hlen hg) λr s' hq=>?_);obtain⟨rfl,h2,h3,h4⟩:=hq;exact⟨.inl ⟨.bool true,.bool true,[],rfl,λ_=>rfl,.bool true,xH l _,λ_=>⟨List.Pairwise.nil,λ_ hm=>(nomatch hm)⟩⟩,h2,h3,h4⟩
section
variable {prog:aB}{w:World}{A:az}{E:au}{s:Shared}{K:Frag}
end
end Att
namespace L2
open PySem PySem.Spec PyProof.Rows
theorem kc:∀{vs:ak} {ns:aa},IntsAre vs ns->Vals (ns.map V.int) vs
 |_,_,.nil=>.nil
 |_,_,.cons n t h=>.cons ⟨t,rfl⟩ (kc h)
def Fq(H:Hp):Prop:=∀b,H b=none\/∃o xs,H b=some (.h_ o (.lst xs))
theorem Ax{P:aB}{w:World}{K:av}{mg mb:aX}{CX:yV}{k:Nat}{fa a:Addr}{fd:FuncData}{x:Str}{sp:Sp}{s₁:Shared}{vs:ak}{ns:aa}
  (KX:K.In s₁.heap) (yN:s₁.heap.Ns mainGlobals mg) (hb:s₁.heap.Ns builtinsNs mb) (YB:∀x:Str,x ≠ "__name__" -> mb x=bootBuiltins x) (Td:s₁.heap.NoLimit) (hg:s₁.gens = #[])
  (ha:s₁.heap.get? a=some { cls:=.type "list",data:=.seq vs.toArray }) (hi:IntsAre vs ns) (hl:ns.length<=sizeLine) (hr:fO k callerA)
  (F:∀base:Heap,K.In base->base.Ns mainGlobals mg->iT P w K mg base CX k fa fd [x] sp) (N3:∀(s:Shared) (u:Value),BindsTo s fd ⟨[u],[]⟩ [(x,u)])
  (Cb:∀H:Hp,Fq H->dh K H a (ns.map V.int)->sp [.ref a] H (λv _=>v=.bl true) λ_ _ _=>False)
  (TX:∀H e s',CX [] H s₁ (λ_ _ _=>False) e s'->False) :
  codeAny (model P w) callerA (.call (.ref fa) ⟨[.ref a],[]⟩) (λr s'=>r=.ok (.ret (.bool true))/\OldK s₁.heap s'.heap/\s'.os=s₁.os/\AllBare s'.gens) s₁:=by
 have rv:=kc hi;have RX:=hi.length;have core:∀H:Hp,Fq H->dh K H a (ns.map V.int)->kP P w H s₁.heap->(∀b,H b≠none->b=a)->(H a≠none->K.lookup a=none) ->
   codeAny (model P w) callerA (.call (.ref fa) ⟨[.ref a],[]⟩) (λr s'=>r=.ok (.ret (.bool true))/\OldK s₁.heap s'.heap/\s'.os=s₁.os/\AllBare s'.gens) s₁:=by
  intro H hO hS cN hA hK;have w8:∀{b:Addr} {o:Obj},s₁.heap.get? b=some o->H b=none->(qc s₁.heap H).get? b=some o:=λe n=>AY e n;have M5:∀{b:Addr} {o:Obj} {es:Array DictEntry} {ep:Nat},s₁.heap.get? b=some o->o.data=.dict es ep->H b=none:=λ{b o es ep} e d=>by
   cases q:H b with
   |none=>rfl
   |some u =>
    have e':b=a:=hA b (by rw[q];simp);subst e';rw[ha]at e;cases e;have d':Data.seq vs.toArray _=Data.dict es ep:=d;cases d'
  have P4:∀{b:Addr} {m:aX},s₁.heap.Ns b m->(qc s₁.heap H).Ns b m:=λ{b m} ⟨o,es,ep,e,d,r⟩=>⟨o,es,ep,w8 e (M5 e d),d,r⟩
  have We:K.In (qc s₁.heap H):=λb o e=>w8 (KX b o e) (by
   cases q:H b with
   |none=>rfl
   |some u =>
    have e':b=a:=hA b (by rw[q];simp);subst e';rw[hK (by rw[q];simp)]at e;cases e)
  have hM:Mod K mg (qc s₁.heap H):=⟨We,P4 yN,⟨mb,P4 hb,YB⟩,let ⟨mc,h1,h2⟩:=Td;⟨mc,P4 h1,h2⟩⟩
  have e0:Fw P w K mg (qc s₁.heap H) callerA [] s₁ H:=⟨rfl,hM,λb o e=>DQ e,Nat.le_of_eq (yb _ _),trivial,λb hb=>absurd (show b∈([]:aR) from hb) (by simp),cN,.of_eq hg⟩
  refine abx ((F _ We (P4 yN)).run callerA [] s₁ H ⟨[.ref a],[]⟩ [.ref a] [.ref a] _ _ hr e0 (N3 s₁ (.ref a)) (.cons rfl .nil) (Cb H hO hS)) λr s' h=>?_;cases r with
  |error e=>exact(TX H e s' h).elim
  |ok fl =>
   cases fl with
   |next=>exact False.elim h
   |brk=>exact False.elim h
   |cont=>exact False.elim h
   |ret u =>
    obtain⟨v,H',os,bare,un,SW,r',q⟩:=h;have q':v=.bl true:=q;subst q';obtain rfl:u=Value.bool true:=r';refine⟨rfl,OldK.of_keep λb o e=>?_,os,bare⟩;cases q:H b with
    |none=>exact un.keep b o e q (by intro z;exact absurd (show b∈([]:aR) from z) (by simp)) (by simp)
    |some u =>
     rcases hO b with z|⟨ob,xs,z⟩
     ·rw[q]at z;cases z
     ·have z2:=un.oi b ob _ z;obtain⟨e1,_⟩:=cN b _ z;obtain⟨e2,_⟩:=SW b _ z2;rw[e]at e1;cases e1;exact e2
 cases hk:K.lookup a with
 |some o =>
  have e:=KX a o hk;rw[ha]at e;cases e;refine core (λ_=>none) (λ_=>.inl rfl) (.inr ⟨_,vs.toArray,_,hk,rfl,rfl,rfl,by rw[List.size_toArray,RX];exact hl,by simpa using rv⟩) (λb u z=>by have z':(none:Option HO)=some u:=z;cases z') (λb z=>absurd rfl z) λz=>absurd rfl z
 |none =>
  refine core (λb=>if b=a then some (.h_ { cls:=.type "list",data:=.seq vs.toArray } (.lst (ns.map V.int)))else none) (λb=>?_) (.inl (.inr ⟨{ cls:=.type "list",data:=.seq vs.toArray },aaN rfl⟩)) (λb u z=>?_) (λb z=>?_) λ_=>hk
  ·by_cases hb:b=a
   ·exact .inr ⟨_,_,aaN hb⟩
   ·exact .inl (ack hb)
  ·by_cases hb:b=a
   ·have z':=(aaN hb).symm.trans z;cases z';subst hb;exact⟨ha,by rw[List.length_map];exact hl,vs,_,rv,ha⟩
   ·have z':=(ack hb).symm.trans z;cases z'
  ·by_cases hb:b=a
   ·exact hb
   ·exact absurd (ack hb) z
end L2
namespace L2
open PySem PySem.Spec PyProof.Rows
theorem Cw{l:PySem.W.OpenLaw}{n k:Nat}{q:aB}{loose:aq}{XP:(aX)->Heap->Prop}{YP:World->Heap->Prop}{d:DefRec}{K:Params->av}{CX:World->yV}{sp:World->Sp}{x:Str}
  (hn:l.most=some n) (K_:n<=sizeLine) (NZ:d.params.defaults=[]) (hr:fO k callerA)
  (hY:∀(w:World) (h:Heap),YP w h->(K w.params).In h)
  (F:∀(w:World) (mg:aX) (fa:Addr) (h:Heap),(K w.params).In h->h.Ns mainGlobals mg->mg d.name=some (.ref fa) ->
   ∃fd:FuncData,(∀(s:Shared) (u:Value),BindsTo s fd ⟨[u],[]⟩ [(x,u)]) /\
    ∀base:Heap,(K w.params).In base->base.Ns mainGlobals mg->iT l.prog w (K w.params) mg base (CX w) k fa fd [x] (sp w))
  (Cb:∀(w:World) (H:Hp) (a:Addr) (ns:aa),ns.length<=n->Fq H->dh (K w.params) H a (ns.map V.int)->sp w [.ref a] H (λv _=>v=.bl true) λ_ _ _=>False)
  (TX:∀(w:World) (H:Hp) (s:Shared) (e:Value) (s':Shared),CX w [] H s (λ_ _ _=>False) e s'->False) :
  PySem.W.WalkO q loose XP YP l.row.toRowW d [] (λf vs=>PySem.call f vs):=by
 refine Att.sS hn NZ λw s₀ s₁ mg mb fa o pm cd doc a vs ns G Y ho hd yd hmg IJ hints hlen hg=>?_;have KX:=hY w _ Y;obtain⟨fd,hb,hF⟩:=F w mg fa _ KX G.T.g hmg;exact Ax KX G.T.g G.T.b G.T.builtins G.T.nolimit hg IJ hints (aaz hlen K_) hr hF hb (λH hO hS=>Cb w H a ns hlen hO hS) λH e s'=>TX w H s₁ e s'
end L2
namespace L2
open PySem PySem.Spec PyProof.Rows
noncomputable def fH(s:Stmt):Arguments:=match s with
 |.FunctionDef _ a _ _ _ _ _ _ _ _=>a
 |_=>{ posonlyargs:=[],args:=[],vararg:=none,kwonlyargs:=[],kw_defaults:=[],kwarg:=none,defaults:=[] }
noncomputable def df(s:Stmt):bt:=match s with
 |.FunctionDef _ _ b _ _ _ _ _ _ _=>b
 |_=>[]
noncomputable def bG(s:Stmt):Scope:=match s with
 |.FunctionDef _ _ _ _ _ _ sc _ _ _=>sc
 |_=>{ kind:=.function,names:=[],isGenerator:=false,isCoroutine:=false }
noncomputable abbrev yW:yV:=λ_ _ _ _ _ _=>False
noncomputable abbrev E0:XK:=λ_ _ _=>False
theorem MT{X:Cx}:Passes yW X E0:=λ_ _ _ _ _ _ _ h=>h.elim
structure Fv(K:av)(x qual:Str)(st:Stmt)(f:Addr)(fd:FuncData):Prop where
 ex:∃(oc:Value) (od:Option Addr) (kV doc pm:Value) (an:Option Addr) (i4 ct:Value) (B_:Array (Option Value)),
  fd=PySem.W.fnOf x qual (fH st) (df st) (bG st) .none kV doc pm an i4 ct/\K.lookup f=some ⟨oc,od,.func fd,B_⟩/\PySem.W.codeIn K i4 qual=true
 kp:PySem.W.keepIn K (.ref f)=true
variable {f:Addr}{ps:aq}{qual:Str}{st:Stmt}
section
variable {P:aB}{w:World}{K:av}{mg:aX}{base:Heap}
theorem Fv.ok{x:Str}{fd:FuncData}{N:aq}{k:Nat}{sp:Sp}(F:Fv K x qual st f fd)(S:iM N ps (bG st))(len:∀vs H Q E,sp vs H Q E->vs.length=ps.length)
  (A2:∀(i4:Value) (A:az) (outer:List Env) (s:Shared) (H:Hp) (vs:af) (Q:VK) (E:XK),fO k (A.deeper (envOfC qual (bG st) s.heap.objs.size f i4))->sp vs H Q E ->
   ∃t,me (uG yW P w K mg base N qual (bG st) f i4 A outer s H E).M1 (df st) t/\t { nx:=λ_ H'=>Q .bW H',rt:=Q } (start N vs) H):iT P w K mg base yW (k+1) f fd ps sp:=by
 obtain⟨oc,od,kV,doc,pm,an,i4,ct,B_,rfl,lk,yd⟩:=F.ex;refine Oo lk yd S len λA outer s H vs Q E hr Cb=>?_;obtain⟨t,h,q⟩:=A2 i4 A outer s H vs Q E hr Cb;exact⟨t,h.M1,q⟩
theorem Fv.binds{x:Str}{fd:FuncData}(F:Fv K x qual st f fd)
  (h:∀(kV doc pm:Value) (an:Option Addr) (i4 ct:Value) (us:ak),us.length=ps.length->bindArgs (PySem.W.fnOf x qual (fH st) (df st) (bG st) .none kV doc pm an i4 ct) ⟨us,[]⟩=pure (ps.zip us)):Binds K fd ps []:=by
 obtain⟨oc,od,kV,doc,pm,an,i4,ct,B_,rfl,lk,yd⟩:=F.ex;exact .all (h kV doc pm an i4 ct)
theorem Ji{x:Str}{oc:Value}{od an:Option Addr}{B_:Array (Option Value)}{kV doc pm i4 ct:Value}(l:K.lookup f=some ⟨oc,od,.func (PySem.W.fnOf x qual (fH st) (df st) (bG st) .none kV doc pm an i4 ct),B_⟩)
  (c:PySem.W.codeIn K i4 qual=true) (k:PySem.W.keepIn K (.ref f)=true):Fv K x qual st f (PySem.W.fnOf x qual (fH st) (df st) (bG st) .none kV doc pm an i4 ct):=⟨⟨oc,od,kV,doc,pm,an,i4,ct,B_,rfl,l,c⟩,k⟩
end
theorem F5{A:az}{k:Nat}(hr:fO k A):A.units+1<cLine:=aaG (ab6 (by decide:1<=64) _) hr.units
section
variable {X:Cx}
end
def aI(H H':Hp):Prop:=∀b o,H b=some o->H' b=some o
theorem aI.refl(H:Hp):aI H H:=λ_ _ h=>h
theorem aI.trans{H H1 H2:Hp}(a:aI H H1)(b:aI H1 H2):aI H H2:=λc o h=>b c o (a c o h)
variable {H':Hp}
theorem aI.free{H:Hp}(e:aI H H'){l:Addr}(h:H' l=Option.none):H l=Option.none:=by
 cases q:H l with
 |none=>rfl
 |some o =>
  rw[e l o q]at h;cases h
theorem aI.seq{K:av}{H:Hp}{a:Addr}{xs:af}(e:aI H H')(h:dh K H a xs):dh K H' a xs:=by
 rcases h with (h|⟨o,h⟩)|h
 ·exact .inl (.inl (e _ _ h))
 ·exact .inl (.inr ⟨o,e _ _ h⟩)
 ·exact .inr h
end L2
set_option autoImplicit false
set_option linter.all false
set_option Elab.async false
set_option maxRecDepth 100000
set_option maxHeartbeats 4000000
section
namespace DI
open PySem (Str Expr Stmt Scope NameKind)
inductive Fl where|ow|fz|al|sc
 deriving DecidableEq
inductive D where
 |bW|bl (b:Bool)|int (i:Int)
 |tup (ds:List D)
 |lst (f:Fl) (ds:List D)
 |bS (f:Fl) (ks:aw) (vs:List D)
abbrev aE:=Option D
abbrev ae:=List D
mutual
noncomputable def aY(g:Fl->Fl):D->D
 |.tup ds=>.tup (aC g ds)
 |.lst f ds=>.lst (g f) (aC g ds)
 |.bS f ks vs=>.bS (g f) ks (aC g vs)
 |.bW=>.bW
 |.bl b=>.bl b
 |.int i=>.int i
noncomputable def aC(g:Fl->Fl):ae->ae
 |[]=>[]
 |d::ds=>aY g d::aC g ds
end
theorem bg(g:Fl->Fl):∀ds:ae,aC g ds=ds.map (aY g)
 |[]=>rfl
 |d::ds=>by rw[aC,bg g ds];rfl
noncomputable def bo:Fl->Fl|.ow=>.al|f=>f
noncomputable def gv:Fl->Fl|.fz=>.al|f=>f
noncomputable def bp:Fl->Fl|.sc=>.sc|_=>.fz
noncomputable def uf:Fl->Bool|.sc=>true|_=>false
mutual
noncomputable def aT(p:Fl->Bool):D->Bool
 |.tup ds=>aQ p ds
 |.lst f ds=>p f||aQ p ds
 |.bS f ks vs=>p f||aQ p vs
 |_=>false
noncomputable def aQ(p:Fl->Bool):ae->Bool
 |[]=>false
 |d::ds=>aT p d||aQ p ds
end
noncomputable def bL:Fl->Bool|.al=>true|_=>false
noncomputable def bR:Fl->Bool|.ow=>true|_=>false
noncomputable def anyF:Fl->Bool:=λ_=>true
mutual
noncomputable def kD:D->D->Bool
 |.bW,.bW=>true
 |.bl a,.bl b=>a==b
 |.bl a,.int b=>(if a then 1 else 0)==b
 |.int a,.bl b=>a==(if b then 1 else 0)
 |.int a,.int b=>a==b
 |.tup a,.tup b=>dD a b
 |.lst _ a,.lst _ b=>dD a b
 |_,_=>false
noncomputable def dD:ae->ae->Bool
 |[],[]=>true
 |a::as,b::bs=>kD a b&&dD as bs
 |_,_=>false
end
noncomputable def di:Nat->D->Bool
 |_,.bW=>true
 |_,.bl _=>true
 |_,.int _=>true
 |n+1,.tup ds=>ds.all (di n)
 |n+1,.lst _ ds=>ds.all (di n)
 |_,_=>false
noncomputable abbrev O(α:Type):=Option (Except Nat α)
abbrev aG:=ae->O D
noncomputable def ok{α:Type}(a:α):O α:=some (.ok a)
noncomputable def bd{α β:Type}(x:O α)(f:α->O β):O β:=match x with
 |some (.ok a)=>f a
 |some (.error c)=>some (.error c)
 |none=>none
@[simp]theorem P6{α:Type}{a:α}:((none:O α)=ok a)=False:=by simp[ok]
@[simp]theorem RN{α:Type}{a b:α}:(ok a=ok b)=(a=b):=by simp[ok]
@[simp]theorem Uv{α:Type}{a:α}{c:Nat}:((some (.error c):O α)=ok a)=False:=by simp[ok]
@[simp]theorem F2{α:Type}{p:Prop}[Decidable p]{a b:α}:((if p then ok a else none)=ok b)=(p/\a=b):=by
 by_cases h:p<;>simp[h]
@[simp]theorem Sl{α:Type}{p:Prop}[Decidable p]{a b:α}:((if p then none else ok a)=ok b)=(¬ p/\a=b):=by
 by_cases h:p<;>simp[h]
theorem nk{α:Type}{a:α}{P:Prop}(h:(none:Option α)=some a):P:=nomatch h
theorem aH{α β:Type}{x:O α}{f:α->O β}{b:β}(h:bd x f=ok b):∃a,x=ok a/\f a=ok b:=by
 unfold bd at h
 match x,h with
 |some (.ok a),h=>exact⟨a,rfl,h⟩
 |some (.error c),h=>cases h
 |none,h=>cases h
inductive Fx where|add|sub|mul|fdiv|mod|pow|shl
 deriving DecidableEq
inductive yX where|eq|ne|lt|le|gt|ge
 deriving DecidableEq
inductive Ty where|int|bool|list|tuple
 deriving DecidableEq
inductive Bf where|len|abs|list1|tuple1|jc|all1|gn
 deriving DecidableEq
inductive Tg where|nm(i:Nat)|tp(is:aO)
 deriving DecidableEq
inductive IK where|lM|seq|cF(p:Nat)
 deriving DecidableEq
inductive GK where|i(z:Int)|t(zs:aa)
 deriving DecidableEq
inductive CE where
 |bW|bl (b:Bool)|int (i:Int)|glo (x:Str) (i:Int)|glt (x:Str) (zs:aa)
 |v (i:Nat)
 |bin (op:Fx) (a b:CE)
 |neg (a:CE)|not (a:CE)|and (es:List CE)|or (es:List CE)
 |cmp (op:yX) (a b:CE)
 |jV (a:CE) (t:Ty)
 |call (f:Nat) (es:List CE)
 |bf (f:Bf) (es:List CE)
 |ix (a b:CE)
 |iP (a:CE)
 |tup (es:List CE)|lst (es:List CE)
 |cF (p:Nat) (es:List CE)
 |comp (n:Nat) (t:Tg) (caps:aO) (ik:IK) (es bI:List CE) (elt:CE)
abbrev aF:=List CE
inductive CI where|lM(a:CE)|seq(a:CE)|Hv(p:Nat)(es:aF)
inductive CS where
 |asg (t:Tg) (e:CE)|par (i j:Nat) (a b:CE)|ret (e:CE)|rs (c:Nat)|ex (e:CE)
 |mut (p i:Nat) (es:aF)|mu2 (p i:Nat) (k e:CE)|app (i:Nat) (e:CE)|aug (i:Nat) (op:Bool) (e:CE)
 |ifs (c:CE) (a b:List CS)
 |GG (c:CE) (b:List CS)
 |fr (t:Tg) (it:CI) (b:List CS)
abbrev aj:=List CS
noncomputable abbrev bh:=List (aE)
noncomputable abbrev a_:=Nat->aG
noncomputable def big:Nat:=2 ^ 9000
def eY(i j:Int):Bool:=decide (i.natAbs<2 ^ 64)||decide (j.natAbs<2 ^ 64)||(decide (i.natAbs<big)&&decide (j.natAbs<big))
def o5(j:Int):Bool:=decide (j≠0)&&decide (j.natAbs<big)
noncomputable def jO(i j:Int):Bool:=decide (0<=j)&&decide (j<=1000000)&&decide (i.natAbs<2 ^ 64)
noncomputable def ck:Nat:=1000000
theorem n9{α:Type}{c:Prop}[inst:Decidable c]{v d:α}(h:(if c then ok v else none)=ok d):c/\v=d:=by
 cases inst with
 |isTrue hc=>exact⟨hc,Except.ok.inj (aap h)⟩
 |isFalse hc=>cases h
def cD:Fx->D->D->O D
 |.add,.int i,.int j=>ok (.int (i+j))
 |.add,.lst f a,.lst g b=>if uf f=false/\uf g=false/\a.length+b.length<=ck then ok (.lst .ow (aC bo (a++b)))else none
 |.add,.tup a,.tup b=>if a.length+b.length<=ck then ok (.tup (aC bo (a++b)))else none
 |.sub,.int i,.int j=>ok (.int (i - j))
 |.mul,.int i,.int j=>if eY i j then ok (.int (i*j))else none
 |.mul,.lst f a,.int k=>if uf f=false/\a.length*k.toNat<=ck/\k<=ck /\ -ck<=k then ok (.lst .ow (aC bo (List.replicate k.toNat a).flatten))else none
 |.fdiv,.int i,.int j=>if o5 j then ok (.int (i.fdiv j))else none
 |.mod,.int i,.int j=>if j≠0 then ok (.int (i.fmod j))else none
 |.pow,.int i,.int j=>if jO i j then ok (.int (i ^ j.toNat))else none
 |.shl,.int i,.int j=>if jO i j then ok (.int (i*2 ^ j.toNat))else none
 |_,_,_=>none
def gO:yX->D->D->O D
 |.eq,a,b=>if di 40 a&&di 40 b then ok (.bl (kD a b))else none
 |.ne,a,b=>if di 40 a&&di 40 b then ok (.bl (!kD a b))else none
 |.lt,.int i,.int j=>ok (.bl (decide (i<j)))
 |.le,.int i,.int j=>ok (.bl (decide (i<=j)))
 |.gt,.int i,.int j=>ok (.bl (decide (j<i)))
 |.ge,.int i,.int j=>ok (.bl (decide (j<=i)))
 |_,_,_=>none
noncomputable def cP:Ty->D->Bool
 |.int,.int _=>true|.int,.bl _=>true
 |.bool,.bl _=>true
 |.list,.lst _ _=>true
 |.tuple,.tup _=>true
 |_,_=>false
noncomputable def xU(n:Nat)(i:Int):Option Nat:=if 0<=i then(if i<n then some i.toNat else none)else if -(n:Int)<=i then some (i+n).toNat else none
def tx(ds:ae)(i:Int):O D:=match(xU ds.length i).bind λj=>ds[j]? with
 |some d=>ok (aY bo d)
 |none=>none
def v5:D->D->O D
 |.tup ds,.int i=>tx ds i
 |.lst _ ds,.int i=>tx ds i
 |_,_=>none
noncomputable def intsOf:ae->Option (aa)
 |[]=>some []
 |.int i::ds=>(intsOf ds).map (i :: ·)
 |_::_=>none
noncomputable def il:ae->Option (List Bool)
 |[]=>some []
 |.bl i::ds=>(il ds).map (i :: ·)
 |_::_=>none
theorem dt:∀{ds:ae} {ns:aa},intsOf ds=some ns->ds=ns.map D.int
 |[],ns,h=>by simp[intsOf]at h;subst h;rfl
 |d::ds,ns,h=>by
  cases d<;>simp[intsOf]at h;obtain⟨ms,h1,rfl⟩:=h;rw[dt h1];rfl
theorem sR:∀{ds:ae} {bs:List Bool},il ds=some bs->ds=bs.map D.bl
 |[],bs,h=>by simp[il]at h;subst h;rfl
 |d::ds,bs,h=>by
  cases d<;>simp[il]at h;obtain⟨ms,h1,rfl⟩:=h;rw[sR h1];rfl
theorem bM:∀ns:aa,intsOf (ns.map D.int)=some ns
 |[]=>rfl
 |n::ns=>by simp[intsOf,bM ns]
theorem kM:∀bs:List Bool,il (bs.map D.bl)=some bs
 |[]=>rfl
 |b::bs=>by simp[il,kM bs]
noncomputable def sortI(ns:aa):aa:=ns.mergeSort (λa b=>decide (a<=b))
def oF(ds:ae):O D:=match intsOf ds with
 |some ns=>if ns.length<64 then ok (.lst .ow ((sortI ns).map D.int))else none
 |none=>none
def qC:Bf->aG
 |.len,xs=>match xs with
  |[.tup ds]=>ok (.int ds.length)
  |[.lst _ ds]=>ok (.int ds.length)
  |_=>none
 |.abs,xs=>match xs with
  |[.int i]=>ok (.int (if i<0 then -i else i))
  |_=>none
 |.list1,xs=>match xs with
  |[.lst _ ds]=>ok (.lst .ow (aC bo ds))
  |[.tup ds]=>ok (.lst .ow (aC bo ds))
  |_=>none
 |.tuple1,xs=>match xs with
  |[.lst _ ds]=>ok (.tup (aC bo ds))
  |[.tup ds]=>ok (.tup (aC bo ds))
  |_=>none
 |.jc,xs=>match xs with
  |[.lst _ ds]=>(match intsOf ds with
   |some ns=>ok (.int ns.sum)
   |none=>none)
  |_=>none
 |.all1,xs=>match xs with
  |[.lst _ ds]=>(match il ds with
   |some bs=>ok (.bl (bs.all id))
   |none=>none)
  |_=>none
 |.gn,xs=>match xs with
  |[.lst _ ds]=>oF ds
  |[.tup ds]=>oF ds
  |_=>none
noncomputable def qm(ns:aa):aa:=ns.foldl (λ(m:aa) (k:Int)=>if m.any (· == k)then m else m++[k]) []
def vR:D->O D
 |.tup ds=>(match intsOf ds with
  |some ns=>if ns.length<4000 then ok (.int (qm ns).length)else none
  |none=>none)
 |_=>none
noncomputable def gL:D->O Bool
 |.bl b=>ok b
 |_=>none
noncomputable def intD:D->O Int
 |.int i=>ok i
 |_=>none
noncomputable def z9:Option (aE)->Option (ae)
 |some (some (.lst .ow ds))=>some ds
 |_=>none
theorem DE{o:Option (aE)}{ds:ae}(h:z9 o=some ds):o=some (some (.lst .ow ds)):=by
 unfold z9 at h;split at h<;>cases h;rfl
theorem D5{d:D}{i:Int}(h:intD d=ok i):d=.int i:=by
 cases d<;>simp[intD]at h;rw[h]
noncomputable def DT:D->O D
 |.int i=>ok (.int (-i))
 |_=>none
def gI:aO->ae->bh->O bh
 |[],[],ρ=>ok ρ
 |i::is,d::ds,ρ=>if i<ρ.length then gI is ds (ρ.set i (some d))else none
 |_,_,_=>none
def bV:Tg->D->bh->O bh
 |.nm i,d,ρ=>if i<ρ.length then ok (ρ.set i (some d))else none
 |.tp is,.tup ds,ρ=>if aQ bR ds then none else gI is ds ρ
 |_,_,_=>none
def rg:D->O (ae)
 |.lst _ ds=>ok (aC bp ds)
 |_=>none
def eF(Φ:a_):IK->ae->O (ae)
 |.cF p,xs=>bd (Φ p xs) rg
 |.lM,[.int n]=>if n<=ck /\ -ck<=n then ok ((List.range n.toNat).map λ(k:Nat)=>D.int (k:Int))else none
 |.seq,[.tup ds]=>ok (aC bp ds)
 |.seq,[.lst _ ds]=>ok (aC bp ds)
 |_,_=>none
def gc(bind:D->O bh)(test:bh->O Bool)(el:bh->O D):ae->O (ae)
 |[]=>ok []
 |x::xs=>bd (bind x) λρ=>bd (test ρ) λb=>if b then bd (el ρ) λy=>bd (gc bind test el xs) λys=>ok (y::ys)else gc bind test el xs
def bC(n:Nat)(caps:aO)(ρ:bh):bh:=List.replicate n none++caps.map λi=>(ρ[i]?.getD none).map (aY bp)
def vt(o:Option (aE)):O D:=match o with
 |some (some d)=>ok (aY bo d)
 |_=>none
theorem zr{o:Option (aE)}{d:D}(h:vt o=ok d):∃d',o=some (some d')/\d=aY bo d':=by
 cases o with
 |none=>cases h
 |some z=>cases z with
  |none=>cases h
  |some z=>cases h;exact⟨z,rfl,rfl⟩
mutual
noncomputable def bx(Φ:a_):CE->bh->O D
 |.bW,_=>ok .bW
 |.bl b,_=>ok (.bl b)
 |.int i,_=>ok (.int i)
 |.glo _ i,_=>ok (.int i)
 |.glt _ zs,_=>ok (.tup (zs.map D.int))
 |.v i,ρ=>vt ρ[i]?
 |.bin op a b,ρ=>bd (bx Φ a ρ) λx=>bd (bx Φ b ρ) λy=>cD op x y
 |.neg a,ρ=>bd (bx Φ a ρ) DT
 |.not a,ρ=>bd (bd (bx Φ a ρ) gL) λb=>ok (.bl (!b))
 |.and es,ρ=>o3 Φ es ρ
 |.or es,ρ=>yp Φ es ρ
 |.cmp op a b,ρ=>bd (bx Φ a ρ) λx=>bd (bx Φ b ρ) λy=>gO op x y
 |.jV a t,ρ=>bd (bx Φ a ρ) λx=>ok (.bl (cP t x))
 |.call f es,ρ=>bd (cz Φ es ρ) λxs=>bd (Φ f (aC bp xs)) λr=>ok (aY gv r)
 |.bf f es,ρ=>bd (cz Φ es ρ) λxs=>qC f xs
 |.ix a b,ρ=>bd (bx Φ a ρ) λx=>bd (bx Φ b ρ) λy=>v5 x y
 |.iP a,ρ=>bd (bx Φ a ρ) λx=>vR x
 |.cF p es,ρ=>bd (cz Φ es ρ) λxs=>Φ p xs
 |.tup es,ρ=>bd (cz Φ es ρ) λxs=>ok (.tup xs)
 |.lst es,ρ=>bd (cz Φ es ρ) λxs=>ok (.lst .ow xs)
 |.comp n t caps ik es bI elt,ρ=>bd (cz Φ es ρ) λxs=>bd (eF Φ ik xs) λitems =>
   bd (gc (λd=>bV t d (bC n caps ρ)) (λρ'=>gJ Φ bI ρ') (λρ'=>bx Φ elt ρ') items) λds=>if ds.length<=ck then ok (.lst .ow (aC gv ds))else none
noncomputable def cz(Φ:a_):aF->bh->O (ae)
 |[],_=>ok []
 |e::es,ρ=>bd (bx Φ e ρ) λx=>bd (cz Φ es ρ) λxs=>ok (x::xs)
noncomputable def gJ(Φ:a_):aF->bh->O Bool
 |[],_=>ok true
 |e::es,ρ=>bd (bd (bx Φ e ρ) gL) λb=>if b then gJ Φ es ρ else ok false
noncomputable def o3(Φ:a_):aF->bh->O D
 |[],_=>none
 |e::es,ρ=>bd (bd (bx Φ e ρ) gL) λc=>match es with
  |[]=>ok (.bl c)
  |_::_=>if c then o3 Φ es ρ else ok (.bl false)
noncomputable def yp(Φ:a_):aF->bh->O D
 |[],_=>none
 |e::es,ρ=>bd (bd (bx Φ e ρ) gL) λc=>match es with
  |[]=>ok (.bl c)
  |_::_=>if c then ok (.bl true)else yp Φ es ρ
end
def yo(Φ:a_)(e:CE)(ρ:bh):O Bool:=bd (bx Φ e ρ) gL
inductive Fo where|nx|rt(d:D)|bk|ct
noncomputable def cK{α β:Type}(n:Nat)(step:α->O (α ⊕ β))(a:α):O β:=match n with
 |0=>none
 |n+1=>bd (step a) λr=>match r with
  |.inl a'=>cK n step a'
  |.inr b=>ok b
open Classical in
noncomputable def eW{α β:Type}(step:α->O (α ⊕ β))(a:α):O β :=
 if h:∃n,cK n step a≠none then cK (Classical.choose h) step a else none
theorem hJ{α β:Type}(step:α->O (α ⊕ β)):∀(n m:Nat) (a:α),n<=m->cK n step a≠none->cK m step a=cK n step a
 |0,_,_,_,h=>absurd rfl h
 |n+1,0,_,hl,_=>by left
 |n+1,m+1,a,hl,h=>by
  unfold cK at h ⊢
  match hs:step a with
  |none=>rw[hs]at h;exact absurd rfl h
  |some (.error c)=>rfl
  |some (.ok (.inr b))=>rfl
  |some (.ok (.inl a')) =>
   rw[hs]at h;exact hJ step n m a' (by left) h
theorem kb{α β:Type}{step:α->O (α ⊕ β)}{a:α}{n:Nat}{r:Except Nat β}(h:cK n step a=some r):eW step a=some r:=by
 have hx:∃n,cK n step a≠none:=⟨n,by rw[h];simp⟩
 unfold eW;rw[dif_pos hx];have hc:=Classical.choose_spec hx;rcases Nat.le_total n (Classical.choose hx)with hl|hl
 ·rw[hJ step _ _ a hl (by rw[h];simp),h]
 ·rw[<- hJ step _ _ a hl hc,h]
theorem kv{α β:Type}{step:α->O (α ⊕ β)}{a:α}{r:Except Nat β}(h:eW step a=some r):∃n,cK n step a=some r:=by
 unfold eW at h;split at h
 ·exact⟨_,h⟩
 ·cases h
theorem mn{α β:Type}{step:α->O (α ⊕ β)}{a a':α}(h:step a=ok (.inl a')):eW step a=eW step a':=by
 match hr:eW step a' with
 |some r =>
  obtain⟨n,hn⟩:=kv hr;refine kb (n:=n+1) ?_;unfold cK;rw[h];exact hn
 |none =>
  match hq:eW step a with
  |none=>rfl
  |some r =>
   obtain⟨n,hn⟩:=kv hq
   match n,hn with
   |n+1,hn =>
    unfold cK at hn;rw[h]at hn;rw[kb (n:=n) hn]at hr;cases hr
theorem gk{α β:Type}{step:α->O (α ⊕ β)}{a:α}{b:β}(h:step a=ok (.inr b)):eW step a=ok b :=
 kb (n:=1) (by unfold cK;rw[h];rfl)
mutual
noncomputable def gQ:CE->aO
 |.v i=>[i]
 |.bin _ a b=>gQ a++gQ b
 |.neg a=>gQ a
 |.not a=>gQ a
 |.and es=>dw es
 |.or es=>dw es
 |.cmp _ a b=>gQ a++gQ b
 |.jV a _=>gQ a
 |.call _ es=>dw es
 |.bf _ es=>dw es
 |.ix a b=>gQ a++gQ b
 |.iP a=>gQ a
 |.tup es=>dw es
 |.lst es=>dw es
 |.cF _ es=>dw es
 |.comp _ _ caps _ es _ _=>caps++dw es
 |_=>[]
noncomputable def dw:aF->aO
 |[]=>[]
 |e::es=>gQ e++dw es
end
def h_(is:aO)(ρ:bh):bh:=ρ.mapIdx λi d=>if i∈is then d.map (aY bp)else d
def keep(e:CE)(d:D)(ρ:bh):D×bh:=if aT bL d then(aY bp d,h_ (gQ e) ρ)else(d,ρ)
def ji(Φ:a_)(e:CE)(ρ:bh):O (D×bh):=match e with
 |.v i=>match ρ[i]? with
  |some (some d)=>if aT bR d then ok (d,ρ.set i none)else ok (d,ρ)
  |_=>none
 |_=>bd (bx Φ e ρ) λd=>ok (keep e d ρ)
def bO(Φ:a_)(it:CI)(ρ:bh):O (ae×bh):=match it with
 |.Hv p es=>bd (cz Φ es ρ) λxs=>bd (Φ p xs) λd=>bd (rg d) λitems=>ok (items,if aQ bL xs then h_ (dw es) ρ else ρ)
 |.lM a=>bd (bx Φ a ρ) λx=>match x with
  |.int n=>if n<=ck /\ -ck<=n then ok ((List.range n.toNat).map λ(k:Nat)=>D.int (k:Int),ρ)else none
  |_=>none
 |.seq a=>bd (bx Φ a ρ) λx=>match x with
  |.tup ds=>ok (aC bp ds,if aT bL x then h_ (gQ a) ρ else ρ)
  |.lst f ds=>ok (aC bp ds,if aT bL x then h_ (gQ a) ρ else ρ)
  |_=>none
def jS(es:aF)(xs:ae)(ρ:bh):ae×bh:=if aQ bL xs then(aC bp xs,h_ (dw es) ρ)else(xs,ρ)
noncomputable def pT(Φ:a_)(p i:Nat)(r:ae×bh):O (Fo×bh):=match r.2[i]? with
 |some (some d)=>bd (Φ p (d::r.1)) λd'=>ok (.nx,r.2.set i (some d'))
 |_=>none
def Aj(Φ:a_)(p i:Nat)(ρ:bh)(kd d:D):O (Fo×bh):=match ρ[i]? with
 |some (some x)=>if aT anyF kd=false/\aT anyF d=false then bd (Φ p [x,kd,d]) λd'=>ok (.nx,ρ.set i (some d'))else none
 |_=>none
def cR(bind:D->bh->O bh)(body:bh->O (Fo×bh)):ae->bh->O (Fo×bh)
 |[],ρ=>ok (.nx,ρ)
 |d::ds,ρ=>bd (bind d ρ) λρ1=>bd (body ρ1) λr=>match r with
  | (.nx,ρ2)=>cR bind body ds ρ2
  | (.ct,ρ2)=>cR bind body ds ρ2
  | (.bk,ρ2)=>ok (.nx,ρ2)
  | (.rt d,ρ2)=>ok (.rt d,ρ2)
mutual
noncomputable def oZ(Φ:a_):CS->bh->O (Fo×bh)
 |.asg t e,ρ=>bd (ji Φ e ρ) λr=>bd (bV t r.1 r.2) λρ'=>ok (.nx,ρ')
 |.par i j a b,ρ=>bd (bx Φ a ρ) λx=>bd (bx Φ b ρ) λy=>if aT anyF x=false/\aT anyF y=false/\i<ρ.length/\j<ρ.length then ok (.nx,(ρ.set i (some x)).set j (some y))else none
 |.ret e,ρ=>bd (ji Φ e ρ) λr=>ok (.rt r.1,r.2)
 |.rs c,_=>some (.error c)
 |.ex e,ρ=>bd (bx Φ e ρ) λ_=>ok (.nx,ρ)
 |.mut p i es,ρ=>bd (cz Φ es ρ) λxs=>pT Φ p i (jS es xs ρ)
 |.mu2 p i k e,ρ=>bd (bx Φ k ρ) λkd=>bd (bx Φ e (ρ.set i none)) λd=>Aj Φ p i ρ kd d
 |.app i e,ρ=>bd (ji Φ e ρ) λr=>match z9 r.2[i]? with
  |some ds=>if ds.length<ck then ok (.nx,r.2.set i (some (.lst .ow (ds++[r.1]))))else none
  |none=>none
 |.aug i op e,ρ=>bd (bd (bx Φ e ρ) intD) λb=>match ρ[i]? with
  |some (some (.int a))=>ok (.nx,ρ.set i (some (.int (if op then a+b else a - b))))
  |_=>none
 |.ifs c a b,ρ=>bd (yo Φ c ρ) λk=>if k then bX Φ a ρ else bX Φ b ρ
 |.GG c b,ρ=>eW (λρ=>bd (yo Φ c ρ) λk=>if k then bd (bX Φ b ρ) λr=>match r with
   | (.nx,ρ')=>ok (.inl ρ')
   | (.ct,ρ')=>ok (.inl ρ')
   | (.bk,ρ')=>ok (.inr (.nx,ρ'))
   | (.rt d,ρ')=>ok (.inr (.rt d,ρ'))
  else ok (.inr (.nx,ρ))) ρ
 |.fr t it b,ρ=>bd (bO Φ it ρ) λr=>cR (λd ρ=>bV t d ρ) (λρ=>bX Φ b ρ) r.1 r.2
noncomputable def bX(Φ:a_):aj->bh->O (Fo×bh)
 |[],ρ=>ok (.nx,ρ)
 |s::ss,ρ=>bd (oZ Φ s ρ) λr=>match r with
  | (.nx,ρ')=>bX Φ ss ρ'
  |r=>ok r
end
noncomputable def pM(Φ:a_)(n:Nat)(b:aj)(ds:ae):O D:=bd (bX Φ b (ds.map some++List.replicate (n - ds.length) none)) λr=>match r.1 with
 |.nx=>ok .bW
 |.rt d=>ok d
 |_=>none
noncomputable def Co:aG
 |[.lst _ a,.lst _ b]=>ok (.lst .ow (List.zipWith (λx y=>.tup [x,y]) a b))
 |_=>none
end DI
end
section
namespace DI
open PySem PySem.Spec PyProof.Rows L2
noncomputable abbrev bj:=aO
noncomputable abbrev St:=L2.St
noncomputable abbrev lg:=Addr->af->Prop
inductive Nd where|l(xs:af)|d(cs:aw)(as:aR)(xs:af)(ep:Nat)
abbrev gR:=bj->Addr->Nd->Fl->Prop
structure dv(T:lg)(as:aR)(cs:aw):Prop where
 len:as.length=cs.length
 tup:∀(j:Nat) (a:Addr) (c:aa),as[j]?=some a->cs[j]?=some c->T a (c.map V.int)
variable {T T':lg}
theorem dv.imp{as:aR}{cs:aw}(h:dv T as cs)(hT:∀p xs,T p xs->T' p xs):dv T' as cs:=⟨h.len,λj a c h1 h2=>hT _ _ (h.tup j a c h1 h2)⟩
mutual
inductive Rep(T:lg)(N:gR):bj->V->D->Prop where
 |bW {q:bj}:Rep T N q .bW .bW
 |bl {q:bj} (b:Bool):Rep T N q (.bl b) (.bl b)
 |int {q:bj} (i:Int):Rep T N q (.int i) (.int i)
 |tup {q:bj} {p:Addr} {xs:af} {ds:ae} (h:T p xs) (r:aD T N q 0 xs ds):Rep T N q (.ref p) (.tup ds)
 |lst {q:bj} {p:Addr} {xs:af} {f:Fl} {ds:ae} (h:N q p (.l xs) f) (r:aD T N q 0 xs ds):Rep T N q (.ref p) (.lst f ds)
 |bS {q:bj} {p:Addr} {cs:aw} {as:aR} {xs:af} {ep:Nat} {f:Fl} {ds:ae} (h:N q p (.d cs as xs ep) f) (k:dv T as cs) (r:aD T N q 0 xs ds):Rep T N q (.ref p) (.bS f cs ds)
inductive aD(T:lg)(N:gR):bj->Nat->af->ae->Prop where
 |nil {q:bj} {n:Nat}:aD T N q n [] []
 |cons {q:bj} {n:Nat} {v:V} {d:D} {vs:af} {ds:ae} (h:Rep T N (n::q) v d) (t:aD T N q (n+1) vs ds):aD T N q n (v::vs) (d::ds)
end
variable {N:gR}{ds ds' items:ae}
theorem Rep.Cy{q:bj}{v:V}(h:Rep T N q v (.tup ds)):∃p xs,v=.ref p/\T p xs/\aD T N q 0 xs ds:=by
 cases h with
 |tup a b=>exact⟨_,_,rfl,a,b⟩
variable {f:Fl}
theorem Rep.nQ{q:bj}{v:V}(h:Rep T N q v (.lst f ds)):∃p xs,v=.ref p/\N q p (.l xs) f/\aD T N q 0 xs ds:=by
 cases h with
 |lst a b=>exact⟨_,_,rfl,a,b⟩
mutual
theorem qe:∀d:D,aT (λ_=>false) d=false
 |.bW=>rfl
 |.bl _=>rfl
 |.int _=>rfl
 |.tup ds=>f_ ds
 |.lst _ ds=>f_ ds
 |.bS _ _ ds=>f_ ds
theorem f_:∀ds:ae,aQ (λ_=>false) ds=false
 |[]=>rfl
 |d::ds=>by show(aT _ d||aQ _ ds)=false;rw[qe d,f_ ds];rfl
end
theorem HF{a b:Bool}(h:(a||b)=false):a=false/\b=false:=by cases a<;>cases b<;>first|exact⟨rfl,rfl⟩|cases h
variable {k' q':bj}{vs xs xs' ys:af}
section
variable {T T':lg}{N N':gR}{g:Fl->Fl}{P:Fl->Bool}{C:bj->bj->Prop}{I:Nat->Nat->Prop}
mutual
theorem Rep.gen(hT:∀p xs,T p xs->T' p xs)(h0:I 0 0)(hI:∀n n',I n n'->I (n+1) (n'+1))(hC:∀k k' n n',C k k'->I n n'->C (n::k) (n'::k'))(hN:∀k k' p xs f,C k k'->P f=false->N k p xs f->N' k' p xs (g f)):
  ∀{k:bj} {v:V} {d:D},Rep T N k v d->∀{k':bj},C k k'->aT P d=false->Rep T' N' k' v (aY g d)
 |_,_,_,.bW,_,_,_=>.bW
 |_,_,_,.bl b,_,_,_=>.bl b
 |_,_,_,.int i,_,_,_=>.int i
 |_,_,_,.tup h r,_,c,e=>.tup (hT _ _ h) (aD.gen hT h0 hI hC hN r c h0 e)
 |_,_,_,.lst h r,_,c,e=>.lst (hN _ _ _ _ _ c (HF e).1 h) (aD.gen hT h0 hI hC hN r c h0 (HF e).2)
 |_,_,_,.bS h k r,_,c,e=>.bS (hN _ _ _ _ _ c (HF e).1 h) (k.imp hT) (aD.gen hT h0 hI hC hN r c h0 (HF e).2)
theorem aD.gen(hT:∀p xs,T p xs->T' p xs)(h0:I 0 0)(hI:∀n n',I n n'->I (n+1) (n'+1))(hC:∀k k' n n',C k k'->I n n'->C (n::k) (n'::k'))(hN:∀k k' p xs f,C k k'->P f=false->N k p xs f->N' k' p xs (g f)):
  ∀{k:bj} {n:Nat} {vs:af} {ds:ae},aD T N k n vs ds->∀{k':bj} {n':Nat},C k k'->I n n'->aQ P ds=false->aD T' N' k' n' vs (aC g ds)
 |_,_,_,_,.nil,_,_,_,_,_=>.nil
 |_,_,_,_,.cons h t,_,_,c,i,e=>.cons (Rep.gen hT h0 hI hC hN h (hC _ _ _ _ c i) (HF e).1) (aD.gen hT h0 hI hC hN t c (hI _ _ i) (HF e).2)
end
theorem Rep.map{q:bj}(hT:∀p xs,T p xs->T' p xs)(hN:∀c p xs f,N (c++q) p xs f->N' (c++q') p xs (g f)){k:bj}{v:V}{d:D}(h:Rep T N k v d)(c:bj)(e:k=c++q):Rep T' N' (c++q') v (aY g d) :=
 Rep.gen (P:=λ_=>false) (C:=λk k'=>∃c,k=c++q/\k'=c++q') (I:=λn n'=>n=n') hT rfl (λ_ _ e=>by rw[e]) (λ_ _ n _ ⟨c,e1,e2⟩ e=>⟨n::c,by rw[e1];rfl,by rw[e2,<- e];rfl⟩) (λ_ _ p xs f ⟨c,e1,e2⟩ _ h=>by subst e1;subst e2;exact hN c p xs f h) h ⟨c,e,rfl⟩ (qe d)
theorem aD.map{q:bj}(hT:∀p xs,T p xs->T' p xs)(hN:∀c p xs f,N (c++q) p xs f->N' (c++q') p xs (g f)){k:bj}{n:Nat}(h:aD T N k n vs ds)(c:bj)(e:k=c++q):aD T' N' (c++q') n vs (aC g ds) :=
 aD.gen (P:=λ_=>false) (C:=λk k'=>∃c,k=c++q/\k'=c++q') (I:=λn n'=>n=n') hT rfl (λ_ _ e=>by rw[e]) (λ_ _ n _ ⟨c,e1,e2⟩ e=>⟨n::c,by rw[e1];rfl,by rw[e2,<- e];rfl⟩) (λ_ _ p xs f ⟨c,e1,e2⟩ _ h=>by subst e1;subst e2;exact hN c p xs f h) h ⟨c,e,rfl⟩ rfl (f_ ds)
theorem Rep.g_(hT:∀p xs,T p xs->T' p xs)(hN:∀k k' p xs f,N k p xs f->N' k' p xs (g f)){k:bj}{v:V}{d:D}(h:Rep T N k v d)(k':bj):Rep T' N' k' v (aY g d) :=
 Rep.gen (P:=λ_=>false) (C:=λ_ _=>True) (I:=λ_ _=>True) hT trivial (λ_ _ e=>e) (λ_ _ _ _ e _=>e) (λk k' p xs f _ _ h=>hN k k' p xs f h) h trivial (qe d)
theorem aD.g_(hT:∀p xs,T p xs->T' p xs)(hN:∀k k' p xs f,N k p xs f->N' k' p xs (g f)){k:bj}{n:Nat}(h:aD T N k n vs ds)(k':bj)(n':Nat):aD T' N' k' n' vs (aC g ds) :=
 aD.gen (P:=λ_=>false) (C:=λ_ _=>True) (I:=λ_ _=>True) hT trivial (λ_ _ e=>e) (λ_ _ _ _ e _=>e) (λk k' p xs f _ _ h=>hN k k' p xs f h) h trivial trivial (f_ ds)
end
mutual
theorem dB:∀d:D,aY id d=d
 |.bW=>rfl
 |.bl _=>rfl
 |.int _=>rfl
 |.tup ds=>by rw[aY,d_ ds]
 |.lst f ds=>by rw[aY,d_ ds];rfl
 |.bS f ks vs=>by rw[aY,d_ vs];rfl
theorem d_:∀ds:ae,aC id ds=ds
 |[]=>rfl
 |d::ds=>by rw[aC,dB d,d_ ds]
end
section
variable {T T':lg}{N N':gR}
theorem Rep.imp{q:bj}(hT:∀p xs,T p xs->T' p xs)(hN:∀c p xs f,N (c++q) p xs f->N' (c++q') p xs f){v:V}{d:D}(h:Rep T N q v d):Rep T' N' q' v d:=by
 have:=Rep.map (g:=id) hT hN h [] rfl;rw[dB]at this;exact this
theorem aD.imp{q:bj}{n:Nat}(hT:∀p xs,T p xs->T' p xs)(hN:∀c p xs f,N (c++q) p xs f->N' (c++q') p xs f)(h:aD T N q n vs ds):aD T' N' q' n vs ds:=by
 have:=aD.map (g:=id) hT hN h [] rfl;rw[d_]at this;exact this
theorem aD.length:∀{k:bj} {n:Nat} {vs:af} {ds:ae},aD T N k n vs ds->vs.length=ds.length
 |_,_,_,_,.nil=>rfl
 |_,_,_,_,.cons _ t=>by simp[aD.length t]
theorem aD.get:∀{k:bj} {n j:Nat} {vs:af} {ds:ae} {d:D},aD T N k n vs ds->ds[j]?=some d->∃v,vs[j]?=some v/\Rep T N ((n+j)::k) v d
 |_,_,_,_,_,_,.nil,e=>by simp at e
 |_,_,0,_,_,_,.cons h t,e=>by simp at e;subst e;exact⟨_,rfl,h⟩
 |_,n,j+1,_,_,_,.cons h t,e=>by
  obtain⟨v,h1,h2⟩:=aD.get (j:=j) t (by simpa using e);refine⟨v,by simpa using h1,?_⟩;have:n+1+j=n+(j+1):=by left
  rw[<- this];exact h2
theorem aD.yj:∀{k:bj} {n j:Nat} {vs:af} {ds:ae} {v:V},aD T N k n vs ds->vs[j]?=some v->∃d,ds[j]?=some d/\Rep T N ((n+j)::k) v d
 |_,_,_,_,_,_,.nil,e=>by simp at e
 |_,_,0,_,_,_,.cons h t,e=>by simp at e;subst e;exact⟨_,rfl,h⟩
 |_,n,j+1,_,_,_,.cons h t,e=>by
  obtain⟨v,h1,h2⟩:=aD.yj (j:=j) t (by simpa using e);refine⟨v,by simpa using h1,?_⟩;have:n+1+j=n+(j+1):=by left
  rw[<- this];exact h2
theorem aD.l9{k:bj}(hN:∀k k' p xs f,N k p xs f->N k' p xs f):∀{n m l:Nat} {vs ws:af} {ds es:ae},aD T N k n vs ds->aD T N k m ws es->aD T N k l (vs++ws) (ds++es)
 |_,_,_,_,_,_,_,.nil,t=>by
  have:=aD.g_ (T':=T) (N':=N) (g:=id) (λ_ _ h=>h) hN t;rw[d_]at this;exact this _ _
 |_,_,_,_,_,_,_,.cons h t,u=>.cons (by
  have:=Rep.g_ (T':=T) (N':=N) (g:=id) (λ_ _ h=>h) hN h;rw[dB]at this;exact this _) (aD.l9 hN t u)
end
def KL(K:av)(a:Addr)(xs:af):Prop :=
 ∃(o:Obj) (aJ:aM) (n:Nat),K.lookup a=some o/\o.cls=.type "list" /\ o.dict=none/\o.data=.seq aJ n/\aJ.size<=sizeLine/\Vals xs aJ.toList
def DO(p:Addr)(cs:aw)(as:aR)(xs:af)(ep:Nat)(h:Heap):Prop :=
 ∃(zs:List (aa×Addr×Value)) (o:Obj) (es:Array DictEntry),zs.map (·.1)=cs/\zs.map (·.2.1)=as/\Vals xs (zs.map (·.2.2))/\h.get? p=some o/\o.ExactDict/\o.data=.dict es ep /\
  es.toList=zs.map (λz=>⟨reduceHash (Builtin.Tuple.tupleHashOf (z.1.map hashInt)),.ref z.2.1,z.2.2⟩)/\cs.Nodup/\cs.length<=sizeLine/\(p==sysModules)=false
noncomputable abbrev dE(H:Hp)(p:Addr)(n:Nd):Prop:=match n with
 |.l xs=>H p=some (.lst xs)
 |.d cs as xs ep=>H p=some (.ext (DO p cs as xs ep))
theorem dE.ne{H:Hp}{p:Addr}{n:Nd}(h:dE H p n):H p≠none:=by
 cases n with
 |l xs=>intro z;rw[show H p=some (.lst xs) from h]at z;cases z
 |d cs as xs ep=>intro z;rw[show H p=some (.ext (DO p cs as xs ep)) from h]at z;cases z
variable {H' H1 H2:Hp}
theorem dE.at{H:Hp}{p:Addr}{n:Nd}(e:∀o,H p=some o->H' p=some o)(h:dE H p n):dE H' p n:=by
 cases n with
 |l xs=>exact e _ h
 |d cs as xs ep=>exact e _ h
theorem dE.same{H:Hp}{p:Addr}{n:Nd}(e:aI H H')(h:dE H p n):dE H' p n:=h.at (e p)
theorem dE.some{H:Hp}{p:Addr}{n:Nd}(h:dE H p n):∃o,H p=some o/\(∀xs,o≠.tup xs)/\(∀a u,o≠.h_ a u):=by
 cases n with
 |l xs=>exact⟨_,h,λ_ z=>(nomatch z),λ_ _ z=>(nomatch z)⟩
 |d cs as xs ep=>exact⟨_,h,λ_ z=>(nomatch z),λ_ _ z=>(nomatch z)⟩
def nd(K:av)(R A:ah)(τ:Addr->Option bj)(H:Hp):gR:=λq p n f=>match f with
 |.ow=>dE H p n/\τ p=some q
 |.fz=>dE H p n/\R p
 |.al=>dE H p n/\A p
 |.sc=>match n with
  |.l xs=>(∃o,H p=some (.h_ o (.lst xs)))\/KL K p xs
  |.d _ _ _ _=>False
variable {A F G R' R1:Addr->Prop}{K:av}{τ τ':Addr->Option bj}
theorem nd.zB{R:Addr->Prop}{H:Hp}{q:bj}{p:Addr}{n:Nd}(h:nd K R A τ H q p n .sc):∃xs,n=.l xs/\((∃o,H p=some (.h_ o (.lst xs)))\/KL K p xs):=by
 cases n with
 |l xs=>exact⟨xs,rfl,h⟩
 |d _ _ _ _=>exact h.elim
theorem nd.sq{R:Addr->Prop}{H:Hp}{q:bj}{p:Addr}(h:nd K R A τ H q p (.l xs) f):dh K H p xs:=by
 cases f with
 |ow=>exact dh.of h.1
 |fz=>exact dh.of h.1
 |al=>exact dh.of h.1
 |sc=>exact h.elim (λh=>.inl (.inr h)) .inr
theorem nd.lst{K:av}{R A:ah}{τ:Addr->Option bj}{H:Hp}{q:bj}{p:Addr}{xs:af}{f:Fl}(h:nd K R A τ H q p (.l xs) f)(hf:uf f=false):H p=some (.lst xs):=by
 cases f with
 |ow=>exact h.1
 |fz=>exact h.1
 |al=>exact h.1
 |sc=>cases hf
variable {ep k1 k2 n1 t':Nat}
theorem nd.dat{R:Addr->Prop}{H:Hp}{q:bj}{p:Addr}{cs:aw}{as:aR}(h:nd K R A τ H q p (.d cs as xs ep) f):H p=some (.ext (DO p cs as xs ep)):=by
 cases f with
 |ow=>exact h.1
 |fz=>exact h.1
 |al=>exact h.1
 |sc=>exact h.elim
theorem Rd.same{H:Hp}{a:Addr}{u:HO}(e:aI H H')(h:Rd H a u):Rd H' a u:=h.elim (λh=>.inl (e _ _ h)) λ⟨o,h⟩=>.inr ⟨o,e _ _ h⟩
theorem aW.same{K:av}{H H':Hp}{a:Addr}{xs:af}(e:aI H H')(h:aW K H a xs):aW K H' a xs:=h.elim (λh=>.inl (Rd.same e h)) .inr
theorem nd.same{K:av}{R A:ah}{τ:Addr->Option bj}{H H':Hp}{q:bj}{p:Addr}{n:Nd}{f:Fl}(e:aI H H')(h:nd K R A τ H q p n f):nd K R A τ H' q p n f:=by
 cases f with
 |ow=>exact⟨h.1.same e,h.2⟩
 |fz=>exact⟨h.1.same e,h.2⟩
 |al=>exact⟨h.1.same e,h.2⟩
 |sc=>cases n with
  |l xs=>exact h.elim (λ⟨o,h⟩=>.inl ⟨o,e _ _ h⟩) .inr
  |d _ _ _ _=>exact h.elim
theorem aI.ne{H:Hp}(e:aI H H'){a:Addr}(h:H a≠none):H' a≠none:=by
 cases q:H a with
 |none=>exact absurd q h
 |some o=>rw[e a o q];simp
structure SI(X:Cx)(F R:ah)(τ:Addr->Option bj)(ρ:bh)(σ:St)(H:Hp):Prop where
 len:ρ.length=σ.length
 rep:∀(i:Nat) (d:D),ρ[i]?=some (some d)->∃v,σ[i]?=some (some v)/\Rep (aW X.K H) (nd X.K R (λ_=>False) τ H) [i] v d
 rt:∀p,R p->τ p=none
 rh:∀p,R p->H p≠none
 rf:∀p,R p->F p\/X.H₀ p=none
 th:∀p q,τ p=some q->H p≠none
 t0:∀p q,τ p=some q->X.H₀ p=none
 same:aI X.H₀ H
variable {X:Cx}{ρ:bh}{σ:L2.St}
theorem SI.go{R:Addr->Prop}{H:Hp}(S:SI X F R τ ρ σ H)(e:aI H H'):SI X F R τ ρ σ H' :=
 ⟨S.len,λi d h=>let ⟨v,h1,h2⟩:=S.rep i d h;⟨v,h1,h2.imp (λ_ _ h=>aW.same e h) λ_ _ _ _ h=>nd.same e h⟩,S.rt,λp h=>aI.ne e (S.rh p h),S.rf,λp q h=>aI.ne e (S.th p q h),S.t0,S.same.trans e⟩
def jo(G:ah)(τ:Addr->Option bj)(fv:aO)(p:Addr):Prop:=G p/\∀c i,τ p=some (c++[i])->i∈fv
variable {caps fv fv':aO}
theorem jo.mono{p:Addr}(h:jo G τ fv p)(hs:∀i∈fv,i∈fv'):jo G τ fv' p:=⟨h.1,λc i e=>hs i (h.2 c i e)⟩
def gP(X:Cx)(F:ah)(p:Addr):Prop:=F p\/X.H₀ p=none
def bY(K:av)(G R:ah)(τ:Addr->Option bj)(fv:aO)(H H':Hp)(v:V)(d:D):Prop :=
 ∃τt:Addr->Option bj,(∀p q,τt p=some q->H p=none)/\Rep (aW K H') (nd K R (jo G τ fv) τt H') [] v d
def cq(K:av)(G R:ah)(τ:Addr->Option bj)(fv:aO)(H H':Hp)(vs:af)(ds:ae):Prop :=
 ∃τt:Addr->Option bj,(∀p q,τt p=some q->H p=none)/\aD (aW K H') (nd K R (jo G τ fv) τt H') [] 0 vs ds
section
variable {K:av}{G R:ah}{τ:Addr->Option bj}{fv fv':aO}{H H1 H2:Hp}{v:V}{d:D}{vs:af}{ds:ae}
theorem bY.go(h:bY K G R τ fv H H1 v d)(e:aI H1 H2):bY K G R τ fv H H2 v d :=
 let ⟨τt,h1,h2⟩:=h;⟨τt,h1,h2.imp (λ_ _ h=>aW.same e h) λ_ _ _ _ h=>nd.same e h⟩
theorem nd.mono{A':Addr->Prop}{τ:Addr->Option bj}{q:bj}{p:Addr}{xs:Nd}(h:nd K R A τ H q p xs f)(hR:R p->R' p)(hA:A p->A' p)(ht:τ p=some q->τ' p=some q'):nd K R' A' τ' H q' p xs f:=by
 cases f with
 |ow=>exact⟨h.1,ht h.2⟩
 |fz=>exact⟨h.1,hR h.2⟩
 |al=>exact⟨h.1,hA h.2⟩
 |sc=>exact h
theorem bY.mono(h:bY K G R τ fv H H1 v d)(hs:∀i∈fv,i∈fv'):bY K G R τ fv' H H1 v d :=
 let ⟨τt,h1,h2⟩:=h;⟨τt,h1,h2.imp (λ_ _ h=>h) λ_ _ _ _ h=>h.mono id (λh=>h.mono hs) id⟩
theorem cq.mono(h:cq K G R τ fv H H1 vs ds)(hs:∀i∈fv,i∈fv'):cq K G R τ fv' H H1 vs ds :=
 let ⟨τt,h1,h2⟩:=h;⟨τt,h1,h2.imp (λ_ _ h=>h) λ_ _ _ _ h=>h.mono id (λh=>h.mono hs) id⟩
theorem bY.old{H0:Hp}(h:bY K G R τ fv H H1 v d)(e:aI H0 H):bY K G R τ fv H0 H1 v d :=
 let ⟨τt,h1,h2⟩:=h;⟨τt,λp q z=>e.free (h1 p q z),h2⟩
theorem bY.int{i:Int}:bY K G R τ fv H H1 (.int i) (.int i):=⟨λ_=>none,λ_ _ h=>by simp at h,.int i⟩
theorem bY.bl{b:Bool}:bY K G R τ fv H H1 (.bl b) (.bl b):=⟨λ_=>none,λ_ _ h=>by simp at h,.bl b⟩
theorem bY.bW:bY K G R τ fv H H1 .bW .bW:=⟨λ_=>none,λ_ _ h=>by simp at h,.bW⟩
theorem bY.isInt{i:Int}(h:bY K G R τ fv H H1 v (.int i)):v=.int i:=by obtain⟨_,_,h⟩:=h;cases h;rfl
theorem bY.xY{i:Bool}(h:bY K G R τ fv H H1 v (.bl i)):v=.bl i:=by obtain⟨_,_,h⟩:=h;cases h;rfl
def pF:bj->bj
 |[]=>[]
 |[n]=>[n+1]
 |a::b::r=>a::pF (b::r)
theorem qY(c:bj)(n:Nat):pF (c++[n])=c++[n+1]:=by
 induction c with
 |nil=>rfl
 |cons a c ih =>
  cases c with
  |nil=>rfl
  |cons b c=>show a::pF (b::c++[n])=_;rw[ih];rfl
theorem aD.shift{T:lg}{N N':gR}(hN:∀c n p xs f,N (c++[n]) p xs f->N' (c++[n+1]) p xs f):∀{n:Nat} {vs:af} {ds:ae},aD T N [] n vs ds->aD T N' [] (n+1) vs ds
 |_,_,_,.nil=>.nil
 |n,_,_,.cons h t=>.cons (h.imp (q:=[n]) (q':=[n+1]) (λ_ _ h=>h) λc p xs f h=>hN c n p xs f h) (aD.shift hN t)
theorem cq.nil:cq K G R τ fv H H1 [] []:=⟨λ_=>none,λ_ _ h=>by simp at h,.nil⟩
open Classical in
theorem cq.cons(e1:aI H H1)(e2:aI H1 H2)(h:bY K G R τ fv H H1 v d)(t:cq K G R τ fv H1 H2 vs ds):cq K G R τ fv H H2 (v::vs) (d::ds):=by
 obtain⟨τ1,f1,h1⟩:=h;obtain⟨τ2,f2,h2⟩:=t;refine⟨λp=>if H1 p=none then(τ2 p).map pF else(τ1 p).map (· ++ [0]),λp q hq=>?_,.cons (h1.imp (q':=[0]) (λ_ _ h=>aW.same e2 h) λc p xs f h=>?_) (aD.shift (λc n p xs f h=>?_) h2)⟩
 ·by_cases hp:H1 p=none
  ·exact e1.free hp
  ·simp only[hp,if_false]at hq;cases q1:τ1 p with
   |none=>rw[q1]at hq;simp at hq
   |some k=>exact f1 p k q1
 ·have h':nd K R (jo G τ fv) τ1 H2 (c++[]) p xs f:=nd.same e2 h;cases f with
  |ow =>
   have hp:H1 p≠none:=h.1.ne;refine⟨h'.1,?_⟩;simp only[hp,if_false];rw[h.2];simp
  |fz=>exact h'
  |al=>exact h'
  |sc=>exact h'
 ·cases f with
  |ow =>
   have hp:H1 p=none:=f2 p _ h.2;refine⟨h.1,?_⟩;simp only[hp,if_true];rw[h.2];simp[qY]
  |fz=>exact h
  |al=>exact h
  |sc=>exact h
end
def tD(X:Cx)(F:ah)(Φ:a_)(c:CE):TE:=λσ H Q=>∃R τ ρ d,SI X F R τ ρ σ H/\bx Φ c ρ=ok d/\∀v H',aI H H'->bY X.K (gP X F) R τ (gQ c) H H' v d->Q v H'
def qT(X:Cx)(F:ah)(Φ:a_)(cs:aF):TA:=λσ H Q=>∃R τ ρ ds,SI X F R τ ρ σ H/\cz Φ cs ρ=ok ds/\∀vs H',aI H H'->cq X.K (gP X F) R τ (dw cs) H H' vs ds->Q vs H'
def gm(X:Cx)(F:ah)(Φ:a_)(c:CE):TT:=λσ H Q=>∃R τ ρ b,SI X F R τ ρ σ H/\yo Φ c ρ=ok b/\∀H',aI H H'->Q b H'
theorem PE.imp{e:Expr}{t t':TE}(h:PE X e t)(hi:∀σ H Q,t' σ H Q->t σ H Q):PE X e t':=λpins s σ H Q I hw=>h pins s σ H Q I (hi σ H Q hw)
theorem PT.imp{e:Expr}{t t':TT}(h:PT X e t)(hi:∀σ H Q,t' σ H Q->t σ H Q):PT X e t':=λpins s σ H Q I hw=>h pins s σ H Q I (hi σ H Q hw)
theorem PW.imp{e:Expr}{t t':TT}(h:PW X e t)(hi:∀σ H Q,t' σ H Q->t σ H Q):PW X e t':=λwh pins s σ H Q I hw=>h wh pins s σ H Q I (hi σ H Q hw)
theorem PA.imp{es:aA}{t t':TA}(h:PA X es t)(hi:∀σ H Q,t' σ H Q->t σ H Q):PA X es t':=λpos pins s σ H Q I hw=>h pos pins s σ H Q I (hi σ H Q hw)
variable {st:Stmt}
theorem PS.imp{t t':TS}(h:PS X st t)(hi:∀D σ H,t' D σ H->t D σ H):PS X st t':=λpins s σ H D I hw=>h pins s σ H D I (hi D σ H hw)
theorem me.imp{st:bt}{t t':TS}(h:me X st t)(hi:∀D σ H,t' D σ H->t D σ H):me X st t':=λpins s σ H D I hw=>h pins s σ H D I (hi D σ H hw)
theorem ny:∀(as bs:ae),dD as bs=true ↔ as.length=bs.length/\∀(j:Nat) (a b:D),as[j]?=some a->bs[j]?=some b->kD a b=true
 |[],[]=>by simp[dD]
 |[],b::bs=>by simp[dD]
 |a::as,[]=>by simp[dD]
 |a::as,b::bs=>by
  rw[dD,Bool.and_eq_true,ny as bs];constructor
  ·rintro ⟨h1,h2,h3⟩;refine⟨by simp[h2],λj x y hx hy=>?_⟩;cases j with
   |zero=>simp at hx hy;subst hx hy;exact h1
   |succ j=>exact h3 j x y (by simpa using hx) (by simpa using hy)
  ·rintro ⟨h2,h3⟩;exact⟨h3 0 a b rfl rfl,by simpa using h2,λj x y hx hy=>h3 (j+1) x y (by simpa using hx) (by simpa using hy)⟩
def OB(as bs:ae)(j:Nat):Bool:=match as[j]?,bs[j]? with
 |some a,some b=>kD a b
 |_,_=>false
theorem jk(as bs:ae):((List.range (min as.length bs.length)).all (OB as bs)&&as.length==bs.length)=dD as bs:=by
 rw[Bool.eq_iff_iff,ny,Bool.and_eq_true,List.all_eq_true,beq_iff_eq];constructor
 ·rintro ⟨h1,h2⟩;refine⟨h2,λj a b ha hb=>?_⟩;have hj:j<as.length:=by
   by_cases h:j<as.length
   ·exact h
   ·rw[List.getElem?_eq_none (by left)]at ha;cases ha
  have:=h1 j (by rw[List.mem_range];left);unfold OB at this;rw[ha,hb]at this;exact this
 ·rintro ⟨h2,h1⟩;refine⟨λj hj=>?_,h2⟩;rw[List.mem_range]at hj;unfold OB;have ha:as[j]?=some as[j]:=aaq (by left);have hb:bs[j]?=some bs[j]:=aaq (by left);rw[ha,hb];exact h1 j _ _ ha hb
section
variable {X:Cx}{pins:ao}{σ:St}{H:Hp}{s:Shared}{N N':gR}
theorem eN{n:Nat}(h:di n (.tup ds)=true):∃m,n=m+1/\∀d∈ds,di m d=true:=by
 cases n with
 |zero=>cases h
 |succ m=>exact⟨m,rfl,List.all_eq_true.mp h⟩
theorem eO{n:Nat}(h:di n (.lst f ds)=true):∃m,n=m+1/\∀d∈ds,di m d=true:=by
 cases n with
 |zero=>cases h
 |succ m=>exact⟨m,rfl,List.all_eq_true.mp h⟩
theorem vS(I:Inv X pins σ H s){p:Addr}(h:dh X.K H p xs)(h':aW X.K H p ys):False:=by
 obtain⟨aJ,_,pl,_⟩:=I.list h;obtain⟨its',_,pt,_⟩:=I.tuple h';exact SeqAt.ne_of_list_tuple pl.isList pt rfl
theorem zu(I:Inv X pins σ H s)(hN:∀q p xs f,N q p (.l xs) f->dh X.K H p xs)(Cd:∀q p xs f,N' q p (.l xs) f->dh X.K H p xs):
  ∀(n:Nat) {k k':bj} {v:V} {d d':D},Rep (aW X.K H) N k v d->Rep (aW X.K H) N' k' v d'->di n d=true->di n d'=true->kD d d'=true:=by
 intro n;induction n with
 |zero =>
  intro k k' v d d' h h' ho fY;cases h with
  |bW=>cases h';rfl
  |bl b=>cases h';exact abQ b
  |int i=>cases h';exact abQ i
  |tup _ _=>obtain⟨m,hm,_⟩:=eN ho;left
  |lst _ _=>obtain⟨m,hm,_⟩:=eO ho;left
  |bS _ _=>simp[di]at ho
 |succ n ih =>
  have sub:∀{q q':bj} {xs:af} {ds ds':ae},aD (aW X.K H) N q 0 xs ds->aD (aW X.K H) N' q' 0 xs ds'->(∀d∈ds,di n d=true)->(∀d∈ds',di n d=true)->dD ds ds'=true:=by
   intro q q' xs ds ds' r r' ho fY;rw[ny];refine⟨by rw[<- r.length,<- r'.length],λj a b ha hb=>?_⟩;obtain⟨v1,h1,r1⟩:=r.get ha;obtain⟨v2,h2,r2⟩:=r'.get hb;rw[h1]at h2;cases h2;exact ih r1 r2 (ho a (aar ha)) (fY b (aar hb))
  intro k k' v d d' h h' ho fY;cases h with
  |bW=>cases h';rfl
  |bl b=>cases h';exact abQ b
  |int i=>cases h';exact abQ i
  |tup h r =>
   obtain⟨m,hm,ho⟩:=eN ho;obtain rfl:n=m:=by left
   cases h' with
   |tup h' r' =>
    obtain⟨m,hm,fY⟩:=eN fY;obtain rfl:n=m:=by left
    obtain rfl:=I.oD h h';exact sub r r' ho fY
   |lst h' r'=>exact(vS I (Cd _ _ _ _ h') h).elim
   |bS _ _=>simp[di]at fY
  |lst h r =>
   obtain⟨m,hm,ho⟩:=eO ho;obtain rfl:n=m:=by left
   cases h' with
   |tup h' r'=>exact(vS I (hN _ _ _ _ h) h').elim
   |lst h' r' =>
    obtain⟨m,hm,fY⟩:=eO fY;obtain rfl:n=m:=by left
    obtain rfl:=I.jQ (hN _ _ _ _ h) (Cd _ _ _ _ h');exact sub r r' ho fY
   |bS _ _=>simp[di]at fY
  |bS _ _=>simp[di]at ho
structure Alike(A:az)(s:Shared)(u u':Value)(b:Bool):Prop where
 eq:SeqAt.EqAt A s u u' b
 rc:SeqAt.RcAt A s u u' b
 ne:SeqAt.RcNeAt A s u u' (!b)
theorem alike(I:Inv X pins σ H s)(hN:∀q p xs f,N q p (.l xs) f->dh X.K H p xs)(Cd:∀q p xs f,N' q p (.l xs) f->dh X.K H p xs):
  ∀(n:Nat) (A:az) {k k':bj} {v v':V} {u u':Value} {d d':D},Rep (aW X.K H) N k v d->Rep (aW X.K H) N' k' v' d'->di n d=true->di n d'=true->RelV v u->RelV v' u'->A.units+n<cLine ->
   Alike A s u u' (kD d d'):=by
 intro n;induction n with
 |zero =>
  intro A k k' v v' u u' d d' h h' ho fY r r' hu;cases h with
  |tup _ _=>obtain⟨m,hm,_⟩:=eN ho;left
  |lst _ _=>obtain⟨m,hm,_⟩:=eO ho;left
  |bS _ _=>simp[di]at ho
  |bW =>
   cases r;cases h' with
   |tup _ _=>obtain⟨m,hm,_⟩:=eN fY;left
   |lst _ _=>obtain⟨m,hm,_⟩:=eO fY;left
   |bS _ _=>simp[di]at fY
   |bW=>cases r';exact⟨abv _,SeqAt.RcAt.none_none,SeqAt.RcNeAt.none_none⟩
   |bl b=>cases r';exact⟨abV b,SeqAt.RcAt.none_bool b,SeqAt.RcNeAt.none_bool b⟩
   |int b=>obtain⟨t,rfl⟩:=r';exact⟨ab2 b t,SeqAt.RcAt.none_int b t,SeqAt.RcNeAt.none_int b t⟩
  |bl a =>
   cases r;cases h' with
   |tup _ _=>obtain⟨m,hm,_⟩:=eN fY;left
   |lst _ _=>obtain⟨m,hm,_⟩:=eO fY;left
   |bS _ _=>simp[di]at fY
   |bW=>cases r';exact⟨abW a,SeqAt.RcAt.bool_none a,SeqAt.RcNeAt.bool_none a⟩
   |bl b=>cases r';exact⟨abX a b,SeqAt.RcAt.bool_bool a b,SeqAt.RcNeAt.bool_bool a b⟩
   |int b=>obtain⟨t,rfl⟩:=r';exact⟨ab3 a b t,SeqAt.RcAt.bool_int a b t,SeqAt.RcNeAt.bool_int a b t⟩
  |int a =>
   obtain⟨t',rfl⟩:=r;cases h' with
   |tup _ _=>obtain⟨m,hm,_⟩:=eN fY;left
   |lst _ _=>obtain⟨m,hm,_⟩:=eO fY;left
   |bS _ _=>simp[di]at fY
   |bW=>cases r';exact⟨ab4 a t',SeqAt.RcAt.int_none a t',SeqAt.RcNeAt.int_none a t'⟩
   |bl b=>cases r';exact⟨ab5 a t' b,SeqAt.RcAt.int_bool a t' b,SeqAt.RcNeAt.int_bool a t' b⟩
   |int b=>obtain⟨t,rfl⟩:=r';exact⟨aby a t' b t,SeqAt.RcAt.int_int a t' b t,SeqAt.RcNeAt.int_int a t' b t⟩
 |succ n ih =>
  intro A k k' v v' u u' d d' h h' ho fY r r' hu;have eV:A.units<cLine:=by left
  have SA:A.in1.units+n<cLine:=by show A.units+1+n<cLine;left
  have sub:∀{q q':bj} {xs xs':af} {ds ds':ae} {aJ its':ak},aD (aW X.K H) N q 0 xs ds->aD (aW X.K H) N' q' 0 xs' ds'->(∀d∈ds,di n d=true)->(∀d∈ds',di n d=true)->Vals xs aJ->Vals xs' its' ->
    ∀(j:Nat) (h1:j<aJ.toArray.size) (h2:j<its'.toArray.size),SeqAt.EqAt A.in1 s aJ.toArray[j] its'.toArray[j] (OB ds ds' j):=by
   intro q q' xs xs' ds ds' aJ its' rs qH hd Eg rv yJ j h1 h2;have l1:ds.length=aJ.length:=by rw[<- rs.length,rv.length]
   have l2:ds'.length=its'.length:=by rw[<- qH.length,yJ.length]
   simp only[List.size_toArray]at h1 h2;have ea:ds[j]?=some ds[j]:=aaq (by left);have eb:ds'[j]?=some ds'[j]:=aaq (by left);obtain⟨w1,g1,p1⟩:=rs.get ea;obtain⟨w2,g2,p2⟩:=qH.get eb;obtain⟨u1,k1,z1⟩:=rv.get g1;obtain⟨u2,k2,z2⟩:=yJ.get g2;have:=(ih A.in1 p1 p2 (hd _ (aaH _)) (Eg _ (aaH _)) z1 z2 SA).eq;unfold OB;rw[ea,eb];rw[List.getElem?_eq_getElem h1]at k1;rw[List.getElem?_eq_getElem h2]at k2;cases k1;cases k2;simpa using this
  cases h with
  |bW =>
   cases r;cases h' with
   |bS _ _=>simp[di]at fY
   |bW=>cases r';exact⟨abv _,SeqAt.RcAt.none_none,SeqAt.RcNeAt.none_none⟩
   |bl b=>cases r';exact⟨abV b,SeqAt.RcAt.none_bool b,SeqAt.RcNeAt.none_bool b⟩
   |int b=>obtain⟨t,rfl⟩:=r';exact⟨ab2 b t,SeqAt.RcAt.none_int b t,SeqAt.RcNeAt.none_int b t⟩
   |tup h' rr=>cases r';obtain⟨aJ,_,pt,_⟩:=I.tuple h';exact⟨SeqAt.EqAt.none_tuple pt eV,SeqAt.RcAt.none_tuple pt eV,SeqAt.RcNeAt.none_tuple pt eV⟩
   |lst h' rr=>cases r';obtain⟨aJ,_,pt,_⟩:=I.list (Cd _ _ _ _ h');exact⟨SeqAt.EqAt.none_list pt.isList eV,SeqAt.RcAt.none_list pt.isList eV,SeqAt.RcNeAt.none_list pt.isList eV⟩
  |bl a =>
   cases r;cases h' with
   |bS _ _=>simp[di]at fY
   |bW=>cases r';exact⟨abW a,SeqAt.RcAt.bool_none a,SeqAt.RcNeAt.bool_none a⟩
   |bl b=>cases r';exact⟨abX a b,SeqAt.RcAt.bool_bool a b,SeqAt.RcNeAt.bool_bool a b⟩
   |int b=>obtain⟨t,rfl⟩:=r';exact⟨ab3 a b t,SeqAt.RcAt.bool_int a b t,SeqAt.RcNeAt.bool_int a b t⟩
   |tup h' rr=>cases r';obtain⟨aJ,_,pt,_⟩:=I.tuple h';exact⟨SeqAt.EqAt.bool_tuple a pt eV,SeqAt.RcAt.bool_tuple a pt eV,SeqAt.RcNeAt.bool_tuple a pt eV⟩
   |lst h' rr=>cases r';obtain⟨aJ,_,pt,_⟩:=I.list (Cd _ _ _ _ h');exact⟨SeqAt.EqAt.bool_list a pt.isList eV,SeqAt.RcAt.bool_list a pt.isList eV,SeqAt.RcNeAt.bool_list a pt.isList eV⟩
  |int a =>
   obtain⟨t',rfl⟩:=r;cases h' with
   |bS _ _=>simp[di]at fY
   |bW=>cases r';exact⟨ab4 a t',SeqAt.RcAt.int_none a t',SeqAt.RcNeAt.int_none a t'⟩
   |bl b=>cases r';exact⟨ab5 a t' b,SeqAt.RcAt.int_bool a t' b,SeqAt.RcNeAt.int_bool a t' b⟩
   |int b=>obtain⟨t,rfl⟩:=r';exact⟨aby a t' b t,SeqAt.RcAt.int_int a t' b t,SeqAt.RcNeAt.int_int a t' b t⟩
   |tup h' rr=>cases r';obtain⟨aJ,_,pt,_⟩:=I.tuple h';exact⟨SeqAt.EqAt.int_tuple a t' pt eV,SeqAt.RcAt.int_tuple a t' pt eV,SeqAt.RcNeAt.int_tuple a t' pt eV⟩
   |lst h' rr=>cases r';obtain⟨aJ,_,pt,_⟩:=I.list (Cd _ _ _ _ h');exact⟨SeqAt.EqAt.int_list a t' pt.isList eV,SeqAt.RcAt.int_list a t' pt.isList eV,SeqAt.RcNeAt.int_list a t' pt.isList eV⟩
  | @tup _ p xs ds h rs =>
   cases r;obtain⟨aJ,rv,pt,_⟩:=I.tuple h;have pt:s.heap.IsTuple p aJ.toArray:=pt;cases h' with
   |bS _ _=>simp[di]at fY
   |bW=>cases r';exact⟨SeqAt.EqAt.tuple_none pt eV,SeqAt.RcAt.tuple_none pt eV,SeqAt.RcNeAt.tuple_none pt eV⟩
   |bl b=>cases r';exact⟨SeqAt.EqAt.tuple_bool b pt eV,SeqAt.RcAt.tuple_bool b pt eV,SeqAt.RcNeAt.tuple_bool b pt eV⟩
   |int b=>obtain⟨t,rfl⟩:=r';exact⟨SeqAt.EqAt.tuple_int b t pt eV,SeqAt.RcAt.tuple_int b t pt eV,SeqAt.RcNeAt.tuple_int b t pt eV⟩
   |lst h' rr=>cases r';obtain⟨its',_,pl,_⟩:=I.list (Cd _ _ _ _ h');exact⟨SeqAt.EqAt.tuple_list pt pl.isList eV,SeqAt.RcAt.tuple_list pt pl.isList eV,SeqAt.RcNeAt.tuple_list pt pl.isList eV⟩
   | @tup _ p' xs' ds' h' qH =>
    cases r';obtain⟨m,hm,F7⟩:=eN ho;obtain rfl:n=m:=by left
    obtain⟨m,hm,qa⟩:=eN fY;obtain rfl:n=m:=by left
    obtain⟨its',yJ,PR,_⟩:=I.tuple h';have PR:s.heap.IsTuple p' its'.toArray:=PR;have key:=sub rs qH F7 qa rv yJ;have l1:ds.length=aJ.toArray.size:=by rw[List.size_toArray,<- rs.length,rv.length]
    have l2:ds'.length=its'.toArray.size:=by rw[List.size_toArray,<- qH.length,yJ.length]
    have rc:SeqAt.RcAt A s (.ref p) (.ref p') (kD (.tup ds) (.tup ds')):=by
     have:=SeqAt.RcAt.tuples pt PR eV key;rw[<- l1,<- l2,jk]at this;exact this
    refine⟨?_,rc,?_⟩
    ·by_cases hp:p=p'
     ·subst hp;rw[zu I hN Cd (n+1) (Rep.tup h rs) (Rep.tup h' qH) ho fY];exact abv _
     ·exact SeqAt.EqAt.of_refs hp rc
    ·have:=SeqAt.RcNeAt.tuples pt PR eV key;rw[<- l1,<- l2,jk]at this;exact this
  | @lst _ p xs f ds h rs =>
   cases r;obtain⟨aJ,rv,pl,_⟩:=I.list (hN _ _ _ _ h);have pl:=pl.isList;cases h' with
   |bS _ _=>simp[di]at fY
   |bW=>cases r';exact⟨SeqAt.EqAt.list_none pl eV,SeqAt.RcAt.list_none pl eV,SeqAt.RcNeAt.list_none pl eV⟩
   |bl b=>cases r';exact⟨SeqAt.EqAt.list_bool b pl eV,SeqAt.RcAt.list_bool b pl eV,SeqAt.RcNeAt.list_bool b pl eV⟩
   |int b=>obtain⟨t,rfl⟩:=r';exact⟨SeqAt.EqAt.list_int b t pl eV,SeqAt.RcAt.list_int b t pl eV,SeqAt.RcNeAt.list_int b t pl eV⟩
   |tup h' rr=>cases r';obtain⟨its',_,pt,_⟩:=I.tuple h';exact⟨SeqAt.EqAt.list_tuple pl pt eV,SeqAt.RcAt.list_tuple pl pt eV,SeqAt.RcNeAt.list_tuple pl pt eV⟩
   | @lst _ p' xs' f' ds' h' qH =>
    cases r';obtain⟨m,hm,F7⟩:=eO ho;obtain rfl:n=m:=by left
    obtain⟨m,hm,qa⟩:=eO fY;obtain rfl:n=m:=by left
    obtain⟨its',yJ,FP,_⟩:=I.list (Cd _ _ _ _ h');have FP:=FP.isList;have key:=sub rs qH F7 qa rv yJ;have l1:ds.length=aJ.toArray.size:=by rw[List.size_toArray,<- rs.length,rv.length]
    have l2:ds'.length=its'.toArray.size:=by rw[List.size_toArray,<- qH.length,yJ.length]
    have two:SeqAt.RcAt A s (.ref p) (.ref p') (kD (.lst f ds) (.lst f' ds'))/\SeqAt.RcNeAt A s (.ref p) (.ref p') (!kD (.lst f ds) (.lst f' ds')):=by
     show SeqAt.RcAt A s (.ref p) (.ref p') (dD ds ds')/\SeqAt.RcNeAt A s (.ref p) (.ref p') (!dD ds ds');rw[<- jk];by_cases hl:ds.length=ds'.length
     ·have e1:(ds.length==ds'.length)=true:=by simp[hl]
      rw[e1,Bool.and_true,<- hl,Nat.min_self];have hz:aJ.toArray.size=its'.toArray.size:=by rw[<- l1,<- l2,hl]
      refine⟨?_,?_⟩
      ·have:=SeqAt.RcAt.lists pl FP hz eV key;rw[<- l1]at this;exact this
      ·have:=SeqAt.RcNeAt.lists pl FP hz eV key;rw[<- l1]at this;exact this
     ·have e1:(ds.length==ds'.length)=false:=by simp[hl]
      rw[e1,Bool.and_false];have hz:(aJ.toArray.size != its'.toArray.size)=true:=by rw[<- l1,<- l2];simp[hl]
      exact⟨SeqAt.RcAt.lists_lengths pl FP hz eV,SeqAt.RcNeAt.lists_lengths pl FP hz eV⟩
    refine⟨?_,two.1,two.2⟩;by_cases hp:p=p'
    ·subst hp;rw[zu I hN Cd (n+1) (Rep.lst h rs) (Rep.lst h' qH) ho fY];exact abv _
    ·exact SeqAt.EqAt.of_refs hp two.1
  |bS _ _=>simp[di]at ho
end
structure Px where
 pe:Nat->Scope->aq->Expr->Option (aA)
 pi:Nat->Scope->aq->Expr->Option (aA)
 pm:Nat->Scope->aq->Stmt->Option (Expr×aA)
 p2:Nat->Scope->aq->Stmt->Option (Expr×aA):=λ_ _ _ _=>none
structure Sx where
 sc:Scope
 N:aq
 fn:Nat->Option Str
 bl:aq
 cs:List (Str×GK)
 px:Px
noncomputable def MY:Fx->Operator
 |.add=>.Add|.sub=>.Sub|.mul=>.Mult|.fdiv=>.FloorDiv|.mod=>.Mod|.pow=>.Pow|.shl=>.LShift
noncomputable def RL:yX->CmpOp
 |.eq=>.Eq|.ne=>.NotEq|.lt=>.Lt|.le=>.LtE|.gt=>.Gt|.ge=>.GtE
noncomputable def tyName:Ty->String
 |.int=>"int" |.bool=>"bool" |.list=>"list" |.tuple=>"tuple"
noncomputable def qB:Bf->String
 |.len=>"len" |.abs=>"abs" |.list1=>"list" |.tuple1=>"tuple" |.jc=>"sum" |.all1=>"all" |.gn=>"sorted"
noncomputable def GH(sc:Scope)(x:Str):Bool:=decide (sc.names.lookup x=some .local)||decide (sc.names.lookup x=some .cell)||decide (sc.names.lookup x=some .free)
noncomputable def gb(sc:Scope)(x:Str):Bool:=decide (sc.names.lookup x=some .globalImplicit)
noncomputable def mN(x:Str):Bool:=!(x==("__debug__" : Str))&&!(x==("__classdict__" : Str))&&decide (x≠("__name__" : Str))
noncomputable def oN:Expr->Bool
 |.Set _ _ _=>false
 |_=>true
noncomputable def rB(sc outer:Scope):Scope :=
 { sc with names:=sc.names.map λ(n,k)=>if (k==.free&&outer.kind==.function&&outer.names.lookup n==some .cell)then(n,.cell)else(n,k) }
noncomputable def bU:Expr->aq
 |.Name x _=>[x]
 |.Tuple es _ _=>es.filterMap λe=>match e with|.Name x _=>some x|_=>none
 |_=>[]
noncomputable def fN(S:Sx)(caps:aO):aq:=caps.filterMap λi=>S.N[i]?
def Sx.inner(S:Sx)(target:Expr)(caps:aO)(sc:Scope):Sx:=⟨rB sc S.sc,bU target++fN S caps,S.fn,S.bl,S.cs,S.px⟩
noncomputable def hU:Expr->Bool
 |.Tuple _ _ _=>true
 |_=>false
noncomputable def isNm:Expr->Bool
 |.Name _ _=>true
 |_=>false
noncomputable def XJ:Expr->Bool
 |.Call ..=>true
 |.BinOp ..=>true
 |.Subscript ..=>true
 |.Compare ..=>true
 |.Dict ..=>true
 |_=>false
noncomputable def PZ:Expr->Bool
 |.Call ..=>true
 |.Name ..=>true
 |_=>false
theorem aL{a b:Bool}(h:(a&&b)=true):a=true/\b=true:=by
 cases a<;>cases b<;>first|exact⟨rfl,rfl⟩|cases h
noncomputable def bB{α:Type}(o:Option α)(f:α->Bool):Bool:=match o with
 |some a=>f a
 |none=>false
theorem bD{α:Type}{o:Option α}{f:α->Bool}(h:bB o f=true):∃a,o=some a/\f a=true:=by
 cases o with
 |some a=>exact⟨a,rfl,h⟩
 |none=>cases h
noncomputable def vC:Expr->Option Const
 |.Constant c _ _=>some c
 |_=>none
theorem y7{e:Expr}{c:Const}(h:vC e=some c):∃j p,e=.Constant c j p:=by
 cases e<;>first | (cases h;done) | (cases h;exact⟨_,_,rfl⟩)
noncomputable def AH:Const->Bool
 |.none=>true
 |_=>false
theorem xV{c:Const}(h:AH c=true):c=.none:=by cases c<;>first|rfl|cases h
noncomputable def F1(b:Bool):Const->Bool
 |.bool c=>decide (b=c)
 |_=>false
theorem AJ{b:Bool}{c:Const}(h:F1 b c=true):c=.bool b:=by cases c<;>first | (cases h;done)|rw[of_decide_eq_true h]
noncomputable def AI(b:Int):Const->Bool
 |.int c=>decide (b=c)
 |_=>false
theorem xW{b:Int}{c:Const}(h:AI b c=true):c=.int b:=by cases c<;>first | (cases h;done)|rw[of_decide_eq_true h]
noncomputable def CB:Expr->Option Str
 |.Name x _=>some x
 |_=>none
theorem kf{e:Expr}{x:Str}(h:CB e=some x):∃p,e=.Name x p:=by
 cases e<;>first | (cases h;done) | (cases h;exact⟨_,rfl⟩)
noncomputable def LV:Expr->Option (Expr×Operator×Expr)
 |.BinOp l o r _=>some (l,o,r)
 |_=>none
theorem CK{e l r:Expr}{o:Operator}(h:LV e=some (l,o,r)):∃p,e=.BinOp l o r p:=by
 cases e<;>first | (cases h;done) | (cases h;exact⟨_,rfl⟩)
noncomputable def QI:Expr->Option (UnaryOp×Expr)
 |.UnaryOp o e _=>some (o,e)
 |_=>none
theorem y4{e x:Expr}{o:UnaryOp}(h:QI e=some (o,x)):∃p,e=.UnaryOp o x p:=by
 cases e<;>first | (cases h;done) | (cases h;exact⟨_,rfl⟩)
noncomputable def vBool:Expr->Option (BoolOp×aA)
 |.BoolOp o vs _=>some (o,vs)
 |_=>none
theorem qN{e:Expr}{o:BoolOp}{vs:aA}(h:vBool e=some (o,vs)):∃p,e=.BoolOp o vs p:=by
 cases e<;>first | (cases h;done) | (cases h;exact⟨_,rfl⟩)
noncomputable def one{α:Type}:List α->Option α
 |[]=>none
 |x::xs=>match xs with
  |[]=>some x
  |_::_=>none
theorem b9{α:Type}{l:List α}{x:α}(h:one l=some x):l=[x]:=by
 cases l with
 |nil=>cases h
 |cons y ys=>cases ys with
  |nil=>cases h;rfl
  |cons _ _=>cases h
def two{α:Type}:List α->Option (α×α)
 |[]=>none
 |x::xs=>(one xs).map λy=>(x,y)
theorem gT{α:Type}{l:List α}{x y:α}(h:two l=some (x,y)):l=[x,y]:=by
 cases l with
 |nil=>cases h
 |cons z zs=>cases zs with
  |nil=>cases h
  |cons w ws=>cases ws with
   |nil=>cases h;rfl
   |cons _ _=>cases h
noncomputable def QL{α:Type}:List α->Option (α×List α)
 |[]=>none
 |x::xs=>some (x,xs)
theorem y_{α:Type}{l xs:List α}{x:α}(h:QL l=some (x,xs)):l=x::xs:=by
 cases l with
 |nil=>cases h
 |cons y ys=>cases h;rfl
noncomputable def CJ:Expr->Option (Expr×List CmpOp×aA)
 |.Compare l os rs _=>some (l,os,rs)
 |_=>none
theorem uY{e l:Expr}{os:List CmpOp}{rs:aA}(h:CJ e=some (l,os,rs)):∃p,e=.Compare l os rs p:=by
 cases e<;>first | (cases h;done) | (cases h;exact⟨_,rfl⟩)
noncomputable def tL:Expr->Option (Expr×aA×List Keyword)
 |.Call f as ks _=>some (f,as,ks)
 |_=>none
variable {args as elts:aA}
theorem xp{e f:Expr}{ks:List Keyword}(h:tL e=some (f,as,ks)):∃p,e=.Call f as ks p:=by
 cases e<;>first | (cases h;done) | (cases h;exact⟨_,rfl⟩)
def dF(e:Expr):Option (Str×aA):=match tL e with
 |some (f,as,ks)=>match ks with
  |[]=>match CB f with
   |some x=>some (x,as)
   |none=>none
  |_::_=>none
 |none=>none
theorem cG{e:Expr}{x:Str}(h:dF e=some (x,as)):∃p pos,e=.Call (.Name x p) as [] pos:=by
 unfold dF at h;cases hv:tL e with
 |none=>rw[hv]at h;cases h
 |some z =>
  obtain⟨f,QB,ks⟩:=z;rw[hv]at h;obtain⟨pos,rfl⟩:=xp hv;cases ks with
  |cons _ _=>cases h
  |nil =>
   cases hn:CB f with
   |none=>replace h:(match CB f with|some x=>some (x,QB)|none=>none)=some (x,as):=h;rw[hn]at h;cases h
   |some y =>
    replace h:(match CB f with|some x=>some (x,QB)|none=>none)=some (x,as):=h;rw[hn]at h;obtain⟨p,rfl⟩:=kf hn;cases h;exact⟨p,pos,rfl⟩
noncomputable def jF:Expr->Option (Expr×Expr)
 |.Subscript a b _=>some (a,b)
 |_=>none
theorem iy{e a b:Expr}(h:jF e=some (a,b)):∃p,e=.Subscript a b p:=by
 cases e<;>first | (cases h;done) | (cases h;exact⟨_,rfl⟩)
noncomputable def xo:Expr->Option (aA)
 |.Tuple es _ _=>some es
 |_=>none
theorem jE{e:Expr}{es:aA}(h:xo e=some es):∃n p,e=.Tuple es n p:=by
 cases e<;>first | (cases h;done) | (cases h;exact⟨_,_,rfl⟩)
noncomputable def tI:Expr->Option (aA)
 |.List es _=>some es
 |_=>none
theorem uX{e:Expr}{es:aA}(h:tI e=some es):∃p,e=.List es p:=by
 cases e<;>first | (cases h;done) | (cases h;exact⟨_,rfl⟩)
noncomputable def FA:Expr->Option (Expr×List Comprehension×Scope)
 |.ListComp e gs sc _=>some (e,gs,sc)
 |_=>none
theorem y6{e x:Expr}{gs:List Comprehension}{sc:Scope}(h:FA e=some (x,gs,sc)):∃p,e=.ListComp x gs sc p:=by
 cases e<;>first | (cases h;done) | (cases h;exact⟨_,rfl⟩)
theorem kX{a:Bool}(h:(!a)=true):a=false:=by cases a<;>first|rfl|cases h
def qu(S:Sx)(n:Nat)(t:Tg)(caps:aO)(target:Expr)(sc:Scope):Bool :=
 decide (sc.kind=.function)&&sc.names.all (λ(x,k)=>decide (k≠.cell)&&(decide (k≠.local)||decide (sc.names.lookup x=some .local))&&(decide (k≠.free)||decide (S.sc.names.lookup x=some .cell)||decide (S.sc.names.lookup x=some .free))) &&
 decide (n=(bU target).length)&&(bU target).all (λx=>decide (sc.names.lookup x=some .local))&&decide (bU target++fN S caps).Nodup &&
 caps.all (λi=>match S.N[i]? with|some x=>decide (sc.names.lookup x=some .free)|none=>false) &&
 (match t with
  |.nm i=>decide (i=0)&&isNm target
  |.tp is=>bB (xo target) λes=>decide (is=List.range es.length)&&es.all isNm)
mutual
noncomputable def cx(S:Sx):CE->Expr->Bool
 |.cF p es,e0=>XJ e0&&bB (S.px.pe p S.sc S.bl e0) λxs=>bP S es xs
 |.bW,e0=>bB (vC e0) λc=>AH c
 |.bl b,e0=>bB (vC e0) λc=>F1 b c
 |.int i,e0=>bB (vC e0) λc=>AI i c
 |.v i,e0=>bB (CB e0) λx=>decide (S.N[i]?=some x)&&GH S.sc x&&mN x
 |.glo x i,e0=>bB (CB e0) λy=>decide (y=x)&&gb S.sc x&&decide ((x,GK.i i)∈S.cs)&&!(x==("__debug__" : Str))
 |.glt x zs,e0=>bB (CB e0) λy=>decide (y=x)&&gb S.sc x&&decide ((x,GK.t zs)∈S.cs)&&!(x==("__debug__" : Str))
 |.bin op a b,e0=>bB (LV e0) λz=>decide (z.2.1=MY op)&&cx S a z.1&&cx S b z.2.2
 |.neg a,e0=>bB (QI e0) λz=>decide (z.1=.USub)&&cx S a z.2
 |.not a,e0=>bB (QI e0) λz=>decide (z.1=.Not)&&cx S a z.2
 |.and es,e0=>bB (vBool e0) λz=>decide (z.1=.And)&&bP S es z.2
 |.or es,e0=>bB (vBool e0) λz=>decide (z.1=.Or)&&bP S es z.2
 |.cmp op a b,e0=>bB (CJ e0) λz=>decide (z.2.1=[RL op])&&cx S a z.1&&bB (one z.2.2) λr=>cx S b r&&oN r
 |.jV a t,e0=>bB (dF e0) λz=>decide (z.1=("isinstance" : Str))&&gb S.sc z.1&&decide (z.1∈S.bl)&&bB (two z.2) λy=>cx S a y.1&&bB (CB y.2) λx=>decide (x=(tyName t:Str))&&gb S.sc x&&decide (x∈S.bl)
 |.call f es,e0=>bB (dF e0) λz=>decide (S.fn f=some z.1)&&gb S.sc z.1&&mN z.1&&bB (QL z.2) λy=>bP S es (y.1::y.2)
 |.bf f es,e0=>bB (dF e0) λz=>decide (z.1=(qB f:Str))&&gb S.sc z.1&&decide (z.1∈S.bl)&&bB (QL z.2) λy=>bP S es (y.1::y.2)
 |.iP a,e0=>bB (dF e0) λz=>decide (z.1=("len" : Str))&&gb S.sc z.1&&decide (z.1∈S.bl)&&bB (one z.2) λy=>bB (dF y) λw=>decide (w.1=("set" : Str))&&gb S.sc w.1&&decide (w.1∈S.bl)&&bB (one w.2) λu=>cx S a u
 |.ix a b,e0=>bB (jF e0) λz=>cx S a z.1&&cx S b z.2
 |.tup es,e0=>bB (xo e0) λxs=>bP S es xs&&decide (es.length<=1000)
 |.lst es,e0=>bB (tI e0) λxs=>bP S es xs&&decide (es.length<=1000)
 |.comp n t caps ik es bI elt,e0=>bB (FA e0) λz=>bB (one z.2.1) λg=>decide (g.is_async=0)&&qu S n t caps g.target z.2.2&&oN g.iter&&decide (bI.length<=1)&&bP (S.inner g.target caps z.2.2) bI g.ifs&&cx (S.inner g.target caps z.2.2) elt z.1 &&
     (match ik with
      |.lM=>bB (dF g.iter) λw=>decide (w.1=("range" : Str))&&gb S.sc w.1&&decide (w.1∈S.bl)&&bB (one w.2) λy=>bP S es [y]
      |.seq=>bP S es [g.iter]
      |.cF p=>PZ g.iter&&(decide (1100<=p)||hU g.target)&&bB (S.px.pi p S.sc S.bl g.iter) λxs=>bP S es xs)
noncomputable def bP(S:Sx):aF->aA->Bool
 |[],es=>match es with
  |[]=>true
  |_::_=>false
 |c::cs,es=>match es with
  |[]=>false
  |e::es=>cx S c e&&bP S cs es
end
def C9(K:av)(n:Nat)(m:aG):Sp:=λvs H Q _=>∃(F:ah) (ds:ae) (r:D),vs.length=n/\aD (aW K H) (nd K F (λ_=>False) (λ_=>none) H) [] 0 vs ds/\m ds=ok r /\
 ∀v H',aI H H'->(∃τt:Addr->Option bj,(∀p q,τt p=some q->H p=none)/\Rep (aW K H') (nd K (λp=>F p\/H p=none) (λ_=>False) τt H') [] v r)->Q v H'
structure Ks(X:Cx)(k:Nat)(x:Str)(m:aG):Prop where
 ex:∃(f:Addr) (fd:FuncData) (ps:aq),iT X.prog X.w X.K X.mg X.base yW k f fd ps (C9 X.K ps.length m)/\X.mg x=some (.ref f)/\PySem.W.keepIn X.K (.ref f)=true/\Binds X.K fd ps []/\∀ds r,m ds=ok r->ds.length=ps.length
noncomputable def kinds:List String:=["NoneType","bool","int","str","list","tuple","dict"]
def Ny:Ty->String->Bool
 |.int,s=>s == "int" ||s == "bool"
 |t,s=>s==tyName t
theorem aI.upd{H:Hp}{p:Addr}{o:HO}(h:H p=none):aI H (upd H p o):=λb u e=>by
 rw[aZ (by rintro rfl;rw[h]at e;cases e)];exact e
theorem rP{i j:Int}(h:eY i j=true):IntMulOk i j:=by
 unfold eY at h;simp only[Bool.or_eq_true,Bool.and_eq_true,decide_eq_true_eq]at h;rcases h with (h|h)|⟨h1,h2⟩
 ·exact .of_left (intBits_le h)
 ·exact .of_right (intBits_le h)
 ·have b1:Builtin.Int.intBits i<=9000:=intBits_le h1;have b2:Builtin.Int.intBits j<=9000:=intBits_le h2;unfold IntMulOk;have hb:Builtin.Int.intTooBig ((Builtin.Int.intBits i:Int)+(Builtin.Int.intBits j:Int))=false:=by
   unfold Builtin.Int.intTooBig;have:(bitsLine:Int)=134217728:=by decide
   exact aaT (by left)
  rw[hb];simp
section
variable {K:av}{R:ah}{τ τt:Addr->Option bj}{fv:aO}{H H':Hp}
theorem DL:jr X (binaryOp .Add) (λx y H Q=>∃a b xs ys,x=.ref a/\y=.ref b/\aW X.K H a xs/\aW X.K H b ys/\xs.length+ys.length<=sizeLine/\(xs=[]->Q (.ref b) H)/\(ys=[]->Q (.ref a) H)/\∀p,H p=none->Q (.ref p) (upd H p (.tup (xs++ys)))):=by
 intro pins s σ H x y v u Q I rx ry h;obtain⟨a,b,xs,ys,rfl,rfl,ha,hb,hz,q0,q1,q2⟩:=h;cases rx;cases ry;by_cases hx:xs=[]
 ·subst hx;obtain⟨aJ,r1,p1,_⟩:=I.tuple ha;obtain⟨lu,r2,p2,_⟩:=I.tuple hb;cases r1;obtain⟨⟨cls,dd,data,sl⟩,ho,hc,n,hd⟩:=id p1;obtain⟨⟨EN,wM,data2,vw⟩,qa,hc2,n2,hd2⟩:=id p2;simp only at hc hd hc2 hd2;subst hc hd hc2 hd2;exact concat_meets ⟨_,ho,rfl⟩ ⟨_,qa,rfl⟩ noFill_tuple_add seq_tuple_add abI abF (abz _ _)
   (tuple_addW0 a b [].toArray lu.toArray n n2 dd wM sl vw rfl) ⟨ho,qa,⟨.ref b,H,I,rfl,q0 rfl⟩⟩
 ·exact DK pins s σ H (.ref a) (.ref b) _ _ Q I rfl rfl ⟨a,b,xs,ys,rfl,rfl,ha,hb,hx,hz,q1,λ_=>q2⟩
theorem nd.ni(k k':bj)(p:Addr)(xs:Nd)(f:Fl)(h:nd K R A (λ_=>none) H k p xs f):nd K R A (λ_=>none) H k' p xs f:=by
 cases f with
 |ow=>exact nomatch h.2
 |fz=>exact h
 |al=>exact h
 |sc=>exact h
theorem M6(Si:SI X F R τ ρ σ H)(fr:∀p q,τt p=some q->H p=none)(k k':bj)(p:Addr)(xs:Nd)(f:Fl)(h:nd K R (jo (gP X F) τ fv) τt H' k p xs f):
  nd K R (jo (gP X F) τ fv) (λ_=>none) H' k' p xs (bo f):=by
 cases f with
 |ow=>exact⟨h.1,.inr (Si.same.free (fr p _ h.2)),λc i e=>absurd (fr p _ h.2) (Si.th p _ e)⟩
 |fz=>exact h
 |al=>exact h
 |sc=>exact h
theorem aD.eL{k:bj}{n:Nat}(h:aD (aW K H') (nd K R (jo (gP X F) τ fv) τt H') k n xs ds)(Si:SI X F R τ ρ σ H)(fr:∀p q,τt p=some q->H p=none){n':Nat}:
  aD (aW K H') (nd K R (jo (gP X F) τ fv) (λ_=>none) H') k' n' xs (aC bo ds):=aD.g_ (λ_ _ h=>h) (M6 Si fr) h _ _
theorem Rep.eL{k:bj}{v:V}{d:D}(h:Rep (aW K H') (nd K R (jo (gP X F) τ fv) τt H') k v d)(Si:SI X F R τ ρ σ H)(fr:∀p q,τt p=some q->H p=none):
  Rep (aW K H') (nd K R (jo (gP X F) τ fv) (λ_=>none) H') k' v (aY bo d):=Rep.g_ (λ_ _ h=>h) (M6 Si fr) h _
theorem aD.rep{A:ah}{xs:af}{ds:ae}(h:aD (aW K H) (nd K R A (λ_=>none) H) [] 0 xs (aC bo ds)):∀n:Nat,aD (aW K H) (nd K R A (λ_=>none) H) [] 0 (List.replicate n xs).flatten (aC bo (List.replicate n ds).flatten)
 |0=>.nil
 |n+1=>by
  rw[List.replicate_succ,List.replicate_succ,List.flatten_cons,List.flatten_cons,bg,List.map_append,<- bg,<- bg];exact aD.l9 nd.ni h (aD.rep h n)
theorem bY.rO{p:Addr}(hp:H p=none)(e:aI H H')(hl:H' p=some (.lst xs))(r:aD (aW K H') (nd K R (jo G τ fv) (λ_=>none) H') [] 0 xs ds):bY K G R τ fv H H' (.ref p) (.lst .ow ds):=by
 refine⟨λq=>if q=p then some []else none,λq k hq=>?_,.lst ⟨hl,by simp⟩ (r.imp (λ_ _ h=>h) λc q xs f h=>?_)⟩
 ·by_cases uk:q=p
  ·subst uk;exact hp
  ·simp[uk]at hq
 ·cases f with
  |ow=>exact nomatch h.2
  |fz=>exact h
  |al=>exact h
  |sc=>exact h
end
theorem DZ(K:av):∀t:Ty,∀s∈kinds,PySem.W.kitOne K (.type s) (.type (tyName t))=some (Ny t s):=by
 intro t s hs;simp only[kinds,List.mem_cons,List.not_mem_nil,or_false]at hs;cases t<;>rcases hs with rfl|rfl|rfl|rfl|rfl|rfl|rfl<;>rfl
structure PX(X:Cx)(sc:Scope)(bl:aq)(k:Nat):Prop where
 sc:X.env.scope=sc
 calm:X.calm=true
 room:fO k X.A
 bl:∀x∈bl,X.mg x=none
theorem PX.gl{sc:Scope}{bl:aq}{k:Nat}(L:PX X sc bl k){x:Str}(h:gb sc x=true):Gl X x:=by
 unfold Gl;show X.env.scope.names.lookup x=some .globalImplicit;rw[L.sc];exact aac h
def lJ(X:Cx)(F:ah)(Φ:a_):aF->aA->Prop
 |[],[]=>True
 |c::cs,a::as=>PE X a (tD X F Φ c)/\(∀es,starEach (a::es) X.env=(false,eval a X.env)::starEach es X.env)/\md a/\lJ X F Φ cs as
 |_,_=>False
structure sU(K:av)(H2:Hp)(vs:af)(xs:ae)(H':Hp):Prop where
 n0:∃R0:ah,aD (aW K H2) (nd K R0 (λ_=>False) (λ_=>none) H2) [] 0 vs (aC bp xs)/\∀p o,R0 p->H2 p=some o->H' p=some o
 tp:∀a ys,aW K H2 a ys->aW K H' a ys
structure O7(K:av)(J:It)(H2:Hp)(vs:af)(xs items:ae):Prop where
 go:∀i H' R',sU K H2 vs xs H'->aD (aW K H') (nd K R' (λ_=>False) (λ_=>none) H') [] 0 vs (aC bp xs)->i<items.length->J.go i H'
 s_:∀i H' R' x mf,sU K H2 vs xs H'->aD (aW K H') (nd K R' (λ_=>False) (λ_=>none) H') [] 0 vs (aC bp xs)->i<items.length->J.s_ i H' x mf->aI H' mf/\∃d,items[i]?=some d/\Rep (aW K mf) (nd K R' (λ_=>False) (λ_=>none) mf) [] x d
 stop:∀i H' R',sU K H2 vs xs H'->aD (aW K H') (nd K R' (λ_=>False) (λ_=>none) H') [] 0 vs (aC bp xs)->items.length<=i->J.stop i H'
structure uU(px:Px)(Φ:a_):Prop where
 e:∀(X:Cx) (sc:Scope) (bl:aq) (k:Nat),PX X sc bl k->∀(p:Nat) (e:Expr) (args:aA),px.pe p sc bl e=some args->∀(F:ah) (cs:aF),lJ X F Φ cs args->PE X e (tD X F Φ (.cF p cs))/\PT X e (gm X F Φ (.cF p cs))
 i:∀(X:Cx) (sc:Scope) (bl:aq) (k:Nat),PX X sc bl k->∀(p:Nat) (e:Expr) (args:aA),px.pi p sc bl e=some args->∀(F:ah) (cs:aF) (tg:Expr),(decide (1100<=p)||hU tg)=true->lJ X F Φ cs args ->
  ∀(pins:ao) (s:Shared) (σ:St) (H:Hp) (R:ah) (τ:Addr->Option bj) (ρ:bh) (xs:ae) (d:D) (items:ae),Inv X pins σ H s->SI X F R τ ρ σ H->cz Φ cs ρ=ok xs->Φ p xs=ok d->rg d=ok items->∀Rr:It->Hp->Prop,
   (∀J H2 vs,aI H H2->cq X.K (gP X F) R τ (dw cs) H H2 vs xs->O7 X.K J H2 vs xs items->Rr J H2) ->
   wpAny (model X.prog X.w) X.A (eval e X.env) (λv s1=>wpAny (model X.prog X.w) X.A (pyIter v) (Cf X pins σ tg Rr) X.xe s1) X.xe s
def B6(K:av):GK->Value->Prop
 |.i i,u=>RelV (.int i) u
 |.t zs,u=>∃(a:Addr) (o:Obj) (aJ:aM) (n:Nat),u=.ref a/\K.lookup a=some o/\o.cls=.type "tuple" /\ o.data=.seq aJ n/\aJ.size<=sizeLine/\Vals (zs.map V.int) aJ.toList
structure Lk(X:Cx)(S:Sx)(k:Nat)(Φ:a_):Prop where
 sc:X.env.scope=S.sc
 N:X.N=S.N
 nd:X.N.Nodup
 calm:X.calm=true
 room:fO k X.A
 bl:∀x∈S.bl,X.mg x=none
 fn:∀f x,S.fn f=some x->Ks X k x (Φ f)
 cs:∀x i,(x,i)∈S.cs->∃u,X.mg x=some u/\B6 X.K i u
 pr:uU S.px Φ
variable {S:Sx}{Φ:a_}
theorem Lk.pX{k:Nat}(L:Lk X S k Φ):PX X S.sc S.bl k:=⟨L.sc,L.calm,L.room,L.bl⟩
variable {Q:VK}{p' pos pos':Pos}
section
variable {X:Cx}{S:Sx}{k:Nat}{F:ah}{Φ:a_}
theorem Lk.gl(L:Lk X S k Φ){x:Str}(h:gb S.sc x=true):Gl X x:=by
 unfold Gl;show X.env.scope.names.lookup x=some .globalImplicit;rw[L.sc];exact aac h
theorem Lk.Pp(L:Lk X S k Φ){x:Str}(h:GH S.sc x=true):Kl X.env.scope x:=by
 unfold Kl;rw[L.sc];unfold GH at h;rw[Bool.or_eq_true,Bool.or_eq_true]at h;rcases h with (h|h)|h
 ·exact .inl (aac h)
 ·exact .inr (.inl (aac h))
 ·exact .inr (.inr (aac h))
theorem tD.intro{c:CE}{H:Hp}{R:ah}{d:D}(Si:SI X F R τ ρ σ H)(e:bx Φ c ρ=ok d)(h:∀v H',aI H H'->bY X.K (gP X F) R τ (gQ c) H H' v d->Q v H'):tD X F Φ c σ H Q:=⟨R,τ,ρ,d,Si,e,h⟩
theorem Rc(L:Lk X S k Φ){i:Nat}{x:Str}(h:cx S (.v i) (.Name x pos)=true):PE X (.Name x pos) (tD X F Φ (.v i)):=by
 replace h:=aL h;replace h:=And.intro (aL h.1) h.2;obtain⟨⟨h1,h2⟩,h3⟩:=h;unfold mN at h3;simp only[Bool.and_eq_true,Bool.not_eq_true']at h3;refine PE.imp (t7 (i:=i) (by rw[L.N];exact aac h1) (L.Pp h2) h3.1.1 h3.1.2) λσ H Q hq=>?_;obtain⟨R,τ,ρ,d,Si,ev,hq⟩:=hq;obtain⟨d',hd,rfl⟩:=zr ev
 ·obtain⟨v,hv,hr⟩:=Si.rep i d' hd;refine⟨v,hv,hq v H (aI.refl H) ⟨λ_=>none,λ_ _ h=>by simp at h,?_⟩⟩;refine Rep.map (q:=[i]) (q':=[]) (λ_ _ h=>h) (λc p xs f h=>?_) hr [] rfl;cases f with
  |ow =>
   refine⟨h.1,.inr (Si.t0 p _ h.2),λc' j e=>?_⟩;rw[h.2]at e;have e':=aap e;have:=aaR List.getLast? e';simp at this;show _∈[i];simp[this]
  |fz=>exact h
  |al=>exact h.2.elim
  |sc=>exact h
theorem j5{op:Fx}{x y d:D}(NP:op≠.add/\op≠.mul)(h:cD op x y=ok d):∃i j,x=.int i/\y=.int j:=by
 cases x with
 |int i=>cases y with
  |int j=>exact⟨i,j,rfl,rfl⟩
  |_=>cases op<;>first|exact nk h | (simp at NP;done)
 |_=>cases op<;>first|exact nk h | (simp at NP;done)
theorem Hb(L:Lk X S k Φ){op:Fx}{a b:CE}{l r:Expr}(ha:PE X l (tD X F Φ a))(hb:PE X r (tD X F Φ b)):PE X (.BinOp l (MY op) r pos) (tD X F Φ (.bin op a b)):=by
 have two:∀{σ:St} {H:Hp} {Q:VK} {r2:R2},(∃R τ ρ d,SI X F R τ ρ σ H/\bx Φ (.bin op a b) ρ=ok d/\(∀v H',aI H H'->bY X.K (gP X F) R τ (gQ (.bin op a b)) H H' v d->Q v H') /\
   ∀x y v u H',cD op x y=ok d->aI H H'->bY X.K (gP X F) R τ (gQ (.bin op a b)) H H' v x->bY X.K (gP X F) R τ (gQ (.bin op a b)) H H' u y->r2 v u H' Q)->FG r2 (tD X F Φ a) (tD X F Φ b) σ H Q:=by
  rintro σ H Q r2 ⟨R,τ,ρ,d,Si,ev,hq,hr⟩;obtain⟨x,ex,ev⟩:=aH ev;obtain⟨y,ey,ev⟩:=aH ev;refine tD.intro Si ex λv H1 e1 r1=>tD.intro (Si.go e1) ey λu H2 e2 r2=>?_;exact hr x y v u H2 ev (e1.trans e2) ((r1.go e2).mono λi hi=>aax _ hi) ((r2.old e1).mono λi hi=>aam _ hi)
 have AL:∀{C:Int->Int->Prop} {g:Int->Int->Int},jr X (binaryOp (MY op)) (rI C λi j=>.int (g i j))->(∀x y d,cD op x y=ok d->∃i j,x=.int i/\y=.int j/\C i j/\d=.int (g i j)) ->
   PE X (.BinOp l (MY op) r pos) (tD X F Φ (.bin op a b)):=by
  intro C g ho hd;refine PE.imp (z5 ho ha hb) λσ H Q hq=>?_;obtain⟨R,τ,ρ,d,Si,ev,hq⟩:=hq;refine two ⟨R,τ,ρ,d,Si,ev,hq,λx y v u H' eb e rv ru=>?_⟩;obtain⟨i,j,rfl,rfl,c,rfl⟩:=hd x y d eb;exact⟨i,j,rv.isInt,ru.isInt,c,hq _ H' e .int⟩
 cases op with
 |sub =>
  refine AL (C:=λ_ _=>True) (g:=λi j=>i - j) (HL λ_ _ _ _ _ _ _ _ q=>sub_int q) λx y d h=>?_;obtain⟨i,j,rfl,rfl⟩:=j5 (by simp) h;cases h;exact⟨_,_,rfl,rfl,trivial,rfl⟩
 |mod =>
  refine AL (C:=λ_ j=>j≠0) (g:=λi j=>i.fmod j) DJ λx y d h=>?_;obtain⟨i,j,rfl,rfl⟩:=j5 (by simp) h;obtain⟨h1,h⟩:=n9 h;subst h;exact⟨_,_,rfl,rfl,h1,rfl⟩
 |fdiv =>
  refine AL (C:=λ_ j=>o5 j=true) (g:=λi j=>i.fdiv j) (HL λi j _ _ _ _ _ hc q=>?_) λx y d h=>?_
  ·unfold o5 at hc;rw[Bool.and_eq_true]at hc;have h1:j≠0:=aac hc.1;have h2:j.natAbs<big:=aac hc.2;exact floordiv_int h1 q (.inl (PyProof.noPylong_of_log2 ((Nat.log2_lt (by left)).mpr h2)))
  ·obtain⟨i,j,rfl,rfl⟩:=j5 (by simp) h;obtain⟨h1,h⟩:=n9 h;subst h;exact⟨_,_,rfl,rfl,h1,rfl⟩
 |pow =>
  refine AL (C:=λi j=>jO i j=true) (g:=λi j=>i ^ j.toNat) (HL λi j _ _ _ _ _ hc q=>?_) λx y d h=>?_
  ·unfold jO at hc;simp only[Bool.and_eq_true,decide_eq_true_eq]at hc;exact pow_int_small hc.1.1 hc.1.2 hc.2 q
  ·obtain⟨i,j,rfl,rfl⟩:=j5 (by simp) h;obtain⟨h1,h⟩:=n9 h;subst h;exact⟨_,_,rfl,rfl,h1,rfl⟩
 |shl =>
  refine AL (C:=λi j=>jO i j=true) (g:=λi j=>i*2 ^ j.toNat) (HL λi j _ _ _ _ _ hc q=>?_) λx y d h=>?_
  ·unfold jO at hc;simp only[Bool.and_eq_true,decide_eq_true_eq]at hc;exact lshift_int_small hc.1.1 hc.1.2 hc.2 q
  ·obtain⟨i,j,rfl,rfl⟩:=j5 (by simp) h;obtain⟨h1,h⟩:=n9 h;subst h;exact⟨_,_,rfl,rfl,h1,rfl⟩
 |mul =>
  have hi:jr X (binaryOp .Mult) (rI (λi j=>eY i j=true) λi j=>.int (i*j)):=HL λi j _ _ _ _ _ hc q=>mul_int q (rP hc);refine PE.imp (z5 (hi.or HG) ha hb) λσ H Q hq=>?_;obtain⟨R,τ,ρ,d,Si,ev,hq⟩:=hq;refine two ⟨R,τ,ρ,d,Si,ev,hq,λx y v u H' eb e rv ru=>?_⟩;cases y with
  |int j =>
   cases x with
   |int i =>
    obtain⟨h1,eb⟩:=n9 eb;subst eb;exact .inl ⟨i,j,rv.isInt,ru.isInt,h1,hq _ H' e .int⟩
   |lst f a =>
    obtain⟨hc,eb⟩:=n9 eb
    ·subst eb;obtain⟨τt,fr,rp⟩:=rv;obtain⟨p,xs,rfl,hn,rs⟩:=rp.nQ;have hz:sizeLine=16777216:=aaY;have jX:ck=1000000:=rfl;refine .inr ⟨p,j,xs,rfl,ru.isInt,hn.lst hc.1,by left,by left,by rw[rs.length];left,λp' um=>?_⟩;have es:aI H' (upd H' p' (.lst (List.replicate j.toNat xs).flatten)):=aI.upd um;refine hq _ _ (e.trans es) (bY.rO (e.free um) (e.trans es) (aV) ?_);exact(aD.rep (rs.eL Si fr) j.toNat).imp (λ_ _ h=>aW.same es h) λ_ _ _ _ h=>nd.same es h
   |_=>cases eb
  |_=>cases x<;>cases eb
 |add =>
  refine PE.imp (z5 ((HK.or HJ).or DL) ha hb) λσ H Q hq=>?_;obtain⟨R,τ,ρ,d,Si,ev,hq⟩:=hq;refine two ⟨R,τ,ρ,d,Si,ev,hq,λx y v u H' eb e rv ru=>?_⟩;have hz:sizeLine=16777216:=aaY;have jX:ck=1000000:=rfl;cases x with
  |int i =>
   cases y with
   |int j =>
    cases eb;exact .inl (.inl ⟨i,j,rv.isInt,ru.isInt,hq _ H' e .int⟩)
   |_=>cases eb
  |lst f a =>
   cases y with
   |lst g b =>
    obtain⟨hc,eb⟩:=n9 eb
    ·subst eb;obtain⟨τt,fr,rp⟩:=rv;obtain⟨QG,Ln,Rt⟩:=ru;obtain⟨p,xs,rfl,hn,rs⟩:=rp.nQ;cases Rt with
     | @lst _ p2 xs2 _ _ K_ B9 =>
      refine .inl (.inr ⟨p,p2,xs,xs2,rfl,rfl,hn.lst hc.1,K_.lst hc.2.1,by rw[rs.length,B9.length];left,λp' um=>?_⟩);have es:aI H' (upd H' p' (.lst (xs++xs2))):=aI.upd um;refine hq _ _ (e.trans es) (bY.rO (e.free um) (e.trans es) (aV) ?_);rw[bg,List.map_append,<- bg,<- bg];exact(aD.l9 nd.ni (n:=0) (m:=0) (rs.eL Si fr) (B9.eL Si Ln)).imp (λ_ _ h=>aW.same es h) λ_ _ _ _ h=>nd.same es h
   |_=>cases eb
  |tup a =>
   cases y with
   |tup b =>
    obtain⟨hc,eb⟩:=n9 eb;subst eb;obtain⟨τt,fr,rp⟩:=rv;obtain⟨QG,Ln,Rt⟩:=ru;cases rp with
    | @tup _ p xs _ hn rs =>
     cases Rt with
     | @tup _ p2 xs2 _ K_ B9 =>
      have hl:=rs.length;have uo:=B9.length;refine .inr ⟨p,p2,xs,xs2,rfl,rfl,hn,K_,by rw[hl,uo];left,λz=>?_,λz=>?_,λp' um=>?_⟩
      ·subst z;cases rs;exact hq _ H' e ⟨λ_=>none,λ_ _ h=>by simp at h,.tup K_ (B9.eL Si Ln)⟩
      ·subst z;cases B9;refine hq _ H' e ⟨λ_=>none,λ_ _ h=>by simp at h,.tup hn ?_⟩;rw[List.append_nil];exact rs.eL Si fr
      ·have es:aI H' (upd H' p' (.tup (xs++xs2))):=aI.upd um;refine hq _ _ (e.trans es) ⟨λ_=>none,λ_ _ h=>by simp at h,.tup (aW.of aV) ?_⟩;rw[bg,List.map_append,<- bg,<- bg];exact(aD.l9 nd.ni (n:=0) (m:=0) (rs.eL Si fr) (B9.eL Si Ln)).imp (λ_ _ h=>aW.same es h) λ_ _ _ _ h=>nd.same es h
   |_=>cases eb
  |_=>cases y<;>cases eb
end
section
variable {T T':lg}{N N':gR}{P:Fl->Bool}
theorem Rep.without(hT:∀p xs,T p xs->T' p xs)(hN:∀k k' p xs f,P f=false->N k p xs f->N' k' p xs f){k:bj}{v:V}{d:D}(h:Rep T N k v d)(e:aT P d=false)(k':bj):Rep T' N' k' v d:=by
 have:=Rep.gen (g:=id) (P:=P) (N':=N') (C:=λ_ _=>True) (I:=λ_ _=>True) hT trivial (λ_ _ e=>e) (λ_ _ _ _ e _=>e) (λk k' p xs f _ e h=>hN k k' p xs f e h) h (k':=k') trivial e;rw[dB]at this;exact this
theorem aD.without(hT:∀p xs,T p xs->T' p xs)(hN:∀k k' p xs f,P f=false->N k p xs f->N' k' p xs f){k:bj}{n:Nat}(h:aD T N k n vs ds)(e:aQ P ds=false)(k':bj)(n':Nat):aD T' N' k' n' vs ds:=by
 have:=aD.gen (g:=id) (P:=P) (N':=N') (C:=λ_ _=>True) (I:=λ_ _=>True) hT trivial (λ_ _ e=>e) (λ_ _ _ _ e _=>e) (λk k' p xs f _ e h=>hN k k' p xs f e h) h (k':=k') (n':=n') trivial trivial e;rw[d_]at this;exact this
theorem Rep.jB(hT:∀p xs,T p xs->T' p xs)(hN:∀k p xs f,P f=false->N k p xs f->N' k p xs f){k:bj}{v:V}{d:D}(h:Rep T N k v d)(e:aT P d=false):Rep T' N' k v d:=by
 have:=Rep.gen (g:=id) (P:=P) (N':=N') (C:=λa b=>a=b) (I:=λa b=>a=b) hT rfl (λ_ _ e=>by rw[e]) (λ_ _ _ _ a b=>by rw[a,b]) (λk k' p xs f c e h=>by subst c;exact hN k p xs f e h) h rfl e;rw[dB]at this;exact this
theorem aD.jB(hT:∀p xs,T p xs->T' p xs)(hN:∀k p xs f,P f=false->N k p xs f->N' k p xs f){k:bj}{n:Nat}(h:aD T N k n vs ds)(e:aQ P ds=false):aD T' N' k n vs ds:=by
 have:=aD.gen (g:=id) (P:=P) (N':=N') (C:=λa b=>a=b) (I:=λa b=>a=b) hT rfl (λ_ _ e=>by rw[e]) (λ_ _ _ _ a b=>by rw[a,b]) (λk k' p xs f c e h=>by subst c;exact hN k p xs f e h) h rfl rfl e;rw[d_]at this;exact this
end
theorem Rep.pZ{R:ah}{H:Hp}{k:bj}{v:V}{d:D}(h:Rep (aW K H) (nd K R (λ_=>False) (λ_=>none) H) k v d):Rep (aW K H) (nd K R (λ_=>False) (λ_=>none) H) k' v d:=by
 have:=Rep.g_ (g:=id) (λ_ _ h=>h) nd.ni h k';rw[dB]at this;exact this
def gC(X:Cx)(R:ah)(τ:Addr->Option bj)(H:Hp)(v:V)(d:D):Prop :=
 ∃τt:Addr->Option bj,(∀p q,τt p=some q->τ p=none/\¬ R p/\X.H₀ p=none/\H p≠none)/\Rep (aW X.K H) (nd X.K R (λ_=>False) τt H) [] v d
section
variable {X:Cx}{F R:ah}{τ:Addr->Option bj}{ρ:bh}{σ:St}{H H':Hp}
theorem SI.set{i:Nat}{v:V}{d:D}(Si:SI X F R τ ρ σ H)(r:gC X R τ H v d)(hi:i<ρ.length):∃τ',SI X F R τ' (ρ.set i (some d)) (σ.set i (some v)) H:=by
 obtain⟨τt,ht,rp⟩:=r;refine⟨λp=>match τt p with|some q=>some (q++[i])|none=>τ p,⟨by simp[Si.len],λj d' hj=>?_,λp hp=>?_,Si.rh,Si.rf,λp q hq=>?_,λp q hq=>?_,Si.same⟩⟩
 ·by_cases de:j=i
  ·subst de;rw[List.getElem?_set_self hi]at hj;cases hj;refine⟨v,List.getElem?_set_self (by rw[<- Si.len];exact hi),rp.imp (q':=[j]) (λ_ _ h=>h) λc p xs f h=>?_⟩;cases f with
   |ow=>rw[List.append_nil]at h;exact⟨h.1,by simp only[h.2]⟩
   |fz=>exact h
   |al=>exact h
   |sc=>exact h
  ·rw[List.getElem?_set_ne (Ne.symm de)]at hj;obtain⟨w,hw,iD⟩:=Si.rep j d' hj;refine⟨w,by rw[List.getElem?_set_ne (Ne.symm de)];exact hw,iD.imp (λ_ _ h=>h) λc p xs f h=>?_⟩;cases f with
   |ow =>
    refine⟨h.1,?_⟩;cases q:τt p with
    |none=>simp only[q];exact h.2
    |some k=>have:=(ht p k q).1;rw[h.2]at this;cases this
   |fz=>exact h
   |al=>exact h
   |sc=>exact h
 ·cases q:τt p with
  |none=>simp only[q];exact Si.rt p hp
  |some k=>exact absurd hp (ht p k q).2.1
 ·cases z:τt p with
  |none=>simp only[z]at hq;exact Si.th p q hq
  |some k=>exact(ht p k z).2.2.2
 ·cases z:τt p with
  |none=>simp only[z]at hq;exact Si.t0 p q hq
  |some k=>exact(ht p k z).2.2.1
theorem ye{k:bj}{v:V}{d:D}(h:Rep (aW X.K H) (nd X.K R (λ_=>False) τ H) k v d)(ho:aT bR d=false):gC X R τ H v d :=
 ⟨λ_=>none,λ_ _ h=>by simp at h,Rep.without (P:=bR) (λ_ _ h=>h) (λk k' p xs f hf h=>by
  cases f with
  |ow=>cases hf
  |fz=>exact h
  |al=>exact h.2.elim
  |sc=>exact h) h ho _⟩
open Classical in
theorem SI.move{i:Nat}{d:D}(Si:SI X F R τ ρ σ H)(hd:ρ[i]?=some (some d)):∃v τ',σ[i]?=some (some v)/\SI X F R τ' (ρ.set i none) σ H/\gC X R τ' H v d:=by
 obtain⟨v,hv,rp⟩:=Si.rep i d hd;refine⟨v,λp=>match τ p with|some q=>if q.getLast?=some i then none else some q|none=>none,hv,⟨by simp[Si.len],λj d' hj=>?_,λp hp=>?_,Si.rh,Si.rf,λp q hq=>?_,λp q hq=>?_,Si.same⟩,
  λp=>match τ p with|some q=>if q.getLast?=some i then(if H p=none then none else some q.dropLast)else none|none=>none,λp q hq=>?_,rp.imp (q:=[i]) (q':=[]) (λ_ _ h=>h) λc p xs f h=>?_⟩
 ·by_cases de:j=i
  ·subst de;rw[List.getElem?_set]at hj;simp at hj
  ·rw[List.getElem?_set_ne (Ne.symm de)]at hj;obtain⟨w,hw,iD⟩:=Si.rep j d' hj;refine⟨w,hw,iD.imp (q:=[j]) (q':=[j]) (λ_ _ h=>h) λc p xs f h=>?_⟩;cases f with
   |ow =>
    refine⟨h.1,?_⟩;simp only[h.2];rw[if_neg (by simp;exact de)]
   |fz=>exact h
   |al=>exact h
   |sc=>exact h
 ·simp only[Si.rt p hp]
 ·cases z:τ p with
  |none=>simp only[z]at hq;cases hq
  |some k=>exact Si.th p k z
 ·cases z:τ p with
  |none=>simp only[z]at hq;cases hq
  |some k=>exact Si.t0 p k z
 ·cases z:τ p with
  |none=>simp only[z]at hq;cases hq
  |some k =>
   simp only[z]at hq ⊢;by_cases hl:k.getLast?=some i
   ·rw[if_pos hl];exact⟨rfl,(λhR=>by have:=Si.rt p hR;rw[z]at this;cases this),Si.t0 p k z,Si.th p k z⟩
   ·rw[if_neg hl]at hq;cases hq
 ·cases f with
  |ow =>
   refine⟨h.1,?_⟩;have hn:H p≠none:=h.1.ne;simp only[h.2];rw[if_pos (by simp),if_neg hn];simp
  |fz=>exact h
  |al=>exact h.2.elim
  |sc=>exact h
theorem wA(is:aO)(ρ:bh)(j:Nat)(d:D)(h:(h_ is ρ)[j]?=some (some d)):∃d',ρ[j]?=some (some d')/\d=(if j∈is then aY bp d' else d'):=by
 unfold h_ at h;rw[List.getElem?_mapIdx]at h;cases q:ρ[j]? with
 |none=>rw[q]at h;exact nk h
 |some o =>
  rw[q]at h;cases o with
  |none=>simp at h
  |some d' =>
   refine⟨d',rfl,?_⟩;by_cases hj:j∈is
   ·simp[hj]at h ⊢;exact h.symm
   ·simp[hj]at h ⊢;exact h.symm
open Classical in
theorem wB(Si:SI X F R τ ρ σ H)(es:aI H H'):
  ∃R' τ',(∀p,R p->R' p)/\SI X F R' τ' (h_ fv ρ) σ H'/\∀τt:Addr->Option bj,(∀p q,τt p=some q->H p=none)->∀(k k':bj) (p:Addr) (xs:Nd) (f:Fl),nd X.K R (jo (gP X F) τ fv) τt H' k p xs f->nd X.K R' (λ_=>False) (λ_=>none) H' k' p xs (bp f):=by
 have fK:=Si.go es;have fresh:∀p,H p=none->jo (gP X F) τ fv p:=λp hp=>⟨.inr (Si.same.free hp),λc i e=>absurd hp (Si.th p _ e)⟩
 refine⟨λp=>R p\/(H' p≠none/\jo (gP X F) τ fv p),λp=>if jo (gP X F) τ fv p then none else τ p,λp h=>.inl h,⟨by simp[h_,Si.len],λj d' hj=>?_,λp hp=>?_,λp hp=>?_,λp hp=>?_,λp q hq=>?_,λp q hq=>?_,fK.same⟩,λτt fr k k' p xs f h=>?_⟩
 ·obtain⟨d0,h0,e0⟩:=wA _ _ _ _ hj;obtain⟨w,hw,iD⟩:=fK.rep j d0 h0;refine⟨w,hw,?_⟩;by_cases Qf:j∈fv
  ·rw[if_pos Qf]at e0;subst e0;refine Rep.map (q:=[j]) (q':=[j]) (λ_ _ h=>h) (λc p xs f h=>?_) iD [] rfl;cases f with
   |ow =>
    refine⟨h.1,.inr ⟨h.1.ne,.inr (Si.t0 p _ h.2),λc' i' e'=>?_⟩⟩;rw[h.2]at e';have:=aaR List.getLast? (aap e');simp at this;subst this;exact Qf
   |fz=>exact⟨h.1,.inl h.2⟩
   |al=>exact h.2.elim
   |sc=>exact h
  ·rw[if_neg Qf]at e0;subst e0;refine iD.imp (q:=[j]) (q':=[j]) (λ_ _ h=>h) λc p xs f h=>?_;cases f with
   |ow =>
    refine⟨h.1,?_⟩;show(if jo (gP X F) τ fv p then none else τ p)=some (c++[j]);rw[if_neg (λz=>Qf (z.2 c j h.2))];exact h.2
   |fz=>exact⟨h.1,.inl h.2⟩
   |al=>exact h.2.elim
   |sc=>exact h
 ·rcases hp with hp|hp
  ·simp only[Si.rt p hp];split<;>rfl
  ·rw[if_pos hp.2]
 ·rcases hp with hp|hp
  ·exact fK.rh p hp
  ·exact hp.1
 ·rcases hp with hp|hp
  ·exact Si.rf p hp
  ·exact hp.2.1
 ·split at hq
  ·cases hq
  ·exact fK.th p q hq
 ·split at hq
  ·cases hq
  ·exact Si.t0 p q hq
 ·cases f with
  |ow=>exact⟨h.1,.inr ⟨h.1.ne,fresh p (fr p _ h.2)⟩⟩
  |fz=>exact⟨h.1,.inl h.2⟩
  |al=>exact⟨h.1,.inr ⟨h.1.ne,h.2⟩⟩
  |sc=>exact h
theorem qh{v:V}{d:D}(Si:SI X F R τ ρ σ H)(es:aI H H')(r:bY X.K (gP X F) R τ fv H H' v d):
  ∃R' τ',(∀p,R p->R' p)/\SI X F R' τ' (h_ fv ρ) σ H'/\Rep (aW X.K H') (nd X.K R' (λ_=>False) (λ_=>none) H') [] v (aY bp d):=by
 obtain⟨τt,fr,rp⟩:=r;obtain⟨R',τ',h1,h2,h3⟩:=wB (fv:=fv) Si es;exact⟨R',τ',h1,h2,Rep.g_ (λ_ _ h=>h) (h3 τt fr) rp _⟩
theorem sf(Si:SI X F R τ ρ σ H)(es:aI H H')(r:cq X.K (gP X F) R τ fv H H' vs ds):
  ∃R' τ',(∀p,R p->R' p)/\SI X F R' τ' (h_ fv ρ) σ H'/\aD (aW X.K H') (nd X.K R' (λ_=>False) (λ_=>none) H') [] 0 vs (aC bp ds):=by
 obtain⟨τt,fr,rp⟩:=r;obtain⟨R',τ',h1,h2,h3⟩:=wB (fv:=fv) Si es;exact⟨R',τ',h1,h2,aD.g_ (λ_ _ h=>h) (h3 τt fr) rp _ _⟩
theorem lO{v:V}{d:D}(h:Rep (aW X.K H) (nd X.K R (λ_=>False) (λ_=>none) H) [] v d):gC X R τ' H v d:=⟨λ_=>none,λ_ _ h=>by simp at h,h⟩
open Classical in
theorem FY{e:CE}{v:V}{d:D}(Si:SI X F R τ ρ σ H)(es:aI H H')(r:bY X.K (gP X F) R τ (gQ e) H H' v d):
  ∃R' τ',(∀p,R p->R' p)/\SI X F R' τ' (keep e d ρ).2 σ H'/\gC X R' τ' H' v (keep e d ρ).1:=by
 unfold keep;by_cases ha:aT bL d=true
 ·rw[if_pos ha];obtain⟨R',τ',h1,h2,h3⟩:=qh Si es r;exact⟨R',τ',h1,h2,lO h3⟩
 ·obtain⟨τt,fr,rp⟩:=r;rw[if_neg ha];refine⟨R,τ,λ_ h=>h,Si.go es,λp=>if H' p=none then none else τt p,λp q hq=>?_,?_⟩
  ·dsimp only at hq;split at hq
   ·cases hq
   ·rename_i hn;have hf:=fr p q hq;refine⟨?_,λhR=>Si.rh p hR hf,Si.same.free hf,hn⟩;cases z:τ p with
    |none=>rfl
    |some k=>exact absurd hf (Si.th p k z)
  ·have Qi:aT bL d=false:=by simpa using ha
   have st:∀{k:bj} {v:V} {d:D},Rep (aW X.K H') (nd X.K R (jo (gP X F) τ (gQ e)) τt H') k v d->aT bL d=false->Rep (aW X.K H') (nd X.K R (λ_=>False) (λp=>if H' p=none then none else τt p) H') k v d:=by
    intro k v d h ha;exact Rep.jB (P:=bL) (λ_ _ h=>h) (λk p xs f hf h=>by
     cases f with
     |ow=>exact⟨h.1,by show(if H' p=none then none else τt p)=_;rw[if_neg (h.1.ne)];exact h.2⟩
     |fz=>exact h
     |al=>cases hf
     |sc=>exact h) h ha
   exact st rp Qi
open Classical in
def tK(X:Cx)(F:ah)(Φ:a_)(c:CE):TE:=λσ H Q=>∃R τ ρ r,SI X F R τ ρ σ H/\ji Φ c ρ=ok r/\∀v H' R' τ',aI H H'->(∀p,R p->R' p)->SI X F R' τ' r.2 σ H'->gC X R' τ' H' v r.1->Q v H'
end
section
variable {T T':lg}{N N':gR}
theorem aD.child{q:bj}(hT:∀p xs,T p xs->T' p xs)(hN:∀c m p xs f,N (c++(m::q)) p xs f->N' (c++(m::q)) p xs f):∀{n:Nat} {vs:af} {ds:ae},aD T N q n vs ds->aD T' N' q n vs ds
 |_,_,_,.nil=>.nil
 |n,_,_,.cons h t=>.cons (Rep.imp (q:=n::q) (q':=n::q) hT (λc p xs f h=>hN c n p xs f h) h) (aD.child hT hN t)
theorem aD.vq{q:bj}{v:V}{d:D}:∀{n:Nat} {vs:af} {ds:ae},aD T N q n vs ds->Rep T N ((n+ds.length)::q) v d->aD T N q n (vs++[v]) (ds++[d])
 |n,_,_,.nil,h=>.cons (by simpa using h) .nil
 |n,_,_,.cons (ds:=ds) h t,h'=>.cons h (aD.vq t (by
   have e:n+(ds.length+1)=n+1+ds.length:=by left
   rw[List.length_cons,e]at h';exact h'))
end
variable {d0 d1:D}{n':Nd}
section
variable {X:Cx}{F R:ah}{τ:Addr->Option bj}{ρ:bh}{σ:St}{H:Hp}
theorem SI.own{i:Nat}(Si:SI X F R τ ρ σ H)(hi:ρ[i]?=some (some (.lst .ow ds))):∃p xs,σ[i]?=some (some (.ref p))/\H p=some (.lst xs)/\xs.length=ds.length/\τ p=some [i]/\aD (aW X.K H) (nd X.K R (λ_=>False) τ H) [i] 0 xs ds:=by
 obtain⟨v,hv,rp⟩:=Si.rep i _ hi;cases rp with
 |lst h r=>exact⟨_,_,hv,h.1,r.length,h.2,r⟩
theorem kl{H:Hp}{p:Addr}{n:Nd}{o:HO}(hp:dE H p n){a:Addr}(h:aW K H a ys):aW K (upd H p o) a ys:=by
 obtain⟨o0,K7,NM,K6⟩:=dE.some hp;have nO:∀a u,H a=some u->u≠o0->a≠p:=λa u e h z=>by subst z;rw[K7]at e;cases e;exact h rfl
 rcases h with (h|⟨o',h⟩)|h
 ·exact .inl (.inl (by rw[aZ (nO a _ h λz=>NM _ z.symm)];exact h))
 ·exact .inl (.inr ⟨o',by rw[aZ (nO a _ h λz=>K6 _ _ z.symm)];exact h⟩)
 ·exact .inr h
theorem SI.MK{i m:Nat}{v:V}{d:D}{p:Addr}{n:Nd}{o:HO}(Si:SI X F R τ ρ σ H)(hi:ρ[i]?=some (some d0))(hv:σ[i]?=some (some (.ref p)))(hp:dE H p n)(ht:τ p=some [i])
  (rs:aD (aW X.K H) (nd X.K R (λ_=>False) τ H) [i] 0 xs ds) (rk:gC X R τ H v d) (wj:dE (upd H p o) p n')
  (mk:∀{N:gR},N [i] p n' .ow->aD (aW X.K (upd H p o)) N [i] 0 xs' ds'->Rep (aW X.K (upd H p o)) N [i] (.ref p) d1)
  (hb:∀{N:gR},aD (aW X.K (upd H p o)) N [i] 0 xs ds->Rep (aW X.K (upd H p o)) N (m::[i]) v d->aD (aW X.K (upd H p o)) N [i] 0 xs' ds') :
  ∃τ',SI X F R τ' (ρ.set i (some d1)) σ (upd H p o)/\τ' p=some [i]/\aD (aW X.K (upd H p o)) (nd X.K R (λ_=>False) τ' (upd H p o)) [i] 0 xs' ds':=by
 obtain⟨τt,hτ,rp⟩:=rk;have Lc:i<ρ.length:=by
  by_cases z:i<ρ.length
  ·exact z
  ·rw[List.getElem?_eq_none (by left)]at hi;cases hi
 obtain⟨o0,K7,NM,K6⟩:=dE.some hp;have nR:∀a,R a->a≠p:=λa ha e=>by subst e;rw[Si.rt _ ha]at ht;cases ht
 have nT:∀a q,τt a=some q->a≠p:=λa q e z=>by subst z;rw[(hτ _ q e).1]at ht;cases ht
 have nO:∀a u,H a=some u->u≠o0->a≠p:=λa u e h z=>by subst z;rw[K7]at e;cases e;exact h rfl
 have keep:∀a,a≠p->(upd H p o) a=H a:=λa h=>aZ h;have I_:∀a ys,aW X.K H a ys->aW X.K (upd H p o) a ys:=λa ys h=>by
  rcases h with (h|⟨o',h⟩)|h
  ·exact .inl (.inl (by rw[keep a (nO a _ h λz=>NM _ z.symm)];exact h))
  ·exact .inl (.inr ⟨o',by rw[keep a (nO a _ h λz=>K6 _ _ z.symm)];exact h⟩)
  ·exact .inr h
 have Qk:∀a (z:Nd),a≠p->dE H a z->dE (upd H p o) a z:=λa z ne h=>h.at λu e=>by rw[keep a ne];exact e
 have Wb:∀{τ1:Addr->Option bj} q q' a (z:Nd),nd X.K R (λ_=>False) τ1 H q a z .sc->∀τ2,nd X.K R (λ_=>False) τ2 (upd H p o) q' a z .sc:=λq q' a z h τ2=>by
  obtain⟨ys,rfl,h⟩:=h.zB;exact h.elim (λ⟨o',w⟩=>.inl ⟨o',by rw[keep a (nO a _ w λz=>K6 _ _ z.symm)];exact w⟩) .inr
 have Wd:∀q a ys f,q≠[i]->nd X.K R (λ_=>False) τ H q a ys f->nd X.K R (λ_=>False) (λa=>match τt a with|some q=>some (q++[m,i])|none=>τ a) (upd H p o) q a ys f:=λq a ys f hq h=>by
  cases f with
  |ow =>
   have ne:a≠p:=λz=>by
    subst z;have:=h.2.symm.trans ht;exact hq (aap this)
   refine⟨Qk a ys ne h.1,?_⟩;cases z:τt a with
   |none=>simp only[z];exact h.2
   |some k=>have:=(hτ a k z).1;rw[h.2]at this;cases this
  |fz=>exact⟨Qk a ys (nR a h.2) h.1,h.2⟩
  |al=>exact h.2.elim
  |sc=>exact Wb q q a ys h _
 have VT:(match τt p with|some q=>some (q++[m,i])|none=>τ p)=some [i]:=by
  cases z:τt p with
  |none=>exact ht
  |some k=>exact absurd rfl (nT p k z)
 have Wc:aD (aW X.K (upd H p o)) (nd X.K R (λ_=>False) (λa=>match τt a with|some q=>some (q++[m,i])|none=>τ a) (upd H p o)) [i] 0 xs' ds':=hb (aD.child I_ (λc n a ys f h=>Wd _ a ys f (λz=>by
  have:=aaR List.length z;simp at this) h) rs) (rp.imp (q:=[]) (q':=[m,i]) I_ λc a ys f h=>by
  cases f with
  |ow =>
   rw[List.append_nil]at h;exact⟨Qk a ys (nT a _ h.2) h.1,by simp only[h.2]⟩
  |fz=>exact⟨Qk a ys (nR a h.2) h.1,h.2⟩
  |al=>exact h.2.elim
  |sc=>exact Wb _ _ a ys h _)
 refine⟨λa=>match τt a with|some q=>some (q++[m,i])|none=>τ a,⟨by simp[Si.len],λj d' hj=>?_,λa ha=>?_,λa ha=>?_,Si.rf,λa q hq=>?_,λa q hq=>?_,?_⟩,VT,Wc⟩
 ·by_cases de:j=i
  ·subst de;rw[List.getElem?_set_self Lc]at hj;cases hj;exact⟨.ref p,hv,mk ⟨wj,VT⟩ Wc⟩
  ·rw[List.getElem?_set_ne (Ne.symm de)]at hj;obtain⟨u,hu,ru⟩:=Si.rep j d' hj;refine⟨u,hu,ru.imp (q:=[j]) (q':=[j]) I_ λc a ys f h=>Wd _ a ys f (λz=>?_) h⟩;have:=aaR List.getLast? z;simp at this;exact de this
 ·cases z:τt a with
  |none=>simp only[z];exact Si.rt a ha
  |some k=>exact absurd ha (hτ a k z).2.1
 ·rw[keep a (nR a ha)];exact Si.rh a ha
 ·by_cases Wa:a=p
  ·subst Wa;rw[aV];simp
  ·rw[keep a Wa];cases z:τt a with
   |none=>simp only[z]at hq;exact Si.th a q hq
   |some k=>exact(hτ a k z).2.2.2
 ·cases z:τt a with
  |none=>simp only[z]at hq;exact Si.t0 a q hq
  |some k=>exact(hτ a k z).2.2.1
 ·intro a u e;have ne:a≠p:=λz=>by subst z;rw[Si.t0 _ _ ht]at e;cases e
  rw[keep a ne];exact Si.same a u e
theorem SI.ML{i m:Nat}{v:V}{d:D}{p:Addr}{n:Nd}{o:HO}(Si:SI X F R τ ρ σ H)(hi:ρ[i]?=some (some d0))(hv:σ[i]?=some (some (.ref p)))(hp:dE H p n)(ht:τ p=some [i])
  (rs:aD (aW X.K H) (nd X.K R (λ_=>False) τ H) [i] 0 xs ds) (rk:gC X R τ H v d) (wj:dE (upd H p o) p n')
  (mk:∀{N:gR},N [i] p n' .ow->aD (aW X.K (upd H p o)) N [i] 0 xs' ds'->Rep (aW X.K (upd H p o)) N [i] (.ref p) d1)
  (hb:∀{N:gR},aD (aW X.K (upd H p o)) N [i] 0 xs ds->Rep (aW X.K (upd H p o)) N (m::[i]) v d->aD (aW X.K (upd H p o)) N [i] 0 xs' ds') :
  ∃τ',SI X F R τ' (ρ.set i (some d1)) σ (upd H p o):=(Si.MK hi hv hp ht rs rk wj mk hb).imp λ_ h=>h.1
theorem SI.put{i m:Nat}{v:V}{d:D}{g:af->af}{p:Addr}(Si:SI X F R τ ρ σ H)(hi:ρ[i]?=some (some (.lst .ow ds)))(hv:σ[i]?=some (some (.ref p)))(hp:H p=some (.lst xs))(ht:τ p=some [i])
  (rs:aD (aW X.K H) (nd X.K R (λ_=>False) τ H) [i] 0 xs ds) (rk:gC X R τ H v d)
  (hb:∀{N:gR},aD (aW X.K (upd H p (.lst (g xs)))) N [i] 0 xs ds->Rep (aW X.K (upd H p (.lst (g xs)))) N (m::[i]) v d->aD (aW X.K (upd H p (.lst (g xs)))) N [i] 0 (g xs) ds') :
  ∃τ',SI X F R τ' (ρ.set i (some (.lst .ow ds'))) σ (upd H p (.lst (g xs))) :=
 Si.ML (n:=.l xs) (n':=.l (g xs)) hi hv hp ht rs rk aV (λh r=>.lst h r) hb
end
theorem jm{env:Env}:∀(names:List (Str×NameKind)) (acc:List (Str×Addr)),(∀x,(x,NameKind.free)∈names->∃c,env.cells.lookup x=some c) ->
  ∃cl,(forIn names acc (λ(y:Str×NameKind) (cs:List (Str×Addr))=>do
    let (name,kind):=y
    let mut cs:=cs
    if kind==.free then cs:=(name,<- cellOf env name)::cs
    pure (ForInStep.yield cs)):Sem (List (Str×Addr)))=pure cl /\
   (∀x c,cl.lookup x=some c->acc.lookup x=some c\/(env.cells.lookup x=some c/\(x,NameKind.free)∈names))/\(∀x,((x,NameKind.free)∈names\/(∃c,acc.lookup x=some c))->∃c,cl.lookup x=some c)
 |[],acc,_=>⟨acc,rfl,λx c h=>.inl h,λx h=>h.elim (λh=>nomatch h) id⟩
 | (n,kd)::names,acc,h=>by
  by_cases hk:kd=.free
  ·subst hk;obtain⟨c,hc⟩:=h n aaf;obtain⟨cl,e,h1,h2⟩:=jm names ((n,c)::acc) (λx hx=>h x (aae _ hx));refine⟨cl,?_,λx c' hx=>?_,λx hx=>?_⟩
   ·rw[List.forIn_cons];have e0:cellOf env n=pure c:=by unfold cellOf;rw[hc]
    simp only[beq_self_eq_true,if_true,e0,pure_bind];exact e
   ·rcases h1 x c' hx with z|z
    ·by_cases IB:x=n
     ·subst IB;simp at z;subst z;exact .inr ⟨hc,aaf⟩
     ·rw[List.lookup_cons]at z;have:(x==n)=false:=by simpa using IB
      rw[this]at z;exact .inl z
    ·exact .inr ⟨z.1,aae _ z.2⟩
   ·refine h2 x ?_;rcases hx with hx|⟨c',hx⟩
    ·rcases List.mem_cons.mp hx with z|z
     ·cases z;exact .inr ⟨c,by simp⟩
     ·exact .inl z
    ·by_cases IB:x=n
     ·subst IB;exact .inr ⟨c,by simp⟩
     ·refine .inr ⟨c',?_⟩;rw[List.lookup_cons];have:(x==n)=false:=by simpa using IB
      rw[this];exact hx
  ·obtain⟨cl,e,h1,h2⟩:=jm names acc (λx hx=>h x (aae _ hx));have hb:(kd==NameKind.free)=false:=by simpa using hk
   refine⟨cl,?_,λx c' hx=>(h1 x c' hx).imp id λz=>⟨z.1,aae _ z.2⟩,λx hx=>h2 x ?_⟩
   ·rw[List.forIn_cons];simp only[hb,Bool.false_eq_true,if_false,pure_bind];exact e
   ·rcases hx with hx|hx
    ·rcases List.mem_cons.mp hx with z|z
     ·cases z;exact absurd rfl hk
     ·exact .inl z
    ·exact .inr hx
variable {env:Env}
theorem uH{sc:Scope}(h:∀x,(x,NameKind.free)∈sc.names->∃c,env.cells.lookup x=some c):
  ∃cl,closureFor sc env=pure cl/\(∀x c,cl.lookup x=some c->env.cells.lookup x=some c)/\(∀x,(x,NameKind.free)∈sc.names->∃c,cl.lookup x=some c):=by
 obtain⟨cl,e,h1,h2⟩:=jm (env:=env) sc.names [] h;refine⟨cl,?_,λx c hx=>(h1 x c hx).elim (λz=>by simp at z) (·.1),λx hx=>h2 x (.inl hx)⟩;unfold closureFor;simp only[bind_pure];exact e
variable {P prog:aB}{e1 e2 iQ iter o target tg:Expr}{w:World}
theorem qp{A:az}{R:Result->Shared->Prop}{s:Shared}{elt:Expr}{ifs:aA}{scope:Scope}{it acc:Value}(I:Nat->Shared->Prop)
  (turn:∀n s,I n s->wpAny (model prog w) A (pyNext it) (λr s₁=>match r with
   |none=>R (.ok .next) s₁
   |some v=>wpAny (model prog w) A (letOwnedTupleGo target it v) (λ_ s₁=>wpAny (model prog w) A (assign target env v) (λ_ s₂ =>
     wpAny (model prog w) A (forIn ifs true λc r=>if r=true then do let ok <- isTrue c env (eval c env);pure (ForInStep.yield ok)else pure (ForInStep.yield r)) (λok s₃ =>
      if ok=true then wpAny (model prog w) A (eval elt env) (λx s₄ =>
       wpAny (model prog w) A (call (.builtin "list.append") [acc,x]) (λ_ s₅=>∃m,m<n/\I m s₅) (λ_ _=>False) s₄) (λ_ _=>False) s₃
      else ∃m,m<n/\I m s₃) (λ_ _=>False) s₂) (λ_ _=>False) s₁) (λ_ _=>False) s₁) (λ_ _=>False) s)
  (n:Nat) (h:I n s) :
  codeAny (model prog w) A (.compLoop (.ListComp elt [⟨target,iter,ifs,0⟩] scope pos) 0 it acc env) R s:=by
 refine codeAny_loop rfl I (λn s hI=>?_) n h;show wpAny _ A ((compTurn (.ListComp elt [⟨target,iter,ifs,0⟩] scope pos) 0 it acc env).onRaise (λx=>do noteFrame x env;theTreesLotGoes x)) _ _ s;refine wpAny_noted ?_;rw[compTurn_list];refine aaa (ace (aaa (aaw (turn n s hI) (λr s₁ h₁=>?_) λ_ _ h'=>h'.elim)));cases r with
 |none=>exact aab h₁
 |some v =>
  refine aaa (aaw h₁ (λ_ s₂ h₂=>?_) λ_ _ h'=>h'.elim);refine aaa (aaw h₂ (λ_ s₂ h₂=>aaa (aaw h₂ (λok s₃ h₃=>?_) λ_ _ h'=>h'.elim)) λ_ _ h'=>h'.elim);cases ok with
  |false=>exact aab ⟨rfl,h₃⟩
  |true =>
   exact aaa (aaa (aaw h₃ (λx s₄ h₄=>aaa (aaw h₄ (λ_ s₅ h₅=>aab (aab ⟨rfl,h₅⟩)) λ_ _ h'=>h'.elim)) λ_ _ h'=>h'.elim))
noncomputable def dP(X:Cx)(N':aq)(scope:Scope)(cl:List (Str×Addr))(C:Addr)(s₀:Shared)(H₀:Hp)(fp:aR):Cx :=
 { X with N:=N',s₀:=s₀,H₀:=H₀,env:=compEnvC scope cl C X.env,outer:=X.stack,stack:=X.stack,ex:=fp,fn:=λ_=>false,pn:=[],xe:=λ_ _=>False }
theorem e6{env:Env}:∀{names:List (Str×NameKind)} {x:Str} {kd:NameKind},(names.map λ(n,k)=>if (k==NameKind.free&&env.scope.kind==.function&&env.kindOf n==some .cell)then(n,NameKind.cell)else(n,k)).lookup x=some kd ->
  names.lookup x=some kd\/(kd=.cell/\names.lookup x=some .free)
 |[],_,_,h=>by simp at h
 | (n,k)::r,x,kd,h=>by
  rw[List.map_cons]at h;cases hx:x==n with
  |true =>
   by_cases hc:(k==NameKind.free&&env.scope.kind==.function&&env.kindOf n==some .cell)=true
   ·simp only[hc,if_true,List.lookup_cons,hx]at h;cases h;simp only[Bool.and_eq_true,beq_iff_eq]at hc;refine .inr ⟨rfl,?_⟩;rw[List.lookup_cons,hx,hc.1.1]
   ·have yQ:(k==NameKind.free&&env.scope.kind==.function&&env.kindOf n==some .cell)=false:=by simpa using hc
    simp only[yQ,Bool.false_eq_true,if_false,List.lookup_cons,hx]at h;cases h;exact .inl (by rw[List.lookup_cons,hx])
  |false =>
   have:List.lookup x (r.map λ(n,k)=>if (k==NameKind.free&&env.scope.kind==.function&&env.kindOf n==some .cell)then(n,NameKind.cell)else(n,k))=some kd:=by
    by_cases hc:(k==NameKind.free&&env.scope.kind==.function&&env.kindOf n==some .cell)=true
    ·simp only[hc,if_true,List.lookup_cons,hx]at h;exact h
    ·have yQ:(k==NameKind.free&&env.scope.kind==.function&&env.kindOf n==some .cell)=false:=by simpa using hc
     simp only[yQ,Bool.false_eq_true,if_false,List.lookup_cons,hx]at h;exact h
   rw[List.lookup_cons,hx];exact e6 this
theorem cW{env:Env}:∀{names:List (Str×NameKind)} {x:Str},names.lookup x=some .free ->
  (names.map λ(n,k)=>if (k==NameKind.free&&env.scope.kind==.function&&env.kindOf n==some .cell)then(n,NameKind.cell)else(n,k)).lookup x=some .free \/
  (names.map λ(n,k)=>if (k==NameKind.free&&env.scope.kind==.function&&env.kindOf n==some .cell)then(n,NameKind.cell)else(n,k)).lookup x=some .cell
 |[],_,h=>by simp at h
 | (n,k)::r,x,h=>by
  rw[List.map_cons];cases hx:x==n with
  |true =>
   rw[List.lookup_cons,hx]at h;cases h;by_cases hc:(NameKind.free==NameKind.free&&env.scope.kind==.function&&env.kindOf n==some .cell)=true
   ·simp only[hc,if_true,List.lookup_cons,hx];exact .inr trivial
   ·have yQ:(NameKind.free==NameKind.free&&env.scope.kind==.function&&env.kindOf n==some .cell)=false:=by simpa using hc
    simp only[yQ,Bool.false_eq_true,if_false,List.lookup_cons,hx];exact .inl trivial
  |false =>
   rw[List.lookup_cons,hx]at h;by_cases hc:(k==NameKind.free&&env.scope.kind==.function&&env.kindOf n==some .cell)=true
   ·simp only[hc,if_true,List.lookup_cons,hx];exact cW h
   ·have yQ:(k==NameKind.free&&env.scope.kind==.function&&env.kindOf n==some .cell)=false:=by simpa using hc
    simp only[yQ,Bool.false_eq_true,if_false,List.lookup_cons,hx];exact cW h
theorem dm{names:List (Str×NameKind)}{x:Str}{kd:NameKind}(h:names.lookup x=some kd):(x,kd)∈names:=aa7 h
structure jz(S:Sx)(n:Nat)(t:Tg)(caps:aO)(target:Expr)(sc:Scope):Prop where
 kind:sc.kind=.function
 Ag:∀y∈sc.names,y.2≠.cell
 loc:∀y∈sc.names,y.2=.local->sc.names.lookup y.1=some .local
 free:∀x,(x,NameKind.free)∈sc.names->S.sc.names.lookup x=some .cell\/S.sc.names.lookup x=some .free
 n:n=(bU target).length
 tl:∀x∈bU target,sc.names.lookup x=some .local
 nd:(bU target++fN S caps).Nodup
 ck:∀i∈caps,∃x,S.N[i]?=some x/\sc.names.lookup x=some .free
 tg:(∃x p,t=.nm 0/\target=.Name x p)\/(∃es k p,t=.tp (List.range es.length)/\target=.Tuple es k p/\es.all isNm=true)
theorem o6{n:Nat}{t:Tg}{sc:Scope}(h:qu S n t caps target sc=true):jz S n t caps target sc:=by
 unfold qu at h;simp only[Bool.and_eq_true,decide_eq_true_eq,List.all_eq_true,Bool.or_eq_true]at h;obtain⟨⟨⟨⟨⟨⟨h1,h2⟩,h3⟩,h4⟩,h5⟩,h6⟩,h7⟩:=h;refine⟨h1,λy hy=>(h2 y hy).1.1,λy hy hk=>?_,λx hx=>?_,h3,h4,h5,λi hi=>?_,?_⟩
 ·rcases(h2 y hy).1.2 with z|z
  ·exact absurd hk z
  ·exact z
 ·rcases(h2 _ hx).2 with (z|z)|z
  ·exact absurd rfl z
  ·exact .inl z
  ·exact .inr z
 ·have:=h6 i hi;split at this
  ·rename_i x e;exact⟨x,e,aac this⟩
  ·cases this
 ·cases t with
  |nm i =>
   obtain⟨g1,g2⟩:=aL h7;obtain rfl:i=0:=aac g1;cases target<;>first | (cases g2;done)|exact .inl ⟨_,_,rfl,rfl⟩
  |tp is =>
   obtain⟨es,hv,g⟩:=bD h7;obtain⟨k,p,rfl⟩:=jE hv;obtain⟨g1,g2⟩:=aL g;obtain rfl:is=_:=aac g1;exact .inr ⟨es,k,p,rfl,rfl,g2⟩
theorem sP{S:Sx}:∀{caps:aO},(∀i∈caps,∃x,S.N[i]?=some x)->(fN S caps).length=caps.length/\∀(j i:Nat),caps[j]?=some i->(fN S caps)[j]?=S.N[i]?
 |[],_=>⟨rfl,λj i h=>by simp at h⟩
 |i::caps,h=>by
  obtain⟨x,hx⟩:=h i aaf;obtain⟨h1,h2⟩:=sP (caps:=caps) λj hj=>h j (aae _ hj);have e:fN S (i::caps)=x::fN S caps:=by unfold fN;rw[List.filterMap_cons,hx]
  rw[e];refine⟨by simp[h1],λj k hj=>?_⟩;cases j with
  |zero=>simp at hj;subst hj;simp[hx]
  |succ j=>simp at hj ⊢;exact h2 j k hj
variable {base h h' h₁:Heap}{ch fp:aR}
section
variable {X:Cx}{S:Sx}{k:Nat}{Φ:a_}{pins:ao}{σ:St}{H2:Hp}{s₂:Shared}
noncomputable def nY(n:Nat)(caps:aO)(σ:St):St:=List.replicate n none++caps.map λi=>σ[i]?.getD none
noncomputable def eD(aJ:ak)(n:Nat):Obj:={ cls:=.type "list",data:=.seq aJ.toArray n }
theorem EL{n:Nat}{t:Tg}{sc:Scope}{cl:List (Str×Addr)}(L:Lk X S k Φ)(co:jz S n t caps target sc)(I2:Inv X pins σ H2 s₂)
  (lB:∀x c,cl.lookup x=some c->X.env.cells.lookup x=some c) (ur:∀x,(x,NameKind.free)∈sc.names->∃c,cl.lookup x=some c) (Ef:∀b∈fp,nI X pins H2 b) (IT:∀b∈fp,b<s₂.heap.objs.size) :
  (dP X (bU target++fN S caps) sc cl (s₂.heap.objs.size+1) s₂ H2 fp).Ok:=by
 have NI:=I2.kj;refine⟨I2.ok.mod,co.kind,I2.ok.glob,I2.ok.blt,acb _,λx y c h1 h2=>I2.ok.inj x y c (lB x c h1) (lB y c h2),λx hx=>?_,(λ_ _ z=>by cases z),I2.ok.hd,I2.ok.frames,.inl rfl,λb hb=>⟨?_,λx c e=>(Ef b hb).2.2.2.2.1 x c (lB x c e)⟩,I2.bs,aaz I2.ok.Gm I2.sz,λb o e hb=>?_,λb hb z=>?_,I2.stack,I2.vo⟩
 ·have v_:(relabel sc X.env).names.lookup x=some .cell\/(relabel sc X.env).names.lookup x=some .free:=hx;rcases v_ with v_|v_
  ·rcases e6 v_ with z|z
   ·exact absurd rfl (co.Ag _ (dm z))
   ·exact ur x (dm z.2)
  ·rcases e6 v_ with z|z
   ·exact ur x (dm z)
   ·cases z.1
 ·exact aan (aaC (IT b hb))
 ·rcases(Ef b hb).2.2.2.1 with z|z
  ·exact I2.ok.Af b o e z
  ·exact absurd (aao (aai e) (aaz I2.ok.Gm z)) (aav _)
 ·rcases List.mem_cons.mp (NI b z)with w|w
  ·exact(Ef b hb).2.1 w
  ·exact(Ef b hb).2.2.1 w
theorem AK{n:Nat}{t:Tg}{sc:Scope}{cl:List (Str×Addr)}{tk:Nat}(L:Lk X S k Φ)(co:jz S n t caps target sc)(I2:Inv X pins σ H2 s₂)
  (lB:∀x c,cl.lookup x=some c->X.env.cells.lookup x=some c) (ur:∀x,(x,NameKind.free)∈sc.names->∃c,cl.lookup x=some c) (Ef:∀b∈fp,nI X pins H2 b) (IT:∀b∈fp,b<s₂.heap.objs.size)
  (yN:h₁.Ns (s₂.heap.objs.size+1) λ_=>none) (old:∀b o,s₂.heap.get? b=some o->h₁.get? b=some o) (cY:h₁.get? s₂.heap.objs.size=some (eD [] 0)) :
  Inv (dP X (bU target++fN S caps) sc cl (s₂.heap.objs.size+1) s₂ H2 fp) [(s₂.heap.objs.size,eD [] 0)] (nY n caps σ) H2 { s₂ with heap:=h₁,toks:=tk }:=by
 have jX:∀i∈caps,∃x,S.N[i]?=some x:=λi hi=>let ⟨x,e,_⟩:=co.ck i hi;⟨x,e⟩;obtain⟨Zg,Zf⟩:=sP jX;refine⟨EL L co I2 lB ur Ef IT,rfl,I2.bare,Un.kept old,⟨_,yN,λi x v e1 e2 e3=>?_⟩,λx c e=>?_,I2.cN.fresh (acb _),λx c e=>I2.iZ x c (lB x c e),λp hp=>?_,I2.cN.kept old,?_⟩
 ·unfold nY at e2;have hi:n<=i:=by
   by_cases hi:i<n
   ·rw[List.getElem?_append_left (by simpa using hi),List.getElem?_replicate,if_pos hi]at e2;cases e2
   ·left
  have Qu:(bU target++fN S caps)[i]?=some x:=e1;rw[List.getElem?_append_right (by rw[<- co.n];exact hi),<- co.n]at Qu;rw[List.getElem?_append_right (by simpa using hi),List.length_replicate,List.getElem?_map]at e2;cases hc:caps[i - n]? with
  |none=>rw[hc]at e2;cases e2
  |some ci =>
   rw[hc]at e2;rw[Zf _ _ hc]at Qu;obtain⟨x',Ut,Qh⟩:=co.ck ci (aar hc);rw[Ut]at Qu;cases Qu;have Lp:σ[ci]?=some (some v):=by
    have OC:σ[ci]?.getD none=some v:=aap e2;cases q:σ[ci]? with
    |none=>rw[q]at OC;cases OC
    |some o=>rw[q]at OC;simp at OC;rw[OC]
   have Sw:Kl X.env.scope x:=by
    unfold Kl;rw[L.sc];rcases co.free x (dm Qh)with z|z
    ·exact .inr (.inl z)
    ·exact .inr (.inr z)
   obtain⟨m,hn,hl⟩:=I2.loc;obtain⟨u,r,lk⟩:=hl ci x v (by rw[L.N];exact Ut) Lp Sw;refine⟨u,r,.inr ⟨?_,?_⟩⟩
   ·rcases cW (env:=X.env) Qh with z|z
    ·exact .inr z
    ·exact .inl z
   ·have Yz:∃c,X.env.cells.lookup x=some c/\s₂.heap.IsCell c (some u):=by
     rcases lk with ⟨z,_⟩|⟨_,z⟩
     ·have z':X.env.scope.names.lookup x=some .local:=z;rw[L.sc]at z';rcases co.free x (dm Qh)with w|w<;>(rw[w]at z';cases z')
     ·exact z
    obtain⟨c,ec,o,ho,hd⟩:=Yz;obtain⟨c',Wo⟩:=ur x (dm Qh);have:=lB x c' Wo;rw[ec]at this;cases this;exact⟨c,Wo,o,old _ _ ho,hd⟩
 ·obtain⟨v,o,ho,hd⟩:=I2.cell x c (lB x c e);exact⟨v,o,old _ _ ho,hd⟩
 ·have um:p=(s₂.heap.objs.size,eD [] 0):=by simpa [dP]using hp
  subst um;refine⟨cY,I2.cN.fresh (aak _),aan (aa8 _),λz=>?_,λv z=>by cases z⟩;rcases List.mem_cons.mp (I2.kj _ z)with w|w
  ·exact absurd w (aat I2.lt)
  ·exact I2.HS (aak _) w
 ·show(nY n caps σ).length=(bU target++fN S caps).length;unfold nY;rw[List.length_append,List.length_append,List.length_replicate,List.length_map,Zg,co.n]
end
theorem aD.snoc{T:lg}{N:gR}{k:bj}:∀{n:Nat} {vs:af} {ds:ae} {v:V} {d:D},aD T N k n vs ds->Rep T N ((n+ds.length)::k) v d->aD T N k n (vs++[v]) (ds++[d])
 |n,_,_,_,_,.nil,h=>.cons h .nil
 |n,_,_,_,_,.cons (ds:=ds) h t,r=>.cons h (aD.snoc t (by
  have e:n+(ds.length+1)=n+1+ds.length:=by left
  rw[List.length_cons,e]at r;exact r))
open Classical in
theorem cq.snoc{K:av}{G R:ah}{τ:Addr->Option bj}{fv:aO}{H H1 H2:Hp}{v:V}{d:D}{vs:af}{ds:ae}(e1:aI H H1)(e2:aI H1 H2)(h:cq K G R τ fv H H1 vs ds)(t:bY K G R τ fv H1 H2 v d):
  cq K G R τ fv H H2 (vs++[v]) (ds++[d]):=by
 obtain⟨τ1,f1,h1⟩:=h;obtain⟨τ2,f2,h2⟩:=t;refine⟨λp=>if H1 p=none then(τ2 p).map (· ++ [ds.length])else τ1 p,λp q hq=>?_,aD.snoc (h1.imp (q:=[]) (q':=[]) (λ_ _ h=>aW.same e2 h) λc p xs f h=>?_) ((Nat.zero_add ds.length).symm▸h2.imp (q:=[]) (q':=[ds.length]) (λ_ _ h=>h) λc p xs f h=>?_)⟩
 ·dsimp only at hq;by_cases hp:H1 p=none
  ·exact e1.free hp
  ·rw[if_neg hp]at hq;exact f1 p q hq
 ·have h':=nd.same e2 h;cases f with
  |ow =>
   refine⟨h'.1,?_⟩;show(if H1 p=none then(τ2 p).map (· ++ [ds.length])else τ1 p)=_;rw[if_neg (h.1.ne)];exact h.2
  |fz=>exact h'
  |al=>exact h'
  |sc=>exact h'
 ·cases f with
  |ow =>
   refine⟨h.1,?_⟩;show(if H1 p=none then(τ2 p).map (· ++ [ds.length])else τ1 p)=_;rw[if_pos (f2 p _ h.2),h.2];simp
  |fz=>exact h
  |al=>exact h
  |sc=>exact h
structure Yl(K:av)(J:It)(R:ah)(H1:Hp)(items:ae):Prop where
 go:∀i H',aI H1 H'->i<items.length->J.go i H'
 s_:∀i H' x mf,aI H1 H'->i<items.length->J.s_ i H' x mf->aI H' mf/\∃d,items[i]?=some d/\Rep (aW K mf) (nd K R (λ_=>False) (λ_=>none) mf) [] x d
 stop:∀i H',aI H1 H'->items.length<=i->J.stop i H'
variable {C i1 i2 l1 l2:Addr}{s₂:Shared}
section
variable {X:Cx}{S:Sx}{k:Nat}{F:ah}{Φ:a_}
def kn(X:Cx)(F:ah)(τ:Addr->Option bj)(fv:aO)(H2:Hp)(p:Addr):Prop:=H2 p≠none/\jo (gP X F) τ fv p
theorem tX{R:ah}{τt:Addr->Option bj}{H:Hp}(Si:SI X F R τ ρ σ H)(fr:∀p q,τt p=some q->H p=none)(hs:∀i∈fv,i∈fv')(kp kq:bj)(p:Addr)(xs:Nd)(f:Fl)
  (h:nd X.K R (jo (gP X F) τ fv) τt H2 kp p xs f):nd X.K (kn X F τ fv' H2) (λ_=>False) (λ_=>none) H2 kq p xs (bp f):=by
 cases f with
 |ow=>exact⟨h.1,h.1.ne,.inr (Si.same.free (fr p _ h.2)),λc i e=>absurd (fr p _ h.2) (Si.th p _ e)⟩
 |fz=>exact⟨h.1,h.1.ne,Si.rf p h.2,λc i e=>by rw[Si.rt p h.2]at e;cases e⟩
 |al=>exact⟨h.1,h.1.ne,h.2.mono hs⟩
 |sc=>exact h
theorem Cq{a:Addr}{R:ah}{q:bj}(hl:dh X.K H1 a xs)(rs:aD (aW X.K H1) (nd X.K R (λ_=>False) (λ_=>none) H1) q 0 xs items):Yl X.K (LB X.K a) R H1 items where
 go:=λi H' e hi=>⟨xs,xs[i]'(by rw[rs.length];exact hi),e.seq hl,aaq _⟩
 s_:=λi H' x mf e hi y=>by
  obtain⟨rfl,y⟩:=y;obtain⟨d,hd,rd⟩:=rs.yj (y xs (e.seq hl));refine⟨aI.refl _,d,hd,?_⟩;have:=Rep.g_ (g:=id) (λ_ _ h=>h) nd.ni rd [];rw[dB]at this;exact this.imp (λ_ _ h=>aW.same e h) λ_ _ _ _ h=>nd.same e h
 stop:=λi H' e hi=>⟨xs,e.seq hl,by rw[rs.length];exact hi⟩
theorem GA{a:Addr}{R:ah}{q:bj}(hl:aW X.K H1 a xs)(rs:aD (aW X.K H1) (nd X.K R (λ_=>False) (λ_=>none) H1) q 0 xs items):Yl X.K (LA X.K a) R H1 items where
 go:=λi H' e hi=>⟨xs,xs[i]'(by rw[rs.length];exact hi),aW.same e hl,aaq _⟩
 s_:=λi H' x mf e hi y=>by
  obtain⟨rfl,y⟩:=y;obtain⟨d,hd,rd⟩:=rs.yj (y xs (aW.same e hl));refine⟨aI.refl _,d,hd,?_⟩;have:=Rep.g_ (g:=id) (λ_ _ h=>h) nd.ni rd [];rw[dB]at this;exact this.imp (λ_ _ h=>aW.same e h) λ_ _ _ _ h=>nd.same e h
 stop:=λi H' e hi=>⟨xs,aW.same e hl,by rw[rs.length];exact hi⟩
theorem GB{lo:Int}{n:Nat}{R:ah}:Yl X.K (yH lo n) R H1 ((List.range n).map λ(k:Nat)=>D.int (lo+(k:Int))) where
 go:=λi H' e hi=>by simpa [yH]using hi
 s_:=λi H' x mf e hi y=>by
  obtain⟨rfl,rfl⟩:=y;have eP:i<n:=by simpa using hi
  exact⟨aI.refl _,.int (lo+i),by rw[List.getElem?_map,List.getElem?_range eP];rfl,.int _⟩
 stop:=λi H' e hi=>by simpa [yH]using hi
theorem zt{n:Nat}{t:Tg}{sc:Scope}{cl:List (Str×Addr)}{R:ah}(Si:SI X F R τ ρ σ H2)(hs:∀i∈caps,i∈fv):
  SI (dP X (bU target++fN S caps) sc cl C s₂ H2 fp) (jo (gP X F) τ fv) (kn X F τ fv H2) (λ_=>none) (bC n caps ρ) (nY n caps σ) H2:=by
 refine⟨by simp[bC,nY],λi d hi=>?_,λ_ _=>rfl,λp h=>h.1,λp h=>.inl h.2,λ_ _ h=>by simp at h,λ_ _ h=>by simp at h,aI.refl _⟩;unfold bC at hi;have hn:n<=i:=by
  by_cases hn:i<n
  ·rw[List.getElem?_append_left (by simpa using hn),List.getElem?_replicate,if_pos hn]at hi;cases hi
  ·left
 rw[List.getElem?_append_right (by simpa using hn),List.length_replicate,List.getElem?_map]at hi;cases hc:caps[i - n]? with
 |none=>rw[hc]at hi;exact nk hi
 |some ci =>
  rw[hc]at hi;have eP:(ρ[ci]?.getD none).map (aY bp)=some d:=aap hi;have hr:∃d0,ρ[ci]?=some (some d0)/\aY bp d0=d:=by
   cases q:ρ[ci]? with
   |none=>rw[q]at eP;cases eP
   |some o =>
    cases o with
    |none=>rw[q]at eP;cases eP
    |some d0=>rw[q]at eP;exact⟨d0,rfl,aap eP⟩
  obtain⟨d0,h0,rfl⟩:=hr;obtain⟨v,hv,rv⟩:=Si.rep ci d0 h0;refine⟨v,?_,Rep.g_ (λ_ _ h=>h) (λkp kq p xs f h=>?_) ((rv.imp (q:=[ci]) (q':=[ci]) (N':=λq p xs f=>nd X.K R (λ_=>False) τ H2 q p xs f/\(f=.ow->∃c,q=c++[ci])) (λ_ _ h=>h) λc p xs f h=>⟨h,λ_=>⟨c,rfl⟩⟩)) [i]⟩
  ·unfold nY;rw[List.getElem?_append_right (by simpa using hn),List.length_replicate,List.getElem?_map,hc];simp[hv]
  ·obtain⟨h,hq⟩:=h;cases f with
   |ow =>
    obtain⟨c,rfl⟩:=hq rfl;refine⟨h.1,h.1.ne,.inr (Si.t0 p _ h.2),λc' i' e=>?_⟩;rw[h.2]at e;have:=aaR List.getLast? (aap e);simp at this;subst this;exact hs _ (aar hc)
   |fz=>exact⟨h.1,h.1.ne,Si.rf p h.2,λc i e=>by rw[Si.rt p h.2]at e;cases e⟩
   |al=>exact h.2.elim
   |sc=>exact h
theorem Ai:∀{es:aA},es.all isNm=true->∃xs:List (Str×Pos),es=xs.map λx=>Expr.Name x.1 x.2
 |[],_=>⟨[],rfl⟩
 |e::es,h=>by
  rw[List.all_cons,Bool.and_eq_true]at h;obtain⟨xs,rfl⟩:=Ai h.2;cases e<;>simp[isNm]at h;exact⟨(_,_)::xs,rfl⟩
theorem tT(xs:List (Str×Pos)):(xs.map λx=>Expr.Name x.1 x.2).filterMap (λe=>match e with|.Name x _=>some x|_=>none)=xs.map (·.1):=by
 induction xs with
 |nil=>rfl
 |cons x xs ih=>simp[ih]
def Bg(i:Nat):Nat->Fp
 |0=>Jh
 |n+1=>Bh (oW i) (Bg (i+1) n)
theorem vJ{X:Cx}(hN:X.N.Nodup):∀(xs:List (Str×Pos)) (i:Nat),(∀(j:Nat) x,xs[j]?=some x->X.N[i+j]?=some x.1/\X.env.scope.names.lookup x.1=some .local) ->
  Ly X (xs.map λx=>Expr.Name x.1 x.2) (Bg i xs.length)/\(assignEach (xs.map λx=>Expr.Name x.1 x.2) X.env).length=xs.length/\(assignEach (xs.map λx=>Expr.Name x.1 x.2) X.env).findIdx? (·.1)=none
 |[],_,_=>⟨vI,rfl,rfl⟩
 |x::xs,i,h=>by
  obtain⟨h1,h2,h3⟩:=vJ hN xs (i+1) λj y hy=>by
   have:=h (j+1) y (by simpa using hy)
   rwa [show i+(j+1)=i+1+j by left]at this
  obtain⟨g1,g2⟩:=h 0 x rfl;refine⟨rH (pO hN g1 (.inl g2) (.inr g2)) h1 rfl,?_,?_⟩
  ·show(_::assignEach _ X.env).length=_;rw[List.length_cons,h2];rfl
  ·show(((false,assign (.Name x.1 x.2) X.env)::assignEach (xs.map λx=>Expr.Name x.1 x.2) X.env)).findIdx? (·.1)=none;rw[List.findIdx?_cons];simp[h3]
end
section
variable {X:Cx}{F R:ah}{τ:Addr->Option bj}{ρ:bh}{σ σ':St}{H:Hp}
theorem SI.Ms{i:Nat}{v:V}{d:D}(Si:SI X F R τ ρ σ H)(rp:Rep (aW X.K H) (nd X.K R (λ_=>False) (λ_=>none) H) [] v d)(hi:i<ρ.length):SI X F R τ (ρ.set i (some d)) (σ.set i (some v)) H:=by
 refine⟨by simp[Si.len],λj d' hj=>?_,Si.rt,Si.rh,Si.rf,Si.th,Si.t0,Si.same⟩;by_cases de:j=i
 ·subst de;rw[List.getElem?_set_self hi]at hj;cases hj;refine⟨v,List.getElem?_set_self (by rw[<- Si.len];exact hi),rp.imp (q':=[j]) (λ_ _ h=>h) λc p xs f h=>?_⟩;cases f with
  |ow=>exact nomatch h.2
  |fz=>exact h
  |al=>exact h
  |sc=>exact h
 ·rw[List.getElem?_set_ne (Ne.symm de)]at hj;obtain⟨w,hw,iD⟩:=Si.rep j d' hj;exact⟨w,by rw[List.getElem?_set_ne (Ne.symm de)];exact hw,iD⟩
theorem SI.sig(Si:SI X F R τ ρ σ H)(hl:σ'.length=σ.length)(h:∀(i:Nat) d,ρ[i]?=some (some d)->σ'[i]?=σ[i]?):SI X F R τ ρ σ' H :=
 ⟨by rw[hl];exact Si.len,λi d hi=>let ⟨v,hv,r⟩:=Si.rep i d hi;⟨v,by rw[h i d hi];exact hv,r⟩,Si.rt,Si.rh,Si.rf,Si.th,Si.t0,Si.same⟩
theorem mF{Q:St->Hp->Prop}(σ0:St)(hi:Nat):∀{m i:Nat} {vs:af} {ds:ae} {kp:bj} {q:Nat} {σ:St} {ρ ρ':bh},i+m=hi->aD (aW X.K H) (nd X.K R (λ_=>False) (λ_=>none) H) kp q vs ds->SI X F R τ ρ σ H->gI (List.range' i m) ds ρ=ok ρ' ->
  σ.length=σ0.length->(∀j,hi<=j->σ[j]?=σ0[j]?)->(∀σ',σ'.length=σ0.length->(∀j,hi<=j->σ'[j]?=σ0[j]?)->SI X F R τ ρ' σ' H->Q σ' H)->Bg i m vs σ H Q
 |0,_,_,_,_,_,σ,_,_,_,.nil,Si,e,h1,h2,hq=>by
  cases e;exact⟨rfl,hq σ h1 h2 Si⟩
 |0,_,_,_,_,_,_,_,_,_,.cons _ _,_,e,_,_,_=>by cases e
 |m+1,_,_,_,_,_,_,_,_,_,.nil,_,e,_,_,_=>by cases e
 |m+1,i,_,_,_,_,σ,ρ,_,him,.cons (v:=v) (d:=d) h t,Si,e,h1,h2,hq=>by
  change (if _ then _ else _)=_ at e;split at e
  ·rename_i eP;have fK:=Si.Ms (i:=i) (Rep.pZ h) eP;refine⟨_,_,rfl,mF σ0 hi (by left) t fK e (by simpa using h1) (λj hj=>?_) hq⟩;rw[List.getElem?_set_ne (by left)];exact h2 j hj
  ·cases e
end
section
variable {X:Cx}{S:Sx}{k:Nat}{F:ah}{Φ:a_}
theorem GQ{n:Nat}{t:Tg}{sc:Scope}{cl:List (Str×Addr)}(N2:X.calm=true)(co:jz S n t caps target sc):
  ∃g,PG (dP X (bU target++fN S caps) sc cl C s₂ H2 fp) target g/\∀(F' R':ah) (x:V) (d:D) (σ':St) (mf:Hp) (Q:St->Hp->Prop) (ρb ρ1:bh),
   SI (dP X (bU target++fN S caps) sc cl C s₂ H2 fp) F' R' (λ_=>none) ρb σ' mf->Rep (aW X.K mf) (nd X.K R' (λ_=>False) (λ_=>none) mf) [] x d->aT bR d=false->bV t d ρb=ok ρ1 ->
   (∀σ2,σ2.length=σ'.length->(∀j,n<=j->σ2[j]?=σ'[j]?)->SI (dP X (bU target++fN S caps) sc cl C s₂ H2 fp) F' R' (λ_=>none) ρ1 σ2 mf->Q σ2 mf)->g x σ' mf Q:=by
 have IM:∀x∈bU target,(relabel sc X.env).names.lookup x=some .local:=λx hx=>lookup_relabel_local (co.tl x hx);rcases co.tg with ⟨x,p,rfl,rfl⟩|⟨es,kk,p,rfl,rfl,yc⟩
 ·have hn:n=1:=co.n;subst hn;refine⟨oW 0,pO co.nd rfl (.inl (IM x (List.mem_singleton.mpr rfl:x∈[x]))) (.inr (IM x (List.mem_singleton.mpr rfl:x∈[x]))),λF' R' v d σ' mf Q ρb ρ1 Si rp _ e hq=>?_⟩;simp only[bV]at e;split at e
  ·rename_i hi;cases e;refine hq _ (by simp) (λj hj=>?_) (Si.Ms rp hi);rw[List.getElem?_set_ne (by left)]
  ·cases e
 ·obtain⟨xs,rfl⟩:=Ai yc;have hN:bU (.Tuple (xs.map λx=>Expr.Name x.1 x.2) kk p)=xs.map (·.1):=tT xs;have hn:n=xs.length:=by rw[co.n,hN,List.length_map]
  have:=vJ (X:=dP X (bU (.Tuple (xs.map λx=>Expr.Name x.1 x.2) kk p)++fN S caps) sc cl C s₂ H2 fp) co.nd xs 0 (λj y hy=>by
   refine⟨?_,IM y.1 (by rw[hN];exact List.mem_map.mpr ⟨y,aar hy,rfl⟩)⟩;show(bU (.Tuple (xs.map λx=>Expr.Name x.1 x.2) kk p)++fN S caps)[0+j]?=_;have hj:j<xs.length:=by
    by_cases hj:j<xs.length
    ·exact hj
    ·rw[List.getElem?_eq_none (by left)]at hy;cases hy
   rw[hN,Nat.zero_add,List.getElem?_append_left (by simpa using hj),List.getElem?_map,hy];rfl)
  obtain⟨h1,h2,h3⟩:=this;refine⟨_,zV N2 h1 h2 h3,λF' R' v d σ' mf Q ρb ρ1 Si rp ho e hq=>?_⟩;cases d<;>try (simp[bV]at e;done)
  rename_i ds;simp only[bV]at e;split at e
  ·cases e
  ·cases rp with
   | @tup _ a ys _ hp rs =>
    rw[List.length_map]at e;have e':gI (List.range' 0 xs.length) ds ρb=ok ρ1:=by rw[<- List.range_eq_range'];exact e
    refine⟨a,ys,rfl,hp,?_,mF (X:=dP X (bU (.Tuple (xs.map λx=>Expr.Name x.1 x.2) kk p)++fN S caps) sc cl C s₂ H2 fp) σ' n (by left) rs Si e' rfl (λ_ _=>rfl) hq⟩;rw[rs.length];have:∀(is:aO) (ds:ae) (ρ ρ':bh),gI is ds ρ=ok ρ'->ds.length=is.length:=by
     intro is;induction is with
     |nil=>intro ds ρ ρ' e;cases ds with|nil=>rfl|cons _ _=>cases e
     |cons i is ih=>intro ds ρ ρ' e;cases ds with
      |nil=>cases e
      |cons d ds =>
       change (if _ then _ else _)=_ at e;split at e
       ·simp[ih ds _ _ e]
       ·cases e
    rw[this _ _ _ _ e',List.length_range']
theorem Vn:∀f:Fl,bR (bp f)=false:=by intro f;cases f<;>rfl
mutual
theorem DR:∀d:D,aT bR (aY bp d)=false
 |.bW=>by simp[aY,aT]
 |.bl _=>by simp[aY,aT]
 |.int _=>by simp[aY,aT]
 |.tup ds=>by simp[aY,aT,fX ds]
 |.lst f ds=>by simp[aY,aT,fX ds,Vn]
 |.bS f ks vs=>by simp[aY,aT,fX vs,Vn]
theorem fX:∀ds:ae,aQ bR (aC bp ds)=false
 |[]=>by simp[aC,aQ]
 |d::ds=>by simp[aC,aQ,DR d,fX ds]
end
theorem wd{H:Hp}{a:Addr}{o:HO}(x:kP P w H h)(hn:H a=none)(new:cu P w (upd H a o) h a o):kP P w (upd H a o) h:=λb u e=>by
 by_cases hb:b=a
 ·subst hb;rw[aV]at e;cases e;exact new
 ·rw[aZ hb]at e;exact(x b u e).mD (λc v _ q=>q) (λc q=>by rw[aZ (b6 q hn)];exact q) λc xs q=>by rw[aZ (b6 q hn)];exact q
structure ZM(X X':Cx)(F' R':ah)(n:Nat)(base:bh)(σ0:St)(fp:aR)(tn:Nat->Heap->Prop)(H2:Hp)(D:Addr)(items:List DI.D)(bind:DI.D->O bh)(test:bh->O Bool)(el:bh->O DI.D)(all:List DI.D)(m:Nat)(s':Shared):Prop where
 ex:∃(i:Nat) (vs:af) (aJ:ak) (nn:Nat) (σ':St) (H':Hp) (dn rest:List DI.D),m=items.length - i/\i<=items.length/\Inv X' [(D,eD aJ nn)] σ' H' s'/\tn i s'.heap/\(∀b∈fp,H' b=none)/\Vals vs aJ/\aI H2 H' /\
  SI X' F' R' (λ_=>none) base σ' H'/\cq X.K (gP X' F') R' (λ_=>none) [] H2 H' vs dn/\gc bind test el (items.drop i)=ok rest/\dn++rest=all
end
theorem cq.go{R:Addr->Prop}{H:Hp}(h:cq K G R τ fv H H1 vs ds)(e:aI H1 H2):cq K G R τ fv H H2 vs ds :=
 let ⟨τt,h1,h2⟩:=h;⟨τt,h1,h2.imp (λ_ _ h=>aW.same e h) λ_ _ _ _ h=>nd.same e h⟩
theorem mM:∀{ds:ae} {d:D},aQ bR ds=false->d∈ds->aT bR d=false
 |[],_,_,h=>nomatch h
 |e::ds,d,h,hm=>by
  rw[aQ,Bool.or_eq_false_iff]at h;rcases List.mem_cons.mp hm with rfl|z
  ·exact h.1
  ·exact mM h.2 z
theorem xB{d:D}(h:rg d=ok items):∀d∈items,aT bR d=false:=by
 unfold rg at h;split at h
 ·cases h;exact λd hd=>mM (fX _) hd
 ·cases h
theorem ue{ik:IK}{xs:ae}(h:eF Φ ik xs=ok items):∀d∈items,aT bR d=false:=by
 cases ik with
 |cF p=>obtain⟨d,_,h⟩:=aH h;exact xB h
 |lM =>
  cases xs with
  |nil=>cases h
  |cons x t=>cases x<;>first | (cases h;done) | (cases t with
   |cons _ _=>cases h
   |nil =>
    obtain⟨_,h⟩:=n9 h;subst h;intro d hd;obtain⟨k,_,rfl⟩:=List.mem_map.mp hd;rfl)
 |seq =>
  cases xs with
  |nil=>cases h
  |cons x t=>cases x<;>first | (cases h;done) | (cases t with
   |cons _ _=>cases h
   |nil=>cases h;exact λd hd=>mM (fX _) hd)
theorem uh{n:Nat}{i:Nat}{d:D}(h:(bC n caps ρ)[i]?=some (some d)):n<=i:=by
 unfold bC at h;by_cases hn:i<n
 ·rw[List.getElem?_append_left (by simpa using hn),List.getElem?_replicate,if_pos hn]at h;cases h
 ·left
variable {c' elt:CE}{bI cs es:aF}
section
variable {X:Cx}{S:Sx}{k:Nat}{F:ah}{Φ:a_}
theorem Au{n:Nat}{t:Tg}{sc:Scope}{cl:List (Str×Addr)}(L:Lk X S k Φ)(co:jz S n t caps target sc):
  Lk (dP X (bU target++fN S caps) sc cl C s₂ H2 fp) (S.inner target caps sc) k Φ:=by
 refine⟨?_,rfl,co.nd,L.calm,L.room,L.bl,λf x h=>⟨(L.fn f x h).ex⟩,L.cs,L.pr⟩;show relabel sc X.env=rB sc S.sc;rw[<- L.sc];rfl
theorem sH(L:Lk X S k Φ){n:Nat}{t:Tg}{ik:IK}{ifs:aA}{sc:Scope}(co:jz S n t caps target sc)(yN:oN iter=true)
    (hE:∀(X':Cx) (F':ah),Lk X' (S.inner target caps sc) k Φ->PE X' iQ (tD X' F' Φ elt))
    (hC:(bI=[]/\ifs=[])\/∃c e,bI=[c]/\ifs=[e]/\∀(X':Cx) (F':ah),Lk X' (S.inner target caps sc) k Φ->PT X' e (gm X' F' Φ c))
    (hI:∀(pins:ao) (s:Shared) (σ:St) (H:Hp) (R:ah) (τ:Addr->Option bj) (ρ:bh) (xs items:ae),Inv X pins σ H s->SI X F R τ ρ σ H->cz Φ es ρ=ok xs->eF Φ ik xs=ok items->∀Rr:It->Hp->Prop,
      (∀J H2,aI H H2->Yl X.K J (kn X F τ (caps++dw es) H2) H2 items->Rr J H2)->wpAny (model X.prog X.w) X.A (eval iter X.env) (λv s1=>wpAny (model X.prog X.w) X.A (pyIter v) (Cf X pins σ target Rr) X.xe s1) X.xe s)
    {use:Option (Value->Sem Unit)} {Post:au} {pins:ao} {s:Shared} {H:Hp} {R:ah} {d:D} {Ul:Pos} (I:Inv X pins σ H s) (Si:SI X F R τ ρ σ H) (ev:bx Φ (.comp n t caps ik es bI elt) ρ=ok d)
    (NN:∀(acc C:Addr) (H1:Hp) (s1:Shared) (m:aX),s1.heap.Ns C m->(C≠X.env.locals/\X.s₀.heap.objs.size<=C/\(∀x c,X.env.cells.lookup x=some c->c≠C)/\(∀p∈X.pn++pins,p.1≠C)/\H1 C=none)->(∀h',Heap.SameBut C s1.heap h'->Inv X pins σ H1 { s1 with heap:=h' })->aI H H1 ->
      bY X.K (gP X F) R τ (gQ (.comp n t caps ik es bI elt)) H H1 (.ref acc) d->compPost (model X.prog X.w) X.A X.xe use Post (.ref acc) C (.ok .next) s1) :
    wpAny (model X.prog X.w) X.A (comprehension (.ListComp iQ [⟨target,iter,ifs,0⟩] sc pos) sc X.env Ul (newList []) false (eval iter X.env) use) Post X.xe s:=by
  obtain⟨xs,cy,ev⟩:=aH ev;obtain⟨items,uB,ev⟩:=aH ev;obtain⟨ds,JL,ev⟩:=aH ev;simp only[F2]at ev;obtain⟨jX,rfl⟩:=ev;have NS:=ue uB;obtain⟨cl,N1,lB,ur⟩:=uH (env:=X.env) (sc:=sc) (λx hx=>I.ok.has x (by
    show X.env.scope.names.lookup x=some .cell\/X.env.scope.names.lookup x=some .free;rw[L.sc];exact co.free x hx))
  have m9:∀x,foldedSetIterable iter X.env x=pure x:=by intro x;cases iter<;>first|rfl | (cases yN;done)
  refine wpAny_comprehension_free (use:=use) rfl m9 N1 co.kind co.loc (aaw (hI pins s σ H R τ ρ xs items I Si cy uB (λJ H2=>aI H H2/\Yl X.K J (kn X F τ (caps++dw es) H2) H2 items) (λJ H2 e y=>⟨e,y⟩)) (λxv s₁ h₁=>aaw h₁ (λR9 s₂ h₂=>?_) λ_ _ e=>e) λ_ _ e=>e);obtain⟨it,fp,tn,J,H2,rfl,I2,T,fu,f2,e2,yl⟩:=h₂;have sV:=Si.go e2;have IT:∀b∈fp,b<s₂.heap.objs.size:=λb hb=>let ⟨o,ho,_⟩:=T.obj 0 _ fu b hb;aai ho;refine aaB (wpAny_newFunctionEnv co.Ag (by intro y hy;simp at hy) (λh₁ qb m8=>?_) co.kind);dsimp only at qb m8 ⊢;generalize TR:s₂.heap.push { cls:=.type "list",dict:=none,data:=.seq ([]:ak).toArray }=G2 at qb m8 ⊢;have Wf:G2.objs.size=s₂.heap.objs.size+1:=by rw[<- TR,Heap.size_push]
  have Qj:s₂.heap.objs.size≠s₂.heap.objs.size+1:=aan (aa8 _);rw[Wf]at qb m8;have old:∀b o,s₂.heap.get? b=some o->h₁.get? b=some o:=λb o e=>m8.extBut b o (aan (aaC (aai e))) (aag _ (TR▸aag _ e));have cY:h₁.get? s₂.heap.objs.size=some (eD [] 0):=m8.extBut _ _ Qj (aag _ (TR▸aal _ rfl))
  let X':=dP X (bU target++fN S caps) sc cl (s₂.heap.objs.size+1) s₂ H2 fp
  let F':=jo (gP X F) τ (caps++dw es)
  let R':=kn X F τ (caps++dw es) H2
  have L':Lk X' (S.inner target caps sc) k Φ:=Au L co;have I4:=λtk=>AK (h₁:=h₁) (tk:=tk) L co I2 lB ur f2 IT (by simpa using qb) old cY;have S4:SI X' F' R' (λ_=>none) (bC n caps ρ) (nY n caps σ) H2:=zt (t:=t) sV (λi hi=>by simp[hi]);obtain⟨g,hg,AZ⟩:=GQ (X:=X) (S:=S) (cl:=cl) (fp:=fp) (s₂:=s₂) (H2:=H2) (C:=s₂.heap.objs.size+1) L.calm co;have TU:s₂.heap.objs.size∉X'.fs:=λz=>by
    rcases List.mem_cons.mp (I2.kj _ z)with w|w
    · exact absurd w (aat I2.lt)
    · exact I2.HS (aak _) w
  have IV:∀x c,cl.lookup x=some c->c≠s₂.heap.objs.size:=λx c e=>by
    obtain⟨v,q⟩:=I2.cell x c (lB x c e);exact aan q.lt
  have Ee:∀b∈fp,b≠X'.env.locals/\b∉X'.fs/\(b∈X'.ex\/X'.s₀.heap.objs.size<=b)/\(∀x c,X'.env.cells.lookup x=some c->c≠b):=λb hb =>
    ⟨aan (aaC (IT b hb)),λz=>by
      rcases List.mem_cons.mp (I2.kj b z)with w|w
      · exact(f2 b hb).2.1 w
      · exact(f2 b hb).2.2.1 w,.inl hb,λx c e=>(f2 b hb).2.2.2.2.1 x c (lB x c e)⟩
  have NX:∀b∈fp,b≠s₂.heap.objs.size:=λb hb=>aan (IT b hb);have fin:∀(vs:af) (aJ:ak) (nn:Nat) (σ':St) (H':Hp) (s1:Shared),Inv X' [(s₂.heap.objs.size,eD aJ nn)] σ' H' s1->Vals vs aJ->aI H2 H'->cq X.K (gP X' F') R' (λ_=>none) [] H2 H' vs ds ->
      compPost (model X.prog X.w) X.A X.xe use Post (.ref s₂.heap.objs.size) (s₂.heap.objs.size+1) (.ok .next) s1:=by
    intro vs aJ nn σ' H' s1 I1 rv sm Di;obtain⟨m,hn,_⟩:=I1.loc;obtain⟨pD,nD,_,_,_⟩:=I1.pin (s₂.heap.objs.size,eD aJ nn) (aam _ aaf);have bs:=I1.base;have FW:∀b o,s₂.heap.get? b=some o->b≠s₂.heap.objs.size+1:=λb o e=>aan (aaC (aai e));have XM:∀b o,s₂.heap.get? b=some o->b≠s₂.heap.objs.size:=λb o e=>aan (aai e);have QK:∀b u,H' b=some u->upd H' s₂.heap.objs.size (.lst vs) b=some u:=λb u e=>by rw[aZ (b6 e nD)];exact e
    have hlen:vs.length<=sizeLine:=by
      obtain⟨_,_,rr⟩:=Di;have hz:sizeLine=16777216:=aaY;have hc:ck=1000000:=rfl;rw[rr.length];left
    have IX:∀h',Heap.SameBut (s₂.heap.objs.size+1) s1.heap h'->Inv X pins σ (upd H' s₂.heap.objs.size (.lst vs)) { s1 with heap:=h' }:=λh' yM=>by
      have un:Un (yT X.stack) fp H2 (upd H' s₂.heap.objs.size (.lst vs)) s₂.heap h' :=
        ⟨λb o e n hb hx=>yM.extBut b o (FW b o e) (bs.keep b o e n hb hx),
         λb o e n hb hx=>let ⟨sl,q⟩:=bs.slot b o e n hb hx;⟨sl,yM.extBut b _ (FW b o e) q⟩,
         λb o e n hx=>by rw[aZ (XM b o e)];exact bs.free b o e n hx,
         λb o e hx=>let ⟨o',q⟩:=bs.there b o e hx;⟨o',yM.extBut b _ (FW b o e) q⟩,
         λb xs e=>QK b _ (bs.pq b xs e),λb o u e=>QK b _ (bs.oi b o u e),λb ps e=>let ⟨more,q⟩:=bs.pv b ps e;⟨more,QK b _ q⟩⟩
      have SV:kP X.prog X.w H' h':=λa o e=>(I1.cN a o e).mD (λb u hb q=>yM.extBut b u (by
        rintro rfl;have hf:H' (s₂.heap.objs.size+1)=none:=I1.free;rcases hb with z|z
        · rw[<- z,hf]at e;cases e
        · rw[hf]at z;cases z) q) (λ_ q=>q) λ_ _ q=>q
      have SU:kP X.prog X.w (upd H' s₂.heap.objs.size (.lst vs)) h':=wd SV nD ⟨hlen,aJ,nn,rv,yM.extBut _ _ Qj pD⟩;exact I2.OO (ch:=fp) I1.os un SU I1.bare λb hb=>⟨(f2 b hb).2.2.2.1,(f2 b hb).2.1,(f2 b hb).2.2.2.2.1,(f2 b hb).2.2.2.2.2⟩
    have eS:aI H' (upd H' s₂.heap.objs.size (.lst vs)):=aI.upd nD;obtain⟨τt,fr,rs⟩:=Di;have RS:s₂.heap.objs.size+1≠s₂.heap.objs.size:=Nat.succ_ne_self _;refine NN s₂.heap.objs.size (s₂.heap.objs.size+1) _ s1 m hn ⟨aat (aaC I2.lt),aci I2.sz,λx c e=>?_,λp hp=>?_,?_⟩ IX ((e2.trans sm).trans eS) ⟨λq=>if q=s₂.heap.objs.size then some []else τt q,λq z hz=>?_,.lst ⟨aV,by simp⟩ (aD.map (q:=[]) (q':=[]) (λ_ _ h=>aW.same eS h) (λc p ys f h=>?_) rs [] rfl)⟩
    · obtain⟨v,z⟩:=I2.cell x c e
      exact aan (aaC z.lt)
    · exact aan (aaC (aai (I2.pin p hp).1))
    · rw[aZ RS];exact I1.free
    · by_cases uk:q=s₂.heap.objs.size
      · rw[uk];exact e2.free (sm.free nD)
      · simp only[uk,if_false]at hz;exact e2.free (fr q z hz)
    · have h':=nd.same eS h
      have UW:∀p,gP X' F' p->jo (gP X F) τ (caps++dw es) p:=λp hp=>hp.elim id λz=>⟨.inr (sV.same.free z),λc i e=>absurd z (sV.th p _ e)⟩
      cases f with
      |ow =>
        have uk:p≠s₂.heap.objs.size:=by
          intro z;subst z;exact h.1.ne nD
        refine⟨h'.1,?_⟩;show(if p=s₂.heap.objs.size then some []else τt p)=_;rw[if_neg uk];exact h'.2
      |fz=>exact⟨h'.1,h'.2.2⟩
      |al=>exact⟨h'.1,UW p h'.2.1⟩
      |sc=>exact h'
  have W4:∀(P:ao) (ρ1:bh) (b:Bool) (σ2:St) (H5:Hp) (s6:Shared),gJ Φ bI ρ1=ok b->Inv X' P σ2 H5 s6->SI X' F' R' (λ_=>none) ρ1 σ2 H5 ->
      wpAny (model X.prog X.w) X.A (forIn ifs true λc r=>if r=true then do let ok <- isTrue c X'.env (eval c X'.env);pure (ForInStep.yield ok)else pure (ForInStep.yield r)) (λRM s7=>RM=b/\∃H7,Inv X' P σ2 H7 s7/\aI H5 H7) (λ_ _=>False) s6:=by
    intro P ρ1 b σ2 H5 s6 eb I6 S6;rcases hC with ⟨rfl,rfl⟩|⟨c,e,rfl,rfl,hPT⟩
    · rw[gJ]at eb;cases eb
      exact wpAny_tests_nil ⟨rfl,H5,I6,aI.refl _⟩
    · rw[gJ]at eb
      obtain⟨b',Y_,eb⟩:=aH eb;have hb:b'=b:=by
        cases b' with
        |true=>rw[if_pos rfl,gJ]at eb;cases eb;rfl
        |false=>rw[if_neg (by simp)]at eb;cases eb;rfl
      subst hb;refine wpAny_tests_one (aaw (hPT X' F' L' P s6 σ2 H5 (λWJ H7=>WJ=b'/\aI H5 H7) I6 ⟨R',_,ρ1,b',S6,Y_,λH7 e7=>⟨rfl,e7⟩⟩) (λWJ s7 ⟨H7,I7,hb,e7⟩=>⟨hb,H7,I7,e7⟩) λ_ _ e=>e)
  have loop:∀tk,codeAny (model X.prog X.w) X.A (.compLoop (.ListComp iQ [⟨target,iter,ifs,0⟩] sc pos) 0 (.ref it) (.ref s₂.heap.objs.size) X'.env)
      (compPost (model X.prog X.w) X.A X.xe use Post (.ref s₂.heap.objs.size) (s₂.heap.objs.size+1)) { s₂ with heap:=h₁,toks:=tk }:=by
    intro tk;refine qp (ZM X X' F' R' n (bC n caps ρ) (nY n caps σ) fp tn H2 s₂.heap.objs.size items (λd=>bV t d (bC n caps ρ)) (λρ'=>gJ Φ bI ρ') (λρ'=>bx Φ elt ρ') ds) ?_ items.length
      ⟨0,[],[],0,nY n caps σ,H2,[],ds,rfl,aaF _,I4 tk,T.keep _ _ _ fu (λb _ o e=>old b o e),λb hb=>(f2 b hb).1,.nil,aI.refl _,S4,.nil,by rw[List.drop_zero];exact JL,rfl⟩
    rintro m s' ⟨i,vs,aJ,nn,σ',H',dn,rest,hm,hi,I',aP,fr',rv,sm,fK,Di,fc,eall⟩;have Jj:∀b∈fp,nI X' [(s₂.heap.objs.size,eD aJ nn)] H' b:=λb hb=>⟨fr' b hb,(Ee b hb).1,(Ee b hb).2.1,(Ee b hb).2.2.1,(Ee b hb).2.2.2,λp hp=>by
      have um:p=(s₂.heap.objs.size,eD aJ nn):=by simpa [X',dP]using hp
      rw[um];exact(NX b hb).symm⟩
    by_cases cL:i<items.length
    · refine aaw (T.item X' rfl rfl rfl L.calm i _ s' σ' H' (λ_ _=>False) I' Jj aP (yl.go i H' sm cL)) (λr s1 h4=>?_) λ_ _ e=>e
      obtain⟨u,hr,h4⟩:=h4;subst hr;refine aaw h4 (λ_ s5 h5=>?_) λ_ _ e=>e;obtain⟨x,H5,I5,r5,y5,C6,Uk⟩:=h5;obtain⟨e5,dd,hd,rd⟩:=yl.s_ i H' x H5 sm cL y5;have U5:=I5.pinned (fp:=fp) (λb hb=>⟨Uk b hb,(Jj b hb).2⟩) (T.obj _ _ C6);have r_:items.drop i=dd::items.drop (i+1):=by
        rw[List.drop_eq_getElem_cons cL];rw[List.getElem?_eq_getElem cL]at hd;cases hd;rfl
      rw[r_,gc]at fc;obtain⟨ρ1,eb,fc⟩:=aH fc;obtain⟨bb,et,fc⟩:=aH fc;refine aaw (hg _ s5 σ' H5 x u (λσ2 H6=>H6=H5/\σ2.length=σ'.length/\(∀j,n<=j->σ2[j]?=σ'[j]?)/\SI X' F' R' (λ_=>none) ρ1 σ2 H5) U5 r5
        (AZ F' R' x dd σ' H5 _ (bC n caps ρ) ρ1 (fK.go e5) rd (NS dd (aar hd)) eb λσ2 g1 g2 g3=>⟨rfl,g1,g2,g3⟩)) (λ_ s6 h6=>?_) λ_ _ e=>e
      obtain⟨σ2,H6,I6,rfl,g1,g2,S6⟩:=h6;refine aaw (W4 _ ρ1 bb σ2 H6 s6 et I6 S6) (λRM s7 h7=>?_) λ_ _ e=>e;obtain⟨rfl,H7,I7,e7⟩:=h7;have QM:∀{P:ao} {σ3:St} {H8:Hp} {s8:Shared},Inv X' (P++gY fp s5.heap) σ3 H8 s8->tn (i+1) s8.heap/\∀b∈fp,H8 b=none:=λ{P σ3 H8 s8} I8 =>
        ⟨T.keep _ _ _ C6 λb hb o e=>(I8.pin (b,o) (aam _ (aam _ (gq hb e)))).1,λb hb=>by
          obtain⟨o,e,_⟩:=T.obj _ _ C6 b hb;exact(I8.pin (b,o) (aam _ (aam _ (gq hb e)))).2.1⟩
      have Gn:∀{H8:Hp},aI H7 H8->SI X' F' R' (λ_=>none) (bC n caps ρ) σ2 H8:=λ{H8} e8=>(fK.go ((e5.trans e7).trans e8)).sig g1 λj d hj=>g2 j (uh hj);cases RM with
      |false =>
        rw[if_neg (by simp)]at fc ⊢;exact⟨items.length - (i+1),by left,i+1,vs,aJ,nn,σ2,H7,dn,rest,rfl,cL,I7.jI,(QM I7).1,(QM I7).2,rv,(sm.trans e5).trans e7,Gn (aI.refl _),Di.go (e5.trans e7),fc,eall⟩
      |true =>
        rw[if_pos rfl]at fc ⊢;obtain⟨y,ey,fc⟩:=aH fc;obtain⟨ys,uy,fc⟩:=aH fc;cases fc;refine aaw (hE X' F' L' _ s7 σ2 H7 (λv H8=>aI H7 H8/\bY X.K (gP X' F') R' (λ_=>none) [] H7 H8 v y) I7 ⟨R',_,ρ1,y,S6.go e7,ey,λv H8 e8 r8=>⟨e8,?_⟩⟩) (λu8 s8 h8=>?_) λ_ _ e=>e
        · obtain⟨τt,fr,rr⟩:=r8
          exact⟨τt,fr,rr.imp (q:=[]) (q':=[]) (λ_ _ h=>h) λc p ys f h=>h.mono id (λh=>⟨h.1,λ_ _ e=>by cases e⟩) id⟩
        · obtain⟨v8,H8,I8,Xu,e8,r8⟩:=h8
          obtain⟨pD,nD,_,_,_⟩:=I8.pin (s₂.heap.objs.size,eD aJ nn) (aam _ (aax _ aaf));have hlen:aJ.length<=1000000:=by
            obtain⟨_,_,rr⟩:=Di;have h1:dn.length<=ds.length:=by rw[<- eall,List.length_append];left
            have hc:ck=1000000:=rfl;rw[<- rv.length,rr.length];left
          have hz:sizeLine=16777216:=aaY;refine abj abA ⟨_,pD,rfl⟩ PySem.F.entry_list_append (PySem.F.args_list_append_2 _ _) (PySem.list_append s₂.heap.objs.size aJ.toArray nn u8 (by rw[List.size_toArray];left)) ⟨pD,?_⟩;have q:=PySem.IsL.update pD (λx=>x.push u8);have NL:aJ.toArray.push u8=(aJ++[u8]).toArray:=by simp
          rw[NL]at q;obtain⟨P7,q'⟩:∃P7,(s8.heap.update s₂.heap.objs.size (Obj.mapSeq λx=>x.push u8)).get? s₂.heap.objs.size=some (eD (aJ++[u8]) P7):=⟨_,q⟩
          have Zp:Inv X' (gY fp s5.heap) σ2 H8 s8:=I8.iE λp hp=>I8.pin p (aam _ (aam _ hp));have WM:Inv X' (gY fp s5.heap) σ2 H8 { s8 with heap:=s8.heap.update s₂.heap.objs.size (Obj.mapSeq λx=>x.push u8),toks:=s8.toks } :=
            Zp.turned (it:=s₂.heap.objs.size) (λb o hb e=>(aaJ s8.heap (Obj.mapSeq λx=>x.push u8) (abE hb)).trans e) nD Qj (.inr (aak _)) IV λp hp=>by
              have um:p∈gY fp s5.heap:=by simpa [X',dP]using hp
              exact NX p.1 (oM um).1
          have kp:=QM (P:=[]) (by rw[List.nil_append];exact WM);refine⟨items.length - (i+1),by left,i+1,vs++[v8],aJ++[u8],P7,σ2,H8,dn++[y],ys,rfl,cL,WM.iE (λp hp=>?_),kp.1,kp.2,rv.append (.cons Xu .nil),((sm.trans e5).trans e7).trans e8,Gn e8,cq.snoc ((sm.trans e5).trans e7) e8 (Di.go (e5.trans e7)) r8,uy,by rw[List.append_assoc];exact eall⟩;have um:p=(s₂.heap.objs.size,eD (aJ++[u8]) P7):=by simpa using hp
          rw[um];exact⟨q',nD,Qj,TU,λv z=>by cases z⟩
    · refine aaw (T.done X' rfl rfl rfl L.calm i _ s' σ' H' (λ_ _=>False) I' Jj aP (yl.stop i H' sm (by left))) (λr s1 h1=>?_) λ_ _ e=>e
      obtain⟨hr,I1⟩:=h1;subst hr;have S9:items.drop i=[]:=abK (by left);rw[S9,gc]at fc;cases fc;rw[List.append_nil]at eall;subst eall;exact fin vs aJ nn σ' H' s1 I1 rv sm Di
  have key:=λtk=>codeAny_compStart_list (loop tk) (T.self X.A 0 _ _ _ (T.keep _ _ _ fu λb _ o e=>old b o e) (loop tk));rw[Wf];exact key _
theorem De(L:Lk X S k Φ){n:Nat}{t:Tg}{ik:IK}{ifs:aA}{sc:Scope}(co:jz S n t caps target sc)(yN:oN iter=true)
  (hE:∀(X':Cx) (F':ah),Lk X' (S.inner target caps sc) k Φ->PE X' iQ (tD X' F' Φ elt))
  (hC:(bI=[]/\ifs=[])\/∃c e,bI=[c]/\ifs=[e]/\∀(X':Cx) (F':ah),Lk X' (S.inner target caps sc) k Φ->PT X' e (gm X' F' Φ c))
  (hI:∀(pins:ao) (s:Shared) (σ:St) (H:Hp) (R:ah) (τ:Addr->Option bj) (ρ:bh) (xs items:ae),Inv X pins σ H s->SI X F R τ ρ σ H->cz Φ es ρ=ok xs->eF Φ ik xs=ok items->∀Rr:It->Hp->Prop,
   (∀J H2,aI H H2->Yl X.K J (kn X F τ (caps++dw es) H2) H2 items->Rr J H2)->wpAny (model X.prog X.w) X.A (eval iter X.env) (λv s1=>wpAny (model X.prog X.w) X.A (pyIter v) (Cf X pins σ target Rr) X.xe s1) X.xe s) :
  PE X (.ListComp iQ [⟨target,iter,ifs,0⟩] sc pos) (tD X F Φ (.comp n t caps ik es bI elt)):=by
 intro pins s σ H Q I hq;obtain⟨R,τ,ρ,d,Si,ev,hq⟩:=hq;rw[eval_ListComp];refine sH L co yN hE hC hI (use:=none) (Post:=EP X pins σ Q) I Si ev λacc C H1 s1 m hn _ IX sm rt=>?_;exact⟨m,hn,λh' yM=>⟨.ref acc,H1,IX h' yM,rfl,hq _ _ sm rt⟩⟩
end
section
variable {X:Cx}{pins:ao}{s:Shared}{σ:L2.St}{H:Hp}
theorem rY{A:az}{E:au}{l:Addr}{items:aM}{Q:au}{s:Shared}(hl:s.heap.IsList l items)
  (h:∀s₂:Shared,s₂={ s with heap:=s.heap.push { cls:=.type "list_iterator",data:=.fields #[.ref l,.int 0 0] } }->s₂.heap.IsListIter s.heap.objs.size l 0/\s₂.heap.IsList l items->(∀b∈[s.heap.objs.size,l],b<s₂.heap.objs.size)->l≠s.heap.objs.size->Q (.ref s.heap.objs.size) s₂) :
  wpAny (model prog w) A (pyIter (.ref l)) Q E s:=by
 have cL:l<s.heap.objs.size:=by obtain⟨_,e,_⟩:=hl;exact aai e
 refine wpAny_pyIter_list hl (h _ rfl ⟨⟨_,aal _ rfl,rfl,rfl⟩,hl.push _⟩ (λb hb=>?_) (aan cL));have hz:(s.heap.push { cls:=.type "list_iterator",data:=.fields #[.ref l,.int 0 0] }).objs.size=s.heap.objs.size+1:=Heap.size_push ..;have wo:b=s.heap.objs.size\/b=l:=by simpa using hb
 show b<_;rw[hz];rcases wo with e|e
 ·rw[e];exact aa8 _
 ·rw[e];exact aaC cL
theorem rW{o₀:Obj}{s:Shared}(hk:∀b o,b∉[s.heap.objs.size]->(s.heap.push o₀).get? b=some o->h'.get? b=some o):∀b o,s.heap.get? b=some o->h'.get? b=some o:=λb o e =>
 hk b o (λhm=>absurd ((by simpa using hm:b=s.heap.objs.size)▸aai e) (aav _)) (aag _ e)
theorem dS{a:Addr}{aJ:aM}(p:PlainL h a aJ):h.IsList a aJ:=let ⟨o,n,h1,h2,_,h4⟩:=p;⟨o,h1,h2,n,h4⟩
theorem gX(val:Nat->Int)(ns:aa)(hv:∀i,val i=ns.getD i 0):∀k,k<=ns.length->preSum val k=(ns.take k).sum
 |0,_=>by simp[preSum]
 |k+1,h=>by
  have hk:k<ns.length:=by left
  rw[preSum,gX val ns hv k (by left),hv k,List.take_add_one,List.sum_append];simp[List.getD,hk]
theorem yD(hc:X.calm=true):ft X (.builtin "sum") (λxs H Q=>∃(p:Addr) (ns:aa),xs=[.ref p]/\dh X.K H p (ns.map V.int)/\Q (.int ns.sum) H):=by
 intro pins s σ H xs us Q I r h;obtain⟨p,ns,rfl,hq,q⟩:=h;obtain⟨u,rfl,ru⟩:=r.one;cases ru;obtain⟨aJ,rv,pl,hz⟩:=I.list hq;have hlen:aJ.length=ns.length:=by have:=rv.length;simpa using this.symm
 refine call_sum_walkG (rY (dS pl) λs₂ e st Ef Te=>?_);subst e;refine⟨_,_,_,_,_,_,λi=>ns.getD i 0,rfl,Walks.list (A:=X.A.in1) (I.ok.hd hc) _ p Te aJ.toArray,st,Ef,λi v hP=>?_,λh' tk t' hk=>?_⟩
 ·have hv:aJ[i]?=some v:=by simpa using hP
  have hi:i<aJ.length:=by
   by_cases z:i<aJ.length
   ·exact z
   ·rw[List.getElem?_eq_none (by left)]at hv;cases hv
  have hn:(ns.map V.int)[i]?=some (.int (ns.getD i 0)):=by
   rw[List.getElem?_map,List.getElem?_eq_getElem (by left)];simp[List.getD,show i<ns.length by left]
  obtain⟨u,hu,ru⟩:=rv.get hn;rw[hv]at hu;cases hu;exact ru
 ·refine⟨.int ns.sum,H,I.kept (t':=tk) (rW hk),⟨t',?_⟩,q⟩;have hz:preSum (λi=>ns.getD i 0) aJ.toArray.size=ns.sum:=by
   rw[List.size_toArray,hlen,gX _ ns (λ_=>rfl) _ (Nat.le_refl _),List.take_length]
  rw[hz]
theorem range_all{α:Type}(l:List α)(f:α->Bool)(tr:Nat->Bool)(h:∀i a,l[i]?=some a->tr i=f a):(List.range l.length).all tr=l.all f:=by
 rw[Bool.eq_iff_iff,List.all_eq_true,List.all_eq_true];constructor
 ·intro z a ha;obtain⟨i,hi,e⟩:=List.mem_iff_getElem.mp ha;have:=z i (List.mem_range.mpr hi);rw[h i a (by rw[List.getElem?_eq_getElem hi,e])]at this;exact this
 ·intro z i hi;have hi:=List.mem_range.mp hi;rw[h i l[i] (List.getElem?_eq_getElem hi)];exact z _ (aaH hi)
theorem yE(hc:X.calm=true):ft X (.builtin "all") (λxs H Q=>∃(p:Addr) (bs:List Bool),xs=[.ref p]/\dh X.K H p (bs.map V.bl)/\Q (.bl (bs.all id)) H):=by
 intro pins s σ H xs us Q I r h;obtain⟨p,bs,rfl,hq,q⟩:=h;obtain⟨u,rfl,ru⟩:=r.one;cases ru;obtain⟨aJ,rv,pl,hz⟩:=I.list hq;have hlen:aJ.length=bs.length:=by have:=rv.length;simpa using this.symm
 refine call_all_walk (rY (dS pl) λs₂ e st Ef Te=>?_);subst e;refine⟨_,_,_,_,_,_,λi=>bs.getD i false,rfl,Walks.list (A:=X.A.in1) (I.ok.hd hc) _ p Te aJ.toArray,st,λi v s' Q' E' hP hQ=>?_,λh' tk hk=>?_⟩
 ·have hv:aJ[i]?=some v:=by simpa using hP
  have hi:i<aJ.length:=by
   by_cases z:i<aJ.length
   ·exact z
   ·rw[List.getElem?_eq_none (by left)]at hv;cases hv
  have hn:(bs.map V.bl)[i]?=some (.bl (bs.getD i false)):=by
   rw[List.getElem?_map,List.getElem?_eq_getElem (by left)];simp[List.getD,show i<bs.length by left]
  obtain⟨u,hu,ru⟩:=rv.get hn;rw[hv]at hu;cases hu;cases ru;exact aa3 hQ
 ·refine⟨.bl (bs.all id),H,I.kept (t':=tk) (rW hk),?_,q⟩;show Value.bool _=Value.bool _;rw[List.size_toArray,hlen,range_all bs id _ λi a e=>by simp[List.getD,e]]
end
variable {ns:aa}
section
variable {prog:aB}{w:World}{A:az}{E:au}{s:Shared}
theorem nC{l:Addr}{vs:ak}{Q:ak->Shared->Prop}{o:Obj}{n:Nat}(ho:s.heap.get? l=some o)(hc:o.cls=.type "tuple")(hd:o.data=.seq vs.toArray n)
  (h:Q vs { s with heap:=(s.heap.push (seqObj "list" #[] 0)).update s.heap.objs.size (Obj.mapSeq (· ++ vs.toArray)) }) (hsz:vs.length<=sizeLine):wpAny (model prog w) A (collect (.ref l)) Q E s:=by
 unfold collect;refine aaa (wpAny_runValue (aaZ entry_proto_collect' ?_));show wpAny _ _ (newList [] >>= λz=>again (.builtin "list.__iadd__" ⟨[z,.ref l],[]⟩)) _ _ s;refine aaa (acf (aab ⟨Code.quiet_builtin _ (by decide +kernel),aaZ entry_list_iadd' ?_⟩));have z1:(s.heap.push (seqObj "list" #[] 0)).get? l=some o:=aag _ ho;have z2:(s.heap.push (seqObj "list" #[] 0)).get? s.heap.objs.size=some (seqObj "list" #[] 0):=aal _ rfl;show wpAny _ _ (Builtin.List.listExtendWith (.ref s.heap.objs.size) (.ref l) (.ref s.heap.objs.size)) _ _ ({ s with heap:=s.heap.push (seqObj "list" #[] 0) }:Shared);unfold Builtin.List.listExtendWith;refine aaa (wpAny_typeOf (T:="tuple") ⟨o,z1,hc⟩ ?_);rw[aaN (by rw[show(Value.type "tuple" == Value.type "tuple")=true from rfl,Bool.or_true])];refine aaa (listItems_at z1 hd (aaa (listItems_at z2 rfl ?_)));rw[if_neg (by simp)];refine aaa (listUpdate_at z2 rfl ?_ (aaF _) (by
  show(#[]++vs.toArray).size<=sizeLine+1;rw[Array.size_append,List.size_toArray];exact aci (by simpa using hsz)))
 refine aab ?_;show wpAny (model prog w) A (load s.heap.objs.size >>= λo=>match o.data with
   |.seq xs _=>pure xs.toList
   |_=>unsupported "internal:collect") Q E ({ s with heap:=(s.heap.push (seqObj "list" #[] 0)).update s.heap.objs.size (Obj.mapSeq (· ++ vs.toArray)) }:Shared)
 refine aaa (wpAny_load (get?_update_seq z2 _) ?_);show wpAny _ _ (pure ((#[]:aM)++vs.toArray).toList) Q E _;rw[show((#[]:aM)++vs.toArray).toList=vs by simp];exact aab h
theorem nW{l:Addr}{vs:ak}{Q:au}{o:Obj}{n:Nat}(ho:s.heap.get? l=some o)(hc:o.cls=.type "tuple")(hd:o.data=.seq vs.toArray n)(hI:IntsAre vs ns)(tw:vs.length<64)
  (h:∀(out:aM) (ka:aa),IntsAre out.toList ka->ka.Perm ns->ka.Pairwise (· <= ·)->Q (.ref (s.heap.objs.size+1)) { s with heap:=sortedAll s.heap vs out }):wpAny (model prog w) A (call (.builtin "sorted") [.ref l]) Q E s:=by
 refine Calls.call_function_entry kind_sorted plain_sorted entry_sorted (args_sorted1 _) ?_;unfold Builtin.«sorted»;have hz:vs.length<=sizeLine:=by rw[sizeLine_eq];left
 refine aaa (m:=checkCount "sorted" 1 1 _) (aab (aaa (nC ho hc hd (aaa (acf ?_)) hz)));have e1:((s.heap.push (seqObj "list" #[] 0)).update s.heap.objs.size (Obj.mapSeq (· ++ vs.toArray))).objs.size=s.heap.objs.size+1:=by rw[Heap.size_update,size_push']
 have e2:(((s.heap.push (seqObj "list" #[] 0)).update s.heap.objs.size (Obj.mapSeq (· ++ vs.toArray))).push (seqObj "list" vs.toArray 0)).get? (s.heap.objs.size+1)=some (seqObj "list" vs.toArray 0):=by
  rw[<- e1];exact aal _ rfl
 show wpAny _ _ _ _ _ ({ s with heap:=((s.heap.push (seqObj "list" #[] 0)).update s.heap.objs.size (Obj.mapSeq (· ++ vs.toArray))).push (seqObj "list" vs.toArray 0) }:Shared);rw[e1];refine aaa (aaD (aaI slot_list_sort ⟨_,e2,rfl⟩ entry_list_sort (list_sort_tree e2 hI tw λout ka a1 a2 a3=>⟨_,rfl,aab ⟨_,rfl,h out ka a1 a2 a3⟩⟩) (args_list_sort _)))
end
theorem sortI_perm(ns:aa):(sortI ns).Perm ns:=aaE ..
theorem zq(ns:aa):(sortI ns).Pairwise (· <= ·):=by
 have:=List.pairwise_mergeSort (le:=λa b:Int=>decide (a<=b)) (by intro a b c;simp;left) (by intro a b;simp;left) ns;unfold sortI;simpa using this
theorem dC:∀{vs:ak} {ns:aa},Vals (ns.map V.int) vs->IntsAre vs ns
 |_,[],h=>by cases h;exact .nil
 |_,n::ns,h=>by
  cases h with
  |cons r t=>obtain⟨tk,rfl⟩:=r;exact .cons n tk (dC t)
theorem qy:ft X (.builtin "sorted") (λxs H Q=>∃(p:Addr) (ns:aa),xs=[.ref p]/\(dh X.K H p (ns.map V.int)\/aW X.K H p (ns.map V.int))/\ns.length<64/\∀l,H l=none->Q (.ref l) (upd H l (.lst ((sortI ns).map V.int)))):=by
 intro pins s σ H xs us Q I r h;obtain⟨p,ns,rfl,hq,tw,q⟩:=h;obtain⟨u,rfl,ru⟩:=r.one;cases ru;have fin:∀(vs:ak) (out:aM) (ka:aa),IntsAre out.toList ka->ka.Perm ns->ka.Pairwise (· <= ·)->EP X pins σ Q (.ref (s.heap.objs.size+1)) { s with heap:=sortedAll s.heap vs out }:=by
  intro vs out ka h1 h2 h3;obtain rfl:ka=sortI ns:=PySem.W.ksm_same (h2.trans (sortI_perm ns).symm) h3 (zq ns);obtain⟨e,he⟩:=sortedAll_at s.heap vs out;have hn:H (s.heap.objs.size+1)=none:=I.cN.fresh (acb _);refine⟨.ref (s.heap.objs.size+1),upd H (s.heap.objs.size+1) (.lst ((sortI ns).map V.int)),I.laid (t':=s.toks) (λb u z=>sortedAll_old z) (acb _) ⟨?_,out.toList,e,kc h1,by simpa using he⟩,rfl,q _ hn⟩;rw[List.length_map,(sortI_perm ns).length_eq,sizeLine_eq];left
 rcases hq with hq|hq
 ·obtain⟨aJ,rv,pl,hz⟩:=I.list hq;have hl:aJ.length<64:=by rw[<- rv.length];simpa using tw
  exact sorted_ints (dS pl) (dC rv) hl λout ka h1 h2 h3=>fin aJ out ka h1 h2 h3
 ·obtain⟨aJ,rv,⟨o,ho,hc,n,hd⟩,hz⟩:=I.tuple hq;have hl:aJ.length<64:=by rw[<- rv.length];simpa using tw
  exact nW ho hc hd (dC rv) hl λout ka h1 h2 h3=>fin aJ out ka h1 h2 h3
theorem zd:isSubtype (.type "tuple") (.type "set")=pure false:=by rw[isSubtype_type];kernel_rfl
theorem qO:isSubtype (.type "tuple") (.type "frozenset")=pure false:=by rw[isSubtype_type];kernel_rfl
noncomputable abbrev ll(led:Bool):Obj:={ cls:=.type "set",dict:=none,data:=.set #[] 0 (.fresh 0 0 led) }
noncomputable abbrev dist(ns:aa):aa:=firstMet (λi=>ns.getD i 0) ns.length
section
variable {prog:aB}{w:World}{A:az}{E:au}{s:Shared}
theorem tW{l:Addr}{aJ:ak}{Q:au}(hh:A.handled=none)(hl:s.heap.IsTuple l aJ.toArray)(hi:IntsAre aJ ns)(hb:aJ.length+1<scanBound)
  (h:∀(h':Heap) (tk:Nat),h'.SetOf (intKind prog w) s.heap.objs.size (λk=>(dist ns).any (· == k)) (dist ns).length->(∀b o,b<s.heap.objs.size->s.heap.get? b=some o->h'.get? b=some o)->Q (.ref s.heap.objs.size) { s with heap:=h',toks:=tk }) :
  wpAny (model prog w) A (call (.type "set") [.ref l]) Q E s:=by
 have Yi:aJ.length=ns.length:=hi.length;obtain⟨c,tl,k1⟩:=F.called_set.mro;have k2:=F.called_set.made;have k3:=F.called_set.sub;have k4:=F.called_set.notType;have k5:=F.called_set.canCreate;have k6:=F.typeCall_set_1 (.ref l);refine wpAny_call (codeAny_of_tree (show wpAny _ _ (callAny (.type "set") _) _ _ _ from aab ⟨Code.quiet_builtin _ (by decide +kernel),aaZ F.entry_type_call ?_⟩));rw[Around.under_plain (weight_type_call_type "set" [.ref l] []) rfl]
 repeat (any_goals (first|assumption|wp_step))
 refine abx (code_set_new_1 (.ref l) (E:=E) (Q₁:=λz s₁=>∃led:Bool,z=.ref s.heap.objs.size/\s₁={ s with heap:=s.heap.push (ll led) }) λled=>⟨led,rfl,rfl⟩) λr s₁ hr=>?_;cases r with
 |error e=>exact hr
 |ok fl =>
  cases fl with
  |next=>exact hr.elim
  |brk=>exact hr.elim
  |cont=>exact hr.elim
  |ret z =>
   obtain⟨led,rfl,rfl⟩:=hr;have g1:(s.heap.push (ll led)).get? s.heap.objs.size=some (ll led):=aal _ rfl;have g2:Shared.TypeIs { s with heap:=s.heap.push (ll led) } (.ref s.heap.objs.size) "set":=⟨_,g1,rfl⟩
   have g3:=F.called_set.init.lookup;have g4:=F.called_set.init.bind (.ref s.heap.objs.size)
   repeat (any_goals (first|assumption|wp_step))
   refine abx (codeAny_call_builtin (R:=wants (λr s₂=>r=.none/\∃h' tk,s₂={ s with heap:=h',toks:=tk }/\h'.SetOf (intKind prog w) s.heap.objs.size (λk=>(dist ns).any (· == k)) (dist ns).length/\∀b o,b<s.heap.objs.size->s.heap.get? b=some o->h'.get? b=some o) E) F.called_set.init.plain F.entry_set_init (check_set_init_1 g2 ?_)) λr₂ s₂ r6=>?_
   ·obtain⟨ot,VV,V9,nt,V7⟩:=hl;obtain⟨oc,od,ZQ,B_⟩:=ot;simp only at V9 V7;subst V9;subst V7;have u1:(s.heap.push (ll led)).get? l=some { cls:=.type "tuple",dict:=od,data:=.seq aJ.toArray nt,slots:=B_ }:=aag _ VV;have u2:=zd;have u3:=qO;have u4:(Value.type "tuple" == Value.type "dict")=false:=by decide
    have u5:(s.heap.push (ll led)).IsTuple l aJ.toArray:=⟨_,u1,rfl,nt,rfl⟩
    unfold Builtin.«set.__init__» noKeywords Builtin.Frozenset.updateFrom;generalize YI:pyIter=PI
    wp_walk
    subst YI;refine wpAny_pyIter_tuple u5 (aaa (wpAny_runValue ?_));have u6:l<s.heap.objs.size:=aai VV;have u7:A.in1.in1.in1.handled=none:=by simp[hh]
    have hz:(s.heap.push (ll led)).objs.size=s.heap.objs.size+1:=Heap.size_push ..;have u8:l≠(s.heap.push (ll led)).objs.size:=by rw[hz];exact aan (aaC u6)
    have u9:s.heap.objs.size∉[(s.heap.push (ll led)).objs.size,l]:=by
     rw[hz];intro m;simp at m;exact absurd m (aat u6)
    have v1:∀(i:Nat) (v:Value),aJ.toArray[i]?=some v->∃t,v=.int ((λi=>ns.getD i 0) i) t:=λi v hv=>hi.int_at i v (by simpa using hv);refine codeAny_set_update_loopS ((Walks.tuple u7 _ l u8 aJ.toArray).toS) s.heap.objs.size u9 (λi=>ns.getD i 0) v1 (by rw[List.size_toArray];exact hb) (aJ.toArray.size - 0) 0 _ (by left) (aaF _) ⟨⟨_,aal _ rfl,rfl,rfl⟩,u5.push _⟩ ?hS0 ?hR
    case hS0 =>
     have y1:((s.heap.push (ll led)).push { cls:=.type "tuple_iterator",data:=.fields #[.ref l,.int 0 0] }).get? s.heap.objs.size=some (ll led):=aag _ g1;exact SetOf_congr ((setObjOf_fresh (knd:=intKind prog w) led).setOf y1 (by unfold scanBound;left)) (λ_=>rfl) rfl
    case hR =>
     intro s' hm qf;obtain⟨h',g',d',W7,RH⟩:=s';cases (show g'=s.gens from hm.gens);cases (show d'=s.drawn from hm.drawn);cases (show RH=s.os from hm.os);have qf:h'.SetOf (intKind prog w) s.heap.objs.size (λk=>(dist ns).any (· == k)) (dist ns).length:=by
      have e:aJ.toArray.size=ns.length:=by rw[List.size_toArray,Yi]
      rw[e]at qf;exact qf
     refine aab (show wpAny _ _ (ret Value.none) _ _ _ from aab ⟨rfl,h',W7,rfl,qf,λb o hb e=>hm.heap b o (λm=>?_) (aag _ (aag _ e))⟩);rcases List.mem_cons.mp m with m|m
     ·exact aan hb m
     ·have m:b=(s.heap.push (ll led)).objs.size:=by simpa using m
      rw[hz]at m;exact aan (aaC hb) m
   ·cases r₂ with
    |error e=>exact r6
    |ok Oq =>
     cases Oq with
     |ret r =>
      obtain⟨rfl,h',tk,rfl,qf,Eb⟩:=r6
      repeat (any_goals (first|assumption|wp_step))
      exact h _ _ qf Eb
     |next=>exact r6.elim
     |brk=>exact r6.elim
     |cont=>exact r6.elim
end
theorem BC(ns:aa):dist ns=qm ns:=by
 unfold dist firstMet qm;have e:(List.range ns.length).map (λi=>ns.getD i 0)=ns:=by
  refine abq (by simp) λi h1 h2=>?_;simp at h1;simp[h1]
 rw[e];rfl
def XA(K:av):af->Hp->VK->Prop:=λxs H Q=>∃(p:Addr) (ns:aa),xs=[.ref p]/\aW K H p (ns.map V.int)/\ns.length<4000/\Q (.int (qm ns).length) H
theorem boot_set:bootBuiltins ("set" : Str)=some (.type "set"):=by decide +kernel
theorem DA{e:Expr}{t:TA}{p:Pos}(hc:X.calm=true)(Tt:Gl X ("len" : Str))(Tb:X.mg ("len" : Str)=none)(Yq:Gl X ("set" : Str))(Yk:X.mg ("set" : Str)=none)(ha:PA X [e] t)
  (lA:∀es,starEach (e::es) X.env=(false,eval e X.env)::starEach es X.env):PE X (.Call (.Name ("len" : Str) p) [.Call (.Name ("set" : Str) p') [e] [] pos'] [] pos) (Me (XA X.K) t):=by
 intro pins s σ H Q I h;refine aaV (eE I Tt Tb PySem.boot_len ?_ (by decide) (by decide));refine PyProof.Rows.callWith_builtin1 ?_ rfl rfl;show wpAny _ _ (spliced ((false,eval (.Call (.Name ("set" : Str) p') [e] [] pos') X.env)::[])) _ _ s;refine abw ?_;refine aaV (eE I Yq Yk boot_set ?_ (by decide) (by decide));refine aas (cV (ha pos' pins s σ H _ I h) λus s1 bN=>?_) (lA _) rfl;obtain⟨vs,H1,I1,r1,q1⟩:=bN;obtain⟨a,ns,rfl,hq,hl,q⟩:=q1;obtain⟨u,rfl,ru⟩:=r1.one;cases ru;obtain⟨aJ,rv,it,hz⟩:=I1.tuple hq;have hle:aJ.length=ns.length:=by rw[<- rv.length];simp
 refine tW (I1.ok.hd hc) it (dC rv) (by unfold scanBound;left) λh' tk hS kp=>abG ?_;rw[BC]at hS;obtain⟨o,es,ep,tb,g1,g2,g3,_,_,g6,g7,g8⟩:=hS;refine call_len_set g1 g2 g3 g7 (by unfold scanBound at g6;omega) ?_;exact⟨.int (qm ns).length,H1,I1.kept (t':=tk+1+1) λb u z=>kp b u (aai z) z,⟨_,by rw[g8]⟩,q⟩
section
variable {X:Cx}{S:Sx}{k:Nat}{F:ah}{Φ:a_}
theorem Lk.Ve(L:Lk X S k Φ):X.A.units+40<cLine:=by have:=L.room.units;left
def PK(K:av)(neg:Bool):R2:=λv u H Q=>∃(d d':D) (N N':gR) (k k':bj),Rep (aW K H) N k v d/\Rep (aW K H) N' k' u d'/\(∀q p xs f,N q p (.l xs) f->dh K H p xs)/\(∀q p xs f,N' q p (.l xs) f->dh K H p xs)/\di 40 d=true/\di 40 d'=true /\
 Q (.bl (if neg then !kD d d' else kD d d')) H
theorem HI(hu:X.A.units+40<cLine):jr X (compareOp .Eq) (PK X.K false):=by
 intro pins s σ H x y v u Q I rx ry h;obtain⟨d,d',N,N',k,k',r1,r2,n1,n2,o1,o2,q⟩:=h;exact(alike I n1 n2 40 X.A r1 r2 o1 o2 rx ry hu).rc X.prog X.w X.xe _ ⟨.bl _,H,I,rfl,q⟩
theorem HH(hu:X.A.units+40<cLine):jr X (compareOp .NotEq) (PK X.K true):=by
 intro pins s σ H x y v u Q I rx ry h;obtain⟨d,d',N,N',k,k',r1,r2,n1,n2,o1,o2,q⟩:=h;exact(alike I n1 n2 40 X.A r1 r2 o1 o2 rx ry hu).ne X.prog X.w X.xe _ ⟨.bl _,H,I,rfl,q⟩
def Hj(K:av)(op:yX):R2:=match op with
 |.eq=>PK K false
 |.ne=>PK K true
 |.lt=>zL λi j=>.bl (decide (i<j))
 |.le=>zL λi j=>.bl (decide (i<=j))
 |.gt=>zL λi j=>.bl (decide (j<i))
 |.ge=>zL λi j=>.bl (decide (j<=i))
theorem Ab(L:Lk X S k Φ)(op:yX):jr X (compareOp (RL op)) (Hj X.K op):=by
 cases op with
 |eq=>exact HI L.Ve
 |ne=>exact HH L.Ve
 |lt=>exact MU
 |le=>exact MV
 |gt=>exact MW
 |ge=>exact MX
theorem Ah{op:CmpOp}{r:Expr}(h:oN r=true):behindInMarks op r=false:=by
 cases r<;>first|rfl | (cases h;done)
theorem l0{op:yX}{x y d:D}(NP:op=.lt\/op=.le\/op=.gt\/op=.ge)(h:gO op x y=ok d):∃i j,x=.int i/\y=.int j:=by
 cases x with
 |int i=>cases y with
  |int j=>exact⟨i,j,rfl,rfl⟩
  |_=>rcases NP with rfl|rfl|rfl|rfl<;>exact nk h
 |_=>rcases NP with rfl|rfl|rfl|rfl<;>exact nk h
theorem sI{op:yX}{a b:CE}{H:Hp}(hq:tD X F Φ (.cmp op a b) σ H Q):FG (Hj X.K op) (tD X F Φ a) (tD X F Φ b) σ H Q:=by
 obtain⟨R,τ,ρ,d,Si,ev,hq⟩:=hq;obtain⟨x,ex,ev⟩:=aH ev;obtain⟨y,ey,ev⟩:=aH ev;refine tD.intro Si ex λv H1 e1 r1=>tD.intro (Si.go e1) ey λu H2 e2 r2=>?_;have e:=e1.trans e2;have rv:=r1.go e2;have ru:=r2;obtain⟨τ1,f1,p1⟩:=rv;obtain⟨τ2,f2,p2⟩:=ru;have sq:∀{A:ah} {τ:Addr->Option bj} (q:bj) (p:Addr) (xs:af) (f:Fl),nd X.K R A τ H2 q p (.l xs) f->dh X.K H2 p xs:=λq p xs f h=>h.sq;cases op with
 |eq =>
  obtain⟨hc,ev⟩:=n9 ev
  ·subst ev;rw[Bool.and_eq_true]at hc;exact⟨x,y,_,_,_,_,p1,p2,sq,sq,hc.1,hc.2,hq _ H2 e .bl⟩
 |ne =>
  obtain⟨hc,ev⟩:=n9 ev
  ·subst ev;rw[Bool.and_eq_true]at hc;exact⟨x,y,_,_,_,_,p1,p2,sq,sq,hc.1,hc.2,hq _ H2 e .bl⟩
 |lt=>obtain⟨i,j,rfl,rfl⟩:=l0 (by simp) ev;cases ev;exact⟨_,_,(r1.go e2).isInt,r2.isInt,hq _ H2 e .bl⟩
 |le=>obtain⟨i,j,rfl,rfl⟩:=l0 (by simp) ev;cases ev;exact⟨_,_,(r1.go e2).isInt,r2.isInt,hq _ H2 e .bl⟩
 |gt=>obtain⟨i,j,rfl,rfl⟩:=l0 (by simp) ev;cases ev;exact⟨_,_,(r1.go e2).isInt,r2.isInt,hq _ H2 e .bl⟩
 |ge=>obtain⟨i,j,rfl,rfl⟩:=l0 (by simp) ev;cases ev;exact⟨_,_,(r1.go e2).isInt,r2.isInt,hq _ H2 e .bl⟩
theorem zj{c:CE}{H:Hp}{Q:Bool->Hp->Prop}(h:gm X F Φ c σ H Q):tB (tD X F Φ c) σ H Q:=by
 obtain⟨R,τ,ρ,b,Si,ev,hq⟩:=h;unfold yo at ev;obtain⟨d,ed,et⟩:=aH ev;refine tD.intro Si ed λv H' e r=>?_;cases d<;>simp[gL]at et;cases et;exact⟨_,r.xY,hq H' e⟩
theorem cE{c:CE}{e:Expr}(h:PE X e (tD X F Φ c))(he:∀whole,isTrue e X.env whole=(do let v <- whole;standAt e.pos;holding [v] (truthy v))):PT X e (gm X F Φ c) :=
 PT.imp (Hn h he) λ_ _ _ h=>zj h
theorem xr{op:yX}{a b:CE}{H:Hp}{Q:Bool->Hp->Prop}(h:gm X F Φ (.cmp op a b) σ H Q):FF (FG (Hj X.K op) (tD X F Φ a) (tD X F Φ b)) σ H Q :=
 sI (zj h)
theorem dictAt{pins:ao}{H:Hp}{s:Shared}{p:Addr}{cs:aw}{as:aR}(I:Inv X pins σ H s)(h:H p=some (.ext (DO p cs as xs ep))):∃o,s.heap.get? p=some o/\o.cls=.type "dict":=by
 obtain⟨⟨zs,o,es,_,_,_,ho,hx,_⟩,_⟩:=(show cu X.prog X.w H s.heap p (.ext (DO p cs as xs ep)) from I.cN p _ h)
 exact⟨o,ho,hx.1⟩
theorem Ih(L:Lk X S k Φ)(t:Ty):ft X (.builtin "isinstance") (λxs H Q=>∃(x:V) (d:D) (N:gR) (k:bj),xs=[x,.ty (tyName t)]/\Rep (aW X.K H) N k x d/\(∀q p xs f,N q p (.l xs) f->dh X.K H p xs)/\(∀q p cs as xs ep f,N q p (.d cs as xs ep) f->H p=some (.ext (DO p cs as xs ep)))/\Q (.bl (cP t d)) H):=by
 intro pins s σ H xs us Q I r h;obtain⟨x,d,N,k,rfl,rp,hN,YJ,q⟩:=h;obtain⟨u,w',rfl,ru,iD⟩:=vals2 r;cases (show w'=Value.type (tyName t) from iD);have kt:=DZ X.K t;have fin:∀b:Bool,b=cP t d->∀tk,EP X pins σ Q (.bool b) { s with toks:=tk }:=λb e tk=>⟨.bl b,H,I.tok tk,rfl,by rw[e];exact q⟩
 cases rp with
 |bW=>cases ru;exact abk PySem.W.kitx_none I.yL True.intro (kt "NoneType" (by simp[kinds])) (λz=>nomatch z) (fin _ (by cases t<;>rfl))
 |bl b=>cases ru;exact abk PySem.W.kitx_bool I.yL True.intro (kt "bool" (by simp[kinds])) (λz=>nomatch z) (fin _ (by cases t<;>rfl))
 |int i=>obtain⟨t',rfl⟩:=ru;exact abk PySem.W.kitx_int I.yL True.intro (kt "int" (by simp[kinds])) (λz=>nomatch z) (fin _ (by cases t<;>rfl))
 |tup h _ =>
  cases ru;obtain⟨aJ,_,⟨o,h1,h2,_⟩,_⟩:=I.tuple h;exact abk PySem.W.kitx_tuple I.yL ⟨o,h1,h2⟩ (kt "tuple" (by simp[kinds])) (λz=>nomatch z) (fin _ (by cases t<;>rfl))
 |lst h _ =>
  cases ru;obtain⟨aJ,_,⟨o,n,h1,h2,_⟩,_⟩:=I.list (hN _ _ _ _ h);exact abk PySem.W.kitx_list I.yL ⟨o,h1,h2⟩ (kt "list" (by simp[kinds])) (λz=>nomatch z) (fin _ (by cases t<;>rfl))
 |bS h _ _ =>
  cases ru;obtain⟨o,h1,h2⟩:∃o,s.heap.get? _=some o/\o.cls=.type "dict":=dictAt I (YJ _ _ _ _ _ _ _ h);exact abk PySem.W.kitx_dict I.yL ⟨o,h1,h2⟩ (kt "dict" (by simp[kinds])) (λz=>nomatch z) (fin _ (by cases t<;>rfl))
theorem ET(t:Ty):bootBuiltins (tyName t:Str)=some (.type (tyName t)):=by
 cases t<;>decide +kernel
theorem oB(t:Ty):(tyName t:Str) ≠ "__name__" /\ ((tyName t:Str)==("__debug__" : Str))=false:=by
 cases t<;>decide +kernel
theorem Ha(L:Lk X S k Φ){a:CE}{t:Ty}{e:Expr}{p:Pos}(hf:gb S.sc ("isinstance" : Str)=true)(Tv:("isinstance" : Str)∈S.bl)(hg:gb S.sc (tyName t:Str)=true)(Ts:(tyName t:Str)∈S.bl)
  (ha:PE X e (tD X F Φ a)) (lA:∀es,starEach (e::es) X.env=(false,eval e X.env)::starEach es X.env):PE X (.Call (.Name ("isinstance" : Str) p) [e,.Name (tyName t:Str) p'] [] pos) (tD X F Φ (.jV a t)):=by
 have hT:PE X (.Name (tyName t:Str) p') (tC (.ty (tyName t))):=DD (L.gl hg) (L.bl _ Ts) (ET t) rfl (oB t).1 (oB t).2;refine PE.imp (dZ (Ih L t) (L.gl hf) (L.bl _ Tv) PyProof.Rows.boot_isinstance (cv ha (cv hT dI) (lA _)) (he:=lA _)) λσ H Q hq=>?_;obtain⟨R,τ,ρ,d,Si,ev,hq⟩:=hq;obtain⟨x,ex,ev⟩:=aH ev;cases ev;refine tD.intro Si ex λv H1 e1 r1=>?_;obtain⟨τ1,f1,p1⟩:=r1;exact⟨v,x,_,_,rfl,p1,λq p xs f h=>h.sq,λq p cs as xs ep f h=>h.dat,hq _ H1 e1 .bl⟩
theorem Im:@DI.xU=@L2.xU:=rfl
theorem Mt(L:Lk X S k Φ){a b:CE}{e i:Expr}(ha:PE X e (tD X F Φ a))(hb:PE X i (tD X F Φ b))(hp:md i):PE X (.Subscript e i pos) (tD X F Φ (.ix a b)):=by
 refine PE.imp (vK (vY.or AD) ha hb hp) λσ H Q hq=>?_;obtain⟨R,τ,ρ,d,Si,ev,hq⟩:=hq;obtain⟨x,ex,ev⟩:=aH ev;obtain⟨y,ey,ev⟩:=aH ev;refine tD.intro Si ex λv H1 e1 r1=>tD.intro (Si.go e1) ey λu H2 e2 r2=>?_;have ee:=e1.trans e2;have rv:=(r1.go e2).mono (fv':=gQ (.ix a b)) λj hj=>aax _ hj;have item:∀{q:bj} {xs:af} {ds:ae} {τt:Addr->Option bj} {j:Int},(∀p q,τt p=some q->H p=none)->aD (aW X.K H2) (nd X.K R (jo (gP X F) τ (gQ (.ix a b))) τt H2) q 0 xs ds->tx ds j=ok d->∃w,L2.Gu xs j=some w/\Q w H2:=by
  intro q xs ds τt j fr rs h;unfold tx at h;split at h
  ·rename_i d' hd;cases h;cases hx:DI.xU ds.length j with
   |none=>rw[hx]at hd;cases hd
   |some m =>
    rw[hx]at hd;obtain⟨w,hw,iD⟩:=rs.get (show ds[m]?=some d' from hd);refine⟨w,?_,hq w H2 ee ⟨λ_=>none,λ_ _ h=>by simp at h,iD.eL Si fr⟩⟩;unfold L2.Gu;rw[<- Im,rs.length,hx];exact hw
  ·cases h
 cases y with
 |int j =>
  obtain⟨τt,fr,rp⟩:=rv;cases r2.isInt;cases x with
  |tup ds =>
   cases rp with
   | @tup _ p xs _ h rs=>obtain⟨w,h1,h2⟩:=item fr rs ev;exact .inr ⟨p,xs,j,w,rfl,rfl,h,h1,h2⟩
  |lst f ds =>
   cases rp with
   | @lst _ p xs _ _ h rs=>obtain⟨w,h1,h2⟩:=item fr rs ev;exact .inl ⟨p,xs,j,w,rfl,rfl,h.sq,h1,h2⟩
  |_=>exact nk ev
 |_=>cases x<;>cases ev
theorem nu:∀(cs:aF) {ρ:bh} {ds:ae},cz Φ cs ρ=ok ds->ds.length=cs.length
 |[],_,_,h=>by cases h;rfl
 |c::cs,_,_,h=>by
  obtain⟨x,_,h⟩:=aH h;obtain⟨xs,hx,h⟩:=aH h;cases h;simp[nu cs hx]
theorem G7{es:aA}{n:Nat}(h:PA X es (qT X F Φ cs))(hl:cs.length<=1000):PE X (.Tuple es n pos) (tD X F Φ (.tup cs)):=by
 refine PE.imp (Hw h) λσ H Q hq=>?_;obtain⟨R,τ,ρ,d,Si,ev,hq⟩:=hq;obtain⟨ds,JL,ev⟩:=aH ev;cases ev;refine⟨R,τ,ρ,ds,Si,JL,λvs H1 e1 r1=>?_⟩;obtain⟨τt,fr,rs⟩:=r1;have hz:sizeLine=16777216:=aaY;refine⟨by rw[rs.length,nu cs JL];left,λp hp=>?_⟩;have es:aI H1 (upd H1 p (.tup vs)):=aI.upd hp;exact hq _ _ (e1.trans es) ⟨τt,fr,.tup (aW.of aV) (rs.imp (λ_ _ h=>aW.same es h) λ_ _ _ _ h=>nd.same es h)⟩
theorem G_{es:aA}(h:PA X es (qT X F Φ cs))(hl:cs.length<=1000):PE X (.List es pos) (tD X F Φ (.lst cs)):=by
 refine PE.imp (z7 h) λσ H Q hq=>?_;obtain⟨R,τ,ρ,d,Si,ev,hq⟩:=hq;obtain⟨ds,JL,ev⟩:=aH ev;cases ev;refine⟨R,τ,ρ,ds,Si,JL,λvs H1 e1 r1=>?_⟩;obtain⟨τt,fr,rs⟩:=r1;have hz:sizeLine=16777216:=aaY;refine⟨by rw[rs.length,nu cs JL];left,λp hp=>?_⟩;have es:aI H1 (upd H1 p (.lst vs)):=aI.upd hp;refine hq _ _ (e1.trans es) ⟨λq=>if q=p then some []else τt q,λq z hq=>?_,.lst ⟨aV,by simp⟩ (rs.imp (λ_ _ h=>aW.same es h) λc q xs f h=>?_)⟩
 ·by_cases uk:q=p
  ·subst uk;exact e1.free hp
  ·simp only[uk,if_false]at hq;exact fr q z hq
 ·have h':=nd.same es h;cases f with
  |ow =>
   have uk:q≠p:=by
    intro z;subst z;exact h.1.ne hp
   exact⟨h'.1,by simp only[uk,if_false];exact h'.2⟩
  |fz=>exact h'
  |al=>exact h'
  |sc=>exact h'
theorem Dg(L:Lk X S k Φ){f:Nat}{x:Str}{y:Expr}{ys:aA}{p:Pos}(hf:S.fn f=some x)(hg:gb S.sc x=true)(hn:mN x=true)(ha:PA X (y::ys) (qT X F Φ cs))
  (lA:∀es,starEach (y::es) X.env=(false,eval y X.env)::starEach es X.env) (hpl:∀pos,(backTo pos (starEach ys X.env)).any (·.1)=false):PE X (.Call (.Name x p) (y::ys) [] pos) (tD X F Φ (.call f cs)):=by
 obtain⟨a,fd,ps,Fo,hm,hk,hb,hl⟩:=(L.fn f x hf).ex;unfold mN at hn;simp only[Bool.and_eq_true,Bool.not_eq_true']at hn;refine PE.imp (DC Fo L.room (L.gl hg) hm hk hb .nil (MT (X:=X)) ha hn.1.1 (lA _) (hpl _)) λσ H Q hq=>?_;obtain⟨R,τ,ρ,d,Si,ev,hq⟩:=hq;obtain⟨xs,cy,ev⟩:=aH ev;obtain⟨r,er,ev⟩:=aH ev;cases ev;refine⟨R,τ,ρ,xs,Si,cy,λvs H1 e1 r1=>?_⟩;obtain⟨τt,fr,rs⟩:=r1;have fresh:∀p,H p=none->jo (gP X F) τ (dw cs) p:=λp hp=>⟨.inr (Si.same.free hp),λc i e=>absurd hp (Si.th p _ e)⟩
 have hR:∀p,R p->jo (gP X F) τ (dw cs) p:=λp hp=>⟨Si.rf p hp,λc i e=>by rw[Si.rt p hp]at e;cases e⟩
 rw[List.append_nil];refine⟨jo (gP X F) τ (dw cs),aC bp xs,r,by rw[rs.length,<- hl _ _ er,bg,List.length_map],aD.g_ (λ_ _ h=>h) (λk k' p xs f h=>?_) rs _ _,er,λv H2 e2 rr=>?_⟩
 ·cases f with
  |ow=>exact⟨h.1,fresh p (fr p _ h.2)⟩
  |fz=>exact⟨h.1,hR p h.2⟩
  |al=>exact h
  |sc=>exact h
 ·obtain⟨τ2,Ln,rp⟩:=rr;refine hq v H2 (e1.trans e2) ⟨τ2,λp q h=>e1.free (Ln p q h),Rep.map (q:=[]) (q':=[]) (λ_ _ h=>h) (λc p xs f h=>?_) rp [] rfl⟩;cases f with
  |ow=>exact h
  |fz=>exact⟨h.1,h.2.elim id λz=>fresh p (e1.free z)⟩
  |al=>exact h.2.elim
  |sc=>exact h
def Vl(K:av)(f:Bf):af->Hp->VK->Prop:=match f with
 |.len=>λxs H Q=>∃p ys,xs=[.ref p]/\(dh K H p ys\/aW K H p ys)/\Q (.int ys.length) H
 |.abs=>λxs H Q=>∃i,xs=[.int i]/\Q (.int (if i<0 then -i else i)) H
 |.list1=>λxs H Q=>∃p ys,xs=[.ref p]/\(dh K H p ys\/aW K H p ys)/\∀l,H l=none->Q (.ref l) (upd H l (.lst ys))
 |.tuple1=>λxs H Q=>∃p ys,xs=[.ref p]/\((dh K H p ys/\∀l,H l=none->Q (.ref l) (upd H l (.tup ys)))\/(aW K H p ys/\Q (.ref p) H))
 |.jc=>λxs H Q=>∃(p:Addr) (ns:aa),xs=[.ref p]/\dh K H p (ns.map V.int)/\Q (.int ns.sum) H
 |.all1=>λxs H Q=>∃(p:Addr) (bs:List Bool),xs=[.ref p]/\dh K H p (bs.map V.bl)/\Q (.bl (bs.all id)) H
 |.gn=>λxs H Q=>∃(p:Addr) (ns:aa),xs=[.ref p]/\(dh K H p (ns.map V.int)\/aW K H p (ns.map V.int))/\ns.length<64/\∀l,H l=none->Q (.ref l) (upd H l (.lst ((sortI ns).map V.int)))
theorem aD.one{k:bj}{n:Nat}{d:D}(h:aD T N k n vs [d]):∃v,vs=[v]/\Rep T N (n::k) v d:=by
 cases h with
 |cons h t=>cases t;exact⟨_,rfl,h⟩
theorem aD.two{k:bj}{n:Nat}{d e:D}(h:aD T N k n vs [d,e]):∃v w,vs=[v,w]/\Rep T N (n::k) v d/\Rep T N ((n+1)::k) w e:=by
 cases h with
 |cons h t=>obtain⟨w,rfl,h'⟩:=t.one;exact⟨_,_,rfl,h,h'⟩
theorem aD.ints1{k:bj}{n:Nat}{i:Int}(h:aD T N k n vs [.int i]):vs=[.int i]:=by
 obtain⟨v,rfl,z⟩:=h.one;cases z;rfl
noncomputable def Bf.one:Bf->Bool
 |_=>true
theorem Kj{f:Bf}{xs:ae}{d:D}(hf:f.one=true)(h:qC f xs=ok d):∃x,xs=[x]:=by
 cases xs with
 |nil=>cases f<;>exact nk h
 |cons x xs=>cases xs with
  |nil=>exact⟨x,rfl⟩
  |cons y ys=>cases f<;>first | (cases hf;done) | (cases x<;>exact nk h)
theorem aD.ofInts{T:lg}{N:gR}{k:bj}:∀{ns:aa} {n:Nat} {vs:af},aD T N k n vs (ns.map D.int)->vs=ns.map V.int
 |[],_,_,h=>by cases h;rfl
 |i::ns,_,_,h=>by
  cases h with
  |cons h t=>cases h;rw[aD.ofInts t];rfl
theorem aD.FU{T:lg}{N:gR}{k:bj}:∀{ns:List Bool} {n:Nat} {vs:af},aD T N k n vs (ns.map D.bl)->vs=ns.map V.bl
 |[],_,_,h=>by cases h;rfl
 |i::ns,_,_,h=>by
  cases h with
  |cons h t=>cases h;rw[aD.FU t];rfl
theorem iH{T:lg}{N:gR}{k:bj}:∀(ns:aa) {n:Nat},aD T N k n (ns.map V.int) (ns.map D.int)
 |[],_=>.nil
 |i::ns,_=>.cons (.int i) (iH ns)
theorem EU{f:Bf}{H:Hp}(hq:tD X F Φ (.bf f cs) σ H Q):Me (Vl X.K f) (qT X F Φ cs) σ H Q:=by
 obtain⟨R,τ,ρ,d,Si,ev,hq⟩:=hq;obtain⟨xs,cy,ev⟩:=aH ev;refine⟨R,τ,ρ,xs,Si,cy,λvs H1 e1 r1=>?_⟩;obtain⟨τt,fr,rs⟩:=r1;cases f with
 |len =>
  obtain⟨x,rfl⟩:=Kj rfl ev;obtain⟨v,rfl,rv⟩:=rs.one;cases x with
  |tup ds=>cases ev;obtain⟨_,_,rfl,h,r⟩:=rv.Cy;exact⟨_,_,rfl,.inr h,by rw[r.length];exact hq _ H1 e1 .int⟩
  |lst f ds=>cases ev;obtain⟨_,_,rfl,h,r⟩:=rv.nQ;exact⟨_,_,rfl,.inl h.sq,by rw[r.length];exact hq _ H1 e1 .int⟩
  |_=>exact nk ev
 |abs =>
  obtain⟨x,rfl⟩:=Kj rfl ev;cases x with
  |int i=>cases ev;cases rs.ints1;exact⟨_,rfl,hq _ H1 e1 .int⟩
  |_=>exact nk ev
 |list1 =>
  obtain⟨x,rfl⟩:=Kj rfl ev;obtain⟨v,rfl,rv⟩:=rs.one;cases x with
  |tup ds =>
   cases ev;obtain⟨_,_,rfl,h,r⟩:=rv.Cy;refine⟨_,_,rfl,.inr h,λl hl=>?_⟩;exact hq _ _ (e1.trans (aI.upd hl)) (bY.rO (e1.free hl) (e1.trans (aI.upd hl)) aV ((r.eL Si fr).imp (λ_ _ h=>aW.same (aI.upd hl) h) λ_ _ _ _ h=>nd.same (aI.upd hl) h))
  |lst f ds =>
   cases ev;obtain⟨_,_,rfl,h,r⟩:=rv.nQ;refine⟨_,_,rfl,.inl h.sq,λl hl=>?_⟩;exact hq _ _ (e1.trans (aI.upd hl)) (bY.rO (e1.free hl) (e1.trans (aI.upd hl)) aV ((r.eL Si fr).imp (λ_ _ h=>aW.same (aI.upd hl) h) λ_ _ _ _ h=>nd.same (aI.upd hl) h))
  |_=>exact nk ev
 |tuple1 =>
  obtain⟨x,rfl⟩:=Kj rfl ev;obtain⟨v,rfl,rv⟩:=rs.one;cases x with
  |tup ds =>
   cases ev;obtain⟨_,_,rfl,h,r⟩:=rv.Cy;exact⟨_,_,rfl,.inr ⟨h,hq _ H1 e1 ⟨λ_=>none,λ_ _ h=>by simp at h,.tup h (r.eL Si fr)⟩⟩⟩
  |lst f ds =>
   cases ev;obtain⟨_,_,rfl,h,r⟩:=rv.nQ;refine⟨_,_,rfl,.inl ⟨h.sq,λl hl=>?_⟩⟩;exact hq _ _ (e1.trans (aI.upd hl)) ⟨λ_=>none,λ_ _ h=>by simp at h,.tup (aW.of aV) ((r.eL Si fr).imp (λ_ _ h=>aW.same (aI.upd hl) h) λ_ _ _ _ h=>nd.same (aI.upd hl) h)⟩
  |_=>exact nk ev
 |jc =>
  obtain⟨x,rfl⟩:=Kj rfl ev;obtain⟨v,rfl,rv⟩:=rs.one;cases x with
  |lst f ds =>
   have ev:(match intsOf ds with|some ns=>ok (.int ns.sum)|none=>none)=ok d:=ev;cases hn:intsOf ds with
   |none=>rw[hn]at ev;cases ev
   |some ns =>
    rw[hn]at ev;cases ev;cases dt hn;cases rv with
    |lst h r=>cases r.ofInts;exact⟨_,ns,rfl,h.sq,hq _ H1 e1 .int⟩
  |_=>exact nk ev
 |all1 =>
  obtain⟨x,rfl⟩:=Kj rfl ev;obtain⟨v,rfl,rv⟩:=rs.one;cases x with
  |lst f ds =>
   have ev:(match il ds with|some bs=>ok (.bl (bs.all id))|none=>none)=ok d:=ev;cases hn:il ds with
   |none=>rw[hn]at ev;cases ev
   |some ns =>
    rw[hn]at ev;cases ev;cases sR hn;cases rv with
    |lst h r=>cases r.FU;exact⟨_,ns,rfl,h.sq,hq _ H1 e1 .bl⟩
  |_=>exact nk ev
 |gn =>
  obtain⟨x,rfl⟩:=Kj rfl ev;obtain⟨v,rfl,rv⟩:=rs.one;have fin:∀ds,oF ds=ok d->∃ns:aa,ds=ns.map D.int/\ns.length<64/\∀l,H1 l=none->Q (.ref l) (upd H1 l (.lst ((sortI ns).map V.int))):=by
   intro ds e;unfold oF at e;split at e
   ·rename_i ns hn;split at e
    ·rename_i tw;cases e;refine⟨ns,dt hn,tw,λl hl=>hq _ _ (e1.trans (aI.upd hl)) (bY.rO (e1.free hl) (e1.trans (aI.upd hl)) aV (iH _))⟩
    ·cases e
   ·cases e
  cases x with
  |tup ds =>
   obtain⟨ns,rfl,tw,q⟩:=fin ds ev;cases rv with
   |tup h r=>cases r.ofInts;exact⟨_,ns,rfl,.inr h,tw,q⟩
  |lst f ds =>
   obtain⟨ns,rfl,tw,q⟩:=fin ds ev;cases rv with
   |lst h r=>cases r.ofInts;exact⟨_,ns,rfl,.inl h.sq,tw,q⟩
  |_=>exact nk ev
theorem Mu(L:Lk X S k Φ){f:Bf}{y:Expr}{ys:aA}{p:Pos}(hg:gb S.sc (qB f:Str)=true)(hb:(qB f:Str)∈S.bl)(ha:PA X (y::ys) (qT X F Φ cs))
  (lA:∀es,starEach (y::es) X.env=(false,eval y X.env)::starEach es X.env) (hpl:∀pos,(backTo pos (starEach ys X.env)).any (·.1)=false):PE X (.Call (.Name (qB f:Str) p) (y::ys) [] pos) (tD X F Φ (.bf f cs)):=by
 refine PE.imp (t:=Me (Vl X.K f) (qT X F Φ cs)) ?_ λσ H Q hq=>EU hq;cases f with
 |len=>exact dZ qA (L.gl hg) (L.bl _ hb) PySem.boot_len ha (he:=lA _) (hpl:=hpl _)
 |abs=>exact dZ BP (L.gl hg) (L.bl _ hb) (by decide +kernel) ha (he:=lA _) (hpl:=hpl _)
 |list1=>exact oK qz (L.gl hg) (L.bl _ hb) (by decide +kernel) ha (he:=lA _) (hpl:=hpl _)
 |tuple1=>exact oK oo (L.gl hg) (L.bl _ hb) (by decide +kernel) ha (he:=lA _) (hpl:=hpl _)
 |jc=>exact dZ (yD L.calm) (L.gl hg) (L.bl _ hb) (by decide +kernel) ha (he:=lA _) (hpl:=hpl _)
 |gn=>exact dZ qy (L.gl hg) (L.bl _ hb) (by decide +kernel) ha (he:=lA _) (hpl:=hpl _)
 |all1=>exact dZ (yE L.calm) (L.gl hg) (L.bl _ hb) (by decide +kernel) ha (he:=lA _) (hpl:=hpl _)
theorem Dd(L:Lk X S k Φ){a:CE}{e:Expr}{p:Pos}(hf:gb S.sc ("len" : Str)=true)(Tv:("len" : Str)∈S.bl)(hg:gb S.sc ("set" : Str)=true)(Ts:("set" : Str)∈S.bl)
  (ha:PE X e (tD X F Φ a)) (lA:∀es,starEach (e::es) X.env=(false,eval e X.env)::starEach es X.env):PE X (.Call (.Name ("len" : Str) p) [.Call (.Name ("set" : Str) p') [e] [] pos'] [] pos) (tD X F Φ (.iP a)):=by
 refine PE.imp (DA L.calm (L.gl hf) (L.bl _ Tv) (L.gl hg) (L.bl _ Ts) (cv ha dI (lA _)) lA) λσ H Q hq=>?_;obtain⟨R,τ,ρ,d,Si,ev,hq⟩:=hq;obtain⟨x,ex,ev⟩:=aH ev;refine tD.intro Si ex λv H1 e1 r1=>?_;obtain⟨τ1,f1,rv⟩:=r1;cases x with
 |tup ds =>
  simp only[vR]at ev;split at ev
  ·rename_i ns hn;split at ev
   ·rename_i hl;cases ev;cases dt hn;cases rv with
    |tup h r=>cases r.ofInts;exact⟨_,ns,rfl,h,hl,hq _ H1 e1 .int⟩
   ·cases ev
  ·cases ev
 |_=>exact nk ev
theorem G8{a:CE}{e:Expr}(h:PE X e (tD X F Φ a)):PE X (.UnaryOp .Not e pos) (tD X F Φ (.not a)):=by
 refine PE.imp (Hy h) λσ H Q hq=>?_;obtain⟨R,τ,ρ,d,Si,ev,hq⟩:=hq;obtain⟨b,eb,ev⟩:=aH ev;obtain⟨x,ex,eb⟩:=aH eb;cases ev;refine tD.intro Si ex λv H1 e1 r1=>?_;cases x<;>simp[gL]at eb;cases eb;exact⟨_,r1.xY,hq _ H1 e1 .bl⟩
theorem GY{a:CE}{e:Expr}(h:PT X e (gm X F Φ a)):PT X (.UnaryOp .Not e pos) (gm X F Φ (.not a)):=by
 refine PT.imp (Ho h) λσ H Q hq=>?_;obtain⟨R,τ,ρ,b,Si,ev,hq⟩:=hq;unfold yo at ev;obtain⟨d,ed,ev⟩:=aH ev;obtain⟨c,ec,ed⟩:=aH ed;cases ed;have Uu:b=!c:=by
  have e2:ok (!c)=ok b:=ev;exact(Except.ok.inj (aap e2)).symm
 subst Uu;exact⟨R,τ,ρ,c,Si,ec,λH' e=>hq H' e⟩
theorem G9{a:CE}{e:Expr}(h:PE X e (tD X F Φ a)):PE X (.UnaryOp .USub e pos) (tD X F Φ (.neg a)):=by
 refine PE.imp (MP GL h) λσ H Q hq=>?_;obtain⟨R,τ,ρ,d,Si,ev,hq⟩:=hq;obtain⟨x,ex,ev⟩:=aH ev;refine tD.intro Si ex λv H1 e1 r1=>?_;cases x<;>simp[DT]at ev;cases ev;exact⟨_,r1.isInt,hq _ H1 e1 .int⟩
theorem Fg{c:CE}{H:Hp}(hq:tD X F Φ (.and [c]) σ H Q):tD X F Φ c σ H Q:=by
 obtain⟨R,τ,ρ,d,Si,ev,hq⟩:=hq;obtain⟨b,eb,ev⟩:=aH ev;obtain⟨x,ex,eb⟩:=aH eb;cases ev;refine tD.intro Si ex λv H1 e1 r1=>?_;cases x<;>simp[gL]at eb;cases eb;rw[r1.xY];exact hq _ H1 e1 .bl
theorem HE{c:CE}{H:Hp}(hq:tD X F Φ (.or [c]) σ H Q):tD X F Φ c σ H Q:=by
 obtain⟨R,τ,ρ,d,Si,ev,hq⟩:=hq;obtain⟨b,eb,ev⟩:=aH ev;obtain⟨x,ex,eb⟩:=aH eb;cases ev;refine tD.intro Si ex λv H1 e1 r1=>?_;cases x<;>simp[gL]at eb;cases eb;rw[r1.xY];exact hq _ H1 e1 .bl
theorem BX{c:CE}{H:Hp}{Q:Bool->Hp->Prop}(hq:gm X F Φ (.and [c]) σ H Q):gm X F Φ c σ H Q:=by
 obtain⟨R,τ,ρ,d,Si,ev,hq⟩:=hq;unfold yo at ev;obtain⟨b,eb,ev⟩:=aH ev;obtain⟨x,ex,eb⟩:=aH eb;cases eb;cases ev;exact⟨R,τ,ρ,_,Si,ex,hq⟩
theorem DF{c:CE}{H:Hp}{Q:Bool->Hp->Prop}(hq:gm X F Φ (.or [c]) σ H Q):gm X F Φ c σ H Q:=by
 obtain⟨R,τ,ρ,d,Si,ev,hq⟩:=hq;unfold yo at ev;obtain⟨b,eb,ev⟩:=aH ev;obtain⟨x,ex,eb⟩:=aH eb;cases eb;cases ev;exact⟨R,τ,ρ,_,Si,ex,hq⟩
theorem BY{c:CE}{H:Hp}(hq:tD X F Φ (.and (c::c'::cs)) σ H Q):FI (tD X F Φ c) (tD X F Φ (.and (c'::cs))) σ H Q:=by
 obtain⟨R,τ,ρ,d,Si,ev,hq⟩:=hq;obtain⟨b,eb,ev⟩:=aH ev;obtain⟨x,ex,eb⟩:=aH eb;refine tD.intro Si ex λv H1 e1 r1=>?_;cases x<;>simp[gL]at eb;cases eb;refine⟨_,r1.xY,?_⟩;cases b with
 |true =>
  rw[if_pos rfl]at ev ⊢;exact tD.intro (Si.go e1) ev λv H' e r=>hq v H' (e1.trans e) ((r.old e1).mono λi hi=>aam _ hi)
 |false =>
  rw[if_neg (by simp)]at ev ⊢;cases ev;exact hq _ H1 e1 .bl
theorem DG{c:CE}{H:Hp}(hq:tD X F Φ (.or (c::c'::cs)) σ H Q):L_ (tD X F Φ c) (tD X F Φ (.or (c'::cs))) σ H Q:=by
 obtain⟨R,τ,ρ,d,Si,ev,hq⟩:=hq;obtain⟨b,eb,ev⟩:=aH ev;obtain⟨x,ex,eb⟩:=aH eb;refine tD.intro Si ex λv H1 e1 r1=>?_;cases x<;>simp[gL]at eb;cases eb;refine⟨_,r1.xY,?_⟩;cases b with
 |false =>
  rw[if_neg (by simp)]at ev ⊢;exact tD.intro (Si.go e1) ev λv H' e r=>hq v H' (e1.trans e) ((r.old e1).mono λi hi=>aam _ hi)
 |true =>
  rw[if_pos rfl]at ev ⊢;cases ev;exact hq _ H1 e1 .bl
theorem yF{c:CE}{H:Hp}{Q:Bool->Hp->Prop}(hq:gm X F Φ (.and (c::c'::cs)) σ H Q):Mf (gm X F Φ c) (gm X F Φ (.and (c'::cs))) σ H Q:=by
 obtain⟨R,τ,ρ,d,Si,ev,hq⟩:=hq;unfold yo at ev;obtain⟨x,ex,et⟩:=aH ev;obtain⟨b,eb,ev⟩:=aH ex;refine⟨R,τ,ρ,b,Si,eb,λH1 e1=>?_⟩;cases b with
 |true =>
  rw[if_pos rfl]at ev ⊢;exact⟨R,τ,ρ,d,Si.go e1,by unfold yo;rw[show bx Φ (.and (c'::cs)) ρ=ok x from ev];exact et,λH' e=>hq H' (e1.trans e)⟩
 |false =>
  rw[if_neg (by simp)]at ev ⊢;cases ev;cases et;exact hq H1 e1
theorem z_{c:CE}{H:Hp}{Q:Bool->Hp->Prop}(hq:gm X F Φ (.or (c::c'::cs)) σ H Q):Vg (gm X F Φ c) (gm X F Φ (.or (c'::cs))) σ H Q:=by
 obtain⟨R,τ,ρ,d,Si,ev,hq⟩:=hq;unfold yo at ev;obtain⟨x,ex,et⟩:=aH ev;obtain⟨b,eb,ev⟩:=aH ex;refine⟨R,τ,ρ,b,Si,eb,λH1 e1=>?_⟩;cases b with
 |false =>
  rw[if_neg (by simp)]at ev ⊢;exact⟨R,τ,ρ,d,Si.go e1,by unfold yo;rw[show bx Φ (.or (c'::cs)) ρ=ok x from ev];exact et,λH' e=>hq H' (e1.trans e)⟩
 |true =>
  rw[if_pos rfl]at ev ⊢;cases ev;cases et;exact hq H1 e1
theorem jJ{H:Hp}{Q:af->Hp->Prop}(hq:qT X F Φ [] σ H Q):GS σ H Q:=by
 obtain⟨R,τ,ρ,d,Si,ev,hq⟩:=hq;cases ev;exact hq _ H (aI.refl H) .nil
theorem fV{c:CE}{H:Hp}{Q:af->Hp->Prop}(hq:qT X F Φ (c::cs) σ H Q):zk (tD X F Φ c) (qT X F Φ cs) σ H Q:=by
 obtain⟨R,τ,ρ,d,Si,ev,hq⟩:=hq;obtain⟨x,ex,ev⟩:=aH ev;obtain⟨xs,cy,ev⟩:=aH ev;cases ev;refine tD.intro Si ex λv H1 e1 r1=>⟨R,τ,ρ,xs,Si.go e1,cy,λvs H2 e2 r2=>hq _ H2 (e1.trans e2) (cq.cons e1 e2 (r1.mono λi hi=>aax _ hi) (r2.mono λi hi=>aam _ hi))⟩
theorem cf{c:CE}{e:Expr}(h:cx S c e=true)(es:aA)(env:Env):starEach (e::es) env=(false,eval e env)::starEach es env:=by
 cases e<;>first|rfl | (cases c<;>exact(aad h).elim)
theorem uI:∀{cs:aF} {es:aA},bP S cs es=true->∀(pos:Pos) (env:Env),(backTo pos (starEach es env)).any (·.1)=false
 |[],[],_,_,_=>rfl
 |[],_::_,h,_,_=>by exact(aad h).elim
 |_::_,[],h,_,_=>by exact(aad h).elim
 |c::cs,e::es,h,pos,env=>by
  replace h:=aL h;rw[cf h.1];have:=uI h.2 pos env;unfold backTo at this ⊢;simp only[List.map_cons,List.any_cons,Bool.false_or];exact this
theorem o7{c:CE}{e:Expr}(h:cx S c e=true):md e:=by
 intro o i;cases e<;>first|rfl | (cases c<;>exact(aad h).elim)
theorem zw{j:Nat}:PE X (.Constant .none j pos) (tD X F Φ .bW):=PE.imp Hz λσ H Q bN=>by obtain⟨R,τ,ρ,d,Si,ev,hq⟩:=bN;cases ev;exact hq _ H (aI.refl H) .bW
theorem FK{b:Bool}{j:Nat}:PE X (.Constant (.bool b) j pos) (tD X F Φ (.bl b)):=PE.imp MS λσ H Q bN=>by obtain⟨R,τ,ρ,d,Si,ev,hq⟩:=bN;cases ev;exact hq _ H (aI.refl H) .bl
theorem zA{i:Int}{j:Nat}:PE X (.Constant (.int i) j pos) (tD X F Φ (.int i)):=PE.imp HA λσ H Q bN=>by obtain⟨R,τ,ρ,d,Si,ev,hq⟩:=bN;cases ev;exact hq _ H (aI.refl H) .int
theorem Ip(L:Lk X S k Φ){y:Expr}{p Iv:Pos}(g1:gb S.sc ("range" : Str)=true)(g2:("range" : Str)∈S.bl)(pa:PA X [y] (qT X F Φ es))(yc:bP S es [y]=true)
  (pins:ao) (s:Shared) (σ:St) (H:Hp) (R:ah) (τ:Addr->Option bj) (ρ:bh) (xs items:ae) (I:Inv X pins σ H s) (Si:SI X F R τ ρ σ H) (cy:cz Φ es ρ=ok xs) (uB:eF Φ .lM xs=ok items) (Rr:It->Hp->Prop)
  (hR:∀J H2,aI H H2->Yl X.K J (kn X F τ (caps++dw es) H2) H2 items->Rr J H2) :
  wpAny (model X.prog X.w) X.A (eval (.Call (.Name ("range" : Str) p) [y] [] Iv) X.env) (λv s1=>wpAny (model X.prog X.w) X.A (pyIter v) (Cf X pins σ target Rr) X.xe s1) X.xe s:=by
 match es,yc with
 |[c],yc =>
  replace yc:=aL yc;refine oJ (L.gl g1) (L.bl _ g2) pa (cf yc.1 _ _) pins s σ H Rr I ⟨R,τ,ρ,xs,Si,cy,λvs H1 e1 rv=>?_⟩;obtain⟨τt,fr,rs⟩:=rv;obtain⟨n,rfl⟩:∃n,xs=[.int n]:=by
   cases xs with
   |nil=>cases uB
   |cons x t=>cases x<;>first | (cases uB;done) | (cases t with|nil=>exact⟨_,rfl⟩|cons _ _=>cases uB)
  cases rs.ints1
  ·obtain⟨⟨c1,c2⟩,uB⟩:=n9 uB;subst uB;have jX:(ck:Int)=1000000:=rfl;refine⟨n,rfl,by left,by left,hR _ H1 e1 ?_⟩;have:=GB (X:=X) (lo:=0) (n:=n.toNat) (R:=kn X F τ (caps++dw [c]) H1) (H1:=H1);simpa using this
 |[],yc=>exact(aad yc).elim
 |_::_::_,yc=>exact(aad (aL yc).2).elim
theorem Io(L:Lk X S k Φ){c:CE}{y:Expr}(pe:PE X y (tD X F Φ c))
  (pins:ao) (s:Shared) (σ:St) (H:Hp) (R:ah) (τ:Addr->Option bj) (ρ:bh) (xs items:ae) (I:Inv X pins σ H s) (Si:SI X F R τ ρ σ H) (cy:cz Φ [c] ρ=ok xs) (uB:eF Φ .seq xs=ok items) (Rr:It->Hp->Prop)
  (hR:∀J H2,aI H H2->Yl X.K J (kn X F τ (caps++dw [c]) H2) H2 items->Rr J H2) :
  wpAny (model X.prog X.w) X.A (eval y X.env) (λv s1=>wpAny (model X.prog X.w) X.A (pyIter v) (Cf X pins σ target Rr) X.xe s1) X.xe s:=by
 obtain⟨x,ex,cy⟩:=aH cy;obtain⟨xs',Um,cy⟩:=aH cy;cases Um;cases cy;have V5:∀i∈gQ c,i∈caps++dw [c]:=λi hi=>aam _ (aax _ hi);cases x with
 |tup ds =>
  cases uB;refine zU pe pins s σ H Rr I (tD.intro Si ex λv H1 e1 rv=>?_);obtain⟨τt,fr,rp⟩:=rv;cases rp with
  | @tup _ p ys _ hp rs=>exact⟨p,rfl,⟨ys,hp⟩,hR _ H1 e1 (GA (q:=[]) hp (aD.g_ (λ_ _ h=>h) (tX Si fr V5) rs _ _))⟩
 |lst f ds =>
  cases uB;refine vH pe pins s σ H Rr I (tD.intro Si ex λv H1 e1 rv=>?_);obtain⟨τt,fr,rp⟩:=rv;cases rp with
  | @lst _ p ys _ _ hp rs=>exact⟨p,rfl,⟨ys,hp.sq⟩,hR _ H1 e1 (Cq (q:=[]) hp.sq (aD.g_ (λ_ _ h=>h) (tX Si fr V5) rs _ _))⟩
 |_=>cases uB
theorem LG{R:ah}{H:Hp}{xs:ae}{J:It}(Si:SI X F R τ ρ σ H)(hs:∀i∈fv,i∈fv')(r:cq X.K (gP X F) R τ fv H H2 vs xs)(y:O7 X.K J H2 vs xs items):
  Yl X.K J (kn X F τ fv' H2) H2 items:=by
 obtain⟨τt,fr,rs⟩:=r;have at':∀H',aI H2 H'->aD (aW X.K H') (nd X.K (kn X F τ fv' H2) (λ_=>False) (λ_=>none) H') [] 0 vs (aC bp xs):=λH' e =>
  (aD.g_ (T':=aW X.K H2) (λ_ _ h=>h) (tX Si fr hs) rs [] 0).imp (λ_ _ h=>aW.same e h) λ_ _ _ _ h=>nd.same e h
 have st:∀H',aI H2 H'->sU X.K H2 vs xs H':=λH' e=>⟨⟨_,at' H2 (aI.refl H2),λp o _ h=>e p o h⟩,λ_ _ h=>aW.same e h⟩
 exact⟨λi H' e hi=>y.go i H' _ (st H' e) (at' H' e) hi,λi H' x mf e hi hy=>y.s_ i H' _ x mf (st H' e) (at' H' e) hi hy,λi H' e hi=>y.stop i H' _ (st H' e) (at' H' e) hi⟩
theorem Iq(L:Lk X S k Φ){p:Nat}{y:Expr}(hp:S.px.pi p S.sc S.bl y=some args)(ht:(decide (1100<=p)||hU target)=true)(hs:lJ X F Φ es args)
  (pins:ao) (s:Shared) (σ:St) (H:Hp) (R:ah) (τ:Addr->Option bj) (ρ:bh) (xs items:ae) (I:Inv X pins σ H s) (Si:SI X F R τ ρ σ H) (cy:cz Φ es ρ=ok xs) (uB:eF Φ (.cF p) xs=ok items) (Rr:It->Hp->Prop)
  (hR:∀J H2,aI H H2->Yl X.K J (kn X F τ (caps++dw es) H2) H2 items->Rr J H2) :
  wpAny (model X.prog X.w) X.A (eval y X.env) (λv s1=>wpAny (model X.prog X.w) X.A (pyIter v) (Cf X pins σ target Rr) X.xe s1) X.xe s:=by
 obtain⟨d,ed,ei⟩:=aH (show bd (Φ p xs) rg=ok items from uB);exact L.pr.i X _ _ k L.pX p y args hp F es target ht hs pins s σ H R τ ρ xs d items I Si cy ed ei Rr λJ H2 vs e2 r yz=>hR J H2 e2 (LG Si (λi hi=>by simp[hi]) r yz)
theorem sG{S':Sx}{ifs:aA}(h3:bI.length<=1)(h4:bP S' bI ifs=true)
  (uq:∀(X':Cx) (F':ah),Lk X' S' k Φ->∀(j:Nat) (c:CE) (e:Expr),bI[j]?=some c->ifs[j]?=some e->PE X' e (tD X' F' Φ c)/\PT X' e (gm X' F' Φ c)) :
  (bI=[]/\ifs=[])\/∃c e,bI=[c]/\ifs=[e]/\∀(X':Cx) (F':ah),Lk X' S' k Φ->PT X' e (gm X' F' Φ c):=by
 cases bI with
 |nil=>cases ifs with
  |nil=>exact .inl ⟨rfl,rfl⟩
  |cons _ _=>exact(aad h4).elim
 |cons c cs=>cases cs with
  |cons _ _=>simp at h3
  |nil=>cases ifs with
   |nil=>exact(aad h4).elim
   |cons e ifs=>cases ifs with
    |cons _ _=>exact(aad (aL h4).2).elim
    |nil=>exact .inr ⟨c,e,rfl,rfl,λX' F' L'=>(uq X' F' L' 0 c e rfl rfl).2⟩
def OK(S:Sx)(ik:IK)(es:aF)(target iter:Expr):Bool:=match ik with
 |.lM=>bB (dF iter) λw=>decide (w.1=("range" : Str))&&gb S.sc w.1&&decide (w.1∈S.bl)&&bB (one w.2) λy=>bP S es [y]
 |.seq=>bP S es [iter]
 |.cF p=>PZ iter&&(decide (1100<=p)||hU target)&&bB (S.px.pi p S.sc S.bl iter) λxs=>bP S es xs
theorem AG(L:Lk X S k Φ){ik:IK}(yc:∀l,bP S es l=true->PA X l (qT X F Φ es))
  (uq:∀l,bP S es l=true->∀(j:Nat) (c:CE) (e:Expr),es[j]?=some c->l[j]?=some e->PE X e (tD X F Φ c)/\PT X e (gm X F Φ c)) (Ye:∀l,bP S es l=true->lJ X F Φ es l) (h6:OK S ik es target iter=true) :
  ∀(pins:ao) (s:Shared) (σ:St) (H:Hp) (R:ah) (τ:Addr->Option bj) (ρ:bh) (xs items:ae),Inv X pins σ H s->SI X F R τ ρ σ H->cz Φ es ρ=ok xs->eF Φ ik xs=ok items->∀(Rr:It->Hp->Prop),
   (∀J H2,aI H H2->Yl X.K J (kn X F τ (caps++dw es) H2) H2 items->Rr J H2) ->
   wpAny (model X.prog X.w) X.A (eval iter X.env) (λv s1=>wpAny (model X.prog X.w) X.A (pyIter v) (Cf X pins σ target Rr) X.xe s1) X.xe s:=by
 cases ik with
 |lM =>
  obtain⟨⟨x,as⟩,hv,h6⟩:=bD h6;obtain⟨p,Iv,rfl⟩:=cG hv;obtain⟨Jc,g3⟩:=aL h6;obtain⟨Jb,g2⟩:=aL Jc;obtain⟨Ja,g1⟩:=aL Jb;obtain rfl:x=_:=aac Ja;obtain⟨y,hu,Eo⟩:=bD g3;obtain rfl:as=[y]:=b9 hu;exact Ip L g1 (aac g2) (yc _ Eo) Eo
 |seq =>
  have SS:=uq _ h6;cases es with
  |nil=>exact(aad h6).elim
  |cons c cs=>cases cs with
   |cons _ _=>exact(aad (aL h6).2).elim
   |nil=>exact Io L (SS 0 c _ rfl rfl).1
 |cF p =>
  obtain⟨h6,g3⟩:=aL h6;obtain⟨xs,ha,Eo⟩:=bD g3;exact Iq L ha (aL h6).2 (Ye _ Eo)
mutual
theorem bA:∀(c:CE) (X:Cx) (S:Sx) (F:ah) (L:Lk X S k Φ) (e:Expr),cx S c e=true->PE X e (tD X F Φ c)/\PT X e (gm X F Φ c)
 |.cF p cs,X,S,F,L,e,h=>by
  obtain⟨args,ha,hb⟩:=bD (aL h).2;exact L.pr.e X _ _ k L.pX p e args ha F cs (iB cs X S F L args hb)
 |.bW,X,S,F,L,e,h=>by
  obtain⟨c,hv,gN⟩:=bD h;obtain⟨j,p,rfl⟩:=y7 hv;obtain rfl:=xV gN;exact⟨zw,cE zw λ_=>rfl⟩
 |.bl b,X,S,F,L,e,h=>by
  obtain⟨c,hv,gN⟩:=bD h;obtain⟨j,p,rfl⟩:=y7 hv;obtain rfl:=AJ gN;exact⟨FK,cE FK λ_=>rfl⟩
 |.int i,X,S,F,L,e,h=>by
  obtain⟨c,hv,gN⟩:=bD h;obtain⟨j,p,rfl⟩:=y7 hv;obtain rfl:=xW gN;exact⟨zA,cE zA λ_=>rfl⟩
 |.v i,X,S,F,L,e,h=>by
  obtain⟨x,hv,h'⟩:=bD h;obtain⟨p,rfl⟩:=kf hv;have:=Rc (F:=F) L h;exact⟨this,cE this λ_=>rfl⟩
 |.glo x i,X,S,F,L,e,h=>by
  obtain⟨y,hv,gN⟩:=bD h;obtain⟨pos,rfl⟩:=kf hv;obtain⟨lC,h3⟩:=aL gN;obtain⟨og,h2⟩:=aL lC;obtain⟨A_,h1⟩:=aL og;obtain rfl:=aac A_;obtain⟨u,hm,r⟩:=L.cs _ _ (aac h2);have this:PE X (.Name y pos) (tD X F Φ (.glo y i)):=PE.imp (vL (v:=.int i) (L.gl h1) hm r (kX h3)) λσ H Q bN=>by obtain⟨R,τ,ρ,d,Si,ev,hq⟩:=bN;cases ev;exact hq _ H (aI.refl H) .int
  exact⟨this,cE this λ_=>rfl⟩
 |.glt x zs,X,S,F,L,e,h=>by
  obtain⟨y,hv,gN⟩:=bD h;obtain⟨pos,rfl⟩:=kf hv;obtain⟨lC,h3⟩:=aL gN;obtain⟨og,h2⟩:=aL lC;obtain⟨A_,h1⟩:=aL og;obtain rfl:=aac A_;obtain⟨u,hm,a,o,aJ,n,rfl,q1,q2,q3,q4,q5⟩:=L.cs _ _ (aac h2);have this:PE X (.Name y pos) (tD X F Φ (.glt y zs)):=PE.imp (vL (v:=.ref a) (L.gl h1) hm rfl (kX h3)) λσ H Q bN=>by
   obtain⟨R,τ,ρ,d,Si,ev,hq⟩:=bN;cases ev;exact hq _ H (aI.refl H) ⟨λ_=>none,λ_ _ h=>by simp at h,.tup (.inr ⟨o,aJ,n,q1,q2,q3,q4,q5⟩) (iH zs)⟩
  exact⟨this,cE this λ_=>rfl⟩
 |.bin op a b,X,S,F,L,e,h=>by
  obtain⟨⟨l,o,r⟩,hv,gN⟩:=bD h;obtain⟨pos,rfl⟩:=CK hv;obtain⟨lC,h2⟩:=aL gN;obtain⟨og,h1⟩:=aL lC;obtain rfl:o=MY op:=aac og;have:=Hb (F:=F) (pos:=pos) L (op:=op) (bA a X S F L _ h1).1 (bA b X S F L _ h2).1;exact⟨this,cE this λ_=>rfl⟩
 |.neg a,X,S,F,L,e,h=>by
  obtain⟨⟨o,x⟩,hv,gN⟩:=bD h;obtain⟨pos,rfl⟩:=y4 hv;obtain⟨lC,h1⟩:=aL gN;obtain rfl:o=.USub:=aac lC;have:=G9 (F:=F) (Φ:=Φ) (pos:=pos) (bA a X S F L _ h1).1;exact⟨this,cE this λ_=>rfl⟩
 |.not a,X,S,F,L,e,h=>by
  obtain⟨⟨o,x⟩,hv,gN⟩:=bD h;obtain⟨pos,rfl⟩:=y4 hv;obtain⟨lC,h1⟩:=aL gN;obtain rfl:o=.Not:=aac lC;exact⟨G8 (bA a X S F L _ h1).1,GY (bA a X S F L _ h1).2⟩
 |.and cs,X,S,F,L,e,h=>by
  obtain⟨⟨o,vs⟩,hv,gN⟩:=bD h;obtain⟨pos,rfl⟩:=qN hv;obtain⟨lC,h1⟩:=aL gN;obtain rfl:o=.And:=aac lC;exact⟨(km cs X S F L vs h1 pos).1,(km cs X S F L vs h1 pos).2.pt⟩
 |.or cs,X,S,F,L,e,h=>by
  obtain⟨⟨o,vs⟩,hv,gN⟩:=bD h;obtain⟨pos,rfl⟩:=qN hv;obtain⟨lC,h1⟩:=aL gN;obtain rfl:o=.Or:=aac lC;exact⟨(mE cs X S F L vs h1 pos).1,(mE cs X S F L vs h1 pos).2.pt⟩
 |.cmp op a b,X,S,F,L,e,h=>by
  obtain⟨⟨l,os,rs⟩,hv,gN⟩:=bD h;obtain⟨pos,rfl⟩:=uY hv;obtain⟨lC,h2⟩:=aL gN;obtain⟨og,h1⟩:=aL lC;obtain⟨r,hr,T6⟩:=bD h2;obtain⟨Oe,h3⟩:=aL T6;obtain rfl:os=[RL op]:=aac og;obtain rfl:rs=[r]:=b9 hr;exact⟨PE.imp (vM (Ab L op) (bA a X S F L _ h1).1 (bA b X S F L _ Oe).1 (Ah h3)) λ_ _ _ og=>sI og,PT.imp (vE (Ab L op) (bA a X S F L _ h1).1 (bA b X S F L _ Oe).1 (Ah h3)) λ_ _ _ og=>xr og⟩
 |.jV a t,X,S,F,L,e,h=>by
  obtain⟨⟨f,as⟩,hv,gN⟩:=bD h;obtain⟨p,pos,rfl⟩:=cG hv;obtain⟨lC,h5⟩:=aL gN;obtain⟨og,h2⟩:=aL lC;obtain⟨A_,h1⟩:=aL og;obtain rfl:f=_:=aac A_;obtain⟨⟨e,g⟩,hw,El⟩:=bD h5;obtain rfl:as=[e,g]:=gT hw;obtain⟨Ob,h6⟩:=aL El;obtain⟨x,hn,Jc⟩:=bD h6;obtain⟨p',rfl⟩:∃p,g=.Name x p:=kf hn;obtain⟨Jb,h4⟩:=aL Jc;obtain⟨Ja,h3⟩:=aL Jb;obtain rfl:=aac Ja;have:=Ha (F:=F) (p:=p) (p':=p') (pos:=pos) L h1 (aac h2) h3 (aac h4) (bA a X S F L _ Ob).1 (λes=>cf Ob es _);exact⟨this,cE this λ_=>rfl⟩
 |.call f cs,X,S,F,L,e,h=>by
  obtain⟨⟨x,as⟩,hv,gN⟩:=bD h;obtain⟨p,pos,rfl⟩:=cG hv;obtain⟨lC,h4⟩:=aL gN;obtain⟨og,h3⟩:=aL lC;obtain⟨h1,h2⟩:=aL og;obtain⟨⟨y,ys⟩,hu,qg⟩:=bD h4;obtain rfl:as=y::ys:=y_ hu;cases cs with
  |nil=>exact(aad qg).elim
  |cons c Gk =>
   have Oc:=aL qg;have:=Dg (F:=F) (p:=p) (pos:=pos) L (aac h1) h2 h3 (eX (c::Gk) X S F L (y::ys) qg) (λes=>cf Oc.1 es _) (λpos=>uI Oc.2 pos _);exact⟨this,cE this λ_=>rfl⟩
 |.bf f cs,X,S,F,L,e,h=>by
  obtain⟨⟨x,as⟩,hv,gN⟩:=bD h;obtain⟨p,pos,rfl⟩:=cG hv;obtain⟨lC,h4⟩:=aL gN;obtain⟨og,h3⟩:=aL lC;obtain⟨A_,h2⟩:=aL og;obtain rfl:x=_:=aac A_;obtain⟨⟨y,ys⟩,hu,qg⟩:=bD h4;obtain rfl:as=y::ys:=y_ hu;cases cs with
  |nil=>exact(aad qg).elim
  |cons c Gk =>
   have Oc:=aL qg;have:=Mu (F:=F) (p:=p) (pos:=pos) L h2 (aac h3) (eX (c::Gk) X S F L (y::ys) qg) (λes=>cf Oc.1 es _) (λpos=>uI Oc.2 pos _);exact⟨this,cE this λ_=>rfl⟩
 |.iP a,X,S,F,L,e,h=>by
  obtain⟨⟨x,as⟩,hv,gN⟩:=bD h;obtain⟨p,pos,rfl⟩:=cG hv;obtain⟨lC,h4⟩:=aL gN;obtain⟨og,h2⟩:=aL lC;obtain⟨A_,h1⟩:=aL og;obtain rfl:x=_:=aac A_;obtain⟨y,hu,qg⟩:=bD h4;obtain rfl:as=[y]:=b9 hu;obtain⟨⟨z,bs⟩,hw,h4_3⟩:=bD qg;obtain⟨p',pos',rfl⟩:=cG hw;obtain⟨T2,h5⟩:=aL h4_3;obtain⟨TZ,h6⟩:=aL T2;obtain⟨TY,h3⟩:=aL TZ;obtain rfl:z=_:=aac TY;obtain⟨u,Sz,El⟩:=bD h5;obtain rfl:bs=[u]:=b9 Sz;have:=Dd (F:=F) (p:=p) (p':=p') (pos:=pos) (pos':=pos') L h1 (aac h2) h3 (aac h6) (bA a X S F L _ El).1 (λes=>cf El es _);exact⟨this,cE this λ_=>rfl⟩
 |.ix a b,X,S,F,L,e,h=>by
  obtain⟨⟨l,r⟩,hv,gN⟩:=bD h;obtain⟨pos,rfl⟩:=iy hv;obtain⟨h1,h2⟩:=aL gN;have:=Mt (F:=F) (pos:=pos) L (bA a X S F L _ h1).1 (bA b X S F L _ h2).1 (o7 h2);exact⟨this,cE this λ_=>rfl⟩
 |.tup cs,X,S,F,L,e,h=>by
  obtain⟨es,hv,gN⟩:=bD h;obtain⟨n,pos,rfl⟩:=jE hv;obtain⟨h1,h2⟩:=aL gN;have:=G7 (F:=F) (n:=n) (pos:=pos) (eX cs X S F L es h1) (aac h2);exact⟨this,cE this λ_=>rfl⟩
 |.lst cs,X,S,F,L,e,h=>by
  obtain⟨es,hv,gN⟩:=bD h;obtain⟨pos,rfl⟩:=uX hv;obtain⟨h1,h2⟩:=aL gN;have:=G_ (F:=F) (pos:=pos) (eX cs X S F L es h1) (aac h2);exact⟨this,cE this λ_=>rfl⟩
 |.comp n t caps ik es bI elt,X,S,F,L,e,h=>by
  obtain⟨⟨iQ,gens,sc⟩,hv,gN⟩:=bD h;obtain⟨pos,rfl⟩:=y6 hv;obtain⟨⟨target,iter,ifs,a⟩,hg,lC⟩:=bD gN;obtain rfl:gens=_:=b9 hg;obtain⟨og,h6⟩:=aL lC;obtain⟨A_,h5⟩:=aL og;obtain⟨YF,h4⟩:=aL A_;obtain⟨YE,h3⟩:=aL YF;obtain⟨YD,h2⟩:=aL YE;obtain⟨YC,h1⟩:=aL YD;obtain rfl:a=0:=aac YC;have uq:=λ(X':Cx) (F':ah) (L':Lk X' (S.inner target caps sc) k Φ)=>gW bI X' _ F' L' ifs h4;have this:PE X (.ListComp iQ [⟨target,iter,ifs,0⟩] sc pos) (tD X F Φ (.comp n t caps ik es bI elt)) :=
   De L (o6 h1) h2 (λX' F' L'=>(bA elt X' _ F' L' iQ h5).1) (sG (aac h3) h4 uq) (AG L (λl=>eX es X S F L l) (λl=>gW es X S F L l) (λl=>iB es X S F L l) h6)
  exact⟨this,cE this λ_=>rfl⟩
theorem gW:∀(cs:aF) (X:Cx) (S:Sx) (F:ah) (L:Lk X S k Φ) (es:aA),bP S cs es=true->∀(j:Nat) (c:CE) (e:Expr),cs[j]?=some c->es[j]?=some e->PE X e (tD X F Φ c)/\PT X e (gm X F Φ c)
 |[],X,S,F,L,_,_=>λj c e h _=>by simp at h
 |_::_,X,S,F,L,[],h=>by exact(aad h).elim
 |c::cs,X,S,F,L,e::es,h=>λj c' e' hc he=>by
  replace h:=aL h;cases j with
  |zero=>simp at hc he;subst hc he;exact bA c X S F L e h.1
  |succ j=>exact gW cs X S F L es h.2 j c' e' (by simpa using hc) (by simpa using he)
theorem iB:∀(cs:aF) (X:Cx) (S:Sx) (F:ah) (L:Lk X S k Φ) (es:aA),bP S cs es=true->lJ X F Φ cs es
 |[],X,S,F,L,[],_=>trivial
 |[],X,S,F,L,_::_,h=>by exact(aad h).elim
 |_::_,X,S,F,L,[],h=>by exact(aad h).elim
 |c::cs,X,S,F,L,e::es,h=>by
  replace h:=aL h;exact⟨(bA c X S F L e h.1).1,λl=>cf h.1 l _,o7 h.1,iB cs X S F L es h.2⟩
theorem eX:∀(cs:aF) (X:Cx) (S:Sx) (F:ah) (L:Lk X S k Φ) (es:aA),bP S cs es=true->PA X es (qT X F Φ cs)
 |[],X,S,F,L,[],_=>PA.imp dI λ_ _ _ h=>jJ h
 |[],X,S,F,L,_::_,h=>by exact(aad h).elim
 |_::_,X,S,F,L,[],h=>by exact(aad h).elim
 |c::cs,X,S,F,L,e::es,h=>by
  replace h:=aL h;exact PA.imp (cv (bA c X S F L e h.1).1 (eX cs X S F L es h.2) (cf h.1 es _)) λ_ _ _ h=>fV h
theorem km:∀(cs:aF) (X:Cx) (S:Sx) (F:ah) (L:Lk X S k Φ) (es:aA),bP S cs es=true->∀pos,PE X (.BoolOp .And es pos) (tD X F Φ (.and cs))/\PW X (.BoolOp .And es pos) (gm X F Φ (.and cs))
 |[],X,S,F,L,_,_,pos=>⟨λ_ _ _ _ _ _ ⟨_,_,_,_,_,ev,_⟩=>(by cases ev),λ_ _ _ _ _ _ _ bN=>by obtain⟨_,_,_,_,_,ev,_⟩:=bN;cases ev⟩
 |[c],X,S,F,L,[e],h,pos=>by
  replace h:=aL h;exact⟨PE.imp (z6 (bA c X S F L e h.1).1) λ_ _ _ h=>Fg h,PW.imp (Dt (bA c X S F L e h.1).2) λ_ _ _ h=>BX h⟩
 |[_],X,S,F,L,[],h,_=>by exact(aad h).elim
 |[_],X,S,F,L,_::_::_,h,_=>by exact(aad (aL h).2).elim
 |_::_::_,X,S,F,L,[],h,_=>by exact(aad h).elim
 |_::_::_,X,S,F,L,[_],h,_=>by exact(aad (aL h).2).elim
 |c::c'::cs,X,S,F,L,e::e'::es,h,pos=>by
  replace h:=aL h;have r:=km (c'::cs) X S F L (e'::es) h.2 pos;exact⟨PE.imp (HC (bA c X S F L e h.1).1 r.1) λ_ _ _ h=>BY h,PW.imp (Hm (bA c X S F L e h.1).2 r.2) λ_ _ _ h=>yF h⟩
theorem mE:∀(cs:aF) (X:Cx) (S:Sx) (F:ah) (L:Lk X S k Φ) (es:aA),bP S cs es=true->∀pos,PE X (.BoolOp .Or es pos) (tD X F Φ (.or cs))/\PW X (.BoolOp .Or es pos) (gm X F Φ (.or cs))
 |[],X,S,F,L,_,_,pos=>⟨λ_ _ _ _ _ _ ⟨_,_,_,_,_,ev,_⟩=>(by cases ev),λ_ _ _ _ _ _ _ bN=>by obtain⟨_,_,_,_,_,ev,_⟩:=bN;cases ev⟩
 |[c],X,S,F,L,[e],h,pos=>by
  replace h:=aL h;exact⟨PE.imp (z6 (bA c X S F L e h.1).1) λ_ _ _ h=>HE h,PW.imp (Hl (bA c X S F L e h.1).2) λ_ _ _ h=>DF h⟩
 |[_],X,S,F,L,[],h,_=>by exact(aad h).elim
 |[_],X,S,F,L,_::_::_,h,_=>by exact(aad (aL h).2).elim
 |_::_::_,X,S,F,L,[],h,_=>by exact(aad h).elim
 |_::_::_,X,S,F,L,[_],h,_=>by exact(aad (aL h).2).elim
 |c::c'::cs,X,S,F,L,e::e'::es,h,pos=>by
  replace h:=aL h;have r:=mE (c'::cs) X S F L (e'::es) h.2 pos;exact⟨PE.imp (MQ (bA c X S F L e h.1).1 r.1) λ_ _ _ h=>DG h,PW.imp (MJ (bA c X S F L e h.1).2 r.2) λ_ _ _ h=>z_ h⟩
end
theorem gU(L:Lk X S k Φ)(c:CE)(e:Expr)(h:cx S c e=true):PE X e (tD X F Φ c)/\PT X e (gm X F Φ c):=bA c X S F L e h
theorem jL(L:Lk X S k Φ)(cs:aF)(es:aA)(h:bP S cs es=true):lJ X F Φ cs es:=iB cs X S F L es h
theorem vp(L:Lk X S k Φ)(cs:aF)(es:aA)(h:bP S cs es=true):PA X es (qT X F Φ cs):=eX cs X S F L es h
end
section
variable {X:Cx}{S:Sx}{k:Nat}{F:ah}{Φ:a_}
theorem tV(L:Lk X S k Φ)(c:CE)(e:Expr)(h:cx S c e=true):PE X e (tK X F Φ c):=by
 by_cases hv:∃i,c=.v i
 ·obtain⟨i,rfl⟩:=hv;obtain⟨x,hx,ha⟩:=bD h;obtain⟨p,rfl⟩:=kf hx;obtain⟨hb,h3⟩:=aL ha;obtain⟨h1,h2⟩:=aL hb;unfold mN at h3;simp only[Bool.and_eq_true,Bool.not_eq_true']at h3;refine PE.imp (t7 (i:=i) (by rw[L.N];exact aac h1) (L.Pp h2) h3.1.1 h3.1.2) λσ H Q hq=>?_;obtain⟨R,τ,ρ,r,Si,ev,hq⟩:=hq;simp only[ji]at ev;split at ev
  ·rename_i d hd;split at ev
   ·cases ev;obtain⟨v,τ',hv,fK,rk⟩:=Si.move hd;exact⟨v,hv,hq v H R τ' (aI.refl H) (λ_ h=>h) fK rk⟩
   ·rename_i ho;cases ev;obtain⟨v,hv,rp⟩:=Si.rep i d hd;exact⟨v,hv,hq v H R τ (aI.refl H) (λ_ h=>h) Si (ye rp (by simpa using ho))⟩
  ·cases ev
 ·refine PE.imp (gU (F:=F) L c e h).1 λσ H Q hq=>?_;obtain⟨R,τ,ρ,r,Si,ev,hq⟩:=hq;have Uu:bd (bx Φ c ρ) (λd=>ok (keep c d ρ))=ok r:=by
   cases c<;>first|exact ev|exact absurd ⟨_,rfl⟩ hv
  obtain⟨d,ed,er⟩:=aH Uu;cases er;refine tD.intro Si ed λv H' e' r'=>?_;obtain⟨R',τ',h1,h2,h3⟩:=FY Si e' r';exact hq v H' R' τ' e' h1 h2 h3
end
structure Kp(R:ah)(H:Hp)(R':ah)(H':Hp):Prop where
 r:∀p,R p->R' p
 l:∀p (o:HO),R p->H p=some o->H' p=some o
 t:∀p xs,H p=some (.tup xs)->H' p=some (.tup xs)
 z:∀p o u,H p=some (.h_ o u)->H' p=some (.h_ o u)
theorem Kp.refl(R:ah)(H:Hp):Kp R H R H:=⟨λ_ h=>h,λ_ _ _ h=>h,λ_ _ h=>h,λ_ _ _ h=>h⟩
theorem Kp.of{R:Addr->Prop}{H:Hp}(e:aI H H')(h:∀p,R p->R' p):Kp R H R' H':=⟨h,λp xs _ h=>e _ _ h,λp xs h=>e _ _ h,λp o u h=>e _ _ h⟩
theorem Kp.trans{R R2:Addr->Prop}{H:Hp}(a:Kp R H R1 H1)(b:Kp R1 H1 R2 H2):Kp R H R2 H2 :=
 ⟨λp h=>b.r p (a.r p h),λp xs h e=>b.l p xs (a.r p h) (a.l p xs h e),λp xs h=>b.t p xs (a.t p xs h),λp o u h=>b.z p o u (a.z p o u h)⟩
theorem Kp.PD{R:Addr->Prop}{H:Hp}(a:Kp R H R' H'){p:Addr}(h:aW K H p xs):aW K H' p xs:=by
 rcases h with (h|⟨o,h⟩)|h
 ·exact .inl (.inl (a.t p xs h))
 ·exact .inl (.inr ⟨o,a.z p o _ h⟩)
 ·exact .inr h
theorem Kp.nd{K:av}{R R':ah}{H H':Hp}(a:Kp R H R' H'){q:bj}{p:Addr}{xs:Nd}{f:Fl}(h:DI.nd K R (λ_=>False) (λ_=>none) H q p xs f):DI.nd K R' (λ_=>False) (λ_=>none) H' q p xs f:=by
 cases f with
 |ow=>exact nomatch h.2
 |fz=>exact⟨h.1.at λo e=>a.l p o h.2 e,a.r p h.2⟩
 |al=>exact h.2.elim
 |sc =>
  obtain⟨ys,rfl,h⟩:=h.zB;exact h.elim (λ⟨o,h⟩=>.inl ⟨o,a.z p o _ h⟩) .inr
theorem Kp.rep{R:Addr->Prop}{H:Hp}(a:Kp R H R' H'){k:bj}{v:V}{d:D}(h:Rep (aW K H) (DI.nd K R (λ_=>False) (λ_=>none) H) k v d):Rep (aW K H') (DI.nd K R' (λ_=>False) (λ_=>none) H') k v d :=
 h.imp (λ_ _ h=>a.PD h) λ_ _ _ _ h=>a.nd h
theorem Kp.Ru{R:Addr->Prop}{H:Hp}(a:Kp R H R' H'){k:bj}{n:Nat}{v:af}{d:ae}(h:aD (aW K H) (DI.nd K R (λ_=>False) (λ_=>none) H) k n v d):aD (aW K H') (DI.nd K R' (λ_=>False) (λ_=>none) H') k n v d :=
 h.imp (λ_ _ h=>a.PD h) λ_ _ _ _ h=>a.nd h
def B0(X:Cx)(F:ah)(H':Hp)(v:V)(d:D):Prop:=∃τt:Addr->Option bj,(∀p q,τt p=some q->X.H₀ p=none)/\Rep (aW X.K H') (nd X.K (gP X F) (λ_=>False) τt H') [] v d
theorem gC.ret{R:Addr->Prop}{H:Hp}{v:V}{d:D}(Si:SI X F R τ ρ σ H)(h:gC X R τ H v d):B0 X F H v d:=by
 obtain⟨τt,ht,rp⟩:=h;exact⟨τt,λp q e=>(ht p q e).2.2.1,rp.imp (λ_ _ h=>h) λ_ _ _ _ h=>h.mono (λh=>Si.rf _ h) id id⟩
def lj(X:Cx)(F:ah)(D:Ends)(R:ah)(H:Hp):Fo×bh->Prop
 | (.nx,ρ')=>∀σ' H' R' τ',SI X F R' τ' ρ' σ' H'->Kp R H R' H'->D.nx σ' H'
 | (.bk,ρ')=>∀σ' H' R' τ',SI X F R' τ' ρ' σ' H'->Kp R H R' H'->D.bk σ' H'
 | (.ct,ρ')=>∀σ' H' R' τ',SI X F R' τ' ρ' σ' H'->Kp R H R' H'->D.ct σ' H'
 | (.rt d,_)=>∀v H',aI X.H₀ H'->B0 X F H' v d->D.rt v H'
def j_(X:Cx)(F:ah)(Φ:a_)(c:CS):TS:=λD σ H=>∃R τ ρ r,SI X F R τ ρ σ H/\oZ Φ c ρ=ok r/\lj X F D R H r
def nV(X:Cx)(F:ah)(Φ:a_)(cs:aj):TS:=λD σ H=>∃R τ ρ r,SI X F R τ ρ σ H/\bX Φ cs ρ=ok r/\lj X F D R H r
noncomputable def Ia(sc:Scope)(x:Str):Bool:=decide (sc.names.lookup x=some .local)||decide (sc.names.lookup x=some .cell)
def kJ(S:Sx)(i:Nat):Expr->Bool
 |.Name x _=>decide (S.N[i]?=some x)&&Ia S.sc x
 |_=>false
def P9:Expr->Bool
 |.Name x _=>mN x
 |_=>true
def BK(S:Sx):aO->aA->Bool
 |[],es=>match es with
  |[]=>true
  |_::_=>false
 |i::is,es=>match es with
  |[]=>false
  |e::es=>kJ S i e&&BK S is es
def yw(S:Sx):Tg->Expr->Bool
 |.nm i,e=>kJ S i e
 |.tp is,e=>bB (xo e) λes=>BK S is es
noncomputable def jh:Expr->Bool
 |.ListComp _ _ _ _=>true
 |_=>false
noncomputable def isTup:Expr->Bool
 |.Tuple _ _ _=>true
 |_=>false
noncomputable def Q_(S:Sx)(tg v:Expr):Bool:=match tg,v with
 |.Name x p,.ListComp _ _ sc pos=>(S.sc.names.lookup x==some .local)&&(p.line==pos.line)&&!(sc.names.any λ(n,k)=>n==x&&(k==.local||k==.cell))
 |_,_=>false
noncomputable def GJ:Expr->Option (Str×Pos)
 |.Name x p=>some (x,p)
 |_=>none
theorem uW{e:Expr}{x:Str}{p:Pos}(h:GJ e=some (x,p)):e=.Name x p:=by
 cases e<;>first|exact nk h | (cases h;done) | (cases h;rfl)
def BJ(S:Sx)(i j:Nat)(tg v:Expr):Bool :=
 bB (xo tg) λts=>bB (two ts) λt=>bB (GJ t.1) λx=>bB (GJ t.2) λy=>bB (xo v) λvs=>bB (two vs) λw =>
  decide (S.N[i]?=some x.1)&&decide (S.N[j]?=some y.1)&&decide (i≠j)&&decide (S.sc.names.lookup x.1=some .local)&&decide (S.sc.names.lookup y.1=some .local)&&decide (x.1≠y.1) &&
   decide (x.2.line=y.2.line)&&!([w.1,w.2].all (foldedForSure 8))&&!([w.1,w.2].all (constantsAlone 8))&&decide (([w.1,w.2].any λe=>match e with|.Starred ..=>true|_=>false)=false)
def OL(S:Sx)(it:CI)(e:Expr):Bool:=match it with
 |.lM a=>bB (dF e) λw=>decide (w.1=("range" : Str))&&gb S.sc w.1&&decide (w.1∈S.bl)&&bB (one w.2) λy=>cx S a y
 |.seq a=>cx S a e&&oN e
 |.Hv p es=>PZ e&&bB (S.px.pi p S.sc S.bl e) λxs=>bP S es xs
noncomputable def Ad:CI->Bool
 |.Hv p _=>decide (1100<=p)
 |_=>true
noncomputable def y8:Stmt->Option (aA×Expr)
 |.Assign ts v _=>some (ts,v)
 |_=>none
theorem pk{s:Stmt}{ts:aA}{v:Expr}(h:y8 s=some (ts,v)):∃p,s=.Assign ts v p:=by
 cases s<;>first|exact nk h | (cases h;done) | (cases h;exact⟨_,rfl⟩)
noncomputable def LP:Stmt->Option (Option Expr)
 |.Return v _=>some v
 |_=>none
theorem CA{s:Stmt}{v:Option Expr}(h:LP s=some v):∃p,s=.Return v p:=by
 cases s<;>first|exact nk h | (cases h;done) | (cases h;exact⟨_,rfl⟩)
noncomputable def LU:Stmt->Option Expr
 |.Expr v _=>some v
 |_=>none
theorem tJ{s:Stmt}{v:Expr}(h:LU s=some v):∃p,s=.Expr v p:=by
 cases s<;>first|exact nk h | (cases h;done) | (cases h;exact⟨_,rfl⟩)
noncomputable def CL:Stmt->Option (Expr×Operator×Expr)
 |.AugAssign o p v _=>some (o,p,v)
 |_=>none
theorem uZ{s:Stmt}{v:Expr}{p:Operator}(h:CL s=some (o,p,v)):∃q,s=.AugAssign o p v q:=by
 cases s<;>first|exact nk h | (cases h;done) | (cases h;exact⟨_,rfl⟩)
noncomputable def LQ:Stmt->Option (Expr×bt×bt)
 |.If t x y _=>some (t,x,y)
 |_=>none
theorem CD{s:Stmt}{t:Expr}{x y:bt}(h:LQ s=some (t,x,y)):∃q,s=.If t x y q:=by
 cases s<;>first|exact nk h | (cases h;done) | (cases h;exact⟨_,rfl⟩)
noncomputable def LO:Stmt->Option (Expr×bt×bt)
 |.While t x y _=>some (t,x,y)
 |_=>none
theorem Cz{s:Stmt}{t:Expr}{x y:bt}(h:LO s=some (t,x,y)):∃q,s=.While t x y q:=by
 cases s<;>first|exact nk h | (cases h;done) | (cases h;exact⟨_,rfl⟩)
noncomputable def LR:Stmt->Option (Expr×Expr×bt×bt)
 |.For tg it x y _=>some (tg,it,x,y)
 |_=>none
theorem CF{s:Stmt}{it:Expr}{x y:bt}(h:LR s=some (tg,it,x,y)):∃q,s=.For tg it x y q:=by
 cases s<;>first|exact nk h | (cases h;done) | (cases h;exact⟨_,rfl⟩)
noncomputable def mv:Expr->Option (Expr×Str×Pos)
 |.Attribute o a p=>some (o,a,p)
 |_=>none
theorem mq{e:Expr}{a:Str}{p:Pos}(h:mv e=some (o,a,p)):e=.Attribute o a p:=by
 cases e<;>first|exact nk h | (cases h;done) | (cases h;rfl)
noncomputable def kh:Expr->Option (Expr×aA×List Keyword×Pos)
 |.Call f as ks p=>some (f,as,ks,p)
 |_=>none
theorem kg{e f:Expr}{ks:List Keyword}{p:Pos}(h:kh e=some (f,as,ks,p)):e=.Call f as ks p:=by
 cases e<;>first|exact nk h | (cases h;done) | (cases h;rfl)
noncomputable def isNil{α:Type}:List α->Bool
 |[]=>true
 |_::_=>false
theorem jU{α:Type}{l:List α}(h:isNil l=true):l=[]:=by cases l<;>first|rfl|cases h
noncomputable def D4:Stmt->Bool
 |.Raise _ _ _=>true
 |_=>false
theorem wX{i:Nat}{e:Expr}(h:kJ S i e=true):∃x p,e=.Name x p:=by
 cases e<;>first|exact⟨_,_,rfl⟩|exact(aad h).elim
theorem v7{e:Expr}(h:isNm e=true):∃x p,e=.Name x p:=by cases e<;>first|exact nk h | (cases h;done)|exact⟨_,_,rfl⟩
theorem xX{e:Expr}(h:jh e=true):∃x g sc p,e=.ListComp x g sc p:=by cases e<;>first|exact nk h | (cases h;done)|exact⟨_,_,_,_,rfl⟩
mutual
noncomputable def OJ(S:Sx):CS->Stmt->Bool
 |.asg t e,s0=>bB (y8 s0) λz=>bB (one z.1) λtg=>cx S e z.2&&yw S t tg&&!(isTup z.2&&isTup tg)&&(!jh z.2||isNm tg)
 |.par i j a b,s0=>bB (y8 s0) λz=>bB (one z.1) λtg=>cx S (.tup [a,b]) z.2&&BJ S i j tg z.2
 |.ret e,s0=>bB (LP s0) λz=>bB z λv=>cx S e v
 |.rs _,s0=>D4 s0
 |.mut p i es,s0=>bB (S.px.pm p S.sc S.bl s0) λz=>kJ S i z.1&&P9 z.1&&bP S es z.2
 |.mu2 p i k e,s0=>bB (S.px.p2 p S.sc S.bl s0) λz=>kJ S i z.1&&P9 z.1&&bP S [k,e] z.2
 |.app i e,s0=>bB (LU s0) λc=>bB (kh c) λz=>isNil z.2.2.1&&bB (mv z.1) λa=>decide (a.2.1=("append" : Str))&&kJ S i a.1&&P9 a.1&&(a.2.2.endLine==z.2.2.2.line)&&bB (one z.2.1) λv=>cx S e v
 |.aug i op e,s0=>bB (CL s0) λz=>kJ S i z.1&&P9 z.1&&decide (z.2.1=if op then .Add else .Sub)&&cx S e z.2.2
 |.ex e,s0=>bB (LU s0) λv=>cx S e v&&!jh v
 |.ifs c a b,s0=>bB (LQ s0) λz=>cx S c z.1&&j4 S a z.2.1&&j4 S b z.2.2
 |.GG c b,s0=>bB (LO s0) λz=>isNil z.2.2&&cx S c z.1&&j4 S b z.2.1
 |.fr t it b,s0=>bB (LR s0) λz=>isNil z.2.2.2&&yw S t z.1&&OL S it z.2.1&&(hU z.1||Ad it)&&j4 S b z.2.2.1
noncomputable def j4(S:Sx):aj->bt->Bool
 |[],ss=>match ss with
  |[]=>true
  |_::_=>false
 |c::cs,ss=>match ss with
  |[]=>false
  |s::ss=>OJ S c s&&j4 S cs ss
end
structure Kr(px:Px)(Φ:a_):Prop where
 m:∀(X:Cx) (sc:Scope) (bl:aq) (k:Nat),PX X sc bl k->X.N.Nodup->(∀x,X.fn x=true)->∀(p:Nat) (st:Stmt) (x:Str) (pos:Pos) (args:aA),px.pm p sc bl st=some (.Name x pos,args)->∀(i:Nat),X.N[i]?=some x->L2.Loc X.env.scope x->PE X (.Name x pos) (pz i) ->
  ∀(F:ah) (cs:aF),lJ X F Φ cs args->PS X st (j_ X F Φ (.mut p i cs))
 m2:∀(X:Cx) (sc:Scope) (bl:aq) (k:Nat),PX X sc bl k->X.N.Nodup->(∀x,X.fn x=true)->∀(p:Nat) (st:Stmt) (x:Str) (pos:Pos) (args:aA),px.p2 p sc bl st=some (.Name x pos,args)->∀(i:Nat),X.N[i]?=some x->L2.Loc X.env.scope x->PE X (.Name x pos) (pz i) ->
  ∀(F:ah) (c1 c2:CE),lJ X F Φ [c1,c2] args->PS X st (j_ X F Φ (.mu2 p i c1 c2))
structure oy(X:Cx)(S:Sx)(k:Nat)(Φ:a_):Prop extends Lk X S k Φ where
 Bk:∀x,X.fn x=true
 px:PassesOwn (model X.prog X.w) X.A X.env X.xe
 fk:S.sc.kind=.function
 pm:Kr S.px Φ
section
variable {X:Cx}{S:Sx}{k:Nat}{F:ah}{Φ:a_}
theorem oy.loc(L:oy X S k Φ){x:Str}(h:Ia S.sc x=true):L2.Loc X.env.scope x:=by
 unfold L2.Loc;rw[L.sc];unfold Ia at h;rw[Bool.or_eq_true]at h;exact h.imp aac aac
theorem FJ(L:oy X S k Φ){x:Str}{p:Pos}{l:Nat}{elt:Expr}{gens:List Comprehension}{sc:Scope}:swapsWith (.ListComp elt gens sc pos) (some (.Name x p)) l X.env=pure (Q_ S (.Name x p) (.ListComp elt gens sc pos)):=by
 have hb:X.env.blockKind=.function:=by unfold Env.blockKind;rw[L.sc,L.fk];rfl
 have hk:(X.env.kindOf x==some .local)=(S.sc.names.lookup x==some .local):=by
  unfold Env.kindOf;rw[L.sc]
 unfold swapsWith Q_;simp only[hb,hk];rfl
theorem sL{c:CE}{e:Expr}(h:cx S c e=true)(hc:jh e=false)(t:Option Expr)(l:Nat)(env:Env):swapsWith e t l env=pure false:=by
 cases e<;>first|rfl | (cases hc;done) | (cases c<;>exact(aad h).elim)
def Uh:aO->Fp
 |[]=>Jh
 |i::is=>Bh (oW i) (Uh is)
theorem zX(L:oy X S k Φ){i:Nat}{e:Expr}(h:kJ S i e=true):PG X e (oW i):=by
 cases e<;>try (exact(aad h).elim;done)
 replace h:=aL h;exact pO L.nd (by rw[L.N];exact aac h.1) (L.loc h.2) (.inl (L.Bk _))
theorem DS{i:Nat}{e:Expr}(h:kJ S i e=true)(es:aA)(env:Env):assignEach (e::es) env=(false,assign e env)::assignEach es env:=by
 cases e<;>first|rfl | (exact(aad h).elim;done)
theorem zW(L:oy X S k Φ):∀{is:aO} {es:aA},BK S is es=true->Ly X es (Uh is)/\(assignEach es X.env).length=is.length/\(assignEach es X.env).findIdx? (·.1)=none
 |[],[],_=>⟨vI,rfl,rfl⟩
 |[],_::_,h=>by exact(aad h).elim
 |_::_,[],h=>by exact(aad h).elim
 |i::is,e::es,h=>by
  replace h:=aL h;obtain⟨h1,h2,h3⟩:=zW L h.2;have he:=DS h.1 es X.env;refine⟨rH (zX L h.1) h1 (by rw[he];rfl),by rw[he];simp[h2],?_⟩;rw[he,List.findIdx?_cons];simp[h3]
theorem qZ{H:Hp}{R:ah}{Q:St->Hp->Prop}:∀{is:aO} {vs:af} {ds:ae} {kp:bj} {n:Nat} {σ:St} {τ:Addr->Option bj} {ρ ρ':bh},aD (aW X.K H) (nd X.K R (λ_=>False) (λ_=>none) H) kp n vs ds->SI X F R τ ρ σ H->gI is ds ρ=ok ρ' ->
  (∀σ' τ',SI X F R τ' ρ' σ' H->Q σ' H)->Uh is vs σ H Q
 |[],_,_,_,_,σ,τ,_,_,.nil,Si,e,hq=>by
  cases e;exact⟨rfl,hq σ τ Si⟩
 |[],_,_,_,_,_,_,_,_,.cons _ _,_,e,_=>by cases e
 |_::_,_,_,_,_,_,_,_,_,.nil,_,e,_=>by cases e
 |i::is,_,_,_,_,σ,τ,ρ,_,.cons (v:=v) (d:=d) h t,Si,e,hq=>by
  change (if _ then _ else _)=_ at e;split at e
  ·rename_i hi;obtain⟨τ',fK⟩:=Si.set (i:=i) (lO (τ':=τ) (Rep.pZ h)) hi;exact⟨_,_,rfl,qZ t fK e hq⟩
  ·cases e
theorem zh(L:oy X S k Φ){t:Tg}(h:yw S t tg=true):∃g,PG X tg g/\∀(v:V) (σ:St) (H:Hp) (Q:St->Hp->Prop) (R:ah) (τ:Addr->Option bj) (ρ ρ':bh) (d:D),SI X F R τ ρ σ H->gC X R τ H v d->bV t d ρ=ok ρ' ->
  (∀σ' τ',SI X F R τ' ρ' σ' H->Q σ' H)->g v σ H Q:=by
 cases t with
 |nm i =>
  refine⟨oW i,zX L h,λv σ H Q R τ ρ ρ' d Si rk e hq=>?_⟩;simp only[bV]at e;split at e
  ·rename_i hi;cases e;obtain⟨τ',fK⟩:=Si.set rk hi;exact hq _ τ' fK
  ·cases e
 |tp is =>
  obtain⟨es,hx,ha⟩:=bD h;obtain⟨nn,pp,rfl⟩:=jE hx;obtain⟨h1,h2,h3⟩:=zW L ha;refine⟨_,zV L.calm h1 h2 h3,λv σ H Q R τ ρ ρ' d Si rk e hq=>?_⟩;cases d<;>try (simp[bV]at e;done)
  rename_i ds;simp only[bV]at e;split at e
  ·cases e
  ·rename_i ho;obtain⟨τt,ht,rp⟩:=rk;cases rp with
   | @tup _ p xs _ hp rs =>
    have qH:aD (aW X.K H) (nd X.K R (λ_=>False) (λ_=>none) H) [] 0 xs ds:=aD.without (P:=bR) (λ_ _ h=>h) (λk k' p xs f hf h=>by
     cases f with
     |ow=>cases hf
     |fz=>exact h
     |al=>exact h.2.elim
     |sc=>exact h) rs (by simpa using ho) _ _
    refine⟨p,xs,rfl,hp,?_,qZ qH Si e hq⟩;rw[rs.length];have:∀(is:aO) (ds:ae) (ρ ρ':bh),gI is ds ρ=ok ρ'->ds.length=is.length:=by
     intro is;induction is with
     |nil=>intro ds ρ ρ' e;cases ds with|nil=>rfl|cons _ _=>cases e
     |cons i is ih=>intro ds ρ ρ' e;cases ds with
      |nil=>cases e
      |cons d ds =>
       change (if _ then _ else _)=_ at e;split at e
       ·simp[ih ds _ _ e]
       ·cases e
    exact this _ _ _ _ e
end
section
variable {X:Cx}{S:Sx}{k:Nat}{F:ah}{Φ:a_}
theorem zm(L:oy X S k Φ){t:Tg}{e:CE}{v:Expr}(he:cx S e v=true)(ht:yw S t tg=true)(hp:(isTup v&&isTup tg)=false)(SF:swapsWithSole [tg] v pos.line X.env=pure false):PS X (.Assign [tg] v pos) (j_ X F Φ (.asg t e)):=by
 obtain⟨g,hg,AZ⟩:=zh (F:=F) L ht;have Kx:(∃x p,tg=.Name x p)\/∃es n p,tg=.Tuple es n p:=by
  cases t with
  |nm i=>cases tg<;>first|exact .inl ⟨_,_,rfl⟩|exact(aad ht).elim
  |tp is=>cases tg<;>first|exact .inr ⟨_,_,_,rfl⟩|exact(aad ht).elim
 have each:(assignEach [tg] X.env).map (·.2)=[assign tg X.env]:=by
  rcases Kx with ⟨x,p,rfl⟩|⟨es,n,p,rfl⟩<;>rfl
 have hw:swappedStores [tg] v X.env=pure none:=by
  rcases Kx with ⟨x,p,rfl⟩|⟨es,n,p,rfl⟩
  ·first|rfl | (cases v<;>rfl)
  ·cases v<;>first|rfl|exact absurd hp (by simp[isTup])
 refine PS.imp (Hs (tV (F:=F) L.toLk e v he) hg SF hw each) λD σ H hq=>?_;obtain⟨R,τ,ρ,r,Si,ev,hq⟩:=hq;obtain⟨r1,yU,ev⟩:=aH ev;obtain⟨ρ',eρ,ev⟩:=aH ev;cases ev;exact⟨R,τ,ρ,r1,Si,yU,λv H' R' τ' es hR fK rk=>AZ v σ H' _ R' τ' r1.2 ρ' r1.1 fK rk eρ λσ' yY Kn=>hq σ' H' R' yY Kn (Kp.of es hR)⟩
theorem C8(L:oy X S k Φ){i n:Nat}{t:Tg}{ik:IK}{x:Str}{p Mo:Pos}{gens:List Comprehension}{sc:Scope}
  (he:cx S (.comp n t caps ik es bI elt) (.ListComp iQ gens sc pos)=true) (hn:kJ S i (.Name x p)=true) (SF:swapsWith (.ListComp iQ gens sc pos) (some (.Name x p)) Mo.line X.env=pure true) :
  PS X (.Assign [.Name x p] (.ListComp iQ gens sc pos) Mo) (j_ X F Φ (.asg (.nm i) (.comp n t caps ik es bI elt))):=by
 intro pins s σ H D I hq;obtain⟨R,τ,ρ,r,Si,ev,hq⟩:=hq;obtain⟨r1,yU,ev⟩:=aH ev;obtain⟨ρ',eρ,ev⟩:=aH ev;cases ev;have yU:bd (bx Φ (.comp n t caps ik es bI elt) ρ) (λd=>ok (keep (.comp n t caps ik es bI elt) d ρ))=ok r1:=yU;obtain⟨d,ed,yU⟩:=aH yU;cases yU;have hg:=zX L hn;rw[exec_Assign_Name_used _ _ _ _ SF];refine aaa (ace (aaa ?_));obtain⟨⟨e0,g0,s0⟩,X3,AM⟩:=bD he;cases X3;obtain⟨⟨target,iter,ifs,a⟩,Tt,hz⟩:=bD AM;obtain rfl:gens=_:=b9 Tt;obtain⟨hz,h6⟩:=aL hz;obtain⟨hz,h5⟩:=aL hz;obtain⟨hz,h4⟩:=aL hz;obtain⟨hz,h3⟩:=aL hz;obtain⟨hz,h2⟩:=aL hz;obtain⟨hz,h1⟩:=aL hz;obtain rfl:a=0:=aac hz;have hC:=sG (aac h3) h4 (λ(X':Cx) (F':ah) (L':Lk X' (S.inner target caps sc) k Φ)=>gW bI X' _ F' L' ifs h4);have run:wpAny (model X.prog X.w) X.A (comprehension (.ListComp iQ [⟨target,iter,ifs,0⟩] sc pos) sc X.env (firstIterPos [⟨target,iter,ifs,0⟩] pos) (newList []) false (eval iter X.env) (some (assign (.Name x p) X.env))) (λ_ s'=>SP X pins D .next s') X.xe s:=by
  refine sH (F:=F) (k:=k) L.toLk (o6 h1) h2 (λX' F' L'=>(gU (F:=F') L' elt iQ h5).1) hC ?_ (use:=some (assign (.Name x p) X.env)) (Post:=λ_ s'=>SP X pins D .next s') I Si ed ?_
  ·exact AG L.toLk (λl=>vp (F:=F) L.toLk es l) (λl=>gW es X S F L.toLk l) (λl=>jL L.toLk es l) h6
  ·intro acc C H1 s1 m yN hc IX sm rt;obtain⟨c1,c2,c3,c4,c5⟩:=hc;obtain⟨R',τ',hR,fK,rk⟩:=FY (e:=.comp n t caps ik es bI elt) Si sm rt;have I1:Inv X pins σ H1 s1:=IX s1.heap (.refl ..);obtain⟨oC,YZ,Y0,Yg,V8,Yb⟩:=yN;have Zh:C∉X.fs:=λz=>by
    obtain⟨_,o,ho,_⟩:=I1.ok.lD.mem z;exact absurd (aao (aai ho) c2) (aav _)
   have I2:Inv X ((C,oC)::pins) σ H1 s1:=I1.iE λq hq=>by
    rcases List.mem_cons.mp hq with rfl|hq
    ·exact⟨Yg,c5,c1,Zh,λv z=>by rw[V8]at z;cases z⟩
    ·exact I1.pin q (aam _ hq)
   simp only[bV]at eρ;split at eρ
   ·rename_i hi;cases eρ;obtain⟨τ2,sV⟩:=fK.set rk hi;show wpAny _ _ (assign (.Name x p) X.env (.ref acc)) _ _ _;refine aaw (hg ((C,oC)::pins) s1 σ H1 (.ref acc) (.ref acc) (λσ' H'=>σ'=σ.set i (some (.ref acc))/\H'=H1) I2 rfl ⟨rfl,rfl⟩) (λ_ s2 h2=>?_) λ_ _ z=>z;obtain⟨σ',H',I3,rfl,rfl⟩:=h2;have YK:=(I3.pin (C,oC) (aam _ aaf)).1;refine⟨m,⟨oC,YZ,Y0,YK,V8,Yb⟩,λh' yM=>?_⟩;have I4:Inv X pins (σ.set i (some (.ref acc))) H' s2:=I3.iE λq hq=>I3.pin q (aam _ (aae _ hq));have I5:=I4.turned (t':=s2.toks) (h':=h') (it:=C) (λb o hb e=>(yM.2 b hb).trans e) c5 c1 (.inr c2) c3 c4;exact⟨_,H',I5,hq _ H' R' τ2 sV (Kp.of sm hR)⟩
   ·cases eρ
 exact aaa (aaw run (λ_ s' h=>aab (aab h)) λ_ _ z=>z)
theorem GZ(L:oy X S k Φ){e:CE}{v:Expr}(he:cx S e v=true):PS X (.Return (some v) pos) (j_ X F Φ (.ret e)):=by
 refine PS.imp (Hq (tV (F:=F) L.toLk e v he)) λD σ H hq=>?_;obtain⟨R,τ,ρ,r,Si,ev,hq⟩:=hq;obtain⟨r1,yU,ev⟩:=aH ev;cases ev;exact⟨R,τ,ρ,r1,Si,yU,λv H' R' τ' es hR fK rk=>hq v H' fK.same (rk.ret fK)⟩
theorem Mn(L:oy X S k Φ){e:CE}{v:Expr}(he:cx S e v=true)(S_:jh v=false):PS X (.Expr v pos) (j_ X F Φ (.ex e)):=by
 refine PS.imp (jN (gU (F:=F) L.toLk e v he).1 (sL he S_ _ _ _)) λD σ H hq=>?_;obtain⟨R,τ,ρ,r,Si,ev,hq⟩:=hq;obtain⟨d,ed,ev⟩:=aH ev;cases ev;exact tD.intro Si ed λv H' es rv=>hq σ H' R τ (Si.go es) (Kp.of es λ_ h=>h)
theorem lj.from{D:Ends}{R:Addr->Prop}{H:Hp}{r:Fo×bh}(h:lj X F D R H r)(kp:Kp R H R1 H1):lj X F D R1 H1 r:=by
 obtain⟨fo,ρ'⟩:=r;cases fo with
 |nx=>exact λσ' H' R' τ' Si k2=>h σ' H' R' τ' Si (kp.trans k2)
 |bk=>exact λσ' H' R' τ' Si k2=>h σ' H' R' τ' Si (kp.trans k2)
 |ct=>exact λσ' H' R' τ' Si k2=>h σ' H' R' τ' Si (kp.trans k2)
 |rt d=>exact h
theorem Mm(L:oy X S k Φ){c:CE}{a b:aj}{t:Expr}{x y:bt}(hc:cx S c t=true)(ha:me X x (nV X F Φ a))(hb:me X y (nV X F Φ b)):PS X (.If t x y pos) (j_ X F Φ (.ifs c a b)):=by
 refine PS.imp (MM (gU (F:=F) L.toLk c t hc).2 ha hb) λD σ H hq=>?_;obtain⟨R,τ,ρ,r,Si,ev,hq⟩:=hq;obtain⟨w,ew,ev⟩:=aH ev;refine⟨R,τ,ρ,w,Si,ew,λH1 e1=>?_⟩;cases w with
 |true=>rw[if_pos rfl]at ev ⊢;exact⟨R,τ,ρ,r,Si.go e1,ev,hq.from (Kp.of e1 λ_ h=>h)⟩
 |false=>rw[if_neg (by simp)]at ev ⊢;exact⟨R,τ,ρ,r,Si.go e1,ev,hq.from (Kp.of e1 λ_ h=>h)⟩
theorem zl(L:oy X S k Φ){c:CE}{b:aj}{t:Expr}{x:bt}(hc:cx S c t=true)(hb:me X x (nV X F Φ b)):PS X (.While t x [] pos) (j_ X F Φ (.GG c b)):=by
 refine PS.imp (zN L.px (gU (F:=F) L.toLk c t hc).2 hb) λD σ H hq=>?_;obtain⟨R,τ,ρ,r,Si,ev,hq⟩:=hq;obtain⟨n,hn⟩:=kv ev;refine⟨λm σ' H'=>∃R' τ' ρ',SI X F R' τ' ρ' σ' H'/\Kp R H R' H'/\cK m _ ρ'=ok r,⟨n,R,τ,ρ,Si,Kp.refl R H,hn⟩,?_⟩;rintro m σ1 H1 ⟨R1,τ1,ρ1,lI,k1,e1⟩;cases m with
 |zero=>simp[cK]at e1
 |succ m =>
  rw[cK]at e1;obtain⟨st,es,e1⟩:=aH e1;obtain⟨w,ew,es⟩:=aH es;refine⟨R1,τ1,ρ1,w,lI,ew,λH2 e2=>?_⟩;cases w with
  |false =>
   rw[if_neg (by simp)]at es ⊢;cases es;cases e1;exact hq σ1 H2 R1 τ1 (lI.go e2) (k1.trans (Kp.of e2 λ_ h=>h))
  |true =>
   rw[if_pos rfl]at es ⊢;obtain⟨⟨fo,ρ2⟩,eb,es⟩:=aH es;refine⟨λσ' H'=>∃R' τ' ρ',SI X F R' τ' ρ' σ' H'/\Kp R H R' H'/\cK m _ ρ'=ok r,λσ' H' h=>⟨m,aa8 m,h⟩,R1,τ1,ρ1,(fo,ρ2),lI.go e2,eb,?_⟩;have k2:Kp R H R1 H2:=k1.trans (Kp.of e2 λ_ h=>h);cases fo with
   |nx=>cases es;exact λσ' H' R' τ' fK k3=>⟨R',τ',ρ2,fK,k2.trans k3,e1⟩
   |ct=>cases es;exact λσ' H' R' τ' fK k3=>⟨R',τ',ρ2,fK,k2.trans k3,e1⟩
   |bk=>cases es;cases e1;exact λσ' H' R' τ' fK k3=>hq σ' H' R' τ' fK (k2.trans k3)
   |rt d=>cases es;cases e1;exact hq
def j9(X:Cx)(F:ah)(Φ:a_)(t:Tg)(b:aj)(R1:ah)(H1:Hp)(r:Fo×bh)(items:List DI.D)(i:Nat)(σ:St)(H:Hp):Prop :=
 ∃R' τ' ρ',SI X F R' τ' ρ' σ H/\Kp R1 H1 R' H/\cR (λd ρ=>bV t d ρ) (λρ=>bX Φ b ρ) (items.drop i) ρ'=ok r
theorem nj{g:TG}{t:Tg}{b:aj}{D:Ends}{r:Fo×bh}{items:List DI.D}{q:bj}
  (AZ:∀(v:V) (σ:St) (H:Hp) (Q:St->Hp->Prop) (R:ah) (τ:Addr->Option bj) (ρ ρ':bh) (d:DI.D),SI X F R τ ρ σ H->gC X R τ H v d->bV t d ρ=ok ρ'->(∀σ' τ',SI X F R τ' ρ' σ' H->Q σ' H)->g v σ H Q)
  (rs:aD (aW X.K H1) (nd X.K R1 (λ_=>False) (λ_=>none) H1) q 0 xs items) (hq:lj X F D R1 H1 r) (i:Nat) (x:V) (σ:St) (H:Hp) (hx:xs[i]?=some x) (h:j9 X F Φ t b R1 H1 r items i σ H) :
  g x σ H λσ2 H2=>nV X F Φ b { D with nx:=j9 X F Φ t b R1 H1 r items (i+1),ct:=j9 X F Φ t b R1 H1 r items (i+1),bk:=D.nx } σ2 H2:=by
 obtain⟨R',τ',ρ',Si,kp,ef⟩:=h;obtain⟨d,hd,rd⟩:=rs.yj hx;have hi:i<items.length:=by
  by_cases hi:i<items.length
  ·exact hi
  ·rw[List.getElem?_eq_none (by left)]at hd;cases hd
 have r_:items.drop i=d::items.drop (i+1):=by
  rw[List.drop_eq_getElem_cons hi];rw[List.getElem?_eq_getElem hi]at hd;cases hd;rfl
 rw[r_,cR]at ef;obtain⟨ρ1,e1,ef⟩:=aH ef;obtain⟨⟨fo,ρ2⟩,e2,ef⟩:=aH ef;refine AZ x σ H _ R' τ' ρ' ρ1 d Si (lO (Rep.pZ (kp.rep rd))) e1 λσ' yY fK=>⟨R',yY,ρ1,(fo,ρ2),fK,e2,?_⟩
 cases fo with
 |nx=>exact λσ3 H3 R3 τ3 uS k3=>⟨R3,τ3,ρ2,uS,kp.trans k3,ef⟩
 |ct=>exact λσ3 H3 R3 τ3 uS k3=>⟨R3,τ3,ρ2,uS,kp.trans k3,ef⟩
 |bk=>cases ef;exact λσ3 H3 R3 τ3 uS k3=>hq σ3 H3 R3 τ3 uS (kp.trans k3)
 |rt d=>cases ef;exact hq
theorem lV{t:Tg}{b:aj}{D:Ends}{r:Fo×bh}{items:List DI.D}{n:Nat}(hn:n=items.length)(hq:lj X F D R1 H1 r)(σ:St)(H:Hp)(h:j9 X F Φ t b R1 H1 r items n σ H):D.nx σ H:=by
 obtain⟨R',τ',ρ',Si,kp,ef⟩:=h;subst hn;rw[List.drop_length,cR]at ef;cases ef;exact hq σ H R' τ' Si kp
theorem wz(ρ:bh):h_ [] ρ=ρ:=by
 unfold h_;apply abH;intro i;rw[List.getElem?_mapIdx];cases ρ[i]? with
 |none=>rfl
 |some o=>simp
theorem wC{R:ah}{H:Hp}{v:V}{d:DI.D}(Si:SI X F R τ ρ σ H)(es:aI H H')(r:bY X.K (gP X F) R τ fv H H' v d):
  ∃R' τ',(∀p,R p->R' p)/\SI X F R' τ' (if aT bL d then h_ fv ρ else ρ) σ H'/\Rep (aW X.K H') (nd X.K R' (λ_=>False) (λ_=>none) H') [] v (aY bp d):=by
 by_cases ha:aT bL d=true
 ·rw[if_pos ha];exact qh Si es r
 ·rw[if_neg ha];have r':bY X.K (gP X F) R τ [] H H' v d:=by
   obtain⟨τt,fr,rp⟩:=r;exact⟨τt,fr,Rep.jB (P:=bL) (λ_ _ h=>h) (λk p xs f hf h=>by
    cases f with
    |ow=>exact h
    |fz=>exact h
    |al=>cases hf
    |sc=>exact h) rp (by simpa using ha)⟩
  have:=qh Si es r';rw[wz]at this;exact this
theorem Bi{R:ah}{H:Hp}{ds:List DI.D}(Si:SI X F R τ ρ σ H)(es:aI H H')(r:cq X.K (gP X F) R τ fv H H' vs ds):
  ∃R' τ',(∀p,R p->R' p)/\SI X F R' τ' (if aQ bL ds then h_ fv ρ else ρ) σ H'/\aD (aW X.K H') (nd X.K R' (λ_=>False) (λ_=>none) H') [] 0 vs (aC bp ds):=by
 by_cases ha:aQ bL ds=true
 ·rw[if_pos ha];exact sf Si es r
 ·rw[if_neg ha];have r':cq X.K (gP X F) R τ [] H H' vs ds:=by
   obtain⟨τt,fr,rp⟩:=r;exact⟨τt,fr,aD.jB (P:=bL) (λ_ _ h=>h) (λk p xs f hf h=>by
    cases f with
    |ow=>exact h
    |fz=>exact h
    |al=>cases hf
    |sc=>exact h) rp (by simpa using ha)⟩
  have:=sf Si es r';rw[wz]at this;exact this
def WW(X:Cx)(F:ah)(Φ:a_)(p:Nat)(cs:aF):TI:=λσ H Rr=>∃R τ ρ xs d items,SI X F R τ ρ σ H/\cz Φ cs ρ=ok xs/\Φ p xs=ok d/\rg d=ok items /\
 ∀J H2 vs,aI H H2->cq X.K (gP X F) R τ (dw cs) H H2 vs xs->O7 X.K J H2 vs xs items->Rr J H2
theorem C7(L:oy X S k Φ){t:Tg}{p:Nat}{b:aj}{x:bt}(ht:yw S t tg=true)(hi:S.px.pi p S.sc S.bl iter=some args)(hc:bP S cs args=true)(IE:PZ iter=true)(X6:(decide (1100<=p)||hU tg)=true)(hb:me X x (nV X F Φ b)):PS X (.For tg iter x [] pos) (j_ X F Φ (.fr t (.Hv p cs) b)):=by
 obtain⟨g,hg,AZ⟩:=zh (F:=F) L ht;have m9:∀y,foldedSetIterable iter X.env y=pure y:=by
  intro y;cases iter<;>first|rfl | (cases IE;done)
 have pi:PI X tg iter (WW X F Φ p cs):=λpins s σ H Rr I ⟨R,τ,ρ,xs,d,items,Si,cy,ed,ei,hR⟩ =>
  L.pr.i X _ _ k L.toLk.pX p iter args hi F cs tg X6 (jL L.toLk cs args hc) pins s σ H R τ ρ xs d items I Si cy ed ei Rr hR
 refine PS.imp (pN L.px L.calm pi hg hb m9) λD σ H hq=>?_;obtain⟨R,τ,ρ,r,Si,ev,hq⟩:=hq;obtain⟨⟨items,ρ1⟩,ei,ef⟩:=aH ev;obtain⟨xs,cy,ei⟩:=aH ei;obtain⟨d,ed,ei⟩:=aH ei;obtain⟨Sa,Y6,ei⟩:=aH ei;cases ei;refine⟨R,τ,ρ,xs,d,items,Si,cy,ed,Y6,λJ H2 vs e2 Di yz=>?_⟩;obtain⟨R',τ',hR,fK,rs⟩:=Bi Si e2 Di;have wc:=hq.from (Kp.of e2 hR);refine⟨λi m σ' H'=>m=items.length - i/\i<=items.length/\j9 X F Φ t b R' H2 r items i σ' H',⟨_,rfl,aaF _,R',τ',_,fK,Kp.refl R' H2,by rw[List.drop_zero];exact ef⟩,?_⟩;rintro i m σ1 H1 ⟨rfl,Lc,hf⟩;obtain⟨R1,τ1,ρ2,lI,k1,e1⟩:=id hf;have He:=k1.Ru rs;have iz:sU X.K H2 vs xs H1:=⟨⟨R',rs,k1.l⟩,λa ys h=>k1.PD h⟩
 by_cases cL:i<items.length
 ·refine .inr ⟨yz.go i H1 R1 iz He cL,λσ' H'=>j9 X F Φ t b R' H2 r items (i+1) σ' H',λσ' H' h=>⟨items.length - (i+1),by left,rfl,cL,h⟩,λv H3 hy=>?_⟩;obtain⟨e3,dd,hd,rd⟩:=yz.s_ i H1 R1 v H3 iz He cL hy;have r_:items.drop i=dd::items.drop (i+1):=by
   rw[List.drop_eq_getElem_cons cL];rw[List.getElem?_eq_getElem cL]at hd;cases hd;rfl
  rw[r_,cR]at e1;obtain⟨ρ3,eb,e1⟩:=aH e1;obtain⟨⟨fo,ρ4⟩,e4,e1⟩:=aH e1;have k3:Kp R' H2 R1 H3:=k1.trans (Kp.of e3 λ_ h=>h);refine AZ v σ1 H3 _ R1 τ1 ρ2 ρ3 dd (lI.go e3) (lO rd) eb λσ' yY Kn=>⟨R1,yY,ρ3,(fo,ρ4),Kn,e4,?_⟩
  cases fo with
  |nx=>exact λσ3 H4 R3 τ3 uS k4=>⟨R3,τ3,ρ4,uS,k3.trans k4,e1⟩
  |ct=>exact λσ3 H4 R3 τ3 uS k4=>⟨R3,τ3,ρ4,uS,k3.trans k4,e1⟩
  |bk=>cases e1;exact λσ3 H4 R3 τ3 uS k4=>wc σ3 H4 R3 τ3 uS (k3.trans k4)
  |rt d=>cases e1;exact wc
 ·exact .inl ⟨yz.stop i H1 R1 iz He (by left),lV (n:=i) (by left) wc σ1 H1 hf⟩
theorem aD.ints{T:lg}{N:gR}:∀(is:aa) {k:bj} {n:Nat},aD T N k n (is.map V.int) (is.map DI.D.int)
 |[],_,_=>.nil
 |i::is,_,_=>.cons (.int i) (aD.ints is)
theorem G1(L:oy X S k Φ){t:Tg}{it:CI}{b:aj}{x:bt}(ht:yw S t tg=true)(hi:OL S it iter=true)(Yh:(hU tg||Ad it)=true)(hb:me X x (nV X F Φ b)):PS X (.For tg iter x [] pos) (j_ X F Φ (.fr t it b)):=by
 obtain⟨g,hg,AZ⟩:=zh (F:=F) L ht;have m9:∀y,foldedSetIterable iter X.env y=pure y:=by
  intro y;cases iter<;>first|rfl | (cases it<;>first|exact(aad hi).elim|exact(aad (aL hi).2).elim)
 have lM:∀{lo:Int} {n:Nat} {D:Ends} {R:ah} {τ:Addr->Option bj} {ρ:bh} {σ:St} {H H1:Hp} {r:Fo×bh},SI X F R τ ρ σ H->aI H H1->lj X F D R H r ->
   cR (λd ρ=>bV t d ρ) (λρ=>bX Φ b ρ) ((List.range n).map λ(k:Nat)=>DI.D.int (lo+(k:Int))) ρ=ok r ->
   ∃W:Nat->Nat->L2.St->Hp->Prop,(∃m,W 0 m σ H1)/\∀i m σ H,W i m σ H ->
    ((yH lo n).stop i H/\D.nx σ H)\/((yH lo n).go i H/\∃N:L2.St->Hp->Prop,(∀σ' H',N σ' H'->∃m',m'<m/\W (i+1) m' σ' H')/\∀x H',(yH lo n).s_ i H x H'->g x σ H' λσ2 H2=>nV X F Φ b { D with nx:=N,ct:=N,bk:=D.nx } σ2 H2):=by
  intro lo n D R τ ρ σ H H1 r Si e1 hq ef;have rs:aD (aW X.K H1) (nd X.K R (λ_=>False) (λ_=>none) H1) [] 0 ((List.range n).map λ(k:Nat)=>V.int (lo+(k:Int))) ((List.range n).map λ(k:Nat)=>DI.D.int (lo+(k:Int))):=by
   have:=aD.ints (T:=aW X.K H1) (N:=nd X.K R (λ_=>False) (λ_=>none) H1) ((List.range n).map λ(k:Nat)=>lo+(k:Int)) (k:=[]) (n:=0);rw[List.map_map,List.map_map]at this;exact this
  have wc:=hq.from (Kp.of e1 (R':=R) λ_ h=>h);refine ym (j9 X F Φ t b R H1 r _) ⟨R,τ,ρ,Si.go e1,Kp.refl R H1,by rw[List.drop_zero];exact ef⟩ (λi σ' H' Tp h=>?_) (λσ' H' h=>lV (by simp) wc σ' H' h);exact nj AZ rs wc i (.int (lo+i)) σ' H' (by rw[List.getElem?_map,List.getElem?_range Tp];rfl) h
 intro pins s σ H D I SN;cases it with
 |Hv p cs =>
  obtain⟨IE,hz⟩:=aL hi;obtain⟨args,ha,K3⟩:=bD hz;exact C7 L ht ha K3 IE (by rw[Bool.or_comm];exact Yh) hb pins s σ H D I SN
 |lM a =>
  obtain⟨R,τ,ρ,r,Si,ev,hq⟩:=SN;obtain⟨⟨items,ρ1⟩,ei,ef⟩:=aH ev;obtain⟨⟨y,as⟩,hv,hz⟩:=bD hi;obtain⟨p,Iv,rfl⟩:=cG hv;obtain⟨VO,K3⟩:=aL hz;obtain⟨XZ,h2⟩:=aL VO;obtain⟨XY,h1⟩:=aL XZ;obtain rfl:y=_:=aac XY;obtain⟨e,hu,h3⟩:=bD K3;obtain rfl:as=[e]:=b9 hu;have pa:PA X [e] (qT X F Φ [a]):=PA.imp (cv (gU (F:=F) L.toLk a e h3).1 dI (cf h3 _ _)) λ_ _ _ h=>by
   have:=fV h;obtain⟨R,τ,ρ,d,Si,ev,hq⟩:=this;exact⟨R,τ,ρ,d,Si,ev,λv H' e r=>jJ (hq v H' e r)⟩
  refine pN L.px L.calm (oJ (L.gl h1) (L.bl _ (aac h2)) pa (cf h3 _ _)) hg hb m9 pins s σ H D I ?_;obtain⟨d,ed,ei⟩:=aH ei;cases d<;>try (simp at ei;done)
  rename_i n;simp at ei;obtain⟨⟨c1,c2⟩,rfl,rfl⟩:=ei;have jX:(ck:Int)=1000000:=rfl;refine⟨R,τ,ρ,[.int n],Si,by show bd (bx Φ a ρ) _=_;rw[ed];rfl,λvs H1 e1 rv=>?_⟩;obtain⟨τt,fr,rs⟩:=rv;cases rs.ints1
  ·refine⟨n,rfl,by left,by left,?_⟩;refine lM (lo:=0) Si e1 hq ?_;simpa using ef
 |seq a =>
  obtain⟨R,τ,ρ,r,Si,ev,hq⟩:=SN;obtain⟨⟨items,ρ1⟩,ei,ef⟩:=aH ev;replace hi:=aL hi;obtain⟨d,ed,ei⟩:=aH ei;have pe:=(gU (F:=F) L.toLk a iter hi.1).1;cases d<;>try (simp at ei;done)
  ·rename_i ds;simp at ei;obtain⟨rfl,rfl⟩:=ei;refine pN L.px L.calm (zU pe) hg hb m9 pins s σ H D I (tD.intro Si ed λv H1 e1 rv=>?_);obtain⟨R',τ',hR,fK,rp⟩:=wC Si e1 rv;rw[aY]at rp;cases rp with
   | @tup _ p xs _ hp rs =>
    have wc:=hq.from (Kp.of e1 hR);refine⟨p,rfl,⟨xs,hp⟩,Es (xs:=xs) (j9 X F Φ t b R' H1 r (aC bp ds)) ⟨R',τ',_,fK,Kp.refl R' H1,by rw[List.drop_zero];exact ef⟩ (λi σ' H' _ h=>?_) (λi x σ' H' hx h=>nj AZ rs wc i x σ' H' hx h) (λσ' H' h=>lV (rs.length) wc σ' H' h)⟩;obtain⟨R2,τ2,ρ2,_,kp,_⟩:=h;exact kp.PD hp
  ·rename_i f ds;simp at ei;obtain⟨rfl,rfl⟩:=ei;refine pN L.px L.calm (vH pe) hg hb m9 pins s σ H D I (tD.intro Si ed λv H1 e1 rv=>?_);obtain⟨R',τ',hR,fK,rp⟩:=wC Si e1 rv;rw[aY]at rp;obtain⟨p,xs,rfl,hp,rs⟩:=rp.nQ;have wc:=hq.from (Kp.of e1 hR);refine⟨p,rfl,⟨xs,hp.sq⟩,Bj (xs:=xs) (j9 X F Φ t b R' H1 r (aC bp ds)) ⟨R',τ',_,fK,Kp.refl R' H1,by rw[List.drop_zero];exact ef⟩ (λi σ' H' _ h=>?_) (λi x σ' H' hx h=>nj AZ rs wc i x σ' H' hx h) (λσ' H' h=>lV (rs.length) wc σ' H' h)⟩;obtain⟨R2,τ2,ρ2,_,kp,_⟩:=h;exact(kp.nd hp).sq
theorem jg{R:Addr->Prop}{ρ':bh}{H:Hp}{p:Addr}{q:bj}{n:Nd}{o:HO}(Si:SI X F R' τ' ρ' σ H1)(es:aI H H1)(hR:∀p,R p->R' p)(hp:dE H1 p n)(ht:τ' p=some q):Kp R H R' (upd H1 p o):=by
 obtain⟨o0,K7,NM,K6⟩:=dE.some hp;exact⟨hR,λa u ha e=>by
  have ne:a≠p:=λz=>by subst z;rw[Si.rt _ (hR _ ha)]at ht;cases ht
  rw[aZ ne];exact es _ _ e,λa zs e=>by
  have e1:=es _ _ e;have ne:a≠p:=λz=>by subst z;rw[K7]at e1;cases e1;exact NM _ rfl
  rw[aZ ne];exact e1,λa o u e=>by
  have e1:=es _ _ e;have ne:a≠p:=λz=>by subst z;rw[K7]at e1;cases e1;exact K6 _ _ rfl
  rw[aZ ne];exact e1⟩
theorem P8(L:oy X S k Φ){i:Nat}(h:kJ S i o=true)(hv:∀x p,o=.Name x p->mN x=true):∃x p,o=.Name x p/\X.N[i]?=some x/\L2.Loc X.env.scope x/\PE X o (pz i):=by
 cases o<;>try (exact(aad h).elim;done)
 rename_i x p;have hn:=hv x p rfl;replace h:=aL h;unfold mN at hn;simp only[Bool.and_eq_true,Bool.not_eq_true']at hn;have hN:X.N[i]?=some x:=by rw[L.N];exact aac h.1
 have hl:=L.loc h.2;exact⟨x,p,rfl,hN,hl,t7 hN (hl.imp id .inl) hn.1.1 hn.1.2⟩
theorem Ew{e:CE}{r:DI.D×bh}{i:Nat}{ds:List DI.D}(h:ji Φ e ρ=ok r)(ho:r.2[i]?=some (some (.lst .ow ds))):ρ[i]?=some (some (.lst .ow ds)):=by
 by_cases hv:∃j,e=.v j
 ·obtain⟨j,rfl⟩:=hv;simp only[ji]at h;split at h
  ·split at h
   ·cases h;by_cases de:i=j
    ·subst de;rw[List.getElem?_set]at ho;simp at ho
    ·rw[List.getElem?_set_ne (Ne.symm de)]at ho;exact ho
   ·cases h;exact ho
  ·cases h
 ·have h':bd (bx Φ e ρ) (λd=>ok (keep e d ρ))=ok r:=by
   cases e<;>first|exact h|exact absurd ⟨_,rfl⟩ hv
  obtain⟨d,_,er⟩:=aH h';cases er;unfold keep at ho;split at ho
  ·obtain⟨d',h1,h2⟩:=wA _ _ _ _ ho;split at h2
   ·cases d'<;>simp[aY]at h2;rename_i f ds';cases f<;>simp[bp]at h2
   ·rw[h2];exact h1
  ·exact ho
theorem G4(L:oy X S k Φ){i:Nat}{e:CE}{x:Str}{v:Expr}{p p1 p2:Pos}(hn:kJ S i (.Name x p)=true)(hx:mN x=true)(he:cx S e v=true)(tq:(p1.endLine==p2.line)=true):PS X (.Expr (.Call (.Attribute (.Name x p) ("append" : Str) p1) [v] [] p2) pos) (j_ X F Φ (.app i e)):=by
 obtain⟨_,_,z,hN,hl,pe⟩:=P8 L hn (λy q e=>by cases e;exact hx);cases z;refine PS.imp (jN (z8 abg abA PySem.F.type_list_append oO pe (cv (tV (F:=F) L.toLk e v he) dI (cf he _ _)) (hfew:=by rw[cf he];rfl) (hline:=tq) (hs:=cf he _ _))) λD σ H hq=>?_;obtain⟨R,τ,ρ,r,Si,ev,hq⟩:=hq;obtain⟨r1,yU,ev⟩:=aH ev;split at ev
 ·rename_i ds ho;split at ev
  ·rename_i hc;cases ev;have ho:=DE ho;obtain⟨a,xs,hv,ha,X1,SE,_⟩:=Si.own (Ew yU ho);refine⟨.ref a,hv,.inl ⟨rfl,_,dh.of ha⟩,R,τ,ρ,r1,Si,yU,λw H1 R1 τ1 es hR lI rk=>?_⟩;obtain⟨a1,Fy,ID,Ga,Ss,AO,He⟩:=lI.own ho;rw[hv]at ID;cases ID;have hz:sizeLine=16777216:=aaY;have jX:ck=1000000:=rfl;refine⟨a,Fy,w,rfl,rfl,Ga,by left,?_⟩;obtain⟨τ2,sV⟩:=lI.put (m:=ds.length) (g:=λys=>ys++[w]) ho hv Ga AO He rk λrs r=>aD.vq rs (by simpa using r);exact hq σ _ R1 τ2 sV (jg (n:=.l _) lI es hR Ga AO)
  ·cases ev
 ·cases ev
theorem G3(L:oy X S k Φ){i:Nat}{b:Bool}{e:CE}{x:Str}{v:Expr}{p:Pos}(hn:kJ S i (.Name x p)=true)(hx:mN x=true)(he:cx S e v=true):PS X (.AugAssign (.Name x p) (if b then .Add else .Sub) v pos) (j_ X F Φ (.aug i b e)):=by
 obtain⟨_,_,z,hN,hl,pe⟩:=P8 L hn (λy q e=>by cases e;exact hx);cases z;have ip:Pl X (if b then .Add else .Sub) (Sk λy z=>if b then y+z else y - z):=by
  cases b
  ·exact Iw
  ·exact Iz
 refine PS.imp (zP L.nd hN hl (gU (F:=F) L.toLk e v he).1 ip (.inl (L.Bk _))) λD σ H hq=>?_;obtain⟨R,τ,ρ,r,Si,ev,hq⟩:=hq;obtain⟨n,en,ev⟩:=aH ev;obtain⟨d,ed,en⟩:=aH en;have en:=D5 en;subst en;split at ev
 ·rename_i a ho;cases ev;obtain⟨w,hw,iD⟩:=Si.rep i _ ho;cases iD;have hi:i<ρ.length:=by
   by_cases z:i<ρ.length
   ·exact z
   ·rw[List.getElem?_eq_none (by left)]at ho;cases ho
  refine⟨_,hw,tD.intro Si ed λu H1 e1 ru=>?_⟩;cases ru.isInt;refine⟨_,_,rfl,rfl,?_⟩;obtain⟨τ1,lI⟩:=(Si.go e1).set (i:=i) (v:=.int (if b then a+n else a - n)) (d:=.int (if b then a+n else a - n)) ⟨λ_=>none,λ_ _ h=>by simp at h,.int _⟩ hi;exact hq _ H1 R τ1 lI (Kp.of e1 λ_ h=>h)
 ·cases ev
end
section
variable {X:Cx}{S:Sx}{k:Nat}{F:ah}{Φ:a_}
theorem Ht(x:Str)(p:Pos):(Expr.Name x p).pos=p:=rfl
theorem tU{x y:Str}{px py pt KG:Pos}{kt:Nat}{a b:Expr}(hk:env.scope.kind=.function)(hx:env.scope.names.lookup x=some .local)(hy:env.scope.names.lookup y=some .local)(VQ:x≠y)(hl:px.line=py.line)
  (h1:[a,b].all (foldedForSure 8)=false) (h2:[a,b].all (constantsAlone 8)=false) (h3:([a,b].any λe=>match e with|.Starred ..=>true|_=>false)=false) :
  swappedStores [.Tuple [.Name x px,.Name y py] kt pt] (.Tuple [a,b] k2 KG) env=pure (some [x,y]):=by
 have hb:env.blockKind=.function:=by unfold Env.blockKind;rw[hk];rfl
 have kx:env.kindOf x=some .local:=hx;have ky:env.kindOf y=some .local:=hy;have e1:([x,y].eraseDups.length != [x,y].length)=false:=by
  have:¬ (y==x)=true:=by simp;exact λz=>VQ z.symm
  have h':(y==x)=false:=by simpa using this
  simp[List.eraseDups_cons,List.filter,h',VQ]
 unfold swappedStores;simp only[hb,h3,List.filterMap_cons,List.filterMap_nil,kx,ky,hl,Ht,List.head?_cons,Option.map_some,Option.getD_some,h1,h2];simp only[beq_self_eq_true,Bool.and_self,if_true];rw[if_neg (by simp)];refine(ack ?_).trans ?_
 ·intro z;exact aad (h3.symm.trans z)
 rw[if_neg (by
  rw[e1];simp),if_neg Bool.false_ne_true,if_neg Bool.false_ne_true]
theorem mI{R:Addr->Prop}{H:Hp}{kp:bj}{v:V}{d:DI.D}(h:Rep (aW X.K H) (nd X.K R A τ H) kp v d)(hf:aT anyF d=false):gC X R' τ' H v d :=
 ⟨λ_=>none,λ_ _ h=>by simp at h,Rep.without (P:=anyF) (λ_ _ h=>h) (λk k' p xs f hf h=>by cases hf) h hf _⟩
theorem G0(L:oy X S k Φ){i j:Nat}{a b:CE}{v:Expr}(he:cx S (.tup [a,b]) v=true)(hp:BJ S i j tg v=true):PS X (.Assign [tg] v pos) (j_ X F Φ (.par i j a b)):=by
 obtain⟨ts,ID,q1⟩:=bD hp;obtain⟨kt,pt,rfl⟩:=jE ID;obtain⟨⟨t1,t2⟩,hv2,q2⟩:=bD q1;obtain rfl:ts=[t1,t2]:=gT hv2;obtain⟨⟨x,px⟩,hv3,q3⟩:=bD q2;obtain rfl:t1=_:=uW hv3;obtain⟨⟨y,py⟩,hv4,q4⟩:=bD q3;obtain rfl:t2=_:=uW hv4;obtain⟨vs,X2,q5⟩:=bD q4;obtain⟨k2,KG,rfl⟩:=jE X2;obtain⟨⟨ea,eb⟩,hv6,q6⟩:=bD q5;obtain rfl:vs=[ea,eb]:=gT hv6
 ·obtain⟨q7,Je⟩:=aL q6;obtain⟨q8,h9⟩:=aL q7;obtain⟨q9,h8⟩:=aL q8;obtain⟨RE,h7⟩:=aL q9;obtain⟨XI,h6⟩:=aL RE;obtain⟨XH,h5⟩:=aL XI;obtain⟨XG,h4⟩:=aL XH;obtain⟨XF,h3⟩:=aL XG;obtain⟨h1,h2⟩:=aL XF;replace h1:S.N[i]?=some x:=aac h1;replace h2:S.N[j]?=some y:=aac h2;replace h3:=aac h3;replace h4:=aac h4;replace h5:=aac h5;replace h6:=aac h6;replace h7:=aac h7;replace h8:=kX h8;replace h9:=kX h9;replace Je:=aac Je;replace he:=aL he;have pa:=vp (F:=F) L.toLk [a,b] [ea,eb] he.1;refine PS.imp (Hr L.calm L.nd (by rw[L.N];exact h1) (by rw[L.N];exact h2) h3 (by rw[L.sc];exact h4) (by rw[L.sc];exact h5) pa (tU (by rw[L.sc];exact L.fk) (by rw[L.sc];exact h4) (by rw[L.sc];exact h5) h6 h7 h8 h9 Je)) λD σ H hq=>?_;obtain⟨R,τ,ρ,r,Si,ev,hq⟩:=hq;obtain⟨d1,Y8,ev⟩:=aH ev;obtain⟨d2,Y7,ev⟩:=aH ev;simp only[F2]at ev;obtain⟨⟨f1,f2,l1,l2⟩,rfl⟩:=ev;refine⟨R,τ,ρ,[d1,d2],Si,by show bd (bx Φ a ρ) _=_;rw[Y8];show bd (bd (bx Φ b ρ) _) _=_;rw[Y7];rfl,λvs H1 e1 rv=>?_⟩;obtain⟨τt,fr,rs⟩:=rv;obtain⟨v1,v2,rfl,r1,r2⟩:=rs.two
  ·obtain⟨τ1,S1⟩:=(Si.go e1).set (i:=i) (mI r1 f1) l1;obtain⟨τ2,S2⟩:=S1.set (i:=j) (mI r2 f2) (by simpa using l2);exact⟨v1,v2,rfl,hq _ H1 R τ2 S2 (Kp.of e1 λ_ h=>h)⟩
mutual
theorem G5(L:oy X S k Φ):∀(c:CS) (st:Stmt),OJ S c st=true->PS X st (j_ X F Φ c)
 |.asg t e,st,h=>by
  obtain⟨⟨Kx,v⟩,v1,q1⟩:=bD h;obtain⟨pos,rfl⟩:=pk v1;obtain⟨tg,v2,q2⟩:=bD q1;obtain rfl:Kx=[tg]:=b9 v2;obtain⟨q3,h4⟩:=aL q2;obtain⟨q4,h3⟩:=aL q3;obtain⟨h1,h2⟩:=aL q4;have h1:cx S e v=true:=h1;replace h3:(isTup v&&isTup tg)=false:=kX h3;cases hc:jh v with
  |false=>exact zm L h1 h2 h3 (sL h1 hc _ _ _)
  |true =>
   have h4:(!jh v||isNm tg)=true:=h4;rw[hc]at h4;obtain⟨x,p,rfl⟩:=v7 h4;obtain⟨iQ,gens,sc,LN,rfl⟩:=xX hc;cases e<;>try (exact(aad h1).elim)
   cases t with
   |tp is=>exact(aad h2).elim
   |nm i =>
    cases hb:Q_ S (.Name x p) (.ListComp iQ gens sc LN)with
    |true=>exact C8 L h1 h2 (by rw[FJ L,hb])
    |false=>exact zm L h1 h2 h3 (by
      show swapsWith (.ListComp iQ gens sc LN) (some (.Name x p)) pos.line X.env=_;rw[FJ L,hb])
 |.par i j a b,st,h=>by
  obtain⟨⟨Kx,v⟩,v1,q1⟩:=bD h;obtain⟨pos,rfl⟩:=pk v1;obtain⟨tg,v2,q2⟩:=bD q1;obtain rfl:Kx=[tg]:=b9 v2;exact G0 L (aL q2).1 (aL q2).2
 |.ret e,st,h=>by
  obtain⟨z,v1,q1⟩:=bD h;obtain⟨pos,rfl⟩:=CA v1;obtain⟨v,v2,q2⟩:=bD q1;obtain rfl:z=some v:=v2;exact GZ L q2
 |.rs c,st,h=>λ_ _ _ _ _ _ bN=>by obtain⟨R,τ,ρ,r,Si,ev,hq⟩:=bN;cases ev
 |.ex e,st,h=>by
  obtain⟨v,v1,q1⟩:=bD h;obtain⟨pos,rfl⟩:=tJ v1;exact Mn L (aL q1).1 (kX (aL q1).2)
 |.mut p i es,st,h=>by
  obtain⟨⟨o,args⟩,ha,q1⟩:=bD h;obtain⟨q2,h3⟩:=aL q1;obtain⟨h1,h2⟩:=aL q2;obtain⟨x,pp,rfl,hN,hl,pe⟩:=P8 L h1 (λy q e=>by cases e;exact h2);exact L.pm.m X _ _ k L.toLk.pX L.nd L.Bk p st x pp args ha i hN hl pe F es (jL L.toLk es args h3)
 |.mu2 p i k e,st,h=>by
  obtain⟨⟨o,args⟩,ha,q1⟩:=bD h;obtain⟨q2,h3⟩:=aL q1;obtain⟨h1,h2⟩:=aL q2;obtain⟨x,pp,rfl,hN,hl,pe⟩:=P8 L h1 (λy q e=>by cases e;exact h2);exact L.pm.m2 X _ _ _ L.toLk.pX L.nd L.Bk p st x pp args ha i hN hl pe F k e (jL L.toLk [k,e] args h3)
 |.app i e,st,h=>by
  obtain⟨c,v1,q1⟩:=bD h;obtain⟨pos,rfl⟩:=tJ v1;obtain⟨⟨fn,as,ks,p2⟩,v2,q2⟩:=bD q1;obtain rfl:c=_:=kg v2;obtain⟨q3,q4⟩:=aL q2;obtain rfl:ks=[]:=jU q3;obtain⟨⟨o,a,p1⟩,v3,q5⟩:=bD q4;obtain rfl:fn=_:=mq v3;obtain⟨q6,q7⟩:=aL q5;obtain⟨v,v4,h4⟩:=bD q7;obtain rfl:as=[v]:=b9 v4;obtain⟨q8,h5⟩:=aL q6;obtain⟨q9,h2⟩:=aL q8;obtain⟨RE,h1⟩:=aL q9;obtain rfl:a=_:=aac RE;obtain⟨x,p,rfl⟩:∃x p,o=.Name x p:=wX h1;exact G4 L h1 h2 h4 h5
 |.aug i op e,st,h=>by
  obtain⟨⟨o,p,v⟩,v1,q1⟩:=bD h;obtain⟨pos,rfl⟩:=uZ v1;obtain⟨q2,h4⟩:=aL q1;obtain⟨q3,h3⟩:=aL q2;obtain⟨h1,h2⟩:=aL q3;obtain rfl:p=_:=aac h3;obtain⟨x,pp,rfl⟩:∃x p,o=.Name x p:=wX h1;exact G3 L h1 h2 h4
 |.ifs c a b,st,h=>by
  obtain⟨⟨t,x,y⟩,v1,q1⟩:=bD h;obtain⟨pos,rfl⟩:=CD v1;obtain⟨q2,h3⟩:=aL q1;obtain⟨h1,h2⟩:=aL q2;exact Mm L h1 (iA L a _ h2) (iA L b _ h3)
 |.GG c b,st,h=>by
  obtain⟨⟨t,x,y⟩,v1,q1⟩:=bD h;obtain⟨pos,rfl⟩:=Cz v1;obtain⟨q2,h3⟩:=aL q1;obtain⟨h1,h2⟩:=aL q2;obtain rfl:y=[]:=jU h1;exact zl L h2 (iA L b _ h3)
 |.fr t it b,st,h=>by
  obtain⟨⟨tg,iter,x,y⟩,v1,q1⟩:=bD h;obtain⟨pos,rfl⟩:=CF v1;obtain⟨q2,h5⟩:=aL q1;obtain⟨q3,h4⟩:=aL q2;obtain⟨q4,h3⟩:=aL q3;obtain⟨h1,h2⟩:=aL q4;obtain rfl:y=[]:=jU h1;exact G1 L h2 h3 h4 (iA L b _ h5)
theorem iA(L:oy X S k Φ):∀(cs:aj) (Ml:bt),j4 S cs Ml=true->me X Ml (nV X F Φ cs)
 |[],[],_=>me.imp Du λD σ H bN=>by obtain⟨R,τ,ρ,r,Si,ev,hq⟩:=bN;cases ev;exact hq σ H R τ Si (Kp.refl R H)
 |[],_::_,h=>by exact(aad h).elim
 |_::_,[],h=>by exact(aad h).elim
 |c::cs,st::Ml,h=>by
  replace h:=aL h;have h1:PS X st (j_ X F Φ c):=G5 L c st h.1;have h2:me X Ml (nV X F Φ cs):=iA L cs Ml h.2;refine me.imp (zM h1 h2) λD σ H hq=>?_;obtain⟨R,τ,ρ,r,Si,ev,hq⟩:=hq;obtain⟨⟨fo,ρ1⟩,e1,ev⟩:=aH ev;refine⟨R,τ,ρ,(fo,ρ1),Si,e1,?_⟩;cases fo with
  |nx=>exact λσ' H' R' τ' fK kp=>⟨R',τ',ρ1,r,fK,ev,hq.from kp⟩
  |bk=>cases ev;exact hq
  |ct=>cases ev;exact hq
  |rt d=>cases ev;exact hq
end
end
variable {mg:Str->Option Value}{ps:aq}{qual:Str}
theorem sg{x:Str}{f:Addr}{fd:FuncData}{k:Nat}{N bl:aq}{cs:List (Str×GK)}{px:Px}{Bk:Nat->Option Str}{m:aG}{body:aj}
  (Fu:Fv K x qual st f fd) (Sc:iM N ps (bG st)) (IU:j4 ⟨bG st,N,Bk,bl,cs,px⟩ body (df st)=true) (IE:uU px Φ) (SQ:Kr px Φ)
  (Eh:∀y∈bl,mg y=none) (uq:∀y i,(y,i)∈cs->∃u,mg y=some u/\B6 K i u)
  (oT:∀g y,Bk g=some y->∃(f:Addr) (fd:FuncData) (ps:aq),iT P w K mg base yW k f fd ps (C9 K ps.length (Φ g))/\mg y=some (.ref f)/\PySem.W.keepIn K (.ref f)=true/\Binds K fd ps []/\∀ds r,Φ g ds=ok r->ds.length=ps.length)
  (hm:∀ds r,m ds=ok r->ds.length=ps.length/\pM Φ N.length body ds=ok r):iT P w K mg base yW (k+1) f fd ps (C9 K ps.length m):=by
 refine Fu.ok (N:=N) Sc (λvs H Q E ⟨_,_,_,h,_⟩=>h) λi4 A outer s H vs Q E hr Cb=>?_;obtain⟨F,ds,r,hl,rs,er,hq⟩:=Cb;obtain⟨Tx,uj⟩:=hm ds r er
 let X:=(uG yW P w K mg base N qual (bG st) f i4 A outer s H E).M1
 have L:oy X ⟨bG st,N,Bk,bl,cs,px⟩ k Φ:=⟨⟨rfl,rfl,Sc.nd,rfl,hr,Eh,λg y h=>⟨oT g y h⟩,uq,IE⟩,λ_=>rfl,PassesOwn.never,Sc.kind,SQ⟩
 refine⟨nV X F Φ body,iA L body _ IU,?_⟩;unfold pM at uj;obtain⟨⟨fo,ρ'⟩,eb,uj⟩:=aH uj;have hpl:ps.length<=N.length:=by have:=aaR List.length Sc.pre;rw[List.length_take]at this;left
 have K4:vs.length=ds.length:=rs.length;refine⟨λp=>F p/\H p≠none,λ_=>none,_,(fo,ρ'),⟨?_,λi d hi=>?_,λ_ _=>rfl,λp h=>h.2,λp h=>.inl h.1,λ_ _ h=>by simp at h,λ_ _ h=>by simp at h,aI.refl H⟩,eb,?_⟩
 ·unfold L2.start;simp[K4]
 ·have V1:i<ds.length:=by
   by_cases eP:i<ds.length
   ·exact eP
   ·rw[List.getElem?_append_right (by simpa using eP)]at hi;rw[List.getElem?_replicate]at hi;split at hi<;>simp at hi
  rw[List.getElem?_append_left (by simpa using V1),List.getElem?_map]at hi;have hd:ds[i]?=some d:=by
   cases q:ds[i]? with
   |none=>rw[q]at hi;cases hi
   |some z=>rw[q]at hi;simp at hi;rw[hi]
  obtain⟨v,hv,rv⟩:=rs.get hd;refine⟨v,?_,rv.imp (q:=[0+i]) (q':=[i]) (λ_ _ h=>h) λc p xs f h=>?_⟩
  ·unfold L2.start;rw[List.getElem?_append_left (by rw[List.length_map,K4];exact V1),List.getElem?_map,hv];rfl
  ·cases f with
   |ow=>exact nomatch h.2
   |fz=>exact⟨h.1,h.2,h.1.ne⟩
   |al=>exact h.2.elim
   |sc=>exact h
 ·cases fo with
  |nx =>
   cases uj;exact λσ' H' R' τ' fK kp=>hq .bW H' fK.same ⟨λ_=>none,λ_ _ h=>by simp at h,.bW⟩
  |bk=>simp at uj
  |ct=>simp at uj
  |rt d =>
   cases uj;exact λv H' es rr=>hq v H' es rr
structure Ent(P:aB)(w:World)(K:av)(mg:aX)(base:Heap)(k:Nat)(y:Str)(m:aG):Prop where
 ex:∃(f:Addr) (fd:FuncData) (ps:aq),iT P w K mg base yW k f fd ps (C9 K ps.length m)/\mg y=some (.ref f)/\PySem.W.keepIn K (.ref f)=true/\Binds K fd ps []/\∀ds r,m ds=ok r->ds.length=ps.length
theorem Ent.up{k k':Nat}{y:Str}{m:aG}(h:Ent P w K mg base k y m)(hk:k<=k'):Ent P w K mg base k' y m:=by
 obtain⟨f,fd,ps,h1,h2⟩:=h.ex;exact⟨f,fd,ps,h1.mono hk,h2⟩
theorem ent{x:Str}{f:Addr}{fd:FuncData}{k:Nat}{N bl:aq}{cs:List (Str×GK)}{px:Px}{Bk:Nat->Option Str}{m:aG}{body:aj}
  (Fu:Fv K x qual st f fd) (hmg:mg x=some (.ref f)) (hb:Binds K fd ps []) (Sc:iM N ps (bG st)) (IU:j4 ⟨bG st,N,Bk,bl,cs,px⟩ body (df st)=true) (IE:uU px Φ) (SQ:Kr px Φ) (Eh:∀y∈bl,mg y=none) (uq:∀y i,(y,i)∈cs->∃u,mg y=some u/\B6 K i u)
  (oT:∀g y,Bk g=some y->Ent P w K mg base k y (Φ g)) (hm:∀ds r,m ds=ok r->ds.length=ps.length/\pM Φ N.length body ds=ok r):Ent P w K mg base (k+1) x m :=
 ⟨f,fd,ps,sg Fu Sc IU IE SQ Eh uq (λg y h=>(oT g y h).ex) hm,hmg,Fu.kp,hb,λds r h=>(hm ds r h).1⟩
noncomputable def dk{α:Type}(P:α->Prop):List α->Prop
 |[]=>True
 |a::l=>P a/\dk P l
theorem dk.mem{α:Type}{P:α->Prop}:∀{l:List α},dk P l->∀a∈l,P a
 |[],_,_,h=>by cases h
 |_::_,h,_,hm=>(List.mem_cons.mp hm).elim (λe=>e▸h.1) (dk.mem h.2 _)
theorem dk.tab{β:Type}{P:Nat->β->Prop}:∀{l:List (Nat×β)},dk (λp=>P p.1 p.2) l->∀g y,l.lookup g=some y->P g y
 |[],_,_,_,h=>by cases h
 | (k,b)::l,h,g,y,e=>by
  rw[List.lookup_cons]at e;cases hg:g==k with
  |true=>rw[hg]at e;cases e;rw[eq_of_beq hg];exact h.1
  |false=>rw[hg]at e;exact dk.tab h.2 g y e
theorem dk.two{β γ:Type}{P:β->γ->Prop}{l:List (β×γ)}(h:dk (λp=>P p.1 p.2) l)(y:β)(i:γ)(hm:(y,i)∈l):P y i:=dk.mem h _ hm
theorem Nn{α:Type}{l:List α}(h:l.length=1):∃a,l=[a]:=List.length_eq_one_iff.mp h
theorem Nm{α:Type}{l:List α}(h:l.length=2):∃a b,l=[a,b]:=by
 cases l with
 |nil=>cases h
 |cons a l=>obtain⟨b,rfl⟩:=Nn (Nat.succ.inj h);exact⟨a,b,rfl⟩
noncomputable def m6:ae->Option (aa)
 |[]=>some []
 |.int i::ds=>(m6 ds).map (i :: ·)
 |_::_=>none
theorem m5:∀ns:aa,m6 (ns.map D.int)=some ns
 |[]=>rfl
 |n::ns=>by simp[m6,m5 ns]
theorem rK:∀{ds:ae} {ns:aa},m6 ds=some ns->ds=ns.map D.int
 |[],ns,h=>by simp[m6]at h;subst h;rfl
 |d::ds,ns,h=>by
  cases d<;>simp[m6]at h;obtain⟨ms,h1,rfl⟩:=h;rw[rK h1];rfl
def p6:aG
 |[.lst .sc ds]=>match m6 ds with
  |some ns=>if ns.length<=63 then ok (.bl true)else none
  |none=>none
 |_=>none
theorem DV(h:ns.length<=63):p6 [.lst .sc (ns.map D.int)]=ok (.bl true):=by
 simp[p6,m5,h]
theorem As{n:Nat}{b:aj}(h:∀ns:aa,ns.length<=63->pM Φ n b [.lst .sc (ns.map D.int)]=ok (.bl true)):∀ds r,p6 ds=ok r->ds.length=1/\pM Φ n b ds=ok r:=by
 intro ds r e
 match ds,e with
 |[.lst .sc ds],e =>
  simp only[p6]at e;split at e
  ·rename_i ns yN;split at e
   ·rename_i hl;cases e;obtain rfl:=rK yN;exact⟨rfl,h ns hl⟩
   ·cases e
  ·cases e
theorem Ig(K:av)(H:Hp)(a:Addr)(ns:aa)(m:aG)(hm:m [.lst .sc (ns.map D.int)]=ok (.bl true))(hO:Fq H)(hS:dh K H a (ns.map V.int)):C9 K 1 m [.ref a] H (λv _=>v=.bl true) λ_ _ _=>False:=by
 refine⟨λ_=>True,_,.bl true,rfl,.cons (.lst ?_ (aD.ints ns)) .nil,hm,λv H' _ bN=>by obtain⟨τt,_,rp⟩:=bN;cases rp;rfl⟩;rcases hS with (h|h)|h
 ·rcases hO a with z|⟨o,xs,z⟩
  ·rw[h]at z;cases z
  ·rw[h]at z;cases z
 ·exact .inl h
 ·exact .inr h
section
variable {X:Cx}{pins:ao}{σ:St}{H:Hp}{s:Shared}{h':Heap}
theorem CM(I:Inv X pins σ H s)(hf:∀b∈ch,nI X pins H b)(k:∀b u,b∉ch->s.heap.get? b=some u->h'.get? b=some u):Inv X pins σ H { s with heap:=h',toks:=t' }:=by
 have FV:∀b u,H b=some u->b∉ch:=λb u e z=>by rw[(hf b z).1]at e;cases e
 refine I.step (g':=s.gens) (d':=s.drawn) (ch:=ch) (λb hb=>⟨(hf b hb).2.2.2.1,(hf b hb).2.1,(hf b hb).2.2.2.2.1,(hf b hb).2.2.2.2.2⟩) (λb o _ _ hc e _=>k b o hc e) (λb o _ _ hc e _=>⟨o.slots,k b o hc e⟩) (λ_ _ _ _ n=>n)
  (λb o hc e=>⟨o,k b o hc e⟩) (λ_ _ e=>e) (λ_ _ _ e=>e) (λb ps e=>⟨#[],by rw[e];simp⟩) (λm hm=>?_) (λb u e=>?_) I.bare
 ·obtain⟨o,es,ep,ho,r⟩:=hm;exact⟨o,es,ep,k _ o (λz=>(hf _ z).2.1 rfl) ho,r⟩
 ·refine(I.cN b u e).mD (λc v hc q=>k c v ?_ q) (λ_ q=>q) λ_ _ q=>q;rcases hc with z|z
  ·rw[z];exact FV b u e
  ·exact FV c _ z
theorem CN{T:Addr}{o:HO}(I:Inv X pins σ H s)(hf:∀b∈ch,nI X pins H b)(k:∀b u,b∉ch->s.heap.get? b=some u->h'.get? b=some u)(hT:s.heap.objs.size<=T)(new:cu X.prog X.w (upd H T o) h' T o):
  Inv X pins σ (upd H T o) { s with heap:=h',toks:=t' }:=by
 have FV:∀b u,H b=some u->b∉ch:=λb u e z=>by rw[(hf b z).1]at e;cases e
 have hn:H T=none:=I.cN.fresh hT;have ne:∀b (u:Obj),s.heap.get? b=some u->b≠T:=λb u e z=>absurd (aai e) (by rw[z];exact Nat.not_lt.mpr hT);have up:∀b u,H b=some u->upd H T o b=some u:=λb u e=>by rw[aZ (b6 e hn)];exact e
 refine I.step (g':=s.gens) (d':=s.drawn) (ch:=ch) (λb hb=>⟨(hf b hb).2.2.2.1,(hf b hb).2.1,(hf b hb).2.2.2.2.1,(hf b hb).2.2.2.2.2⟩) (λb o _ _ hc e _=>k b o hc e) (λb o _ _ hc e _=>⟨o.slots,k b o hc e⟩) (λb u _ e n=>by rw[aZ (ne b u e)];exact n)
  (λb o hc e=>⟨o,k b o hc e⟩) (λ_ _ e=>up _ _ e) (λ_ _ _ e=>up _ _ e) (λb ps e=>⟨#[],by rw[up _ _ e];simp⟩) (λm hm=>?_) (wd (λb u e=>?_) hn new) I.bare
 ·obtain⟨o,es,ep,ho,r⟩:=hm;exact⟨o,es,ep,k _ o (λz=>(hf _ z).2.1 rfl) ho,r⟩
 ·refine(I.cN b u e).mD (λc v hc q=>k c v ?_ q) (λ_ q=>q) λ_ _ q=>q;rcases hc with z|z
  ·rw[z];exact FV b u e
  ·exact FV c _ z
end
def U4(K:av)(a b:Addr):It :=
  ⟨λi H=>∃xs ys x y,dh K H a xs/\dh K H b ys/\xs[i]?=some x/\ys[i]?=some y,
   λi H v H'=>∃T x y,(∀xs,dh K H a xs->xs[i]?=some x)/\(∀ys,dh K H b ys->ys[i]?=some y)/\H T=none/\v=.ref T/\H'=upd H T (.tup [x,y]),
   λi H=>∃xs ys,dh K H a xs/\dh K H b ys/\(xs.length<=i\/ys.length<=i)⟩
theorem u_{H:Hp}{T:Addr}{x y:V}{u v:Value}(rx:RelV x u)(ry:RelV y v)(e:h.get? T=some { cls:=.type "tuple",data:=.seq #[u,v] }):cu P w H h T (.tup [x,y]) :=
 ⟨by rw[sizeLine_eq];simp,[u,v],.cons rx (.cons ry .nil),⟨_,e,rfl,_,rfl⟩⟩
theorem cM{a b:Addr}{o u:Obj}(ha:h.get? a=some o)(hb:h.get? b=some u)(hc:o.cls≠u.cls):a≠b:=λz=>by
 subst z;rw[ha]at hb;cases hb;exact hc rfl
theorem zc{tp:Pos}{a b z TI TO:Addr}(YG:TI≠TO)(Jd:i1≠i2):
  Turn P w K (.Tuple elts n1 tp) (U4 K a b) [z,TI,TO,i1,i2] z (λi h=>IsZip h z TI TO .none/\IsPair h TI (.ref i1) (.ref i2)/\(∃x y,IsPair h TO x y)/\h.IsListIter i1 a i/\h.IsListIter i2 b i):=by
 have apart:∀{h:Heap} {x y:Value} {xs ys:aM} {i:Nat},IsZip h z TI TO .none->IsPair h TI (.ref i1) (.ref i2)->IsPair h TO x y->h.IsListIter i1 a i->h.IsListIter i2 b i->h.IsList a xs->h.IsList b ys->ZipApart z TI TO i1 i2 a b:=by
  intro h x y xs ys i hz hI hO l1 l2 ha hb;obtain⟨o1,e1,c1,_⟩:=l1;obtain⟨o2,e2,c2,_⟩:=l2;obtain⟨oa,ea,ca,_⟩:=ha;obtain⟨ob,eb,cb,_⟩:=hb;exact⟨cM hI hz (by simp),cM hO hz (by simp),cM e1 hz (by rw[c1];simp),cM e2 hz (by rw[c2];simp),YG,cM hI e1 (by rw[c1];simp),cM hI e2 (by rw[c2];simp),cM hO e1 (by rw[c1];simp),cM hO e2 (by rw[c2];simp),Jd,
   cM ea hz (by rw[ca];simp),cM ea hO (by rw[ca];simp),cM ea e1 (by rw[ca,c1];simp),cM ea e2 (by rw[ca,c2];simp),cM eb hz (by rw[cb];simp),cM eb hO (by rw[cb];simp),cM eb e1 (by rw[cb,c1];simp),cM eb e2 (by rw[cb,c2];simp)⟩
 refine⟨by simp,λi h st c hc=>?_,λi h h' st k=>?_,?_,?_,λA i s Q E st hQ=>wpAny_pyIter_zip st.1 hQ⟩
 ·obtain⟨hz,hI,⟨x,y,hO⟩,⟨o1,e1,_,d1⟩,⟨o2,e2,_,d2⟩⟩:=st;simp only[List.mem_cons,List.not_mem_nil,or_false]at hc;rcases hc with rfl|rfl|rfl|rfl|rfl
  ·exact⟨_,hz,λv q=>by cases q⟩
  ·exact⟨_,hI,λv q=>by cases q⟩
  ·exact⟨_,hO,λv q=>by cases q⟩
  ·exact⟨o1,e1,λv q=>by rw[d1]at q;cases q⟩
  ·exact⟨o2,e2,λv q=>by rw[d2]at q;cases q⟩
 ·obtain⟨hz,hI,⟨x,y,hO⟩,l1,l2⟩:=st;exact⟨k z (by simp) _ hz,k TI (by simp) _ hI,⟨x,y,k TO (by simp) _ hO⟩,l1.at λo e=>k i1 (by simp) o e,l2.at λo e=>k i2 (by simp) o e⟩
 ·intro X hP hw hK hc i pins s σ H E I hf st hg;subst hP hw hK;obtain⟨xs,ys,x,y,q1,q2,ex,ey⟩:=hg;obtain⟨hz,hI,⟨x0,y0,hO⟩,l1,l2⟩:=st;obtain⟨aJ,rv,p,_⟩:=I.list q1;obtain⟨its',yJ,p',_⟩:=I.list q2;obtain⟨u,hu,ru⟩:=rv.get ex;obtain⟨u',F6,Xy⟩:=yJ.get ey;have D:=apart hz hI hO l1 l2 p.isList p'.isList;refine wpAny_pyNext_zip_item D hz hI hO l1 l2 p.isList p'.isList (x:=u) (y:=u') (by simpa using hu) (by simpa using F6) λh1 z1 o1 a1 b1 t1 PB k1=>⟨_,rfl,?_⟩
  refine wpAny_letOwnedTupleGo_zip z1 λh2 z2 KC=>?_;have WT:s.heap.objs.size≠z:=aat (aai hz);have kk:∀c o,c∉[z,TI,TO,i1,i2]->s.heap.get? c=some o->h2.get? c=some o:=λc o hc e=>by
   simp only[List.mem_cons,List.not_mem_nil,or_false,not_or]at hc;exact KC.extBut c o hc.1 (k1 c o hc.1 hc.2.2.1 hc.2.2.2.1 hc.2.2.2.2 e)
  have hT:h2.get? s.heap.objs.size=some { cls:=.type "tuple",data:=.seq #[u,u'] }:=KC.extBut _ _ WT t1;have hn:H s.heap.objs.size=none:=I.cN.fresh (aak _);refine⟨.ref s.heap.objs.size,upd H s.heap.objs.size (.tup [x,y]),CN (s:=s) (h':=h2) (t':=s.toks) I hf kk (aak _) (u_ ru Xy hT),rfl,⟨_,x,y,λzs hz=>by rw[I.jQ hz q1];exact ex,λzs hz=>by rw[I.jQ hz q2];exact ey,hn,rfl,rfl⟩,⟨z2,KC.extBut _ _ D.TIz (k1 _ _ D.TIz D.TITO D.TIi1 D.TIi2 hI),⟨_,_,KC.extBut _ _ D.TOz o1⟩,a1.extBut KC.extBut D.i1z,b1.extBut KC.extBut D.i2z⟩,λc hc=>?_⟩;rw[aZ]
  ·exact(hf c hc).1
  ·intro z;subst z;simp only[List.mem_cons,List.not_mem_nil,or_false]at hc;rcases hc with e|e|e|e|e
   ·exact absurd (aai hz) (by rw[<- e];exact aav _)
   ·exact absurd (aai hI) (by rw[<- e];exact aav _)
   ·exact absurd (aai hO) (by rw[<- e];exact aav _)
   ·obtain⟨_,w,_⟩:=l1;exact absurd (aai w) (by rw[<- e];exact aav _)
   ·obtain⟨_,w,_⟩:=l2;exact absurd (aai w) (by rw[<- e];exact aav _)
 ·intro X hP hw hK hc i pins s σ H E I hf st hg;subst hP hw hK;obtain⟨xs,ys,q1,q2,hl⟩:=hg;obtain⟨hz,hI,⟨x0,y0,hO⟩,l1,l2⟩:=st;obtain⟨aJ,rv,p,_⟩:=I.list q1;obtain⟨its',yJ,p',_⟩:=I.list q2;have e1:=rv.length;have e2:=yJ.length;refine wpAny_pyNext_zip_end (I.ok.hd hc) (apart hz hI hO l1 l2 p.isList p'.isList) hz hI hO l1 l2 p.isList p'.isList (by simp;left) λh1 k1=>⟨rfl,CM (t':=s.toks) I hf λc o hc e=>?_⟩
  simp only[List.mem_cons,List.not_mem_nil,or_false,not_or]at hc;exact k1 c o hc.1 hc.2.2.1 hc.2.2.2.1 hc.2.2.2.2 e
variable {ta:TA}
theorem Hu{tp p:Pos}(hg:Gl X "zip")(hm:X.mg "zip" = none)(ha:PA X [e1,e2] ta)(hs:∀es,starEach (e1::es) X.env=(false,eval e1 X.env)::starEach es X.env)(x9:∀es,starEach (e2::es) X.env=(false,eval e2 X.env)::starEach es X.env):
  PI X (.Tuple elts n1 tp) (.Call (.Name "zip" p) [e1,e2] [] pos) (λσ H R=>ta σ H λvs H1=>∃a b,vs=[.ref a,.ref b]/\(∃xs,dh X.K H1 a xs)/\(∃ys,dh X.K H1 b ys)/\R (U4 X.K a b) H1):=by
 intro pins s σ H R I h;refine Call_ (eE I hg hm boot_zip (aas (cV (ha pos pins s σ H _ I h) λus s1 bN=>?_) (hs _) (by rw[x9];rfl)));obtain⟨vs,H1,I1,r1,q1⟩:=bN;obtain⟨a,b,e,⟨xs,q1⟩,⟨ys,q2⟩,q⟩:=q1;subst e;obtain⟨u,v,rfl,ru,rv⟩:=vals2 r1;cases ru;cases rv;obtain⟨aJ,_,p1,_⟩:=I1.list q1;obtain⟨its',_,p2,_⟩:=I1.list q2;refine call_zip_2 p1.isList p2.isList λh' z t o l1 l2 sz k=>wpAny_pyIter_zip z ?_;refine⟨s1.heap.objs.size+4,[s1.heap.objs.size+4,s1.heap.objs.size+2,s1.heap.objs.size+3,s1.heap.objs.size,s1.heap.objs.size+1],_,_,H1,rfl,I1.kept (t':=s1.toks) k,zc (aan (aa8 _)) (aan (aa8 _)),⟨z,t,⟨_,_,o⟩,l1,l2⟩,λb hb=>?_,q⟩;have wo:s1.heap.objs.size<=b:=by
  simp only[List.mem_cons,List.not_mem_nil,or_false]at hb;rcases hb with rfl|rfl|rfl|rfl|rfl<;>first|exact Nat.le_add_right .. |exact aak _
 exact I1.Er wo (I1.cN.fresh wo)
def ig(sc:Scope)(bl:aq)(e:Expr):Option (aA):=match dF e with
 |some z=>match two z.2 with
  |some _=>if z.1=("zip" : Str)/\gb sc z.1=true/\z.1∈bl then some z.2 else none
  |none=>none
 |none=>none
theorem o8{sc:Scope}{bl:aq}{e:Expr}(h:ig sc bl e=some args):∃p pos a b,e=.Call (.Name ("zip" : Str) p) [a,b] [] pos/\args=[a,b]/\gb sc ("zip" : Str)=true/\("zip" : Str)∈bl:=by
 unfold ig at h;cases hv:dF e with
 |none=>rw[hv]at h;exact nk h
 |some z =>
  obtain⟨x,as⟩:=z;rw[hv]at h;obtain⟨p,pos,rfl⟩:=cG hv;have h:(match two as with|some _=>if x=("zip" : Str)/\gb sc x=true/\x∈bl then some as else none|none=>none)=some args:=h;cases hw:two as with
  |none=>rw[hw]at h;exact nk h
  |some w =>
   obtain⟨a,b⟩:=w;rw[hw]at h;have h:(if x=("zip" : Str)/\gb sc x=true/\x∈bl then some as else none)=some args:=h;obtain rfl:=gT hw;by_cases hc:x=("zip" : Str)/\gb sc x=true/\x∈bl
   ·rw[if_pos hc]at h;cases h;obtain⟨rfl,h1,h2⟩:=hc;exact⟨_,_,_,_,rfl,rfl,h1,h2⟩
   ·rw[if_neg hc]at h;cases h
theorem ku{a b:Expr}(h:lJ X F Φ cs [a,b]):(∃c d,cs=[c,d]/\PE X a (tD X F Φ c)/\PE X b (tD X F Φ d))/\PA X [a,b] (qT X F Φ cs)/\(∀es,starEach (a::es) X.env=(false,eval a X.env)::starEach es X.env)/\(∀es,starEach (b::es) X.env=(false,eval b X.env)::starEach es X.env):=by
 match cs,h with
 |[c,d],h =>
  obtain⟨h1,h2,_,h3,h4,_,_⟩:=h;exact⟨⟨c,d,rfl,h1,h3⟩,PA.imp (cv h1 (PA.imp (cv h3 (PA.imp dI λ_ _ _ h=>jJ h) (h4 _)) λ_ _ _ h=>fV h) (h2 _)) λ_ _ _ h=>fV h,h2,h4⟩
 |[],h=>exact h.elim
 |[_],h=>exact h.2.2.2.elim
 |_::_::_::_,h=>exact h.2.2.2.2.2.2.elim
theorem Rep.Vf{R:ah}{H:Hp}{k:bj}{v:V}{d:D}(e:aI H H')(h:Rep (aW K H) (nd K R (λ_=>False) (λ_=>none) H) k v d):Rep (aW K H') (nd K R (λ_=>False) (λ_=>none) H') k' v d :=
 (Rep.pZ h (k':=k')).imp (λ_ _ h=>aW.same e h) λ_ _ _ _ h=>nd.same e h
theorem Cp{p q:Addr}{g:Fl}{a b:ae}:O7 K (U4 K p q) H2 [.ref p,.ref q] [.lst f a,.lst g b] (aC bp (List.zipWith (λx y=>.tup [x,y]) a b)):=by
 have len:(aC bp (List.zipWith (λx y=>D.tup [x,y]) a b)).length=min a.length b.length:=by rw[bg];simp
 have two:∀{H':Hp} {R':ah},aD (aW K H') (nd K R' (λ_=>False) (λ_=>none) H') [] 0 [.ref p,.ref q] (aC bp [.lst f a,.lst g b]) ->
   ∃xs ys,dh K H' p xs/\dh K H' q ys/\aD (aW K H') (nd K R' (λ_=>False) (λ_=>none) H') [0] 0 xs (aC bp a)/\aD (aW K H') (nd K R' (λ_=>False) (λ_=>none) H') [1] 0 ys (aC bp b):=by
  intro H' R' h;rw[aC,aY,aC,aY,aC]at h;cases h with
  |cons h t=>cases t with
   |cons h' t=>cases h with
    |lst h r=>cases h' with
     |lst h' r'=>exact⟨_,_,h.sq,h'.sq,r,r'⟩
 refine⟨λi H' R' _ h hi=>?_,λi H' R' x mf _ h hi hy=>?_,λi H' R' _ h hi=>?_⟩
 ·obtain⟨xs,ys,h1,h2,r1,r2⟩:=two h;rw[len]at hi;have l1:=r1.length;have l2:=r2.length;rw[bg,List.length_map]at l1 l2;exact⟨xs,ys,xs[i]'(by left),ys[i]'(by left),h1,h2,aaq _,aaq _⟩
 ·obtain⟨xs,ys,h1,h2,r1,r2⟩:=two h;obtain⟨T,u,v,g1,g2,hn,rfl,rfl⟩:=hy;obtain⟨d1,e1,p1⟩:=r1.yj (g1 xs h1);obtain⟨d2,e2,p2⟩:=r2.yj (g2 ys h2);have es:aI H' (upd H' T (.tup [u,v])):=aI.upd hn;refine⟨es,.tup [d1,d2],?_,.tup (aW.of aV) (.cons (p1.Vf es) (.cons (p2.Vf es) .nil))⟩;rw[bg,List.getElem?_map]at e1 e2 ⊢;obtain⟨c1,q1,rfl⟩:=Option.map_eq_some_iff.mp e1;obtain⟨c2,q2,rfl⟩:=Option.map_eq_some_iff.mp e2;rw[List.getElem?_zipWith,q1,q2];simp[aY,aC]
 ·obtain⟨xs,ys,h1,h2,r1,r2⟩:=two h;rw[len]at hi;have l1:=r1.length;have l2:=r2.length;rw[bg,List.length_map]at l1 l2;exact⟨xs,ys,h1,h2,by left⟩
theorem Gz{n:Nat}(hΦ:Φ n=Co){sc:Scope}{bl:aq}{k:Nat}(L:PX X sc bl k){e:Expr}(he:ig sc bl e=some args)(ht:hU tg=true)(hs:lJ X F Φ cs args)
  {pins:ao} {s:Shared} {H:Hp} {R:ah} {xs:ae} {d:D} (I:Inv X pins σ H s) (Si:SI X F R τ ρ σ H) (cy:cz Φ cs ρ=ok xs) (ed:Φ n xs=ok d) (ei:rg d=ok items) (Rr:It->Hp->Prop)
  (hR:∀J H2 vs,aI H H2->cq X.K (gP X F) R τ (dw cs) H H2 vs xs->O7 X.K J H2 vs xs items->Rr J H2) :
  wpAny (model X.prog X.w) X.A (eval e X.env) (λv s1=>wpAny (model X.prog X.w) X.A (pyIter v) (Cf X pins σ tg Rr) X.xe s1) X.xe s:=by
 obtain⟨p,pos,a,b,rfl,rfl,h1,h2⟩:=o8 he;cases tg<;>try (cases ht;done)
 obtain⟨_,pa,s1,s2⟩:=ku hs;refine Hu (L.gl h1) (L.bl _ h2) pa s1 s2 pins s σ H Rr I ⟨R,τ,ρ,xs,Si,cy,λvs H1 e1 rv=>?_⟩;have Xv:=rv;obtain⟨τt,fr,rs⟩:=rv;rw[hΦ]at ed;unfold Co at ed;split at ed
 ·cases ed;cases ei;obtain⟨v,w,rfl,rx,ry⟩:=rs.two;cases rx with
  |lst hx _=>cases ry with
   |lst hy _=>exact⟨_,_,rfl,⟨_,hx.sq⟩,⟨_,hy.sq⟩,hR _ H1 _ e1 Xv Cp⟩
 ·cases ed
def oR(xs:ae):O D:=match xs with
 |[]=>none
 |x::xs=>match x with
  |.int a=>match xs with
   |[]=>none
   |y::ys=>match y with
    |.int b=>match ys with
     |[]=>if eY a b then ok (.int (a*b))else none
     |_::_=>none
    |_=>none
  |_=>none
theorem rZ{x y d:D}(h:oR [x,y]=ok d):∃a b,x=.int a/\y=.int b/\eY a b=true/\d=.int (a*b):=by
 cases x<;>first|exact nk h | (cases h;done) | (cases y<;>first|exact nk h | (cases h;done)|skip)
 obtain⟨h1,h2⟩:=n9 h;exact⟨_,_,rfl,rfl,h1,h2.symm⟩
def l5(_:Scope)(_:aq)(st:Stmt):Option (Expr×aA):=match CL st with
 |some z=>if z.2.1=.Mult then some (z.1,[z.2.2])else none
 |none=>none
theorem uK{sc:Scope}{bl:aq}(h:l5 sc bl st=some (o,args)):∃v pos,st=.AugAssign o .Mult v pos/\args=[v]:=by
 unfold l5 at h;cases hv:CL st with
 |none=>rw[hv]at h;exact nk h
 |some z =>
  obtain⟨o',p,v⟩:=z;rw[hv]at h;obtain⟨pos,rfl⟩:=uZ hv;replace h:(if p=.Mult then some (o',[v])else none)=some (o,args):=h;by_cases hp:p=.Mult
  ·rw[if_pos hp]at h;subst hp;cases h;exact⟨v,pos,rfl,rfl⟩
  ·rw[if_neg hp]at h;cases h
theorem Iy:Pl X .Mult (λx y H Q=>∃i j,x=.int i/\y=.int j/\eY i j=true/\Q (.int (i*j)) H):=by
 intro pins s σ H x y v u Q I r1 r2 h;obtain⟨i,j,e1,e2,hc,q⟩:=h;subst e1;subst e2;obtain⟨t,rfl⟩:=r1;obtain⟨t',rfl⟩:=r2;exact imul_int ⟨.int _,H,I.tok _,⟨_,rfl⟩,q⟩ (rP hc)
theorem D7{n:Nat}(hΦ:Φ n=oR){sc:Scope}{bl:aq}{k:Nat}(L:PX X sc bl k)(hN:X.N.Nodup)(oT:∀x,X.fn x=true){x:Str}(he:l5 sc bl st=some (.Name x pos,args))
  {i:Nat} (hi:X.N[i]?=some x) (hl:L2.Loc X.env.scope x) (pe:PE X (.Name x pos) (pz i)) (hs:lJ X F Φ cs args):PS X st (j_ X F Φ (.mut n i cs)):=by
 obtain⟨v,pos',rfl,rfl⟩:=uK he;cases cs with
 |nil=>exact hs.elim
 |cons c cs=>cases cs with
  |cons _ _=>exact hs.2.2.2.elim
  |nil =>
   refine PS.imp (zP hN hi hl hs.1 Iy (.inl (oT _))) λD σ H hq=>?_;obtain⟨R,τ,ρ,r,Si,ev,hq⟩:=hq;obtain⟨xs,cy,ev⟩:=aH ev;obtain⟨y,ey,cy⟩:=aH cy;cases cy;have key:∃a b,y=.int b/\ρ[i]?=some (some (.int a))/\eY a b=true/\r=(.nx,ρ.set i (some (.int (a*b)))):=by
    have ev:pT Φ n i (jS [c] [y] ρ)=ok r:=ev;unfold pT at ev;split at ev
    ·rename_i d0 ho;obtain⟨d',h1,h2⟩:=aH ev;rw[hΦ]at h1;unfold jS at h1 ho h2;split at h1
     ·rename_i ha;obtain⟨a,b,e1,e2,_,_⟩:=rZ (y:=aY bp y) h1;cases y<;>first | (cases e2;done) | (cases ha;done)
     ·rename_i ha;obtain⟨a,b,rfl,rfl,hm,rfl⟩:=rZ h1;rw[if_neg ha]at ho;rw[if_neg ha]at h2;cases h2;exact⟨a,b,rfl,ho,hm,rfl⟩
    ·cases ev
   obtain⟨a,b,rfl,ho,hm,rfl⟩:=key;obtain⟨w,hw,iD⟩:=Si.rep i _ ho;cases iD;have eP:i<ρ.length:=by
    by_cases z:i<ρ.length
    ·exact z
    ·rw[List.getElem?_eq_none (by left)]at ho;cases ho
   refine⟨_,hw,tD.intro Si ey λu H1 e1 ru=>?_⟩;cases ru.isInt;refine⟨_,_,rfl,rfl,hm,?_⟩;obtain⟨τ1,lI⟩:=(Si.go e1).set (i:=i) (v:=.int (a*b)) (d:=.int (a*b)) ⟨λ_=>none,λ_ _ h=>by simp at h,.int _⟩ eP;exact hq _ H1 R τ1 lI (Kp.of e1 λ_ h=>h)
section
variable {X:Cx}
end
def fM(f:Str)(sc:Scope)(bl:aq)(e:Expr):Option (aA):=match dF e with
 |some z=>match one z.2 with
  |some _=>if z.1=f/\gb sc z.1=true/\z.1∈bl then some z.2 else none
  |none=>none
 |none=>none
theorem kI{f:Str}{sc:Scope}{bl:aq}{e:Expr}(h:fM f sc bl e=some args):∃p pos a,e=.Call (.Name f p) [a] [] pos/\args=[a]/\gb sc f=true/\f∈bl:=by
 unfold fM at h;cases hv:dF e with
 |none=>rw[hv]at h;exact nk h
 |some z =>
  obtain⟨x,as⟩:=z;rw[hv]at h;obtain⟨p,pos,rfl⟩:=cG hv;have h:(match one as with|some _=>if x=f/\gb sc x=true/\x∈bl then some as else none|none=>none)=some args:=h;cases hw:one as with
  |none=>rw[hw]at h;exact nk h
  |some a =>
   rw[hw]at h;have h:(if x=f/\gb sc x=true/\x∈bl then some as else none)=some args:=h;obtain rfl:=b9 hw;by_cases hc:x=f/\gb sc x=true/\x∈bl
   ·rw[if_pos hc]at h;cases h;obtain⟨rfl,h1,h2⟩:=hc;exact⟨_,_,_,rfl,rfl,h1,h2⟩
   ·rw[if_neg hc]at h;cases h
section
variable {prog:aB}{w:World}{A:az}{E:au}{s:Shared}
def qG(h:Heap)(vs:ak)(nss:aw):Prop:=vs.length=nss.length/\∀(i:Nat) (ns:aa),nss[i]?=some ns->∃t aJ,vs[i]?=some (.ref t)/\IsTup h t aJ.toArray/\IntsAre aJ ns/\ns≠[]
theorem rS{fin:Bool}{Q:Bool->Shared->Prop}:∀{aJ AB:ak} {ns ms:aa} (i:Nat),IntsAre aJ ns->IntsAre AB ms->fin=decide (aJ.length<AB.length)->Q (HT.lexLt ns ms) s->PySem.W.KatLex prog w A true fin Q (aJ.zip AB) i s
 |_,_,_,_,i,.nil,.nil,hf,h=>by subst hf;exact h
 |_,_,_,_,i,.nil,.cons _ _ _,hf,h=>by subst hf;exact h
 |_,_,_,_,i,.cons _ _ _,.nil,hf,h=>by subst hf;exact h
 |_,_,_,_,i,.cons (ns:=ns) a t h1,.cons (ns:=ms) b u h2,hf,h=>by
  rw[HT.dj]at h;refine PySem.W.kat_cons (wpAny_eqBool_int (PySem.W.kat_go (λe=>?_) λe=>?_))
  ·have e:a=b:=by simpa using e
   rw[if_pos e]at h;exact PySem.W.kat_yes (rS (i+1) h1 h2 (by rw[hf];simp) h)
  ·have e:¬ a=b:=by simpa using e
   rw[if_neg e]at h;refine PySem.W.kat_no ?_;rw[Bool.true_and];cases i==0 with
   |true=>exact oneLt_int h
   |false=>exact PySem.W.kat_one _ _ (lt_int h)
theorem qG.mono{vs:ak}{nss:aw}(k:∀b o,h.get? b=some o->h'.get? b=some o)(t:qG h vs nss):qG h' vs nss :=
 ⟨t.1,λi ns e=>let ⟨a,aJ,e1,⟨o,ho,r⟩,e3⟩:=t.2 i ns e;⟨a,aJ,e1,⟨o,k _ _ ho,r⟩,e3⟩⟩
end
noncomputable def dH(ns:aa):D:=.tup (ns.map D.int)
theorem aD.O5{T:lg}{N:gR}{q:bj}:∀{n:Nat} {vs ws:af} {ds es:ae},aD T N q n vs ds->aD T N q (n+ds.length) ws es->aD T N q n (vs++ws) (ds++es)
 |_,_,_,_,_,.nil,h=>h
 |n,_,_,_,_,.cons (ds:=ds) h t,h'=>.cons h (aD.O5 t (by
   rw[List.length_cons,Nat.add_comm ds.length 1,<- Nat.add_assoc]at h';exact h'))
theorem fA{H:Hp}{p a:Addr}{o:HO}(hp:H p=some (.lst xs))(h:aW K H a ys):aW K (upd H p o) a ys:=by
 rcases h with (h|⟨o',h⟩)|h
 ·exact .inl (.inl (by rw[aZ (λz=>by subst z;rw[hp]at h;cases h)];exact h))
 ·exact .inl (.inr ⟨o',by rw[aZ (λz=>by subst z;rw[hp]at h;cases h)];exact h⟩)
 ·exact .inr h
theorem pS{n i:Nat}{xs:ae}{r:Fo×bh}(ev:pT Φ n i (jS cs xs ρ)=ok r)(ha:aQ bL xs=false):∃d d',ρ[i]?=some (some d)/\Φ n (d::xs)=ok d'/\r=(.nx,ρ.set i (some d')):=by
 unfold jS at ev;rw[if_neg (by rw[ha];exact Bool.false_ne_true)]at ev;unfold pT at ev;split at ev
 ·rename_i d hd;obtain⟨d',h1,h2⟩:=aH ev;cases h2;exact⟨d,d',hd,h1,rfl⟩
 ·cases ev
theorem t8{n i:Nat}{xs:ae}{r:Fo×bh}(ev:pT Φ n i (jS cs xs ρ)=ok r)(ha:aQ bL xs=true):∃d d',Φ n (d::aC bp xs)=ok d':=by
 unfold jS at ev;rw[if_pos ha]at ev;unfold pT at ev;split at ev
 ·rename_i d hd;obtain⟨d',h1,h2⟩:=aH ev;exact⟨d,d',h1⟩
 ·cases ev
def vN:D->Option (ae)
 |.lst f ds=>if bR f then some ds else none
 |_=>none
theorem pP{d:D}(h:vN d=some ds):d=.lst .ow ds:=by
 cases d<;>first|exact nk h | (cases h;done)|skip
 rename_i f es;have h:(if bR f then some es else none)=some ds:=h;cases f<;>first | (cases h;rfl) | (cases h;done)
def yn(xs:ae):O D:=match two xs with
 |some z=>match vN z.1 with
  |some ds=>match vN z.2 with
   |some es=>if aQ anyF es=false/\ds.length+es.length<=ck then ok (.lst .ow (ds++es))else none
   |none=>none
  |none=>none
 |none=>none
theorem wF{x y d:D}(h:yn [x,y]=ok d):∃ds es,x=.lst .ow ds/\y=.lst .ow es/\aQ anyF es=false/\ds.length+es.length<=ck/\d=.lst .ow (ds++es):=by
 have h:(match vN x with|some ds=>(match vN y with|some es=>if aQ anyF es=false/\ds.length+es.length<=ck then ok (.lst .ow (ds++es))else none|none=>none)|none=>none)=ok d:=h;cases h1:vN x with
 |none=>rw[h1]at h;exact nk h
 |some ds=>cases h2:vN y with
  |none=>rw[h1,h2]at h;cases h
  |some es =>
   rw[h1,h2]at h;obtain⟨⟨h3,h4⟩,h5⟩:=n9 h;exact⟨ds,es,pP h1,pP h2,h3,h4,h5.symm⟩
def iU(m:Str)(st:Stmt):Option (Expr×aA):=match LU st with
 |some c=>match kh c with
  |some z=>match mv z.1 with
   |some y=>if y.2.1=m/\z.2.2.1=[]/\(y.2.2.endLine==z.2.2.2.line)=true then some (y.1,z.2.1)else none
   |none=>none
  |none=>none
 |none=>none
theorem jG{m:Str}(h:iU m st=some (o,as)):∃p1 p2 pos,st=.Expr (.Call (.Attribute o m p1) as [] p2) pos/\(p1.endLine==p2.line)=true:=by
 unfold iU at h;cases h1:LU st with
 |none=>rw[h1]at h;exact nk h
 |some c =>
  obtain⟨pos,rfl⟩:=tJ h1;rw[h1]at h;cases h2:kh c with
  |none=>simp only[h2]at h;cases h
  |some z =>
   obtain⟨f,QB,ks,p2⟩:=z;obtain rfl:=kg h2;simp only[h2]at h;cases h3:mv f with
   |none=>simp only[h3]at h;cases h
   |some y =>
    obtain⟨o',a,p1⟩:=y;obtain rfl:=mq h3;simp only[h3]at h;by_cases hc:a=m/\ks=[]/\(p1.endLine==p2.line)=true
    ·rw[if_pos hc]at h;cases h;obtain⟨rfl,rfl,hl⟩:=hc;exact⟨p1,p2,pos,rfl,hl⟩
    ·rw[if_neg hc]at h;cases h
def uL(_:Scope)(_:aq)(st:Stmt):Option (Expr×aA):=match iU ("extend" : Str) st with
 |some z=>match one z.2 with
  |some _=>some z
  |none=>none
 |none=>none
theorem JI{n:Nat}(hΦ:Φ n=yn){sc:Scope}{bl:aq}{k:Nat}(L:PX X sc bl k)(hN:X.N.Nodup)(oT:∀x,X.fn x=true){x:Str}(he:uL sc bl st=some (.Name x pos,args))
  {i:Nat} (hi:X.N[i]?=some x) (hl:L2.Loc X.env.scope x) (pe:PE X (.Name x pos) (pz i)) (hs:lJ X F Φ cs args):PS X st (j_ X F Φ (.mut n i cs)):=by
 unfold uL at he;cases h1:iU ("extend" : Str) st with
 |none=>rw[h1]at he;exact nk he
 |some z =>
  rw[h1]at he;obtain⟨o,as⟩:=z;cases h2:one as with
  |none=>simp only[h2]at he;cases he
  |some v =>
   simp only[h2]at he;cases he;obtain rfl:=b9 h2;obtain⟨p1,p2,pos',rfl,tq⟩:=jG h1;cases cs with
   |nil=>exact hs.elim
   |cons c cs=>cases cs with
    |cons _ _=>exact hs.2.2.2.elim
    |nil =>
     refine PS.imp (jN (z8 abg PySem.F.slot_list_extend PySem.F.type_list_extend xK pe (cv hs.1 dI (hs.2.1 _)) (hfew:=by rw[hs.2.1];rfl) (hline:=tq) (hs:=hs.2.1 _))) λD σ H hq=>?_;obtain⟨R,τ,ρ,r,Si,ev,hq⟩:=hq;obtain⟨xs,cy,ev⟩:=aH ev;obtain⟨y,ey,cy⟩:=aH cy;cases cy;have key:∃ds es,y=.lst .ow es/\ρ[i]?=some (some (.lst .ow ds))/\aQ anyF es=false/\ds.length+es.length<=ck/\r=(.nx,ρ.set i (some (.lst .ow (ds++es)))):=by
      cases hz:aQ bL [y]with
      |true =>
       obtain⟨d,d',h⟩:=t8 ev hz;rw[hΦ]at h;obtain⟨ds,es,_,h3,_⟩:=wF h;cases y<;>first|exact nk h3 | (cases h3;done)|skip
       rename_i f Gh;cases f<;>cases h3
      |false =>
       obtain⟨d,d',h,h',rfl⟩:=pS ev hz;rw[hΦ]at h';obtain⟨ds,es,rfl,rfl,h3,h4,rfl⟩:=wF h';exact⟨ds,es,rfl,h,h3,h4,rfl⟩
     obtain⟨ds,es,rfl,ho,hf,hc,rfl⟩:=key;obtain⟨a,xs,hv,ha,X1,SE,_⟩:=Si.own ho;refine⟨.ref a,hv,.inl ⟨rfl,_,dh.of ha⟩,tD.intro Si ey λu H1 e1 ru=>?_⟩;have lI:=Si.go e1;obtain⟨a1,Fy,ID,Ga,Ss,AO,He⟩:=lI.own ho;rw[hv]at ID;cases ID;obtain⟨τt,fr,rp⟩:=ru;obtain⟨b,zs,rfl,hb,rz⟩:=rp.nQ;have hz:sizeLine=16777216:=aaY;have jX:ck=1000000:=rfl;have ZW:=rz.length;refine⟨a,b,Fy,zs,rfl,rfl,Ga,hb.1,by left,?_⟩;obtain⟨τ2,sV⟩:=lI.put (m:=0) (g:=λys=>ys++zs) (v:=.int 0) (d:=.int 0) ho hv Ga AO He ⟨λ_=>none,λ_ _ h=>by simp at h,.int 0⟩ λrs _=>aD.O5 rs (rz.without (P:=anyF) (λ_ _ h=>fA Ga h) (λ_ _ _ _ _ h=>by cases h) hf _ _);exact hq σ _ R τ2 sV (jg (n:=.l _) lI e1 (λ_ h=>h) Ga AO)
noncomputable def jH(J:Nat)(d:D):Nat->ae->ae
 |_,[]=>[]
 |n,x::xs=>(if n=J then d else x)::jH J d (n+1) xs
theorem aD.jH{T T':lg}{N N':gR}{q:bj}{J:Nat}{d:D}(hT:∀p xs,T p xs->T' p xs)(hN:∀c m p xs f,m≠J->N (c++(m::q)) p xs f->N' (c++(m::q)) p xs f):∀{n:Nat} {vs:af} {ds:ae},aD T N q n vs ds->(∀k v,vs[k]?=some v->n+k=J->Rep T' N' (J::q) v d)->aD T' N' q n vs (DI.jH J d n ds)
 |_,_,_,.nil,_=>.nil
 |n,_,_,.cons (d:=x) h t,hj=>by
  refine .cons ?_ (aD.jH hT hN t λk v e z=>hj (k+1) v e (by left));by_cases hn:n=J
  ·rw[if_pos hn];subst hn;exact hj 0 _ rfl rfl
  ·rw[if_neg hn];exact h.imp (q:=n::q) (q':=n::q) hT λc p xs f h=>hN c n p xs f hn h
section
variable {X:Cx}{F R:ah}{τ:Addr->Option bj}{ρ:bh}{σ:St}{H:Hp}
theorem SI.KO{p a:Addr}{q q0:bj}{n:Nd}{o:HO}(Si:SI X F R τ ρ σ H)(hp:H p=some (.lst xs))(ht:τ p=some q0)(hq:q≠q0)(h:nd X.K R (λ_=>False) τ H q a n f):nd X.K R (λ_=>False) τ (upd H p o) q a n f:=by
 have low:∀{a:Addr} {z:Nd},a≠p->dE H a z->dE (upd H p o) a z:=λne h=>h.at λu e=>by rw[aZ ne];exact e
 cases f with
 |ow=>exact⟨low (λz=>by subst z;exact hq (aap (h.2.symm.trans ht))) h.1,h.2⟩
 |fz=>exact⟨low (λz=>by subst z;rw[Si.rt _ h.2]at ht;cases ht) h.1,h.2⟩
 |al=>exact h.2.elim
 |sc =>
  obtain⟨ys,rfl,h⟩:=h.zB;exact h.elim (λ⟨o',w⟩=>.inl ⟨o',by rw[aZ (λz=>by subst z;rw[hp]at w;cases w)];exact w⟩) .inr
theorem SI.UK{i j:Nat}{p:Addr}(Si:SI X F R τ ρ σ H)(hi:ρ[i]?=some (some d0))(hp:H p=some (.lst xs))(ht:τ p=some [j,i])
  {v:V} (hv:σ[i]?=some (some v)) (hb:Rep (aW X.K (upd H p (.lst ys))) (nd X.K R (λ_=>False) τ (upd H p (.lst ys))) [i] v d1):SI X F R τ (ρ.set i (some d1)) σ (upd H p (.lst ys)):=by
 have Lc:i<ρ.length:=by
  by_cases z:i<ρ.length
  ·exact z
  ·rw[List.getElem?_eq_none (by left)]at hi;cases hi
 have there:∀a,H a≠none->upd H p (.lst ys) a≠none:=λa h=>by
  by_cases z:a=p
  ·rw[z,aV];simp
  ·rw[aZ z];exact h
 refine⟨by simp[Si.len],λm d hm=>?_,Si.rt,λa ha=>there a (Si.rh a ha),Si.rf,λa q e=>there a (Si.th a q e),Si.t0,λa u e=>?_⟩
 ·by_cases z:m=i
  ·subst z;rw[List.getElem?_set_self Lc]at hm;cases hm;exact⟨v,hv,hb⟩
  ·rw[List.getElem?_set_ne (Ne.symm z)]at hm;obtain⟨v,h1,h2⟩:=Si.rep m d hm;refine⟨v,h1,h2.imp (q:=[m]) (q':=[m]) (λ_ _ h=>fA hp h) λc a n f h=>Si.KO hp ht (λe=>?_) h⟩;have:=aaR List.getLast? e;simp at this;exact z this
 ·rw[aZ (λz=>by subst z;rw[Si.t0 _ _ ht]at e;cases e)];exact Si.same a u e
end
def lF(ds:ae)(j:Nat):Option (ae):=match ds[j]? with
 |some d=>match vN d with
  |some _=>some (jH j (.lst .ow []) 0 ds)
  |none=>none
 |none=>none
theorem wQ{es:ae}{j:Nat}(h:lF ds j=some es):∃gs,ds[j]?=some (.lst .ow gs)/\es=jH j (.lst .ow []) 0 ds:=by
 unfold lF at h;cases h1:ds[j]? with
 |none=>rw[h1]at h;exact nk h
 |some d =>
  rw[h1]at h;have h:(match vN d with|some _=>some (jH j (.lst .ow []) 0 ds)|none=>none)=some es:=h;cases h2:vN d with
  |none=>rw[h2]at h;exact nk h
  |some gs =>
   rw[h2]at h;cases h;exact⟨gs,by rw[pP h2],rfl⟩
def EO(xs:ae):O D:=match two xs with
 |some z=>match z.2 with
  |.int k=>if 0<=k then(match z.1 with
   |.tup ds=>(match lF ds k.toNat with|some es=>ok (.tup es)|none=>none)
   |.lst f ds=>if bR f then(match lF ds k.toNat with|some es=>ok (.lst f es)|none=>none)else none
   |_=>none)else none
  |_=>none
 |none=>none
theorem wR{x y d:D}(h0:EO [x,y]=ok d):∃(k:Int) (ds gs:ae),y=.int k/\0<=k/\ds[k.toNat]?=some (.lst .ow gs)/\((x=.tup ds/\d=.tup (jH k.toNat (.lst .ow []) 0 ds))\/(x=.lst .ow ds/\d=.lst .ow (jH k.toNat (.lst .ow []) 0 ds))):=by
 cases y<;>first|exact nk h0 | (cases h0;done)|skip
 rename_i k;by_cases hk:0<=k
 ·have h:(if 0<=k then(match x with
   |.tup ds=>(match lF ds k.toNat with|some es=>ok (.tup es)|none=>none)
   |.lst f ds=>if bR f then(match lF ds k.toNat with|some es=>ok (.lst f es)|none=>none)else none
   |_=>none)else none)=ok d:=h0
  rw[if_pos hk]at h;clear h0;cases x<;>first|exact nk h | (cases h;done)|skip
  ·rename_i ds;replace h:(match lF ds k.toNat with|some es=>ok (D.tup es)|none=>none)=ok d:=h;cases hc:lF ds k.toNat with
   |none=>rw[hc]at h;exact nk h
   |some es =>
    rw[hc]at h;cases h;obtain⟨gs,h1,rfl⟩:=wQ hc;exact⟨k,ds,gs,rfl,hk,h1,.inl ⟨rfl,rfl⟩⟩
  ·rename_i f ds;replace h:(if bR f then(match lF ds k.toNat with|some es=>ok (D.lst f es)|none=>none)else none)=ok d:=h;by_cases hf:bR f=true
   ·rw[if_pos hf]at h;cases hc:lF ds k.toNat with
    |none=>rw[hc]at h;exact nk h
    |some es =>
     rw[hc]at h;cases h;obtain rfl:f=.ow:=by cases f<;>first|rfl | (cases hf;done)
     obtain⟨gs,h1,rfl⟩:=wQ hc;exact⟨k,ds,gs,rfl,hk,h1,.inr ⟨rfl,rfl⟩⟩
   ·rw[if_neg hf]at h;cases h
 ·have h:(if 0<=k then(match x with
   |.tup ds=>(match lF ds k.toNat with|some es=>ok (.tup es)|none=>none)
   |.lst f ds=>if bR f then(match lF ds k.toNat with|some es=>ok (.lst f es)|none=>none)else none
   |_=>none)else none)=ok d:=h0
  rw[if_neg hk]at h;cases h
def qv(_:Scope)(_:aq)(st:Stmt):Option (Expr×aA):=match iU ("clear" : Str) st with
 |some z=>if z.2=[]then(match jF z.1 with
  |some y=>some (y.1,[y.2])
  |none=>none)else none
 |none=>none
theorem yA{sc:Scope}{bl:aq}(h:qv sc bl st=some (o,args)):∃k p0 p1 p2 pos,args=[k]/\st=.Expr (.Call (.Attribute (.Subscript o k p0) ("clear" : Str) p1) [] [] p2) pos/\(p1.endLine==p2.line)=true:=by
 unfold qv at h;cases h1:iU ("clear" : Str) st with
 |none=>rw[h1]at h;exact nk h
 |some z =>
  obtain⟨b,as⟩:=z;rw[h1]at h;have h:(if as=[]then(match jF b with|some y=>some (y.1,[y.2])|none=>none)else none)=some (o,args):=h;by_cases ha:as=[]
  ·rw[if_pos ha]at h;cases h2:jF b with
   |none=>rw[h2]at h;exact nk h
   |some y =>
    obtain⟨a,k⟩:=y;rw[h2]at h;cases h;subst ha;obtain⟨p0,rfl⟩:=iy h2;obtain⟨p1,p2,pos,rfl,hl⟩:=jG h1;exact⟨k,p0,p1,p2,pos,rfl,rfl,hl⟩
  ·rw[if_neg ha]at h;cases h
theorem J_{n:Nat}(hΦ:Φ n=EO){sc:Scope}{bl:aq}{k:Nat}(L:PX X sc bl k)(hN:X.N.Nodup)(oT:∀x,X.fn x=true){x:Str}(he:qv sc bl st=some (.Name x pos,args))
  {i:Nat} (hi:X.N[i]?=some x) (hl:L2.Loc X.env.scope x) (pe:PE X (.Name x pos) (pz i)) (hs:lJ X F Φ cs args):PS X st (j_ X F Φ (.mut n i cs)):=by
 obtain⟨ke,p0,p1,p2,pos',rfl,rfl,tq⟩:=yA he;cases cs with
 |nil=>exact hs.elim
 |cons c cs=>cases cs with
  |cons _ _=>exact hs.2.2.2.elim
  |nil =>
   refine PS.imp (jN (HB abg PySem.F.slot_list_clear PySem.F.type_list_clear Ak (vK (vY.or AD) pe hs.1 hs.2.2.1) (hline:=tq))) λD σ H hq=>?_;obtain⟨R,τ,ρ,r,Si,ev,hq⟩:=hq;obtain⟨xs,cy,ev⟩:=aH ev;obtain⟨y,ey,cy⟩:=aH cy;cases cy;have key:∃(k:Int) (d0 d1:DI.D) (ds gs:List DI.D),y=.int k/\ρ[i]?=some (some d0)/\0<=k/\ds[k.toNat]?=some (.lst .ow gs)/\((d0=.tup ds/\d1=.tup (jH k.toNat (.lst .ow []) 0 ds))\/(d0=.lst .ow ds/\d1=.lst .ow (jH k.toNat (.lst .ow []) 0 ds)))/\r=(.nx,ρ.set i (some d1)):=by
    cases hz:aQ bL [y]with
    |true =>
     obtain⟨d,d',h⟩:=t8 ev hz;rw[hΦ]at h;obtain⟨k,ds,gs,h3,_⟩:=wR h;cases y<;>first|exact nk h3 | (cases h3;done) | (cases hz;done)
    |false =>
     obtain⟨d,d',h,h',rfl⟩:=pS ev hz;rw[hΦ]at h';obtain⟨k,ds,gs,rfl,h3,h4,h5⟩:=wR h';exact⟨k,d,d',ds,gs,rfl,h,h3,h4,h5,rfl⟩
   obtain⟨k,d0,d1,ds,gs,rfl,ho,hk,hg,hd,rfl⟩:=key;obtain⟨v,hv,_⟩:=Si.rep i _ ho;refine⟨v,hv,tD.intro Si ey λu H1 e1 ru=>?_⟩;cases ru.isInt;have lI:=Si.go e1;obtain⟨v',NG,rv⟩:=lI.rep i _ ho;rw[hv]at NG;cases NG;have at_:∀{xs:af},aD (aW X.K H1) (nd X.K R (λ_=>False) τ H1) [i] 0 xs ds->∃(p:Addr) (zs:af),xs[k.toNat]?=some (.ref p)/\H1 p=some (.lst zs)/\τ p=some [k.toNat,i]/\Gu xs k=some (.ref p):=by
    intro xs rs;obtain⟨w,hw,iD⟩:=rs.get hg;rw[Nat.zero_add]at iD;cases iD with
    | @lst _ p zs _ _ h _ =>
     refine⟨p,zs,hw,h.1,h.2,?_⟩;have cL:k.toNat<xs.length:=by
      by_cases z:k.toNat<xs.length
      ·exact z
      ·rw[List.getElem?_eq_none (by left)]at hw;cases hw
     unfold Gu L2.xU;rw[if_pos hk,if_pos (by left)];exact hw
   have go:∀{xs:af} {p:Addr} {zs:af},aD (aW X.K H1) (nd X.K R (λ_=>False) τ H1) [i] 0 xs ds->xs[k.toNat]?=some (.ref p)->H1 p=some (.lst zs)->τ p=some [k.toNat,i]->aD (aW X.K (upd H1 p (.lst []))) (nd X.K R (λ_=>False) τ (upd H1 p (.lst []))) [i] 0 xs (jH k.toNat (.lst .ow []) 0 ds):=by
    intro xs p zs rs hx hp ht;refine aD.jH (λ_ _ h=>fA hp h) (λc m a n f hm h=>lI.KO hp ht (λz=>?_) h) rs λm w hw hm=>?_
    ·have:=aaR List.reverse z;simp at this;exact hm this.1
    ·rw[Nat.zero_add]at hm;subst hm;rw[hx]at hw;cases hw;exact .lst ⟨aV,ht⟩ .nil
   rcases hd with ⟨rfl,rfl⟩|⟨rfl,rfl⟩
   ·cases rv with
    | @tup _ a xs _ hn rs =>
     obtain⟨p,zs,h1,h2,h3,h4⟩:=at_ rs;refine .inr ⟨a,xs,k,_,rfl,rfl,hn,h4,.inl ⟨rfl,_,dh.of h2⟩,p,zs,rfl,rfl,h2,?_⟩;exact hq σ _ R τ (lI.UK ho h2 h3 hv (.tup (fA h2 hn) (go rs h1 h2 h3))) (jg (n:=.l _) lI e1 (λ_ h=>h) h2 h3)
   ·obtain⟨a,xs,rfl,hn,rs⟩:=rv.nQ;obtain⟨p,zs,h1,h2,h3,h4⟩:=at_ rs;refine .inl ⟨a,xs,k,_,rfl,rfl,hn.sq,h4,.inl ⟨rfl,_,dh.of h2⟩,p,zs,rfl,rfl,h2,?_⟩;refine hq σ _ R τ (lI.UK ho h2 h3 hv (.lst (lI.KO h2 h3 (λz=>?_) hn) (go rs h1 h2 h3))) (jg (n:=.l _) lI e1 (λ_ h=>h) h2 h3);have:=aaR List.length z;simp at this
noncomputable abbrev qF(h:Heap)(z TI TO a:Addr)(f:Bool):Prop :=
 h.get? z=some { cls:=.type "zip",dict:=none,data:=.fields #[rawInt a,.bool f,.bool false,.ref TI,.ref TO],slots:=#[] }
variable {oa:Obj}
section
variable {prog:aB}{w:World}{A:az}{E:au}{s:Shared}
theorem yZ{a:Addr}{o:Obj}{Q:Option Obj->Shared->Prop}(ho:s.heap.get? a=some o)(h:Q (some o) s):wpAny (model prog w) A (loadIfAlive a) Q E s:=by
 have h':Q (s.heap.get? a) s:=by rw[ho];exact h
 exact λ_ _ _=>h'
theorem uV{z TI TO a:Addr}{f:Bool}{Q:Bool->Shared->Prop}(hz:qF s.heap z TI TO a f)(ha:s.heap.get? a=some oa)(hQ:∀h',qF h' z TI TO a true->Heap.SameBut z s.heap h'->Q false { s with heap:=h' }):
  wpAny (model prog w) A (Builtin.SmallTypes.ownedTupleIsFree (.ref z)) Q E s:=by
 unfold Builtin.SmallTypes.ownedTupleIsFree;refine aaa (abu hz rfl (x:=rawInt a) rfl ?_);show wpAny _ _ (loadIfAlive ((a:Int).toNat) >>= _) _ _ _;rw[Int.toNat_natCast];refine aaa (yZ ha ?_);simp only[Option.isNone_some,Bool.false_eq_true,if_false];refine aaa (abu hz rfl (x:=.bool f) rfl ?_);cases f with
 |true =>
  rw[if_neg (show ¬ ((Value.bool true != Value.bool true)=true) from Bool.false_ne_true)];exact aab (hQ s.heap hz (Heap.SameBut.refl _ _))
 |false =>
  rw[if_pos (show(Value.bool false != Value.bool true)=true from rfl)];exact aaa (wpAny_setField_rec hz (by simp) λh₃ NY kY=>aab (hQ h₃ NY kY))
theorem qJ{z TI TO a:Addr}{f:Bool}{xs ys:aM}{x y:Value}{Q:au}(D:ZipApart z TI TO i1 i2 l1 l2)
  (hz:qF s.heap z TI TO a f) (ha:s.heap.get? a=some oa) (yS:IsPair s.heap TI (.ref i1) (.ref i2))
  (h1:s.heap.IsListIter i1 l1 k1) (h2:s.heap.IsListIter i2 l2 k2) (yO:s.heap.IsList l1 xs) (uo:s.heap.IsList l2 ys) (hx:xs[k1]?=some x) (hy:ys[k2]?=some y)
  (hQ:∀h',qF h' z TI TO a true->h'.IsListIter i1 l1 (k1+1)->h'.IsListIter i2 l2 (k2+1)->IsPair h' s.heap.objs.size x y->h'.objs.size=s.heap.objs.size+1 ->
   (∀c o,c≠z->c≠i1->c≠i2->s.heap.get? c=some o->h'.get? c=some o)->Q (.ref s.heap.objs.size) { s with heap:=h' }) :
  wpAny (model prog w) A (Builtin.«zip.__next__» ⟨[.ref z],[]⟩) (λfin s'=>∃v,fin=.done (.ret v)/\Q v s') E s:=by
 show wpAny _ _ (field (.ref z) 2 >>= _) _ _ _;refine aaa (abu hz rfl (x:=.bool false) rfl ?_);show wpAny _ _ (field (.ref z) 3 >>= _) _ _ _;refine aaa (abu hz rfl (x:=.ref TI) rfl ?_);refine aaa (wpAny_seqItems yS rfl ?_);show wpAny _ _ (Builtin.SmallTypes.ownedTupleIsFree (.ref z) >>= _) _ _ _;refine aaa (uV hz ha λh₁ F3 e_=>?_);simp only[Bool.false_eq_true,if_false];refine aaa ?_;rw[<- Array.forIn_toList];simp only[List.forIn_cons,List.forIn_nil];refine aaa (aaa (aaD ?_));show wpAny _ _ (Builtin.SmallTypes.nextOf (.ref i1) >>= _) _ _ _;refine aaa (abL (h1.extBut e_.extBut D.i1z) (yO.extBut e_.extBut D.l1z) hx λh₂ Gb hZ=>aab ?_);refine aab ?_;refine aaa (aaa (aaD ?_));show wpAny _ _ (Builtin.SmallTypes.nextOf (.ref i2) >>= _) _ _ _;refine aaa (abL ((h2.extBut e_.extBut D.i2z).extBut hZ.extBut D.i12.symm) ((uo.extBut e_.extBut D.l2z).extBut hZ.extBut D.l2i1) hy λh₃ Od kY=>aab ?_);refine aab ?_;refine aab ?_;have hsz:h₃.objs.size=s.heap.objs.size:=by rw[kY.1,hZ.1,e_.1]
 refine aaa (wpAny_newTuple ?_ (by show 2<=_;rw[sizeLine_eq];decide));refine aab ⟨_,rfl,?_⟩;show Q (.ref h₃.objs.size) _;have cL:∀{c o},h₃.get? c=some o->c≠h₃.objs.size:=λe=>aan (aai e);have hk:∀c o,c≠z->c≠i1->c≠i2->s.heap.get? c=some o->(h₃.push { cls:=.type "tuple",data:=.seq #[x,y] }).get? c=some o:=λc o c1 c2 c3 e=>aag _ (kY.extBut _ _ c3 (hZ.extBut _ _ c2 (e_.extBut _ _ c1 e)));rw[hsz];refine hQ _ (aag _ (kY.extBut _ _ D.i2z.symm (hZ.extBut _ _ D.i1z.symm F3))) ((Gb.extBut kY.extBut D.i12).at λo e=>aag _ e) (Od.at λo e=>aag _ e) ?_ (by rw[Heap.size_push,hsz]) hk;rw[<- hsz];exact aal _ rfl
theorem tF{z TI TO a:Addr}{f:Bool}{xs ys:aM}{Q:Fin->Shared->Prop}(hh:A.handled=none)(D:ZipApart z TI TO i1 i2 l1 l2)
  (hz:qF s.heap z TI TO a f) (ha:s.heap.get? a=some oa) (yS:IsPair s.heap TI (.ref i1) (.ref i2))
  (h1:s.heap.IsListIter i1 l1 k1) (h2:s.heap.IsListIter i2 l2 k2) (yO:s.heap.IsList l1 xs) (uo:s.heap.IsList l2 ys) (r9:xs[k1]?=none\/ys[k2]?=none)
  (hE:∀h' e,(∀c o,c≠z->c≠i1->c≠i2->s.heap.get? c=some o->h'.get? c=some o)->(∃o,h'.get? e=some o/\o.cls=.type "StopIteration")->E (.ref e) { s with heap:=h' }) :
  wpAny (model prog w) A (Builtin.«zip.__next__» ⟨[.ref z],[]⟩) Q E s:=by
 show wpAny _ _ (field (.ref z) 2 >>= _) _ _ _;refine aaa (abu hz rfl (x:=.bool false) rfl ?_);show wpAny _ _ (field (.ref z) 3 >>= _) _ _ _;refine aaa (abu hz rfl (x:=.ref TI) rfl ?_);refine aaa (wpAny_seqItems yS rfl ?_);show wpAny _ _ (Builtin.SmallTypes.ownedTupleIsFree (.ref z) >>= _) _ _ _;refine aaa (uV hz ha λh₁ F3 e_=>?_);simp only[Bool.false_eq_true,if_false];refine aaa ?_;rw[<- Array.forIn_toList];simp only[List.forIn_cons,List.forIn_nil];refine aaa (aaa (aaD ?_));show wpAny _ _ (Builtin.SmallTypes.nextOf (.ref i1) >>= _) _ _ _;cases hx:xs[k1]? with
 |none =>
  refine aaa (wpAny_nextOf_list_end hh (h1.extBut e_.extBut D.i1z) (yO.extBut e_.extBut D.l1z) hx λh₂ e hZ he=>?_);exact hE h₂ e (λc o c1 c2 c3 x=>hZ _ _ c2 (e_.extBut _ _ c1 x)) he
 |some x =>
  have hy:ys[k2]?=none:=by rcases r9 with h|h;rw[hx]at h;cases h;exact h
  refine aaa (abL (h1.extBut e_.extBut D.i1z) (yO.extBut e_.extBut D.l1z) hx λh₂ Gb hZ=>aab ?_);refine aab ?_;refine aaa (aaa (aaD ?_));show wpAny _ _ (Builtin.SmallTypes.nextOf (.ref i2) >>= _) _ _ _;refine aaa (wpAny_nextOf_list_end hh ((h2.extBut e_.extBut D.i2z).extBut hZ.extBut D.i12.symm) ((uo.extBut e_.extBut D.l2z).extBut hZ.extBut D.l2i1) hy λh₃ e kY he=>?_);exact hE h₃ e (λc o c1 c2 c3 x=>kY _ _ c3 (hZ.extBut _ _ c2 (e_.extBut _ _ c1 x))) he
theorem mh{z TI TO a:Addr}{f:Bool}{xs ys:aM}{x y:Value}{Q:Option Value->Shared->Prop}(D:ZipApart z TI TO i1 i2 l1 l2)
  (hz:qF s.heap z TI TO a f) (ha:s.heap.get? a=some oa) (yS:IsPair s.heap TI (.ref i1) (.ref i2))
  (h1:s.heap.IsListIter i1 l1 k1) (h2:s.heap.IsListIter i2 l2 k2) (yO:s.heap.IsList l1 xs) (uo:s.heap.IsList l2 ys) (hx:xs[k1]?=some x) (hy:ys[k2]?=some y)
  (hQ:∀h',qF h' z TI TO a true->h'.IsListIter i1 l1 (k1+1)->h'.IsListIter i2 l2 (k2+1)->IsPair h' s.heap.objs.size x y->h'.objs.size=s.heap.objs.size+1 ->
   (∀c o,c≠z->c≠i1->c≠i2->s.heap.get? c=some o->h'.get? c=some o)->Q (some (.ref s.heap.objs.size)) { s with heap:=h' }) :
  wpAny (model prog w) A (pyNext (.ref z)) Q E s:=by
 have hT:s.TypeIs (.ref z) "zip":=⟨_,hz,rfl⟩
 unfold pyNext;exact aaa (abh (aaQ (name:=Str.ofString "__next__") hT abo
  (aaI abo hT PySem.F.entry_zip_next
   (qJ D hz ha yS h1 h2 yO uo hx hy λh' a1 a2 a3 a4 a5 a6=>aab (hQ h' a1 a2 a3 a4 a5 a6)) (PySem.F.args_zip_next_1 _))))
theorem nN{z TI TO a:Addr}{f:Bool}{xs ys:aM}{Q:Option Value->Shared->Prop}(hh:A.handled=none)(D:ZipApart z TI TO i1 i2 l1 l2)
  (hz:qF s.heap z TI TO a f) (ha:s.heap.get? a=some oa) (yS:IsPair s.heap TI (.ref i1) (.ref i2))
  (h1:s.heap.IsListIter i1 l1 k1) (h2:s.heap.IsListIter i2 l2 k2) (yO:s.heap.IsList l1 xs) (uo:s.heap.IsList l2 ys) (r9:xs[k1]?=none\/ys[k2]?=none)
  (hQ:∀h',(∀c o,c≠z->c≠i1->c≠i2->s.heap.get? c=some o->h'.get? c=some o)->Q none { s with heap:=h' }):wpAny (model prog w) A (pyNext (.ref z)) Q E s:=by
 have hT:s.TypeIs (.ref z) "zip":=⟨_,hz,rfl⟩
 unfold pyNext;refine aaa (abh (aaQ (name:=Str.ofString "__next__") hT abo
  (aaI abo hT PySem.F.entry_zip_next (tF hh D hz ha yS h1 h2 yO uo r9 λh' e hk he=>?_) (PySem.F.args_zip_next_1 _))))
 obtain⟨o,ho,hc⟩:=he;refine aaa (wpAny_isInstance (T:="StopIteration") (b:=true) ⟨o,ho,hc⟩ isSubtype_stop ?_);exact aab (hQ _ hk)
end
theorem Gy:typeLookup (.type "zip") "__len__" = pure none:=by rw[typeLookup_type,builtinLookup_eq_fast];kernel_rfl
theorem LF:typeLookup (.type "zip") "__length_hint__" = pure none:=by rw[typeLookup_type,builtinLookup_eq_fast];kernel_rfl
section
variable {prog:aB}{w:World}{A:az}{E:au}{s:Shared}
theorem Ck{z:Addr}(hT:s.TypeIs (.ref z) "zip"){Q:Bool->Shared->Prop}(h:Q true s):wpAny (model prog w) A (Builtin.List.listLengthHint (.ref z)) Q E s:=by
 unfold Builtin.List.listLengthHint;refine aaa (wpAny_specialOf hT Gy ?_);refine wpAny_ite_split (λtu=>absurd tu (by decide)) (λ_=>?_);refine wpAny_ite_split (λtu=>absurd tu (by decide)) (λ_=>?_);refine aaa (wpAny_specialOf hT LF ?_);exact aab h
end
structure Zl(h:Heap)(z TI TO i1 i2 l1 l2 S:Addr)(xs ys:aM)(i:Nat):Prop where
 st:(IsZip h z TI TO .none/\∃a b,IsPair h TO a b)\/∃a f oa,qF h z TI TO a f/\h.get? a=some oa/\S<a
 ti:IsPair h TI (.ref i1) (.ref i2)
 w1:h.IsListIter i1 l1 i
 w2:h.IsListIter i2 l2 i
 q1:h.IsList l1 xs
 q2:h.IsList l2 ys
structure Below(z TI TO i1 i2 l1 l2 S:Addr):Prop where
 D:ZipApart z TI TO i1 i2 l1 l2
 z:z<S
 TI:TI<S
 TO:TO<S
 i1:i1<S
 i2:i2<S
 l1:l1<S
 l2:l2<S
section
variable {prog:aB}{w:World}{A:az}{E:au}{s:Shared}{z TI TO i1 i2 l1 l2 S:Addr}{xs ys:aM}{i:Nat}
theorem Zl.keep(B:Below z TI TO i1 i2 l1 l2 S)(Z:Zl h z TI TO i1 i2 l1 l2 S xs ys i)(hk:∀b o,b≠S->h.get? b=some o->h'.get? b=some o):Zl h' z TI TO i1 i2 l1 l2 S xs ys i:=by
 have n:∀{b},b<S->b≠S:=λh=>aan h;refine⟨?_,hk _ _ (n B.TI) Z.ti,Z.w1.at λo e=>hk _ o (n B.i1) e,Z.w2.at λo e=>hk _ o (n B.i2) e,Z.q1.at λo e=>hk _ o (n B.l1) e,Z.q2.at λo e=>hk _ o (n B.l2) e⟩;rcases Z.st with ⟨h1,a,b,h2⟩|⟨a,f,oa,h1,h2,h3⟩
 ·exact .inl ⟨hk _ _ (n B.z) h1,a,b,hk _ _ (n B.TO) h2⟩
 ·exact .inr ⟨a,f,oa,hk _ _ (n B.z) h1,hk _ _ (aat h3) h2,h3⟩
theorem Ci{x y:Value}{Q:Option Value->Shared->Prop}(B:Below z TI TO i1 i2 l1 l2 S)(Z:Zl s.heap z TI TO i1 i2 l1 l2 S xs ys i)(hS:S<s.heap.objs.size)(hx:xs[i]?=some x)(hy:ys[i]?=some y)
  (hQ:∀h',Zl h' z TI TO i1 i2 l1 l2 S xs ys (i+1)->IsPair h' s.heap.objs.size x y->h'.objs.size=s.heap.objs.size+1->(∀c o,c≠z->c≠TO->c≠i1->c≠i2->s.heap.get? c=some o->h'.get? c=some o)->Q (some (.ref s.heap.objs.size)) { s with heap:=h' }) :
  wpAny (model prog w) A (pyNext (.ref z)) Q E s:=by
 have D:=B.D;rcases Z.st with ⟨hz,a,b,Lh⟩|⟨a,f,oa,hz,ha,hSa⟩
 ·refine wpAny_pyNext_zip_item D hz Z.ti Lh Z.w1 Z.w2 Z.q1 Z.q2 hx hy λh' z1 o1 a1 b1 t1 PB k1=>hQ h' ?_ t1 PB k1;exact⟨.inr ⟨s.heap.objs.size,false,_,z1,t1,hS⟩,k1 _ _ D.TIz D.TITO D.TIi1 D.TIi2 Z.ti,a1,b1,Z.q1.at λo e=>k1 _ o D.l1z D.l1TO D.l1i1 D.l1i2 e,Z.q2.at λo e=>k1 _ o D.l2z D.l2TO D.l2i1 D.l2i2 e⟩
 ·refine mh D hz ha Z.ti Z.w1 Z.w2 Z.q1 Z.q2 hx hy λh' z1 a1 b1 t1 PB k1=>hQ h' ?_ t1 PB λc o c1 _ c3 c4 e=>k1 c o c1 c3 c4 e;have n:∀{b},b<S->a≠b:=λh=>aat (abB h hSa);exact⟨.inr ⟨a,true,oa,z1,k1 _ _ (n B.z) (n B.i1) (n B.i2) ha,hSa⟩,k1 _ _ D.TIz D.TIi1 D.TIi2 Z.ti,a1,b1,Z.q1.at λo e=>k1 _ o D.l1z D.l1i1 D.l1i2 e,Z.q2.at λo e=>k1 _ o D.l2z D.l2i1 D.l2i2 e⟩
theorem Cm{Q:Option Value->Shared->Prop}(hh:A.handled=none)(B:Below z TI TO i1 i2 l1 l2 S)(Z:Zl s.heap z TI TO i1 i2 l1 l2 S xs ys i)(r9:xs[i]?=none\/ys[i]?=none)
  (hQ:∀h',(∀c o,c≠z->c≠TO->c≠i1->c≠i2->s.heap.get? c=some o->h'.get? c=some o)->Q none { s with heap:=h' }):wpAny (model prog w) A (pyNext (.ref z)) Q E s:=by
 have D:=B.D;rcases Z.st with ⟨hz,a,b,Lh⟩|⟨a,f,oa,hz,ha,hSa⟩
 ·exact wpAny_pyNext_zip_end hh D hz Z.ti Lh Z.w1 Z.w2 Z.q1 Z.q2 r9 hQ
 ·exact nN hh D hz ha Z.ti Z.w1 Z.w2 Z.q1 Z.q2 r9 λh' k=>hQ h' λc o c1 _ c3 c4 e=>k c o c1 c3 c4 e
end
structure O6(xs ys:aM)(lo:Addr)(h:Heap)(as:aR):Prop where
 above:∀a∈as,lo<a
 nd:as.Nodup
 pairs:∀(j:Nat) (a:Addr),as[j]?=some a->∃x y,xs[j]?=some x/\ys[j]?=some y/\IsPair h a x y
section
variable {prog:aB}{w:World}{A:az}{s:Shared}{R:Result->Shared->Prop}{z TI TO i1 i2 l1 l2 S:Addr}{xs ys:aM}
theorem Cg(hh:A.handled=none)(B:Below z TI TO i1 i2 l1 l2 S)(hn:min xs.size ys.size<=sizeLine)(res:Value) 
  (hR:∀h' tk acc c as,(∀b o,b≠S->b≠z->b≠TO->b≠i1->b≠i2->h₁.get? b=some o->h'.get? b=some o)->h'.get? S=some { cls:=.type "list",dict:=none,data:=.seq acc c,slots:=#[] }->as.length=min xs.size ys.size->O6 xs ys S h' as ->
   acc.toList=as.map Value.ref->R (.ok (.ret res)) { s with heap:=h',toks:=tk }) :
  ∀(k i:Nat) (h:Heap) (tk c:Nat) (acc:aM) (as:aR),min xs.size ys.size - i=k->i<=min xs.size ys.size->Zl h z TI TO i1 i2 l1 l2 S xs ys i->(∀b o,b≠S->b≠z->b≠TO->b≠i1->b≠i2->h₁.get? b=some o->h.get? b=some o) ->
   h.get? S=some { cls:=.type "list",dict:=none,data:=.seq acc c,slots:=#[] }->acc.toList=as.map Value.ref->as.length=i->O6 xs ys S h as ->
   codeAny (model prog w) A (.builtin "list.extend.loop" ⟨[.ref S,.ref z,res],[]⟩) R { s with heap:=h,toks:=tk }:=by
 have nz:S≠z:=aat B.z;have nO:S≠TO:=aat B.TO;have n1:S≠i1:=aat B.i1;have n2:S≠i2:=aat B.i2;have Vd:∀{a:Addr},S<a->a≠z/\a≠TO/\a≠i1/\a≠i2:=λh=>⟨aat (abB B.z h),aat (abB B.TO h),aat (abB B.i1 h),aat (abB B.i2 h)⟩
 intro k;induction k with
 |zero =>
  intro i h tk c acc as hk hi Z AW hS cY N8 hG;refine aaZ PySem.F.entry_extend_loop ?_;rw[Around.under_plainId PySem.F.plain_extend_loop _];show wpAny _ A.in1 (pyNext (.ref z) >>= _) _ _ _;have r9:xs[i]?=none\/ys[i]?=none:=by
   rcases Nat.le_total xs.size ys.size with q|q
   ·exact .inl (Array.getElem?_eq_none (by left))
   ·exact .inr (Array.getElem?_eq_none (by left))
  refine aaa (Cm (s:={ s with heap:=h,toks:=tk }) (A:=A.in1) hh B Z r9 λh' he=>?_);refine aab (hR h' tk acc c as (λb o h1 h2 h3 h4 h5 e=>he b o h2 h3 h4 h5 (AW b o h1 h2 h3 h4 h5 e)) (he S _ nz nO n1 n2 hS) (by left) ⟨hG.above,hG.nd,λj a hj=>?_⟩ cY);obtain⟨x,y,e1,e2,e3⟩:=hG.pairs j a hj;obtain⟨a1,a2,a3,a4⟩:=Vd (hG.above a (aar hj));exact⟨x,y,e1,e2,he a _ a1 a2 a3 a4 e3⟩
 |succ k ih =>
  intro i h tk c acc as hk hi Z AW hS cY N8 hG;have cL:i<min xs.size ys.size:=by left
  have hx:xs[i]?=some (xs[i]'(by left)):=aaX _;have hy:ys[i]?=some (ys[i]'(by left)):=aaX _;have hsz:acc.size=i:=by rw[<- Array.length_toList,cY,List.length_map,N8]
  have TQ:S<h.objs.size:=aai hS;refine aaZ PySem.F.entry_extend_loop ?_;rw[Around.under_plainId PySem.F.plain_extend_loop _];show wpAny _ A.in1 (pyNext (.ref z) >>= _) _ _ _;refine aaa (Ci (s:={ s with heap:=h,toks:=tk }) B Z TQ hx hy λh' Z' ht hz Lb=>?_);dsimp only at ht hz Lb ⊢;have qf:=Lb S _ nz nO n1 n2 hS;have up:∀b o,b≠S->h'.get? b=some o->(h'.update S (Obj.mapSeq (·.push (Value.ref h.objs.size)))).get? b=some o:=λb o hb e=>(aaJ _ _ (abE hb)).trans e;show wpAny _ A.in1 (updateSeq S (·.push (Value.ref h.objs.size)) >>= _) _ _ _;refine aaa ?_;refine abY qf rfl (aab ⟨acg PySem.F.plain_extend_loop _,ih (i+1) _ tk _ (acc.push (Value.ref h.objs.size)) (as++[h.objs.size]) (by left) cL (Z'.keep B up)
   (λb o h1 h2 h3 h4 h5 e=>up b o h1 (Lb b o h2 h3 h4 h5 (AW b o h1 h2 h3 h4 h5 e))) (aaM _ qf rfl) (by rw[Array.toList_push,cY,List.map_append];rfl) (by rw[List.length_append,N8];rfl) ⟨?_,?_,?_⟩⟩) (by rw[hsz];left) (by show(acc.push (Value.ref h.objs.size)).size<=sizeLine+1;rw[Array.size_push,hsz];left)
  ·intro a ha;rcases List.mem_append.mp ha with ha|ha
   ·exact hG.above a ha
   ·rw[List.mem_singleton.mp ha];exact TQ
  ·refine List.nodup_append.mpr ⟨hG.nd,List.nodup_cons.mpr ⟨acm,aaW⟩,λa ha b hb e=>?_⟩;rw[List.mem_singleton.mp hb]at e;subst e;obtain⟨j,hj⟩:=List.mem_iff_getElem?.mp ha;obtain⟨_,_,_,_,e⟩:=hG.pairs j _ hj;exact absurd (aai e) (aav _)
  ·intro j b hj;rcases Nat.lt_trichotomy j as.length with q|q|q
   ·rw[List.getElem?_append_left q]at hj;obtain⟨x',y',e1,e2,e3⟩:=hG.pairs j b hj;have hb:=hG.above b (aar hj);obtain⟨a1,a2,a3,a4⟩:=Vd hb;exact⟨x',y',e1,e2,up b _ (aat hb) (Lb b _ a1 a2 a3 a4 e3)⟩
   ·subst q;have hb:h.objs.size=b:=by simpa using hj
    subst hb;exact⟨_,_,by rw[N8];exact hx,by rw[N8];exact hy,up _ _ (aat TQ) ht⟩
   ·have NR:(as++[h.objs.size])[j]?=none:=List.getElem?_eq_none (by rw[List.length_append,List.length_singleton];left);rw[NR]at hj;exact nk hj
theorem xk(hh:A.handled=none)(B:Below z TI TO i1 i2 l1 l2 S)(hn:min xs.size ys.size<=sizeLine)(Z:Zl s.heap z TI TO i1 i2 l1 l2 S xs ys 0)(AM:IsZip s.heap z TI TO .none)(res:Value)(c₀:Nat)(hS:s.heap.get? S=some { cls:=.type "list",data:=.seq #[] c₀ })
  (hR:∀h' tk acc c as,(∀b o,b≠S->b≠z->b≠TO->b≠i1->b≠i2->s.heap.get? b=some o->h'.get? b=some o)->h'.get? S=some { cls:=.type "list",dict:=none,data:=.seq acc c,slots:=#[] }->as.length=min xs.size ys.size->O6 xs ys S h' as ->
   acc.toList=as.map Value.ref->R (.ok (.ret res)) { s with heap:=h',toks:=tk }) :
  wpAny (model prog w) A.in1 (Builtin.List.listExtendWith (.ref S) (.ref z) res)
   (λfin s'=>match fin with|.done f=>R (.ok f) s'|.again c'=>c'.quiet=true/\codeAny (model prog w) A c' R s') (λe s'=>R (.error e) s') s:=by
 have YH:S≠z:=aat B.z;have hT:s.TypeIs (.ref z) "zip":=⟨_,AM,rfl⟩
 unfold Builtin.List.listExtendWith;refine aaa (wpAny_typeOf (T:="zip") hT ?_);have h1:Builtin.List.listSameRef (.ref S) (.ref z)=false:=by simp[Builtin.List.listSameRef,YH]
 have h2:(Value.type "zip" == Value.type "list")=false:=by decide
 have h3:(Value.type "zip" == Value.type "tuple")=false:=by decide
 simp only[h1,h2,h3,Bool.or_false,Bool.false_eq_true,if_false];refine aaa (wpAny_pyIter_zip AM ?_);refine aaa (aaD (Ck hT ?_));refine wpAny_ite_split (λ_=>?_) (λtu=>absurd rfl tu);refine aaa (aa9 ?_);refine aaa ?_;show wpAny _ _ (updateSeq S (·.push .none) >>= λ_=>updateSeq S (·.pop)) _ _ _;refine aaa (abY hS rfl ?_);have wq:=aaM (Obj.mapSeq (·.push Value.none)) hS rfl;refine abY (hz:=by seq_fits) wq rfl ?_;have N_:=aaM (Obj.mapSeq (·.pop)) wq rfl;have KJ:∀b o,b≠S->s.heap.get? b=some o->((s.heap.update S (Obj.mapSeq (·.push Value.none))).update S (Obj.mapSeq (·.pop))).get? b=some o:=λb o hb e=>(aaJ _ _ (abE hb)).trans ((aaJ _ _ (abE hb)).trans e);refine aab ⟨acg PySem.F.plain_extend_loop _,?_⟩;exact Cg hh B hn res (s:=s) (h₁:=s.heap) hR (min xs.size ys.size) 0 _ s.toks _ #[] [] (Nat.sub_zero _) (aaF _) (Z.keep B KJ) (λb o h1 _ _ _ _ e=>KJ b o h1 e) N_ rfl rfl ⟨(λ_ ha=>nomatch ha),aaW,λj a hj=>by simp at hj⟩
theorem Cj(hh:A.handled=none)(B:Below z TI TO i1 i2 l1 l2 S)(hn:min xs.size ys.size<=sizeLine)(Z:Zl s.heap z TI TO i1 i2 l1 l2 S xs ys 0)(AM:IsZip s.heap z TI TO .none)(hS:s.heap.get? S=some { cls:=.type "list",data:=.seq #[] })
  (hR:∀h' tk acc c as,(∀b o,b≠S->b≠z->b≠TO->b≠i1->b≠i2->s.heap.get? b=some o->h'.get? b=some o)->h'.get? S=some { cls:=.type "list",dict:=none,data:=.seq acc c,slots:=#[] }->as.length=min xs.size ys.size->O6 xs ys S h' as ->
   acc.toList=as.map Value.ref->R (.ok (.ret .none)) { s with heap:=h',toks:=tk }) :
  wpAny (model prog w) A.in1 (Builtin.«list.__init__» ⟨[.ref S,.ref z],[]⟩)
   (λfin s'=>match fin with|.done f=>R (.ok f) s'|.again c'=>c'.quiet=true/\codeAny (model prog w) A c' R s') (λe s'=>R (.error e) s') s:=by
 show wpAny _ _ (do let old <- Builtin.List.listItems (.ref S);Builtin.List.listUpdate (.ref S) (λ_=>#[]);letGo old.toList.reverse;Builtin.List.listExtendWith (.ref S) (.ref z) .none) _ _ s;refine aaa ?_;unfold Builtin.List.listItems;refine aaa (wpAny_seqItems hS rfl (aab ?_));show wpAny _ _ (updateSeq S (λ_=>#[]) >>= λ_=>letGo (#[]:aM).toList.reverse >>= λ_=>Builtin.List.listExtendWith (.ref S) (.ref z) .none) _ _ s;refine aaa (abY hS rfl ?_);have wq:=aaM (Obj.mapSeq (λ_=>(#[]:aM))) hS rfl;have KJ:∀b o,b≠S->s.heap.get? b=some o->(s.heap.update S (Obj.mapSeq (λ_=>(#[]:aM)))).get? b=some o :=
  λb o hb e=>(aaJ _ _ (abE hb)).trans e
 refine aaa (wpAny_letGo ?_);refine xk hh B hn (Z.keep B KJ) (KJ _ _ (aan B.z) AM) .none _ wq λh' tk acc c as hk qf hl hG cY=>?_;exact hR h' tk acc c as (λb o h1 h2 h3 h4 h5 e=>hk b o h1 h2 h3 h4 h5 (KJ b o h1 e)) qf hl hG cY
end
section
variable {prog:aB}{w:World}{A:az}{E:au}{s:Shared}{z TI TO i1 i2 l1 l2:Addr}{xs ys:aM}
theorem Cn{Q:au}(hh:A.handled=none)(D:ZipApart z TI TO i1 i2 l1 l2)(hn:min xs.size ys.size<=sizeLine)(hz:IsZip s.heap z TI TO .none)(yS:IsPair s.heap TI (.ref i1) (.ref i2)){a b:Value}(Lh:IsPair s.heap TO a b)(h1:s.heap.IsListIter i1 l1 0)(h2:s.heap.IsListIter i2 l2 0)(q1:s.heap.IsList l1 xs)(q2:s.heap.IsList l2 ys)
  (hQ:∀h' tk acc c as,(∀b o,b≠z->b≠TO->b≠i1->b≠i2->s.heap.get? b=some o->h'.get? b=some o)->h'.get? s.heap.objs.size=some { cls:=.type "list",dict:=none,data:=.seq acc c,slots:=#[] }->as.length=min xs.size ys.size->O6 xs ys s.heap.objs.size h' as ->
   acc.toList=as.map Value.ref->Q (.ref s.heap.objs.size) { s with heap:=h',toks:=tk }) :
  wpAny (model prog w) A (call (.type "list") [.ref z]) Q E s:=by
 refine callType_codes (Q₁:=λobj s₁=>obj=.ref s.heap.objs.size/\s₁={ s with heap:=s.heap.push { cls:=.type "list",data:=.seq #[] } }) PySem.F.called_list (PySem.F.typeCall_list_1 _) PySem.F.entry_list_init
  (code_list_new _ ⟨rfl,rfl⟩) λobj s₁ h₁=>?_
 obtain⟨rfl,rfl⟩:=h₁;have hS:(s.heap.push { cls:=.type "list",data:=.seq #[] }).get? s.heap.objs.size=some { cls:=.type "list",data:=.seq #[] }:=aal _ rfl;have up:∀b o,s.heap.get? b=some o->(s.heap.push { cls:=.type "list",data:=.seq #[] }).get? b=some o:=λb o e=>aag _ e;have B:Below z TI TO i1 i2 l1 l2 s.heap.objs.size:=⟨D,aai hz,aai yS,aai Lh,(by obtain⟨_,e,_⟩:=h1;exact aai e),(by obtain⟨_,e,_⟩:=h2;exact aai e),(by obtain⟨_,e,_⟩:=q1;exact aai e),(by obtain⟨_,e,_⟩:=q2;exact aai e)⟩
 refine⟨⟨_,hS,rfl⟩,PySem.F.args_list_init_2 _ _,Cj (A:=A.in1) hh B hn ⟨.inl ⟨up _ _ hz,a,b,up _ _ Lh⟩,up _ _ yS,h1.at λo e=>up _ o e,h2.at λo e=>up _ o e,q1.at λo e=>up _ o e,q2.at λo e=>up _ o e⟩ (up _ _ hz) hS λh' tk acc c as hk qf hl hG cY=>?_⟩;exact⟨rfl,hQ h' tk acc c as (λb o h2 h3 h4 h5 e=>hk b o (aan (aai e)) h2 h3 h4 h5 (up b o e)) qf hl hG cY⟩
end
theorem Inv.Nt{pins:ao}{H:Hp}{s:Shared}(I:Inv X pins σ H s)(k:∀b u,s.heap.get? b=some u->h'.get? b=some u)(up:∀b u,H b=some u->H' b=some u)
  (nw:∀b u,H' b=some u->H b=some u\/(s.heap.objs.size<=b/\cu X.prog X.w H' h' b u)):Inv X pins σ H' { s with heap:=h',toks:=t' }:=by
 refine I.step (g':=s.gens) (d':=s.drawn) (ch:=[]) (λb hb=>nomatch hb) (λb o _ _ _ e _=>k b o e) (λb o _ _ _ e _=>⟨o.slots,k b o e⟩) (λb u _ e n=>?_)
  (λb o _ e=>⟨o,k b o e⟩) (λ_ _ e=>up _ _ e) (λ_ _ _ e=>up _ _ e) (λb ps e=>⟨#[],by rw[up _ _ e];simp⟩) (λm hm=>?_) (λb u e=>?_) I.bare
 ·cases q:H' b with
  |none=>rfl
  |some v =>
   rcases nw b v q with z|⟨z,_⟩
   ·rw[n]at z;exact nk z
   ·exact absurd (aai e) (Nat.not_lt.mpr z)
 ·obtain⟨o,es,ep,ho,r⟩:=hm;exact⟨o,es,ep,k _ o ho,r⟩
 ·rcases nw b u e with e|⟨_,e⟩
  ·exact(I.cN b u e).mD (λc v _ q=>k c v q) (λ_ q=>up _ _ q) λ_ _ q=>up _ _ q
  ·exact e
def n8(H:Hp):List (Addr×V×V)->Hp
 |[]=>H
 |q::r=>upd (n8 H r) q.1 (.tup [q.2.1,q.2.2])
theorem jR{H:Hp}{b:Addr}{u:HO}(e:H b=some u):∀{r:List (Addr×V×V)},(∀q∈r,H q.1=none)->n8 H r b=some u
 |[],_=>e
 |q::r,h=>by
  have hn:b≠q.1:=λz=>by rw[z,h q List.mem_cons_self]at e;cases e
  show upd (n8 H r) q.1 _ b=_;rw[aZ hn];exact jR e λq hq=>h q (aae _ hq)
theorem vX{H:Hp}:∀{r:List (Addr×V×V)},(r.map (·.1)).Nodup->∀q∈r,n8 H r q.1=some (.tup [q.2.1,q.2.2])
 |[],_,_,h=>nomatch h
 |q'::r,hn,q,h=>by
  show upd (n8 H r) q'.1 _ q.1=_;have wj:=List.nodup_cons.mp hn;rcases List.mem_cons.mp h with rfl|h
  ·exact aV
  ·have:q.1≠q'.1:=λz=>wj.1 (by show q'.1∈_;rw[<- z];exact aaA h);rw[aZ this];exact vX wj.2 q h
theorem rV{H:Hp}{b:Addr}{u:HO}:∀{r:List (Addr×V×V)},n8 H r b=some u->H b=some u\/∃q∈r,q.1=b/\u=.tup [q.2.1,q.2.2]
 |[],e=>.inl e
 |q::r,e=>by
  replace e:upd (n8 H r) q.1 (.tup [q.2.1,q.2.2]) b=some u:=e;by_cases z:b=q.1
  ·subst z;rw[aV]at e;cases e;exact .inr ⟨q,aaf,rfl,rfl⟩
  ·rw[aZ z]at e;rcases rV e with h|⟨q',h1,h2⟩
   ·exact .inl h
   ·exact .inr ⟨q',aae _ h1,h2⟩
def Xa(K:av)(ta:TA):TE:=λσ H Q=>ta σ H λvs H1=>∃a b xs ys,vs=[.ref a,.ref b]/\dh K H1 a xs/\dh K H1 b ys /\
 ∀(l:Addr) (r:List (Addr×V×V)),H1 l=none->(∀q∈r,H1 q.1=none)->(r.map (·.1)).Nodup->l∉r.map (·.1)->r.map (·.2)=xs.zip ys->Q (.ref l) (upd (n8 H1 r) l (.lst (r.map λq=>V.ref q.1)))
theorem Dz{p:Pos}(hc:X.calm=true)(NW:Gl X "list")(Ta:X.mg "list" = none)(hg:Gl X "zip")(hm:X.mg "zip" = none)(ha:PA X [e1,e2] ta)(hs:∀es,starEach (e1::es) X.env=(false,eval e1 X.env)::starEach es X.env)(x9:∀es,starEach (e2::es) X.env=(false,eval e2 X.env)::starEach es X.env):
  PE X (.Call (.Name "list" p') [.Call (.Name "zip" p) [e1,e2] [] pos] [] pos') (Xa X.K ta):=by
 intro pins s σ H Q I h;refine aaV (eE I NW Ta boot_list ?_);refine aas ?_;show wpAny _ _ (spliced ((false,eval (.Call (.Name "zip" p) [e1,e2] [] pos) X.env)::backTo pos' (starEach [] X.env))) _ _ s;refine abw ?_;refine Call_ (eE I hg hm boot_zip (aas (cV (ha pos pins s σ H _ I h) λus s1 bN=>?_) (hs _) (by rw[x9];rfl)));obtain⟨vs,H1,I1,r1,q1⟩:=bN;obtain⟨a,b,xs,ys,e,q1,q2,hq⟩:=q1;subst e;obtain⟨u,v,rfl,ru,rv⟩:=vals2 r1;cases ru;cases rv;obtain⟨aJ,rx,p1,VO⟩:=I1.list q1;obtain⟨its',ry,p2,K3⟩:=I1.list q2;refine call_zip_2 p1.isList p2.isList λh' z t o l1 l2 sz k=>abG ?_;have yO:h'.IsList a aJ.toArray:=p1.isList.at λo e=>k _ o e;have uo:h'.IsList b its'.toArray:=p2.isList.at λo e=>k _ o e;have cls:∀{x y:Addr} {o u:Obj},h'.get? x=some o->h'.get? y=some u->o.cls≠u.cls->x≠y:=λh1 h2 h3=>cM h1 h2 h3;have al:@LT.lt Nat _ a s1.heap.objs.size:=by obtain⟨_,e,_⟩:=p1.isList;exact aai e
 have bl:@LT.lt Nat _ b s1.heap.objs.size:=by obtain⟨_,e,_⟩:=p2.isList;exact aai e
 have D:ZipApart (s1.heap.objs.size+4) (s1.heap.objs.size+2) (s1.heap.objs.size+3) s1.heap.objs.size (s1.heap.objs.size+1) a b:=by
  constructor<;>first|exact aan (by left)|exact aat (by left)
 have lx:=rx.length;have ly:=ry.length;have hn:min aJ.toArray.size its'.toArray.size<=sizeLine:=by simp;left
 refine Cn (s:={ s1 with heap:=h' }) (I1.ok.hd hc) D hn z t o l1 l2 yO uo λYW tk acc c as hk hS hl hG cY=>?_;dsimp only at hk hS hG ⊢;have hlen:as.length=(xs.zip ys).length:=by rw[hl,List.length_zip];simp;left
 have keep:∀b o,s1.heap.get? b=some o->YW.get? b=some o:=λb o e=>by
  have:@LT.lt Nat _ b s1.heap.objs.size:=aai e;exact hk b o (aan (by left)) (aan (by left)) (aan (by left)) (aan (by left)) (k b o e)
 have fresh:∀c,s1.heap.objs.size<=c->H1 c=none:=λc h=>I1.cN.fresh h;have hS5:h'.objs.size=s1.heap.objs.size+5:=sz
 let r:List (Addr×V×V):=as.zip (xs.zip ys)
 have r1:r.map (·.1)=as:=List.map_fst_zip (by left);have r2:r.map (·.2)=xs.zip ys:=List.map_snd_zip (by left);have tu:∀c∈as,@LT.lt Nat _ h'.objs.size c:=hG.above;have SH:∀q∈r,H1 q.1=none:=λq hq=>fresh _ (by have:=tu q.1 (by rw[<- r1];exact aaA hq);left);have tq:H1 h'.objs.size=none:=fresh _ (by left);have La:h'.objs.size∉r.map (·.1):=by rw[r1];exact λz=>absurd (tu _ z) (aav _)
 have nM:(r.map (·.1)).Nodup:=by rw[r1];exact hG.nd
 have AV:(as.map V.ref)=r.map λq=>V.ref q.1:=by rw[<- r1,List.map_map];rfl
 refine⟨.ref h'.objs.size,upd (n8 H1 r) h'.objs.size (.lst (r.map λq=>V.ref q.1)),?_,rfl,hq _ r tq SH nM La r2⟩;refine Inv.Nt (s:=s1) (t':=tk) I1 keep (λb u e=>?_) λb u e=>?_
 ·rw[aZ λz=>by rw[z,tq]at e;cases e];exact jR e SH
 ·by_cases zb:b=h'.objs.size
  ·subst zb;rw[aV]at e;cases e;refine .inr ⟨by left,?_,acc.toList,c,?_,by rw[Array.toArray_toList];exact hS⟩
   ·rw[<- AV,List.length_map,hlen,List.length_zip];left
   ·rw[<- AV,cY];clear cY AV hG hl hlen r1 tu nM r r2 SH La hS hk keep;induction as with
    |nil=>exact .nil
    |cons a as ih=>exact .cons rfl ih
  ·rw[aZ zb]at e;rcases rV e with e|⟨q,hq,rfl,rfl⟩
   ·exact .inl e
   ·have hm:q.1∈as:=by rw[<- r1];exact aaA hq
    refine .inr ⟨by have:=tu _ hm;left,?_⟩;obtain⟨j,hj⟩:=List.mem_iff_getElem?.mp hq;have ya:as[j]?=some q.1/\(xs.zip ys)[j]?=some q.2:=by
     have:=List.getElem?_zip_eq_some.mp hj;exact this
    obtain⟨x,y,ex,ey,hp⟩:=hG.pairs j q.1 ya.1;obtain⟨e1,e2⟩:xs[j]?=some q.2.1/\ys[j]?=some q.2.2:=List.getElem?_zip_eq_some.mp ya.2;obtain⟨u1,SA,Xx⟩:=rx.get e1;obtain⟨u2,X5,Xw⟩:=ry.get e2;rw[List.getElem?_toArray,SA]at ex;rw[List.getElem?_toArray,X5]at ey;cases ex;cases ey;exact u_ Xx Xw hp
noncomputable def pairD(x y:D):D:=.tup [x,y]
def Nj(xs:ae):O D:=match two xs with
 |some z=>match z.1 with
  |.lst _ a=>match z.2 with
   |.lst _ b=>ok (.lst .ow (aC bo (List.zipWith pairD a b)))
   |_=>none
  |_=>none
 |none=>none
theorem HZ{x y d:D}(h:Nj [x,y]=ok d):∃f a g b,x=.lst f a/\y=.lst g b/\d=.lst .ow (aC bo (List.zipWith pairD a b)):=by
 cases x<;>first|exact nk h | (cases h;done)|skip
 cases y<;>first|exact nk h | (cases h;done)|skip
 cases h;exact⟨_,_,_,_,rfl,rfl,rfl⟩
def wY(sc:Scope)(bl:aq)(e:Expr):Option (aA):=match dF e with
 |some z=>match one z.2 with
  |some i=>if z.1=("list" : Str)/\gb sc z.1=true/\z.1∈bl then ig sc bl i else none
  |none=>none
 |none=>none
theorem BM{sc:Scope}{bl:aq}{e:Expr}(h:wY sc bl e=some args):∃p pos i,e=.Call (.Name ("list" : Str) p) [i] [] pos/\gb sc ("list" : Str)=true/\("list" : Str)∈bl/\ig sc bl i=some args:=by
 unfold wY at h;cases hv:dF e with
 |none=>rw[hv]at h;exact nk h
 |some z =>
  obtain⟨x,as⟩:=z;rw[hv]at h;obtain⟨p,pos,rfl⟩:=cG hv;have h2:(match one as with|some i=>if x=("list" : Str)/\gb sc x=true/\x∈bl then ig sc bl i else none|none=>none)=some args:=h;clear h;cases hw:one as with
  |none=>rw[hw]at h2;exact nk h2
  |some a =>
   rw[hw]at h2;have h3:(if x=("list" : Str)/\gb sc x=true/\x∈bl then ig sc bl a else none)=some args:=h2;clear h2;obtain rfl:=b9 hw;by_cases hc:x=("list" : Str)/\gb sc x=true/\x∈bl
   ·rw[if_pos hc]at h3;obtain⟨rfl,h1,h2⟩:=hc;exact⟨_,_,_,rfl,h1,h2,h3⟩
   ·rw[if_neg hc]at h3;cases h3
theorem rq{T:lg}{N:gR}(hN:∀k k' p xs f,N k p xs f->N k' p xs f):∀{r:List (Addr×V×V)} {xs ys:af} {a b:ae} {k1 k2 k:bj} {n1 n2 n:Nat},aD T N k1 n1 xs a->aD T N k2 n2 ys b->r.map (·.2)=xs.zip ys->(∀q∈r,T q.1 [q.2.1,q.2.2])->aD T N k n (r.map λq=>V.ref q.1) (List.zipWith pairD a b)
 |[],xs,ys,a,b,_,_,_,_,_,_,r1,r2,e,_=>by
  have l1:=r1.length;have l2:=r2.length;have e':=aaR List.length e;rw[List.length_zip]at e';have:List.zipWith pairD a b=[]:=List.eq_nil_of_length_eq_zero (by rw[List.length_zipWith];simp at e';left);rw[this];exact .nil
 |q::r,xs,ys,a,b,k1,k2,k,n1,n2,n,r1,r2,e,ht=>by
  cases r1 with
  |nil=>cases e
  |cons h1 t1=>cases r2 with
   |nil=>cases e
   |cons h2 t2 =>
    have e1:q.2=(_,_):=(abt e).1;have e2:=(abt e).2;refine .cons (.tup (ht q aaf) ?_) (rq hN t1 t2 e2 λq hq=>ht q (aae _ hq));rw[e1];have m1:=Rep.g_ (T':=T) (N':=N) (g:=id) (λ_ _ h=>h) hN h1 (0::n::k);have m2:=Rep.g_ (T':=T) (N':=N) (g:=id) (λ_ _ h=>h) hN h2 (1::n::k);rw[dB]at m1 m2;exact .cons m1 (.cons m2 .nil)
theorem fE(g:Fl->Fl):∀a b:ae,aC g (List.zipWith pairD a b)=List.zipWith pairD (aC g a) (aC g b)
 |[],_=>by cases ‹ae› <;> rfl
 |_::_,[]=>rfl
 |x::a,y::b=>by
  show aY g (pairD x y)::aC g (List.zipWith pairD a b)=_;rw[fE g a b];rfl
theorem Ni{n:Nat}(hΦ:Φ n=Nj){sc:Scope}{bl:aq}{k:Nat}(L:PX X sc bl k){e:Expr}(he:wY sc bl e=some args)(hs:lJ X F Φ cs args):PE X e (tD X F Φ (.cF n cs))/\PT X e (gm X F Φ (.cF n cs)):=by
 obtain⟨p,pos,i,rfl,h1,h2,hz⟩:=BM he;obtain⟨p',pos',a,b,rfl,rfl,h3,h4⟩:=o8 hz;obtain⟨⟨c,d,rfl,_,_⟩,pa,s1,s2⟩:=ku hs;have this:PE X (.Call (.Name ("list" : Str) p) [.Call (.Name ("zip" : Str) p') [a,b] [] pos'] [] pos) (tD X F Φ (.cF n [c,d])):=by
  refine PE.imp (Dz L.calm (L.gl h1) (L.bl _ h2) (L.gl h3) (L.bl _ h4) pa s1 s2) λσ H Q hq=>?_;obtain⟨R,τ,ρ,d',Si,ev,hq⟩:=hq;obtain⟨xs,cy,ev⟩:=aH ev;rw[hΦ]at ev;refine⟨R,τ,ρ,xs,Si,cy,λvs H1 e1 r1=>?_⟩;obtain⟨τt,fr,rs⟩:=r1;have hl:∃x y,xs=[x,y]:=by
   unfold Nj at ev;cases hw:two xs with
   |none=>rw[hw]at ev;exact nk ev
   |some z=>exact⟨z.1,z.2,gT hw⟩
  obtain⟨x,y,rfl⟩:=hl;obtain⟨f,da,g,db,rfl,rfl,rfl⟩:=HZ ev;obtain⟨v,w,rfl,rx,ry⟩:=rs.two;cases rx with
  |lst hx ax=>cases ry with
   |lst hy ay =>
    refine⟨_,_,_,_,rfl,hx.sq,hy.sq,λl r hl hr hn La hz=>hq _ _ ?_ ?_⟩
    ·intro b o e;have e':=e1 b o e;rw[aZ λz=>by rw[z,hl]at e';cases e'];exact jR e' hr
    ·have sm:aI H1 (upd (n8 H1 r) l (.lst (r.map λq=>V.ref q.1))):=λb o e=>by
      rw[aZ λz=>by rw[z,hl]at e;cases e];exact jR e hr
     refine bY.rO (e1.free hl) (e1.trans sm) aV ?_;rw[fE];refine rq nd.ni ((ax.eL Si fr (k':=[]) (n':=0)).imp (λ_ _ h=>aW.same sm h) λ_ _ _ _ h=>nd.same sm h) ((ay.eL Si fr (k':=[]) (n':=0)).imp (λ_ _ h=>aW.same sm h) λ_ _ _ _ h=>nd.same sm h) hz λq hq=>?_;have wc:q.1≠l:=λz=>La (by rw[<- z];exact aaA hq);exact aW.of (by rw[aZ wc];exact vX hn q hq)
 exact⟨this,cE this λ_=>rfl⟩
noncomputable def ki(n:Int):aa:=(List.range n.toNat).map λ(k:Nat)=>(k:Int)
theorem qM:∀{ns:aa} {us:ak},us.length=ns.length->(∀(i:Nat) (u:Value),us[i]?=some u->∃t,u=.int (ns.getD i 0) t)->Vals (ns.map V.int) us
 |[],[],_,_=>.nil
 |[],_::_,h,_=>by simp at h
 |_::_,[],h,_=>by simp at h
 |n::ns,u::us,h,hu=>.cons (hu 0 u rfl) (qM (by simpa using h) λi v hv=>hu (i+1) v hv)
theorem aD.Gj{T:lg}{N:gR}{k:bj}:∀(j:Nat) {n:Nat} {vs:af} {ds:ae},aD T N k n vs ds->aD T N k (n+j) (vs.drop j) (ds.drop j)
 |0,_,_,_,h=>h
 |j+1,_,_,_,.nil=>.nil
 |j+1,n,_,_,.cons h t=>by
  rw[show n+(j+1)=n+1+j by left];exact aD.Gj j t
theorem aD.FE{T:lg}{N:gR}{k:bj}:∀(j:Nat) {n:Nat} {vs:af} {ds:ae},aD T N k n vs ds->aD T N k n (vs.take j) (ds.take j)
 |0,_,_,_,_=>by rw[List.take_zero,List.take_zero];exact .nil
 |j+1,_,_,_,.nil=>.nil
 |j+1,n,_,_,.cons h t=>.cons h (aD.FE j t)
noncomputable def oj{α:Type}(b:Bool)(k:Nat)(xs:List α):List α:=if b then xs.drop k else xs.take k
def MC(K:av)(b:Bool):V->Option Int->Option Int->Hp->VK->Prop:=λx lo hi H Q=>∃(a:Addr) (xs:af) (k:Nat),x=.ref a/\dh K H a xs/\lo=(if b then some (k:Int)else none)/\hi=(if b then none else some (k:Int))/\k<=xs.length/\∀p,H p=none->Q (.ref p) (upd H p (.lst (oj b k xs)))
theorem vv(b:Bool):UZ X (MC X.K b):=by
 intro pins s σ H x v vl vu lo hi sl Q I rx hs pl pu h;obtain⟨a,xs,k,rfl,hx,rfl,rfl,hk,q⟩:=h;cases rx;obtain⟨aJ,r,FP,hz⟩:=I.list hx;have hl:=dS FP;have hlen:aJ.length=xs.length:=r.length.symm;refine⟨"list",_,slot_list_getitem.lookup,hl.typeIs,wpAny_getItem_list_slice hl hs pl pu .none (by simp) ?_ (by rw[List.size_toArray,hlen];exact hz)⟩;have e:slicePick aJ.toArray (if b then some (k:Int)else none) (if b then none else some (k:Int)) none=(oj b k aJ).toArray:=by
  cases b with
  |true=>exact slicePick_from aJ.toArray k (by simp;left)
  |false=>exact slicePick_upto aJ.toArray k (by simp;left)
 have rc:Vals (oj b k xs) (oj b k aJ):=by
  cases b with
  |true=>exact r.drop k
  |false=>exact r.take k
 have lc:(oj b k xs).length<=xs.length:=by
  cases b with
  |true=>show(xs.drop k).length<=_;rw[List.length_drop];left
  |false=>show(xs.take k).length<=_;rw[List.length_take];left
 rw[e];exact⟨.ref s.heap.objs.size,_,I.Ib (t':=s.toks) rc (aaz lc hz),rfl,q _ I.fresh⟩
def cutD(b:Bool)(xs:ae):O D:=match two xs with
 |some z=>match z.1 with
  |.lst _ ds=>match z.2 with
   |.int k=>if 0<=k/\k<=ds.length then ok (.lst .ow (aC bo (oj b k.toNat ds)))else none
   |_=>none
  |_=>none
 |none=>none
theorem EK{b:Bool}{x y d:D}(h:cutD b [x,y]=ok d):∃(f:Fl) (ds:ae) (k:Nat),x=.lst f ds/\y=.int k/\k<=ds.length/\d=.lst .ow (aC bo (oj b k ds)):=by
 cases x<;>first|exact nk h | (cases h;done) | (cases y<;>first|exact nk h | (cases h;done)|skip)
 obtain⟨⟨h1,h2⟩,h3⟩:=n9 h;rename_i f ds k;exact⟨f,ds,k.toNat,rfl,by rw[Int.toNat_of_nonneg h1],by left,h3.symm⟩
noncomputable def CH(b:Bool)(e:Expr):Option Expr:=match e with
 |.Slice lo hi st _=>match st with
  |none=>match b with
   |true=>match hi with
    |none=>lo
    |some _=>none
   |false=>match lo with
    |none=>hi
    |some _=>none
  |some _=>none
 |_=>none
theorem CG{b:Bool}{e k:Expr}(h:CH b e=some k):∃p,e=.Slice (if b then some k else none) (if b then none else some k) none p:=by
 cases e<;>first|exact nk h | (cases h;done)|skip
 rename_i lo hi st p;cases st with
 |some _=>cases h
 |none=>cases b with
  |true=>cases hi with
   |some _=>cases h
   |none=>cases h;exact⟨p,rfl⟩
  |false=>cases lo with
   |some _=>cases h
   |none=>cases h;exact⟨p,rfl⟩
def qt(b:Bool)(_:Scope)(_:aq)(e:Expr):Option (aA):=match jF e with
 |some z=>match CH b z.2 with
  |some k=>some [z.1,k]
  |none=>none
 |none=>none
theorem yy{b:Bool}{sc:Scope}{bl:aq}{e:Expr}(h:qt b sc bl e=some args):∃a k p pos,e=.Subscript a (.Slice (if b then some k else none) (if b then none else some k) none p) pos/\args=[a,k]:=by
 unfold qt at h;cases hv:jF e with
 |none=>rw[hv]at h;exact nk h
 |some z =>
  obtain⟨a,s⟩:=z;rw[hv]at h;obtain⟨pos,rfl⟩:=iy hv;have h:(match CH b s with|some k=>some [a,k]|none=>none)=some args:=h;cases hw:CH b s with
  |none=>rw[hw]at h;exact nk h
  |some k =>
   rw[hw]at h;cases h;obtain⟨p,rfl⟩:=CG hw;exact⟨a,k,p,pos,rfl,rfl⟩
theorem J7{b:Bool}{n:Nat}(hΦ:Φ n=cutD b){sc:Scope}{bl:aq}{k:Nat}(L:PX X sc bl k){e:Expr}(he:qt b sc bl e=some args)(hs:lJ X F Φ cs args):PE X e (tD X F Φ (.cF n cs))/\PT X e (gm X F Φ (.cF n cs)):=by
 obtain⟨a,ke,p,pos,rfl,rfl⟩:=yy he;cases cs with
 |nil=>exact hs.elim
 |cons c cs=>cases cs with
  |nil=>exact hs.2.2.2.elim
  |cons c' cs=>cases cs with
   |cons _ _=>exact hs.2.2.2.2.2.2.elim
   |nil =>
    obtain⟨h1,_,_,h2,_,_,_⟩:=hs;have this:PE X (.Subscript a (.Slice (if b then some ke else none) (if b then none else some ke) none p) pos) (tD X F Φ (.cF n [c,c'])):=by
     have go:∀{tl th:TO},PO X (if b then some ke else none) tl->PO X (if b then none else some ke) th->(∀(H1:Hp) (R:ah) (τ:Addr->Option bj) (ρ:bh) (k:Nat) (σ:St) (Q:Option Int->Option Int->Hp->Prop),SI X F R τ ρ σ H1->bx Φ c' ρ=ok (.int k)->(∀H2,aI H1 H2->Q (if b then some (k:Int)else none) (if b then none else some (k:Int)) H2)->tl σ H1 λl H2=>th σ H2 λu H3=>Q l u H3)->PE X (.Subscript a (.Slice (if b then some ke else none) (if b then none else some ke) none p) pos) (tD X F Φ (.cF n [c,c'])):=by
      intro tl th pl pu hh;refine PE.imp (z4 (vv b) h1 pl pu) λσ H Q hq=>?_;obtain⟨R,τ,ρ,d,Si,ev,hq⟩:=hq;obtain⟨xs,cy,ev⟩:=aH ev;obtain⟨x,ex,cy⟩:=aH cy;obtain⟨ys,uy,cy⟩:=aH cy;cases cy;obtain⟨y,ey,uy⟩:=aH uy;cases uy;rw[hΦ]at ev;obtain⟨f,ds,j,rfl,rfl,hj,rfl⟩:=EK ev;refine tD.intro Si ex λv H1 e1 r1=>hh H1 R τ ρ j σ (λl u H3=>MC X.K b v l u H3 Q) (Si.go e1) ey λH2 e2=>?_;have r2:=(r1.go e2).mono (fv':=gQ (.cF n [c,c'])) λi hi=>aax _ hi;obtain⟨τt,fr,rp⟩:=r2;obtain⟨q,xs,rfl,hn,rs⟩:=rp.nQ;have ee:=e1.trans e2;refine⟨q,xs,j,rfl,hn.sq,rfl,rfl,by rw[rs.length];exact hj,λl hl=>hq _ _ (ee.trans (aI.upd hl)) (bY.rO (ee.free hl) (ee.trans (aI.upd hl)) aV ?_)⟩;have rc:∃n',aD (aW X.K H2) (nd X.K R (jo (gP X F) τ (gQ (.cF n [c,c']))) τt H2) [] n' (oj b j xs) (oj b j ds):=by
       cases b with
       |true=>exact⟨_,rs.Gj j⟩
       |false=>exact⟨_,rs.FE j⟩
      obtain⟨n',rc⟩:=rc;exact(rc.eL Si fr).imp (λ_ _ h=>aW.same (aI.upd hl) h) λ_ _ _ _ h=>nd.same (aI.upd hl) h
     cases b with
     |true =>
      refine go (vF h2) vG λH1 R τ ρ k σ Q Si ek hk=>tD.intro Si ek λv H2 e2 r2=>?_;cases r2.isInt;exact⟨k,rfl,hk H2 e2⟩
     |false =>
      refine go vG (vF h2) λH1 R τ ρ k σ Q Si ek hk=>tD.intro Si ek λv H2 e2 r2=>?_;cases r2.isInt;exact⟨k,rfl,hk H2 e2⟩
    exact⟨this,cE this λ_=>by cases b<;>rfl⟩
section
open PySem.SeqAt
open PySem.AutoSeq1 (wpAny_loadPart')
open PySem.MeetsSeq PySem.MeetsSeq2 PySem.MeetsSeq3
theorem zK(A:az)(s:Shared)(a:Int)(t:Tok)(c:Int)(u:Tok)(prog:aB)(w:World)(E:au)(Q:au)(h:Q (.bool (decide (a ≥ c))) s):wpAny (model prog w) A (richCompare .GtE (.int a t) (.int c u)) Q E s :=
 (PyProof.Rows.ge_int h:wpAny (model prog w) A (compareOp .GtE (.int a t) (.int c u)) Q E s)
theorem DX{vs ws:ak}{ms:aa}{m n:Nat}(h1:IntsAre vs ns)(h2:IntsAre ws ms)(hz:vs.zip ws=[])(hl:ns.length+n=ms.length+m):(!HT.lexLt ns ms)=decide (m ≥ n):=by
 cases h1 with
 |nil=>cases h2 with
  |nil=>simp only[List.length_nil]at hl;exact(aaP (by left)).symm
  |cons c u h=>simp only[List.length_nil,List.length_cons]at hl;exact(aaT (by left)).symm
 |cons a t h=>cases h2 with
  |nil=>simp only[List.length_nil,List.length_cons]at hl;exact(aaP (by left)).symm
  |cons c u h=>rw[List.zip_cons_cons]at hz;cases hz
theorem nS(l b:Addr)(items cX:aM)(n n2:Nat)(dd wM:Option Addr)(sl vw:Array (Option Value))(ns ms:aa)(hi:IntsAre items.toList ns)(hj:IntsAre cX.toList ms):
  Meets (Builtin.«tuple.__ge__» ⟨[.ref l,.ref b],[]⟩) (λ_ R s=>s.heap.get? l=some { cls:=.type "tuple",dict:=dd,data:=.seq items n,slots:=sl }/\s.heap.get? b=some { cls:=.type "tuple",dict:=wM,data:=.seq cX n2,slots:=vw }/\R (.ok (.ret (.bool (!HT.lexLt ns ms)))) s) :=
 .of_wp λprog w A R s h=>by
  obtain⟨hp,g,d,tk,os⟩:=s;obtain⟨hl,hb,h⟩:=h;have f2:=AutoSeq1.sub_tuple_tuple;have z1:items.size=ns.length:=by rw[<- hi.length];simp
  have z2:cX.size=ms.length:=by rw[<- hj.length];simp
  wp_walk using wpAny_loadPart' hl,wpAny_loadPart' hb,wpAny_forIn_list _ (λrest b s'=>b.1=none/\s'=⟨hp,g,d,tk,os⟩/\∃(vs ws:ak) (ka yK:aa),rest=vs.zip ws/\IntsAre vs ka/\IntsAre ws yK/\ka.length+cX.size=yK.length+items.size/\R (.ok (.ret (.bool (!HT.lexLt ka yK)))) ⟨hp,g,d,tk,os⟩) _
  case turn =>
   rintro ⟨y,x⟩ rest b s' ⟨wo,rfl,vs,ws,ka,yK,hz,IC,F4,hlen,hR⟩;cases IC with
   |nil=>rw[List.zip_nil_left]at hz;cases hz
   |cons a t hvi'=>cases F4 with
    |nil=>rw[List.zip_nil_right]at hz;cases hz
    |cons c u hwi' =>
     rw[List.zip_cons_cons]at hz;injection hz with Sr AQ
     injection Sr with hy hx
     subst hy hx;rw[HT.dj]at hR;simp only[List.length_cons]at hlen;obtain⟨e,he,AX⟩:=HT.sj A.in1 ⟨hp,g,d,tk,os⟩ a t c u;refine aaa (he prog w _ _ ?_);cases e with
     |true =>
      rw[if_pos (AX.mp rfl)]at hR
      wp_walk
      exact⟨rfl,rfl,_,_,_,_,AQ,hvi',hwi',by left,hR⟩
     |false =>
      have x_:¬ a=c:=λq=>absurd (AX.mpr q) aad;rw[if_neg x_,show(!decide (a<c))=decide (a ≥ c) by by_cases q:a<c<;>simp[q]<;>left]at hR;have SJ:=zK A.in1 ⟨hp,g,d,tk,os⟩ a t c u prog w
      wp_walk using SJ
      exact⟨_,rfl,by simpa using hR⟩
  case fin =>
   rintro ⟨b1,b2⟩ s' ⟨wo,rfl,vs,ws,ka,yK,hz,IC,F4,hlen,hR⟩;simp only at wo;subst wo;rw[DX IC F4 hz.symm hlen]at hR
   wp_walk
   exact⟨_,rfl,by simpa [Builtin.Tuple.tupleCompareSizes]using hR⟩
  case h=>exact⟨rfl,rfl,items.toList,cX.toList,ns,ms,rfl,hi,hj,by left,h⟩
end
def MB(K:av):R2:=λx y H Q=>∃a b ns ms,x=.ref a/\y=.ref b/\aW K H a (ns.map V.int)/\aW K H b (ms.map V.int)/\Q (.bl (!HT.lexLt ns ms)) H
theorem Aa(hu:X.A.units<cLine):jr X (compareOp .GtE) (MB X.K):=by
 intro pins s σ H x y v u Q I rx ry h;obtain⟨a,b,ns,ms,rfl,rfl,ha,hb,q⟩:=h;cases rx;cases ry;obtain⟨aJ,r1,⟨⟨cls,dd,data,sl⟩,ho,hc,n,hd⟩,_⟩:=I.tuple ha;obtain⟨lu,r2,⟨⟨EN,wM,data2,vw⟩,qa,hc2,n2,hd2⟩,_⟩:=I.tuple hb;simp only at hc hd hc2 hd2;subst hc hd hc2 hd2;exact richCompare_meets_room (op:=.GtE) ⟨_,ho,rfl⟩ ⟨_,qa,rfl⟩ PySem.F.slot_tuple_ge PySem.F.entry_tuple_ge (PySem.F.args_tuple_ge_2 _ _) (nS a b aJ.toArray lu.toArray n n2 dd wM sl vw ns ms (intsAre_of r1) (intsAre_of r2))
  ⟨ho,qa,show Value.bool (!HT.lexLt ns ms)≠Value.notImplemented/\EP X pins σ Q (.bool (!HT.lexLt ns ms)) s from⟨(λx=>nomatch x),⟨.bl _,H,I,rfl,q⟩⟩⟩ hu
def Li(xs:ae):O D:=match two xs with
 |some z=>match z.1 with
  |.tup a=>match z.2 with
   |.tup b=>match intsOf a with
    |some ns=>match intsOf b with
     |some ms=>ok (.bl (!HT.lexLt ns ms))
     |none=>none
    |none=>none
   |_=>none
  |_=>none
 |none=>none
theorem Jf{x y d:D}(h:Li [x,y]=ok d):∃ns ms:aa,x=.tup (ns.map D.int)/\y=.tup (ms.map D.int)/\d=.bl (!HT.lexLt ns ms):=by
 cases x<;>first|exact nk h | (cases h;done) | (cases y<;>first|exact nk h | (cases h;done)|skip)
 rename_i a b;have h:(match intsOf a with|some ns=>(match intsOf b with|some ms=>ok (D.bl (!HT.lexLt ns ms))|none=>none)|none=>none)=ok d:=h;cases h1:intsOf a with
 |none=>rw[h1]at h;exact nk h
 |some ns=>cases h2:intsOf b with
  |none=>rw[h1,h2]at h;cases h
  |some ms =>
   rw[h1,h2]at h;cases h;exact⟨ns,ms,by rw[dt h1],by rw[dt h2],rfl⟩
def wZ(_:Scope)(_:aq)(e:Expr):Option (aA):=match CJ e with
 |some z=>match one z.2.2 with
  |some r=>if z.2.1=[.GtE]then some [z.1,r]else none
  |none=>none
 |none=>none
theorem BN{sc:Scope}{bl:aq}{e:Expr}(h:wZ sc bl e=some args):∃l r p,e=.Compare l [.GtE] [r] p/\args=[l,r]:=by
 unfold wZ at h;cases hv:CJ e with
 |none=>rw[hv]at h;exact nk h
 |some z =>
  obtain⟨l,os,rs⟩:=z;rw[hv]at h;obtain⟨p,rfl⟩:=uY hv;replace h:(match one rs with|some r=>if os=[.GtE]then some [l,r]else none|none=>none)=some args:=h;cases hw:one rs with
  |none=>rw[hw]at h;exact nk h
  |some r =>
   rw[hw]at h;replace h:(if os=[.GtE]then some [l,r]else none)=some args:=h;obtain rfl:=b9 hw;by_cases hc:os=[.GtE]
   ·rw[if_pos hc]at h;cases h;subst hc;exact⟨l,r,p,rfl,rfl⟩
   ·rw[if_neg hc]at h;cases h
theorem Ol{n:Nat}(hΦ:Φ n=Li){sc:Scope}{bl:aq}{k:Nat}(L:PX X sc bl k){e:Expr}(he:wZ sc bl e=some args)(hs:lJ X F Φ cs args):PE X e (tD X F Φ (.cF n cs))/\PT X e (gm X F Φ (.cF n cs)):=by
 obtain⟨l,r,p,rfl,rfl⟩:=BN he;have hu:X.A.units<cLine:=by have:=L.room.units;left
 cases cs with
 |nil=>exact hs.elim
 |cons c cs=>cases cs with
  |nil=>exact hs.2.2.2.elim
  |cons c' cs=>cases cs with
   |cons _ _=>exact hs.2.2.2.2.2.2.elim
   |nil =>
    obtain⟨h1,_,_,h2,_,_,_⟩:=hs;have key:∀{σ:St} {H:Hp} {R:ah} {τ:Addr->Option bj} {ρ:bh} {d:D} {Q:VK},SI X F R τ ρ σ H->bx Φ (.cF n [c,c']) ρ=ok d->(∀b H2,d=.bl b->aI H H2->Q (.bl b) H2)->FG (MB X.K) (tD X F Φ c) (tD X F Φ c') σ H Q:=by
     intro σ H R τ ρ d Q Si ev hq;obtain⟨xs,cy,ev⟩:=aH ev;obtain⟨x,ex,cy⟩:=aH cy;obtain⟨ys,uy,cy⟩:=aH cy;cases cy;obtain⟨y,ey,uy⟩:=aH uy;cases uy;rw[hΦ]at ev;obtain⟨ns,ms,rfl,rfl,rfl⟩:=Jf ev;refine tD.intro Si ex λv H1 e1 r1=>tD.intro (Si.go e1) ey λu H2 e2 r2=>?_;obtain⟨_,_,p1⟩:=r1.go e2;obtain⟨_,_,p2⟩:=r2;cases p1 with
     |tup t1 s1=>cases p2 with
      |tup t2 s2 =>
       cases s1.ofInts;cases s2.ofInts;exact⟨_,_,ns,ms,rfl,rfl,t1,t2,hq _ H2 rfl (e1.trans e2)⟩
    refine⟨PE.imp (vM (Aa hu) h1 h2 (Ae _)) λσ H Q hq=>?_,PT.imp (vE (Aa hu) h1 h2 (Ae _)) λσ H Q hq=>?_⟩
    ·obtain⟨R,τ,ρ,d,Si,ev,hq⟩:=hq;exact key Si ev λb H2 e es=>hq _ H2 es (by subst e;exact .bl)
    ·obtain⟨R,τ,ρ,b,Si,ev,hq⟩:=hq;obtain⟨d,ed,et⟩:=aH ev;refine key Si ed λb' H2 e es=>?_;subst e;cases et;exact⟨_,rfl,hq H2 es⟩
end DI
end
section
namespace DI
open PySem PySem.Spec PyProof.Rows L2 PySem.W
section
end
structure Ord(lt:Nat->Nat->Bool)(n:Nat):Prop where
 tr:∀a b c,a<n->b<n->c<n->lt a b=true->lt b c=true->lt a c=true
 as:∀a b,a<n->b<n->lt a b=true->lt b a=false
 W6:∀a b,a<n->b<n->a≠b->lt a b=true\/lt b a=true
structure Arr(p:Array Nat)(n:Nat):Prop where
 sz:p.size=n
 pm:p.toList.Perm (List.range n)
section
variable {lt:Nat->Nat->Bool}{n:Nat}{p:Array Nat}
theorem Arr.bd(h:Arr p n){i:Nat}(hi:i<n):p.getD i 0<n:=by
 have eP:i<p.size:=by rw[h.sz];exact hi
 have:p.getD i 0=p[i]:=by simp[Array.getD,eP]
 rw[this];have hm:p[i]∈p.toList:=Array.getElem_mem_toList eP;exact List.mem_range.mp (h.pm.mem_iff.mp hm)
def Up(lt:Nat->Nat->Bool)(p:Array Nat)(k:Nat):Prop:=∀i j,i<j->j<k->lt (p.getD i 0) (p.getD j 0)=true
end
end DI
end
section
namespace DI
open PySem PySem.Spec PyProof.Rows L2
def kO(h:Heap)(vs:ak)(nss:aw):Prop:=vs.length=nss.length/\∀(i:Nat) (ns:aa),nss[i]?=some ns->∃t aJ,vs[i]?=some (.ref t)/\IsTup h t aJ.toArray/\IntsAre aJ ns
variable {h:Heap}{nss:aw}{vs:ak}
theorem kO.mono{h':Heap}(k:∀b o,h.get? b=some o->h'.get? b=some o)(t:kO h vs nss):kO h' vs nss :=
 ⟨t.1,λi ns e=>let ⟨a,aJ,e1,⟨o,ho,r⟩,e3⟩:=t.2 i ns e;⟨a,aJ,e1,⟨o,k _ _ ho,r⟩,e3⟩⟩
theorem kO.mem(t:kO h vs nss){v:Value}(hv:v∈vs):∃a aJ ns,v=.ref a/\IsTup h a aJ.toArray/\IntsAre aJ ns:=by
 obtain⟨i,hi⟩:=List.mem_iff_getElem?.mp hv;have hl:i<nss.length:=by rw[<- t.1];exact(List.getElem?_eq_some_iff.mp hi).1
 obtain⟨a,aJ,e1,e2,e3⟩:=t.2 i _ (aaq hl);rw[hi]at e1;cases e1;exact⟨a,aJ,_,rfl,e2,e3⟩
section
variable {prog:aB}{w:World}{A:az}{E:au}{s:Shared}
theorem nr:∀{vs:ak} {nss:aw} {Q:List (Option Value)->Shared->Prop},kO s.heap vs nss->(∀fs:List (Option Value),fs.length=vs.length->(∀f∈fs,∀v,f=some v->∃n t,v=.int n t)->Q fs s)->wpAny (model prog w) A (vs.mapM firstOfTuple') Q E s
 |[],_,_,_,h=>by rw[List.mapM_nil];exact aab (h [] rfl λ_ h=>nomatch h)
 |v::vs,[],_,t,_=>by have:=t.1;simp at this
 |v::vs,ns::nss,Q,t,h=>by
  obtain⟨a,aJ,e,⟨o,ho,hc,n,hd⟩,hi⟩:=t.2 0 ns rfl;cases e;rw[List.mapM_cons];refine aaa ?_;rw[PySem.W.kas_first_eq];refine aaa (PySem.W.Looks.here (show PySem.W.Looks (model prog w) s.heap (typeOf (.ref a)) o.cls from(PySem.W.Looks.ld ho).andThen .now) ?_);rw[hc,if_neg (by first|decide|simp)];refine aaa (listItems_at ho hd (aab ?_));refine aaa (nr (vs:=vs) (nss:=nss) ⟨by simpa using t.1,λi ms e=>t.2 (i+1) ms e⟩ λfs h1 h2=>aab (h _ (by simp[h1]) λf hf v hv=>?_));rcases List.mem_cons.mp hf with rfl|hf
  ·cases hi with
   |nil=>simp at hv
   |cons a' tk hi=>simp at hv;exact⟨_,_,hv.symm⟩
  ·exact h2 f hf v hv
def B1(κ:SortKind):Prop:=κ=tuples' true\/κ=general'\/κ=oneType'
theorem kind_any{Q:SortKind->Shared->Prop}(t:kO s.heap vs nss)(x_:vs≠[])(h:∀κ,B1 κ->Q κ s):wpAny (model prog w) A (keyKind' vs.toArray) Q E s:=by
 obtain⟨v0,vr,rfl⟩:∃v0 vr,vs=v0::vr:=by
  cases vs with
  |nil=>exact absurd rfl x_
  |cons v0 vr=>exact⟨v0,vr,rfl⟩
 rw[kat_kind_eq,List.mapM_toArray,map_eq_pure_bind];refine aaa (aaa (nr t λfs hl hf=>aab ?_));by_cases ha:(fs.toArray.all λx=>x.isSome)=true
 ·rw[if_pos ha];refine aaa (aa9 ?_);obtain⟨gs,hg,hgi⟩:∃gs:ak,fs=gs.map some/\∀v∈gs,∃n t,v=.int n t:=by
   clear h hl t;induction fs with
   |nil=>exact⟨[],rfl,λ_ h=>nomatch h⟩
   |cons f fs ih =>
    simp only[List.all_toArray,List.all_cons,Bool.and_eq_true]at ha;obtain⟨gs,e1,e2⟩:=ih (λf Yv=>hf f (aae _ Yv)) (by simpa using ha.2);cases f with
    |none=>simp at ha
    |some v =>
     exact⟨v::gs,by rw[e1];rfl,λu hu=>by
      rcases List.mem_cons.mp hu with rfl|hu
      ·exact hf _ aaf _ rfl
      ·exact e2 u hu⟩
  subst hg;obtain⟨g0,gr,rfl⟩:∃g0 gr,gs=g0::gr:=by
   cases gs with
   |nil=>simp at hl
   |cons a b=>exact⟨a,b,rfl⟩
  have Yr:(((g0::gr).map some).toArray.filterMap id)=(g0::gr).toArray:=by simp
  rw[Yr,oneTypeOnly'_eq,List.mapM_toArray,map_eq_pure_bind];refine aaa (aaa (aaa (PySem.W.kas_mapM (r:=Value.type "int") _ (λv hv Q' hq=>by
   obtain⟨n,t,rfl⟩:=hgi v hv;exact(PySem.W.Looks.of_pure (M:=model prog w) rfl).here hq) (aab ?_))))
  have A8:((List.map (λ_=>Value.type "int") (g0::gr)).toArray.all λx=>x==Value.type "int")=true:=by
   simp only[List.all_toArray,List.all_map,List.all_eq_true];intro _ _;show(Value.type "int" == Value.type "int")=true;decide
  have h0:(List.map (λ_=>Value.type "int") (g0::gr)).toArray[0]?=some (Value.type "int"):=by simp
  rw[h0];simp only[A8,if_true];exact aab (aab (h _ (.inl rfl)))
 ·rw[if_neg ha];by_cases hb:((fs.toArray[0]?.bind id).isSome)=true
  ·rw[if_pos hb];exact aab (h _ (.inr (.inl rfl)))
  ·rw[if_neg hb];rw[oneTypeOnly'_eq,List.mapM_toArray,map_eq_pure_bind];refine aaa (aaa (aaa (PySem.W.kas_mapM (r:=Value.type "tuple") _ (λv hv Q' hq=>by
    obtain⟨a,aJ,ns,rfl,⟨o,ho,hc,_⟩,_⟩:=t.mem hv;refine PySem.W.Looks.here (show PySem.W.Looks (model prog w) s.heap (typeOf (.ref a)) o.cls from(PySem.W.Looks.ld ho).andThen .now) ?_;rw[hc];exact hq) (aab ?_))))
   have A8:((List.map (λ_=>Value.type "tuple") (v0::vr)).toArray.all λx=>x==Value.type "tuple")=true:=by
    simp only[List.all_toArray,List.all_map,List.all_eq_true];intro _ _;show(Value.type "tuple" == Value.type "tuple")=true;decide
   have h0:(List.map (λ_=>Value.type "tuple") (v0::vr)).toArray[0]?=some (Value.type "tuple"):=by simp
   rw[h0];simp only[A8,if_true];exact aab (aab (h _ (.inr (.inr rfl))))
theorem H9{κ:SortKind}(hk:B1 κ)(hu:A.units<cLine){a b:Addr}{aJ AB:ak}{ns ms:aa}{Q:Bool->Shared->Prop}(ha:IsTup s.heap a aJ.toArray)(hb:IsTup s.heap b AB.toArray)(hi:IntsAre aJ ns)(hj:IntsAre AB ms)(h:Q (HT.lexLt ns ms) s):
  wpAny (model prog w) A (keyLt' κ (.ref a) (.ref b)) Q E s:=by
 rcases hk with rfl|rfl|rfl
 ·obtain⟨o,ho,_,n,hd⟩:=ha;obtain⟨o',fY,_,n',Eg⟩:=hb;exact PySem.W.kat_lt ho hd fY Eg (rS 0 hi hj (by simp) h)
 ·exact PySem.W.kat_one _ _ (HT.ub ha hb (by simpa using hi) (by simpa using hj) hu h)
 ·show wpAny (model prog w) A (oneLt' true (.ref a) (.ref b)) Q E s;rw[oneLt'_eq];simp only[if_true];refine aaa (wpAny_cRoomFor hu ?_);obtain⟨⟨cls,dd,data,sl⟩,ho,hc,n,hd⟩:=id ha;obtain⟨⟨EN,wM,data2,vw⟩,qa,hc2,n2,hd2⟩:=id hb;simp only at hc hd hc2 hd2;subst hc hd hc2 hd2;refine aaa (wpAny_callSpecialIfBound?_slot (name:=Str.ofString "__lt__") ⟨_,ho,rfl⟩ abR (abj abR ⟨_,ho,rfl⟩ PySem.F.entry_tuple_lt (PySem.F.args_tuple_lt_2 _ _) (HT.iV a b _ _ n n2 dd wM sl vw ns ms (by simpa using hi) (by simpa using hj)) ⟨ho,qa,?_⟩));exact aa3 h
end
def iS(h:Heap)(d:Addr)(es:Array DictEntry)(ep:Nat):Prop:=∃o,h.get? d=some o/\o.ExactDict/\o.data=.dict es ep
section
variable {prog:aB}{w:World}{A:az}{E:au}{s:Shared}{d it:Addr}{es:Array DictEntry}{ep i:Nat}
theorem iS.typeIs(h:iS s.heap d es ep):s.TypeIs (.ref d) "dict":=let ⟨o,ho,hx,_⟩:=h;⟨o,ho,hx.1⟩
theorem EH{Q:au}(hd:(d==sysModules)=false)(hm:iS s.heap d es ep)
  (hQ:Q (.ref s.heap.objs.size) { s with heap:=s.heap.push { cls:=.type "dict_keyiterator",data:=.fields #[.ref d,.int 0 0,.int es.size 0,.int ep 0] } }):wpAny (model prog w) A (pyIter (.ref d)) Q E s:=by
 have hT:=hm.typeIs;obtain⟨o,ho,hx,A1⟩:=hm;refine wpAny_pyIter_slot hT PySem.F.slot_dict_iter (aaI PySem.F.slot_dict_iter hT PySem.F.entry_dict_iter ?_ (PySem.F.args_dict_iter_1 _));unfold Builtin.«dict.__iter__» Builtin.Dict.dictSlotNone;refine aaa (aaa (abS hT (aab ?_)));show wpAny _ _ (Builtin.Dict.showsAll d >>= _) _ _ s;unfold Builtin.Dict.showsAll;rw[if_neg (by rw[hd];exact Bool.false_ne_true)];refine aaa (aab (aaa (aa4 ho A1 (aaa (abl ho A1 ?_)))));exact aaa (aaB (aab ⟨_,rfl,"dict_keyiterator",_,⟨_,aal _ rfl,rfl⟩,PySem.F.slot_dict_keyiterator_next.lookup,hQ⟩))
theorem EG{Q:Option Value->Shared->Prop}(hit:s.heap.IsKeyIter it d i es.size ep)(hm:iS s.heap d es ep)(cL:i<es.size)
  (hQ:∀h',h'.IsKeyIter it d (i+1) es.size ep->Heap.SameBut it s.heap h'->Q (some es[i].key) { s with heap:=h' }):wpAny (model prog w) A (pyNext (.ref it)) Q E s:=by
 obtain⟨o,ho,hc,hd⟩:=id hit;obtain⟨od,AS,yd,A0⟩:=hm;unfold pyNext;refine aaa (abh (aaQ (name:=Str.ofString "__next__") hit.typeIs aaS (aaI aaS hit.typeIs PySem.F.entry_dict_keyiterator_next ?_ (PySem.F.args_dict_keyiterator_next_1 _))));refine aaa (aab (aaa (aaa ?_)))
 first|refine aaa (aa5 hit.typeIs (aab ?_))|refine aaa (abd hit.typeIs (aab ?_))
 refine aaa (ab9 ho hd ?_);simp only[show Builtin.Dict_items.ownsTuple "dict_keyiterator" = false by decide,abm,acn];show wpAny _ _ (if (Value.ref d==Value.none)=true then _ else _) _ _ s;rw[if_neg (show ¬ ((Value.ref d==Value.none)=true) from Bool.false_ne_true)];refine aaa (aab (aaa (aa4 AS A0 ?_)));rw[if_neg (by simp)];refine aaa (aab (aaa (abl AS A0 ?_)));rw[if_neg (by simp)];refine aab ?_;simp only[show ¬ ((i:Int)<0) from by left,if_false,Int.toNat_natCast,Array.getElem?_eq_getElem cL];refine aaa ?_
 first|refine aaa (aa5 hit.typeIs (aab ?_))|refine aaa (abd hit.typeIs (aab ?_))
 refine aaa (wpAny_isOneOf_keyiter hit.typeIs ?_);show wpAny _ _ (setField (.ref it) 1 (rawInt ((i:Int)+1)) >>= _) _ _ s;refine aaa (ab_ ho hd (by simp) ?_);have oe:(s.heap.update it (Obj.mapFields (·.setIfInBounds 1 (rawInt ((i:Int)+1))))).IsKeyIter it d (i+1) es.size ep :=
  ⟨_,aaM _ ho (Obj.isFreed_of_fields (Obj.data_mapFields hd _)),(Obj.cls_mapFields ..).trans hc,by rw[Obj.data_mapFields hd];simp[rawInt]⟩
 refine aaa (aaD (aaa (wpAny_isOneOf_keyiter (s:={ s with heap:=s.heap.update it (Obj.mapFields (·.setIfInBounds 1 (rawInt ((i:Int)+1)))) }) oe.typeIs ?_)));show wpAny _ _ (pure es[i].key) _ _ _;exact aab (aab ⟨_,rfl,aab (hQ _ oe (aaU ..))⟩)
theorem J5{Q:Option Value->Shared->Prop}(hh:A.handled=none)(hit:s.heap.IsKeyIter it d i es.size ep)(hm:iS s.heap d es ep)(yP:es.size<=i)
  (hQ:∀h',Heap.ExtBut it s.heap h'->Q none { s with heap:=h' }):wpAny (model prog w) A (pyNext (.ref it)) Q E s:=by
 obtain⟨o,ho,hc,hd⟩:=id hit;obtain⟨od,AS,yd,A0⟩:=hm;unfold pyNext;refine aaa (abh (aaQ (name:=Str.ofString "__next__") hit.typeIs aaS (aaI aaS hit.typeIs PySem.F.entry_dict_keyiterator_next ?_ (PySem.F.args_dict_keyiterator_next_1 _))));refine aaa (aab (aaa (aaa ?_)))
 first|refine aaa (aa5 hit.typeIs (aab ?_))|refine aaa (abd hit.typeIs (aab ?_))
 refine aaa (ab9 ho hd ?_);simp only[show Builtin.Dict_items.ownsTuple "dict_keyiterator" = false by decide,abm,acn];show wpAny _ _ (if (Value.ref d==Value.none)=true then _ else _) _ _ s;rw[if_neg (show ¬ ((Value.ref d==Value.none)=true) from Bool.false_ne_true)];refine aaa (aab (aaa (aa4 AS A0 ?_)));rw[if_neg (by simp)];refine aaa (aab (aaa (abl AS A0 ?_)));rw[if_neg (by simp)];refine aab ?_;simp only[show ¬ ((i:Int)<0) from by left,if_false,Int.toNat_natCast,Array.getElem?_eq_none yP];refine aaa ?_
 first|refine aaa (aa5 hit.typeIs (aab ?_))|refine aaa (abd hit.typeIs (aab ?_))
 show wpAny _ _ (setField (.ref it) 0 .none >>= _) _ _ s;refine aaa (ab_ ho hd (by simp) ?_);show wpAny _ _ (newExc (.type "StopIteration") [] >>= _) _ _ _;refine aaa ?_;simp only[newExc,newTuple];refine aaa (aaB ?_ (by size_fits));refine aaa (m:=firstArgMember _ _) (wpAny_of_eq (a:=Value.none) (by first|rfl | (simp only[firstArgMember];rfl)) ?_);refine aaB ?_ (by size_fits);simp only[raiseNew];refine aaa (wpAny_handled ?_);rw[show A.in1.handled=none from hh];refine aaa (aab (wpAny_throw ?_));refine aaa (wpAny_isInstance (T:="StopIteration") (b:=true) ⟨_,aal _ rfl,rfl⟩ isSubtype_stop ?_);exact aab (hQ _ (((aaU ..).extBut.push _).push _))
end
theorem Av:∀a b c:aa,HT.lexLt a b=true->HT.lexLt b c=true->HT.lexLt a c=true
 |[],[],_,h,_=>by rw[HT.iY]at h;cases h
 |[],_::_,[],_,h=>by rw[HT.cI]at h;cases h
 |[],_::_,_::_,_,_=>rfl
 |_::_,[],_,h,_=>by rw[HT.cI]at h;cases h
 |_::_,_::_,[],_,h=>by rw[HT.cI]at h;cases h
 |x::a,y::b,z::c,h1,h2=>by
  rw[HT.dj]at *;by_cases e1:x=y
  ·subst e1;rw[if_pos rfl]at h1;by_cases e2:x=z
   ·subst e2;rw[if_pos rfl]at h2 ⊢;exact Av a b c h1 h2
   ·rw[if_neg e2]at h2 ⊢;exact h2
  ·rw[if_neg e1]at h1;have l1:x<y:=aac h1;by_cases e2:y=z
   ·subst e2;rw[if_neg (by left)];exact aaP l1
   ·rw[if_neg e2]at h2;have l2:y<z:=aac h2;rw[if_neg (by left)];exact aaP (by left)
theorem kz:∀a b:aa,HT.lexLt a b=true->HT.lexLt b a=false
 |[],[],_=>rfl
 |[],_::_,_=>rfl
 |_::_,[],h=>by rw[HT.cI]at h;cases h
 |x::a,y::b,h=>by
  rw[HT.dj]at *;by_cases e:x=y
  ·subst e;rw[if_pos rfl]at h ⊢;exact kz a b h
  ·rw[if_neg e]at h;have l:x<y:=aac h;rw[if_neg (by left)];exact aaT (by left)
theorem p_:∀a b:aa,a≠b->HT.lexLt a b=true\/HT.lexLt b a=true
 |[],[],h=>absurd rfl h
 |[],_::_,_=>.inl rfl
 |_::_,[],_=>.inr rfl
 |x::a,y::b,h=>by
  rw[HT.dj,HT.dj];by_cases e:x=y
  ·subst e;rw[if_pos rfl,if_pos rfl];exact p_ a b λz=>h (by rw[z])
  ·rw[if_neg e,if_neg (Ne.symm e)];rcases Int.lt_or_gt_of_ne e with l|l
   ·exact .inl (aaP l)
   ·exact .inr (aaP l)
def bq(nss:aw):aw:=nss.mergeSort λa b=>!HT.lexLt b a
def sX(nss:aw):Prop:=nss.Pairwise λa b=>HT.lexLt a b=true
theorem vA:∀{l m:aw},sX l->sX m->l.Perm m->l=m
 |[],m,_,_,p=>(List.perm_nil.mp p.symm).symm
 |a::l,[],_,_,p=>by have:=p.length_eq;simp at this
 |a::l,b::m,h1,h2,p=>by
  have e:a=b:=by
   have ha:a∈b::m:=p.mem_iff.mp aaf;have hb:b∈a::l:=p.mem_iff.mpr aaf;rcases List.mem_cons.mp ha with e|ha
   ·exact e
   ·rcases List.mem_cons.mp hb with e|hb
    ·exact e.symm
    ·have l1:=(List.pairwise_cons.mp h2).1 a ha;have l2:=(List.pairwise_cons.mp h1).1 b hb;rw[kz _ _ l1]at l2;cases l2
  subst e;rw[vA (List.pairwise_cons.mp h1).2 (List.pairwise_cons.mp h2).2 (List.perm_cons a |>.mp p)]
theorem jd(h:nss.Nodup):sX (bq nss):=by
 have p:(bq nss).Perm nss:=aaE _ _;have nd:(bq nss).Nodup:=p.nodup_iff.mpr h;have sd:(bq nss).Pairwise λa b=>(!HT.lexLt b a)=true:=List.pairwise_mergeSort (λa b c h1 h2=>by
  cases e:HT.lexLt c a with
  |false=>rfl
  |true =>
   exfalso;by_cases tu:b=c
   ·subst tu;rw[e]at h1;cases h1
   ·rcases p_ b c tu with l|l
    ·rw[Av _ _ _ l e]at h1;cases h1
    ·rw[l]at h2;cases h2) (λa b=>by
  cases e:HT.lexLt b a with
  |false=>rfl
  |true=>rw[kz _ _ e];rfl) nss
 exact(sd.and nd).imp λ{a b} ⟨h1,h2⟩=>by
  rcases p_ a b h2 with l|l
  ·exact l
  ·rw[l]at h1;cases h1
theorem qX{l:aw}(h:nss.Nodup)(hr:sX l)(p:l.Perm nss):l=bq nss:=vA hr (jd h) (p.trans (aaE _ _).symm)
def ltN(nss:aw)(i j:Nat):Bool:=HT.lexLt (nss.getD i []) (nss.getD j [])
theorem xx(h:nss.Nodup){p:Array Nat}(ha:Arr p nss.length)(hu:Up (ltN nss) p nss.length):(p.toList.map λi=>nss.getD i [])=bq nss:=by
 refine qX h ?_ ?_
 ·refine List.pairwise_iff_getElem.mpr λi j hi hj de=>?_;simp only[List.length_map,Array.length_toList]at hi hj;have:=hu i j de (by rw[<- ha.sz];exact hj);unfold ltN at this;have e:∀k (hk:k<p.size),p.getD k 0=p[k]:=λk hk=>by simp[Array.getD,hk]
  rw[e i hi,e j hj]at this;simpa using this
 ·have e:nss=(List.range nss.length).map λi=>nss.getD i []:=by
   refine abq (by simp) λi h1 h2=>?_;simp[h1]
  refine(ha.pm.map λi=>nss.getD i []).trans ?_;rw[<- e]
end DI
end
section
namespace TS
open PySem PyProof.Rows
noncomputable def wy:Bool->Keyed->Array Keyed->Nat->Nat->Nat->StateT SortSt Sem (Option Nat):=sortPriv% PySem.Builtin.gallop
variable {base hi hint lo nb sa sb:Nat}{left:Bool}
section
variable {prog:aB}{w:World}{A:az}{E:au}{s:Shared}{κ:SortKind}{a₀:Array Keyed}{F:Keyed->Int}
def ox(prog:aB)(w:World)(A:az)(E:au)(s:Shared)(κ:SortKind)(a₀:Array Keyed)(F:Keyed->Int):Prop:=∀x y,x∈a₀.toList->y∈a₀.toList->∀(st:SortSt) (Q:Option Bool->SortSt->Prop),kindOf st=κ->Q (some (decide (F x<F y))) st->wpS (model prog w) A E s (lt' x y) Q st
theorem br{arr:Array Keyed}{i:Nat}{x:Keyed}{st:SortSt}{Q:Keyed->SortSt->Prop}(h:arr[i]?=some x)(hq:Q x st):wpS (model prog w) A E s (elem' arr i) Q st:=by
 rw[elem'_eq,h];exact aaj hq
theorem tG(L:ox prog w A E s κ a₀ F){key:Keyed}{arr:Array Keyed}{n:Nat}{G:Nat->Bool}{st:SortSt}{Q:Option Nat->SortSt->Prop}(hk:kindOf st=κ)(n_:key∈a₀.toList)(hh:hint<n)
  (hb:∀i,i<n->∃x,arr[base+i]?=some x/\x∈a₀.toList/\(if left then decide (F x<F key)else !decide (F key<F x))=G i)
  (mono:∀i j,i<=j->j<n->G j=true->G i=true)
  (h:∀k,k<=n->(∀i,i<k->G i=true)->(∀i,k<=i->i<n->G i=false)->Q (some k) st):wpS (model prog w) A E s (wy left key arr base n hint) Q st:=by
 have A3:∀i,i<n->∀(Q':Option Bool->SortSt->Prop),Q' (some (G i)) st->wpS (model prog w) A E s (do let x <- elem' arr (base+i);if left then lt' x key else return (<- lt' key x).map (!·)) Q' st:=λi hi Q' hq=>by
  obtain⟨x,h1,h2,h3⟩:=hb i hi;refine aah (br h1 ?_);rw[<- h3]at hq;cases left with
  |true=>exact L x key h2 n_ st Q' hk hq
  |false=>exact aah (L key x n_ h2 st _ hk (aaj hq))
 have vP:∀i j,i<=j->j<n->G i=false->G j=false:=λi j de hj e=>by
  cases e':G j with
  |false=>rfl
  |true=>rw[mono i j de hj e']at e;cases e
 refine aah (A3 hint hh _ ?_);dsimp only;cases eh:G hint with
 |true =>
  rw[if_pos rfl];refine aah (aaK (aau (I:=λx c aP=>st=aP/\∃la of,c=(none,la,of)/\la<of/\x+1<=of/\la<n - hint/\∀i,i<=hint+la->G i=true)
   (Q:=λc aP=>st=aP/\∃la of,c=(none,la,of)/\la<of/\la<n - hint/\(∀i,i<=hint+la->G i=true)/\(n - hint<=of\/G (hint+of)=false)) ?_ ?_ ⟨rfl,0,1,rfl,by left,by left,by left,λi hi=>mono i hint hi hh eh⟩) ?_)
  ·rintro x c aP _ hx ⟨rfl,la,of,rfl,h1,h2,h3,h4⟩;dsimp only;by_cases II:of ≥ n - hint
   ·rw[if_pos II];exact aaj ⟨rfl,la,of,rfl,h1,h3,h4,.inl II⟩
   ·rw[if_neg II];refine aah (A3 (hint+of) (by left) _ ?_);dsimp only;cases e:G (hint+of)with
    |true=>exact aaj ⟨rfl,of,2*of+1,rfl,by left,by left,by left,λi hi=>mono i _ hi (by left) e⟩
    |false=>exact aaj ⟨rfl,la,of,rfl,h1,h3,h4,.inr e⟩
  ·rintro c aP ⟨rfl,la,of,rfl,h1,h2,h3,h4⟩;exact⟨rfl,la,of,rfl,h1,h3,h4,.inl (by left)⟩
  ·rintro c aP ⟨rfl,la,of,rfl,h1,h3,h4,h5⟩;dsimp only;refine aah (aaK (aau (I:=λx c aP=>st=aP/\∃lo hi,c=(none,lo,hi)/\lo<=hi/\hi<=n/\hi - lo<=n - x/\(∀i,i<lo->G i=true)/\(∀i,hi<=i->i<n->G i=false))
    (Q:=λc aP=>st=aP/\∃lo hi,c=(none,lo,hi)/\hi<=n/\(∀i,i<hi->G i=true)/\(∀i,hi<=i->i<n->G i=false)) ?_ ?_ ⟨rfl,_,_,rfl,by left,by left,by left,λi hi=>h4 i (by left),λi hi eP=>?_⟩) ?_)
   ·rintro x c aP _ hx ⟨rfl,lo,hi,rfl,b1,b2,b3,b4,b5⟩;dsimp only;by_cases yP:lo ≥ hi
    ·rw[if_pos yP];have:lo=hi:=by left
     subst this;exact aaj ⟨rfl,lo,lo,rfl,b2,b4,b5⟩
    ·rw[if_neg yP];refine aah (A3 (lo+(hi - lo) / 2) (by left) _ ?_);dsimp only;cases e:G (lo+(hi - lo) / 2)with
     |true=>exact aaj ⟨rfl,lo+(hi - lo) / 2+1,hi,rfl,by left,by left,by left,λi eP=>mono i (lo+(hi - lo) / 2) (by left) (by left) e,b5⟩
     |false=>exact aaj ⟨rfl,lo,lo+(hi - lo) / 2,rfl,by left,by left,by left,b4,λi eP Tq=>vP (lo+(hi - lo) / 2) i eP Tq e⟩
   ·rintro c aP ⟨rfl,lo,hi,rfl,b1,b2,b3,b4,b5⟩;have:lo=hi:=by left
    subst this;exact⟨rfl,lo,lo,rfl,b2,b4,b5⟩
   ·rcases h5 with h5|h5
    ·left
    ·by_cases ho:n - hint<=of
     ·left
     ·exact vP _ i (by left) eP h5
   ·rintro c aP ⟨rfl,lo,hi,rfl,b2,b4,b5⟩;exact aaj (h hi b2 b4 b5)
 |false =>
  rw[if_neg Bool.false_ne_true];refine aah (aaK (aau (I:=λx c aP=>st=aP/\∃la of,c=(none,la,of)/\la<of/\x+1<=of/\la<=hint/\G (hint - la)=false)
   (Q:=λc aP=>st=aP/\∃la of,c=(none,la,of)/\la<of/\la<=hint/\G (hint - la)=false/\(hint+1<=of\/(of<=hint/\G (hint - of)=true))) ?_ ?_ ⟨rfl,0,1,rfl,by left,by left,by left,eh⟩) ?_)
  ·rintro x c aP _ hx ⟨rfl,la,of,rfl,h1,h2,h3,h4⟩;dsimp only;by_cases II:of ≥ hint+1
   ·rw[if_pos II];exact aaj ⟨rfl,la,of,rfl,h1,h3,h4,.inl II⟩
   ·rw[if_neg II];refine aah (A3 (hint - of) (by left) _ ?_);dsimp only;cases e:G (hint - of)with
    |false=>exact aaj ⟨rfl,of,2*of+1,rfl,by left,by left,by left,e⟩
    |true=>exact aaj ⟨rfl,la,of,rfl,h1,h3,h4,.inr ⟨by left,e⟩⟩
  ·rintro c aP ⟨rfl,la,of,rfl,h1,h2,h3,h4⟩;exact⟨rfl,la,of,rfl,h1,h3,h4,.inl (by left)⟩
  ·rintro c aP ⟨rfl,la,of,rfl,h1,h3,h4,h5⟩;dsimp only;refine aah (aaK (aau (I:=λx c aP=>st=aP/\∃lo hi,c=(none,lo,hi)/\lo<=hi/\hi<=n/\hi - lo<=n - x/\(∀i,i<lo->G i=true)/\(∀i,hi<=i->i<n->G i=false))
    (Q:=λc aP=>st=aP/\∃lo hi,c=(none,lo,hi)/\hi<=n/\(∀i,i<hi->G i=true)/\(∀i,hi<=i->i<n->G i=false)) ?_ ?_ ⟨rfl,_,_,rfl,by left,by left,by left,λi hi=>?_,λi hi eP=>vP _ i hi eP h4⟩) ?_)
   ·rintro x c aP _ hx ⟨rfl,lo,hi,rfl,b1,b2,b3,b4,b5⟩;dsimp only;by_cases yP:lo ≥ hi
    ·rw[if_pos yP];have:lo=hi:=by left
     subst this;exact aaj ⟨rfl,lo,lo,rfl,b2,b4,b5⟩
    ·rw[if_neg yP];refine aah (A3 (lo+(hi - lo) / 2) (by left) _ ?_);dsimp only;cases e:G (lo+(hi - lo) / 2)with
     |true=>exact aaj ⟨rfl,lo+(hi - lo) / 2+1,hi,rfl,by left,by left,by left,λi eP=>mono i (lo+(hi - lo) / 2) (by left) (by left) e,b5⟩
     |false=>exact aaj ⟨rfl,lo,lo+(hi - lo) / 2,rfl,by left,by left,by left,b4,λi eP Tq=>vP (lo+(hi - lo) / 2) i eP Tq e⟩
   ·rintro c aP ⟨rfl,lo,hi,rfl,b1,b2,b3,b4,b5⟩;have:lo=hi:=by left
    subst this;exact⟨rfl,lo,lo,rfl,b2,b4,b5⟩
   ·rcases h5 with h5|⟨h5,h6⟩
    ·left
    ·exact mono i _ (by left) (by left) h6
   ·rintro c aP ⟨rfl,lo,hi,rfl,b2,b4,b5⟩;exact aaj (h hi b2 b4 b5)
end
noncomputable def R(F:Keyed->Int)(xs:Array Keyed)(i:Nat):Int:=match xs[i]? with
 |some p=>F p
 |none=>0
theorem fL{F:Keyed->Int}{xs ys:Array Keyed}{i j:Nat}(h:xs[i]?=ys[j]?):R F xs i=R F ys j:=by unfold R;rw[h]
def On(F:Keyed->Int)(xs:Array Keyed)(lo hi:Nat):Prop:=∀i j,lo<=i->i<=j->j<hi->R F xs i<=R F xs j
structure SB(a₀:Array Keyed)(κ:SortKind)(st:SortSt):Prop where
 perm:(arrOf st).Perm a₀
 kind:kindOf st=κ
 failed:failedOf st=none
theorem SB.size{a₀:Array Keyed}{κ:SortKind}{st:SortSt}(h:SB a₀ κ st):(arrOf st).size=a₀.size:=h.perm.size_eq
theorem SB.at{a₀:Array Keyed}{κ:SortKind}{st:SortSt}(h:SB a₀ κ st){i:Nat}(hi:i<a₀.size):∃x,(arrOf st)[i]?=some x/\x∈a₀.toList:=by
 have eP:i<(arrOf st).size:=by rw[h.size];exact hi
 exact⟨(arrOf st)[i],abZ _ i eP,(Array.perm_iff_toList_perm.mp h.perm).mem_iff.mp (by simp)⟩
theorem fh{F:Keyed->Int}{xs:Array Keyed}{i:Nat}{x:Keyed}(h:xs[i]?=some x):R F xs i=F x:=by unfold R;rw[h]
structure yG(a₀:Array Keyed)(κ:SortKind)(lo hi:Nat)(st aP:SortSt):Prop where
 sb:SB a₀ κ aP
 pend:pendingOf aP=pendingOf st
 out:∀i,i<lo\/hi<=i->(arrOf aP)[i]?=(arrOf st)[i]?
section
variable {a₀:Array Keyed}{κ:SortKind}{F:Keyed->Int}
theorem yG.n6{st:SortSt}(h:SB a₀ κ st):yG a₀ κ lo hi st st:=⟨h,rfl,λ_ _=>rfl⟩
theorem yG.trans{lo hi:Nat}{st iz fu:SortSt}(h:yG a₀ κ lo hi st iz)(h':yG a₀ κ lo hi iz fu):yG a₀ κ lo hi st fu:=⟨h'.sb,h'.pend.trans h.pend,λi hi=>(h'.out i hi).trans (h.out i hi)⟩
theorem yG.arr{st:SortSt}{xs:Array Keyed}(h:SB a₀ κ st)(hp:xs.Perm (arrOf st))(ho:∀i,i<lo\/hi<=i->xs[i]?=(arrOf st)[i]?):yG a₀ κ lo hi st (setArr st xs):=⟨⟨hp.trans h.perm,h.kind,h.failed⟩,rfl,ho⟩
theorem On.out{xs ys:Array Keyed}(h:On F xs lo hi)(e:∀i,lo<=i->i<hi->ys[i]?=xs[i]?):On F ys lo hi:=λi j hi de hj=>by
 rw[fL (e i hi (by left)),fL (e j (by left) hj)];exact h i j hi de hj
theorem s9{xs:Array Keyed}{src d:Nat}(hs:src<xs.size)(hd:d<=src)(k:Nat):R F (bubble xs src d) k=if k=src - d then R F xs src else if src - d<k/\k<=src then R F xs (k - 1)else R F xs k:=by
 have e:=getElem?_bubble hs d hd k;by_cases h1:k=src - d
 ·rw[if_pos h1]at e ⊢;exact fL e
 ·rw[if_neg h1]at e ⊢;by_cases h2:src - d<k/\k<=src
  ·rw[if_pos h2]at e ⊢;exact fL e
  ·rw[if_neg h2]at e ⊢;exact fL e
theorem sZ{xs:Array Keyed}{i j:Nat}(hj:j<=xs.size)(k:Nat):R F (mirror xs i j ((j - i) / 2)) k=if i<=k/\k<j then R F xs (i+j - 1 - k)else R F xs k:=by
 have e:=getElem?_mirror_all (i:=i) hj k;by_cases h:i<=k/\k<j
 ·rw[if_pos h]at e ⊢;exact fL e
 ·rw[if_neg h]at e ⊢;exact fL e
end
section
variable {prog:aB}{w:World}{A:az}{E:au}{s:Shared}{κ:SortKind}{a₀:Array Keyed}{F:Keyed->Int}(L:ox prog w A E s κ a₀ F)
include L
theorem iw{st:SortSt}{i j:Nat}{Q:Option Bool->SortSt->Prop}(hB:SB a₀ κ st)(hi:i<a₀.size)(hj:j<a₀.size)(h:Q (some (decide (R F (arrOf st) i<R F (arrOf st) j))) st):wpS (model prog w) A E s (ltAt' i j) Q st:=by
 obtain⟨x,e1,m1⟩:=hB.at hi;obtain⟨y,e2,m2⟩:=hB.at hj;rw[fh e1,fh e2]at h;rw[ltAt'_eq];refine aah (abi (aah (br e1 (aah (br e2 ?_)))));exact L x y m1 m2 st Q hB.kind h
theorem Cv{st:SortSt}{n ok:Nat}{Q:Bool->SortSt->Prop}(hn:lo+n<=a₀.size)(cN:ok<=n)(hB:SB a₀ κ st)(hs:On F (arrOf st) lo (lo+ok))
  (h:∀aP,yG a₀ κ lo (lo+n) st aP->On F (arrOf aP) lo (lo+n)->Q true aP):wpS (model prog w) A E s (binarySort' lo n ok) Q st:=by
 rw[binarySort'_eq];refine aah (aaK (aau (I:=λk c aP=>c=(none,())/\yG a₀ κ lo (lo+n) st aP/\On F (arrOf aP) lo (lo+min k n))
  (Q:=λc aP=>c=(none,())/\yG a₀ κ lo (lo+n) st aP/\On F (arrOf aP) lo (lo+n)) ?step ?fin ?init) ?post)
 case post =>
  rintro c aP ⟨rfl,hB',tj⟩;exact aaj (h aP hB' tj)
 case init =>
  refine⟨rfl,.n6 hB,λi j hi de hj=>?_⟩;by_cases h1:ok=0
  ·have:i=j:=by left
   subst this;exact aa_ _
  ·exact hs i j hi de (by left)
 case fin =>
  rintro c aP ⟨hc,hB',tj⟩;refine⟨hc,hB',?_⟩
  rwa [show min (max (max ok 1) n) n=n by left]at tj
 case step =>
  rintro k c aP Z9 Z3 ⟨rfl,hB',tj⟩;rw[show min k n=k by left]at tj;have hk:lo+k<a₀.size:=by left
  refine aah (aaK (aau (I:=λx c xw=>aP=xw/\∃l r,c=(none,l,r)/\l<=r/\r<=k/\r - l<=k - x /\
    (∀i,i<l->R F (arrOf aP) (lo+i)<=R F (arrOf aP) (lo+k))/\(∀i,r<=i->i<k->R F (arrOf aP) (lo+k)<R F (arrOf aP) (lo+i)))
   (Q:=λc xw=>aP=xw/\∃l r,c=(none,l,r)/\l<=k /\
    (∀i,i<l->R F (arrOf aP) (lo+i)<=R F (arrOf aP) (lo+k))/\(∀i,l<=i->i<k->R F (arrOf aP) (lo+k)<R F (arrOf aP) (lo+i))) ?istep ?ifin ?iinit) ?ipost)
  case iinit=>exact⟨rfl,0,k,rfl,by left,by left,by left,λi hi=>by left,λi h1 h2=>by left⟩
  case ifin =>
   rintro c xw ⟨rfl,l,r,rfl,La,hrk,hm,IP,hhi⟩;have:l=r:=by left
   subst this;exact⟨rfl,l,l,rfl,hrk,IP,hhi⟩
  case istep =>
   rintro x c xw _ ZX ⟨rfl,l,r,rfl,La,hrk,hm,IP,hhi⟩;dsimp only;by_cases yP:l ≥ r
   ·rw[if_pos yP];have:l=r:=by left
    subst this;exact aaj ⟨rfl,l,l,rfl,hrk,IP,hhi⟩
   ·rw[if_neg yP];refine aah (iw L hB'.sb hk (by left) ?_);by_cases dG:R F (arrOf aP) (lo+k)<R F (arrOf aP) (lo+(l+r) / 2)
    ·simp only[dG,decide_true,if_true];refine aaj ⟨rfl,l,(l+r) / 2,rfl,by left,by left,by left,IP,λi h1 h2=>?_⟩;exact Int.lt_of_lt_of_le dG (tj _ _ (by left) (by left) (by left))
    ·simp only[dG,decide_false,Bool.false_eq_true,if_false];refine aaj ⟨rfl,(l+r) / 2+1,r,rfl,by left,by left,by left,λi h1=>?_,hhi⟩;exact aaO (tj (lo+i) (lo+(l+r) / 2) (by left) (by left) (by left)) (Int.not_lt.mp dG)
  case ipost =>
   rintro c xw ⟨rfl,l,r,rfl,hlk,IP,hhi⟩;show wpS _ _ _ _ (do moveDown' (lo+k) (lo+l);pure (ForInStep.yield (none,()))) _ _;rw[moveDown'_eq];have Tf:lo+k<(arrOf aP).size:=by rw[hB'.sb.size];exact hk
   refine aah (abc (aaj ⟨rfl,hB'.trans (.arr hB'.sb (bubble_perm _ _ _) λi hi=>?_),?_⟩))
   ·rw[getElem?_bubble Tf _ (by left)];rw[if_neg (by left),if_neg (by left)]
   ·rw[show min (k+1) n=k+1 by left];intro i j hi de hj;show R F (bubble (arrOf aP) (lo+k) (lo+k - (lo+l))) i<=R F (bubble (arrOf aP) (lo+k) (lo+k - (lo+l))) j;rw[s9 Tf (by left),s9 Tf (by left),show lo+k - (lo+k - (lo+l))=lo+l by left];have Tc:∀i,lo<=i->i<lo+l->R F (arrOf aP) i<=R F (arrOf aP) (lo+k):=λi h1 h2=>by
     have:=IP (i - lo) (by left)
     rwa [show lo+(i - lo)=i by left]at this
    have Tr:∀i,lo+l<=i->i<lo+k->R F (arrOf aP) (lo+k)<R F (arrOf aP) i:=λi h1 h2=>by
     have:=hhi (i - lo) (by left) (by left)
     rwa [show lo+(i - lo)=i by left]at this
    repeat' split
    all_goals first
     | (exfalso;left)
     |exact aa_ _
     |exact Tc _ (by left) (by left)
     |exact aa0 (Tr _ (by left) (by left))
     |exact tj _ _ (by left) (by left) (by left)
end
structure Pn(a₀:Array Keyed)(F:Keyed->Int):Prop where
 nd:a₀.toList.Nodup
 inj:∀x∈a₀.toList,∀y∈a₀.toList,F x=F y->x=y
theorem Pn.ne{a₀:Array Keyed}{F:Keyed->Int}{κ:SortKind}(D:Pn a₀ F){st:SortSt}(hB:SB a₀ κ st){i j:Nat}(hi:i<a₀.size)(hj:j<a₀.size)(h:i≠j):R F (arrOf st) i≠R F (arrOf st) j:=by
 obtain⟨x,e1,m1⟩:=hB.at hi;obtain⟨y,e2,m2⟩:=hB.at hj;rw[fh e1,fh e2];intro z;have e:=D.inj x m1 y m2 z;subst e;have nd:(arrOf st).toList.Nodup:=(Array.perm_iff_toList_perm.mp hB.perm).nodup_iff.mpr D.nd;have eP:i<(arrOf st).toList.length:=by simpa [hB.size]using hi
 have ya:j<(arrOf st).toList.length:=by simpa [hB.size]using hj
 have a1:(arrOf st).toList[i]?=some x:=by simpa using e1
 have a2:(arrOf st).toList[j]?=some x:=by simpa using e2
 exact h ((List.getElem?_inj eP nd).mp (a1.trans a2.symm))
section
variable {prog:aB}{w:World}{A:az}{E:au}{s:Shared}{κ:SortKind}{a₀:Array Keyed}{F:Keyed->Int}(L:ox prog w A E s κ a₀ F)
include L
theorem xn(D:Pn a₀ F){st:SortSt}{fW:Nat}{Q:Option Nat->SortSt->Prop}(hn:lo+fW<=a₀.size)(h1:1<=fW)(hB:SB a₀ κ st)
  (h:∀m aP,yG a₀ κ lo (lo+fW) st aP->1<=m->m<=fW->On F (arrOf aP) lo (lo+m)->Q (some m) aP):wpS (model prog w) A E s (countRun' lo fW) Q st:=by
 have grow:∀(aP:SortSt) (x:Nat),1<=x->On F (arrOf aP) lo (lo+x)->¬ R F (arrOf aP) (lo+x)<R F (arrOf aP) (lo+x - 1)->On F (arrOf aP) lo (lo+(x+1)):=λaP x hx hs hl i j hi de hj=>by
  by_cases Ti:j<lo+x
  ·exact hs i j hi de Ti
  ·have ya:j=lo+x:=by left
   subst ya;by_cases eP:i=lo+x
   ·subst eP;exact aa_ _
   ·exact aaO (hs i (lo+x - 1) hi (by left) (by left)) (Int.not_lt.mp hl)
 have one:∀(aP:SortSt),On F (arrOf aP) lo (lo+1):=λaP i j hi de hj=>by
  have:i=j:=by left
  subst this;exact aa_ _
 rw[countRun'_eq];refine aah (aaK (aau (I:=λx c aP=>st=aP/\c=(none,x)/\On F (arrOf st) lo (lo+x))
  (Q:=λc aP=>st=aP/\∃n,c=(none,n)/\1<=n/\n<=fW/\On F (arrOf st) lo (lo+n)/\(n=fW\/R F (arrOf st) (lo+n)<R F (arrOf st) (lo+n - 1))) ?_ ?_ ⟨rfl,rfl,one st⟩) ?_)
 ·rintro x c aP Qd Ca ⟨rfl,rfl,hs⟩;dsimp only;refine aah (iw L hB (by left) (by left) ?_);by_cases dG:R F (arrOf st) (lo+x)<R F (arrOf st) (lo+x - 1)
  ·simp only[dG,decide_true,if_true];exact aaj ⟨rfl,x,rfl,Qd,by left,hs,.inr dG⟩
  ·simp only[dG,decide_false,Bool.false_eq_true,if_false];exact aaj ⟨rfl,rfl,grow st x Qd hs dG⟩
 ·rintro c aP ⟨rfl,rfl,hs⟩;rw[show max 1 fW=fW by left]at hs ⊢;exact⟨rfl,fW,rfl,h1,aak _,hs,.inl rfl⟩
 rintro c aP ⟨rfl,n,rfl,n1,n2,hs,hor⟩;dsimp only;by_cases S8:n=fW
 ·rw[if_pos (by simpa using S8)];exact aaj (h n st (.n6 hB) n1 n2 hs)
 rw[if_neg (by simpa using S8)];have cL:=hor.resolve_left S8;by_cases V4:n>1
 ·rw[if_pos V4];refine aah (iw L hB (by left) (by left) ?_);have hr:R F (arrOf st) lo<R F (arrOf st) (lo+n - 1):=by
   have a:=hs lo (lo+n - 1) (aak _) (by left) (by left);have b:=D.ne hB (i:=lo) (j:=lo+n - 1) (by left) (by left) (by left);left
  simp only[hr,decide_true,if_true];exact aaj (h n st (.n6 hB) n1 n2 hs)
 rw[if_neg V4];have e1:n=1:=by left
 subst e1;refine aah (wpS_lift (aa9 ⟨rfl,?_⟩));refine aah (aaK (aau (I:=λx c aP=>st=aP/\c=(none,x,0)/\∀i j,lo<=i->i<j->j<lo+x->R F (arrOf st) j<R F (arrOf st) i)
  (Q:=λc aP=>st=aP/\∃m,c=(none,m,0)/\2<=m/\m<=fW/\∀i j,lo<=i->i<j->j<lo+m->R F (arrOf st) j<R F (arrOf st) i) ?_ ?_ ⟨rfl,rfl,λi j hi de hj=>?_⟩) ?_)
 ·rintro x c aP Qd Ca ⟨rfl,rfl,hd⟩;dsimp only;refine aah (iw L hB (by left) (by left) ?_);by_cases dG:R F (arrOf st) (lo+x)<R F (arrOf st) (lo+x - 1)
  ·simp only[dG,decide_true,if_true];rw[if_neg (by left)];refine aaj ⟨rfl,rfl,λi j hi de hj=>?_⟩;by_cases Ti:j<lo+x
   ·exact hd i j hi de Ti
   ·have ya:j=lo+x:=by left
    subst ya;by_cases eP:i=lo+x - 1
    ·subst eP;exact dG
    ·exact Int.lt_trans dG (hd i (lo+x - 1) hi (by left) (by left))
  ·simp only[dG,decide_false,Bool.false_eq_true,if_false];refine aah (iw L hB (by left) (by left) ?_);have hl:R F (arrOf st) (lo+x - 1)<R F (arrOf st) (lo+x):=by
    have b:=D.ne hB (i:=lo+x) (j:=lo+x - 1) (by left) (by left) (by left);left
   simp only[hl,decide_true,if_true];exact aaj ⟨rfl,x,rfl,by left,by left,hd⟩
 ·rintro c aP ⟨rfl,rfl,hd⟩;rw[show max (1+1) fW=fW by left]at hd ⊢;exact⟨rfl,fW,rfl,by left,aak _,hd⟩
 ·have:i=lo:=by left
  have:j=lo+1:=by left
  subst i j;exact cL
 rintro c aP ⟨rfl,m,rfl,m1,m2,hd⟩;dsimp only;rw[if_neg (by left)];have hsz:lo+m<=(arrOf st).size:=by rw[hB.size];left
 refine aah (wpS_reverse ?_);have S1:yG a₀ κ lo (lo+fW) st (setArr st (mirror (arrOf st) lo (lo+m) ((lo+m - lo) / 2))):=.arr hB (mirror_perm _ _ _ _) λi hi=>by
  rw[getElem?_mirror_all hsz,if_neg (by left)]
 have O1:On F (arrOf (setArr st (mirror (arrOf st) lo (lo+m) ((lo+m - lo) / 2)))) lo (lo+m):=λi j hi de hj=>by
  show R F (mirror (arrOf st) lo (lo+m) ((lo+m - lo) / 2)) i<=R F (mirror (arrOf st) lo (lo+m) ((lo+m - lo) / 2)) j;rw[sZ hsz,sZ hsz,if_pos (by left),if_pos (by left)];by_cases e:i=j
  ·subst e;exact aa_ _
  ·exact aa0 (hd _ _ (by left) (by left) (by left))
 generalize setArr st (mirror (arrOf st) lo (lo+m) ((lo+m - lo) / 2))=iz at S1 O1 ⊢;refine aah (aaK (aau (I:=λx c aP=>iz=aP/\c=(none,x)/\On F (arrOf iz) lo (lo+x))
  (Q:=λc aP=>iz=aP/\∃n,c=(none,n)/\1<=n/\n<=fW/\On F (arrOf iz) lo (lo+n)) ?_ ?_ ⟨rfl,rfl,O1⟩) ?_)
 ·rintro x c aP Qd Ca ⟨rfl,rfl,hs⟩;dsimp only;refine aah (iw L S1.sb (by left) (by left) ?_);by_cases dG:R F (arrOf iz) (lo+x)<R F (arrOf iz) (lo+x - 1)
  ·simp only[dG,decide_true,if_true];exact aaj ⟨rfl,x,rfl,by left,by left,hs⟩
  ·simp only[dG,decide_false,Bool.false_eq_true,if_false];exact aaj ⟨rfl,rfl,grow iz x (by left) hs dG⟩
 ·rintro c aP ⟨rfl,rfl,hs⟩;rw[show max m fW=fW by left]at hs ⊢;exact⟨rfl,fW,rfl,h1,aak _,hs⟩
 rintro c aP ⟨rfl,n,rfl,n1,n2,hs⟩;exact aaj (h n iz S1 n1 n2 hs)
end
def Pw(F:Keyed->Int)(l:List Keyed):Prop:=l.Pairwise λx y=>F x<=F y
structure J(F:Keyed->Int)(la lb o:List Keyed)(ia ib:Nat):Prop where
 perm:(o++(la.drop ia++lb.drop ib)).Perm (la++lb)
 so:Pw F o
 xa:∀x∈o,∀y∈la.drop ia,F x<=F y
 xb:∀x∈o,∀y∈lb.drop ib,F x<=F y
def Res(F:Keyed->Int)(la lb:List Keyed)(r:Array Keyed):Prop:=r.toList.Perm (la++lb)/\Pw F r.toList
section
variable {F:Keyed->Int}{la lb o:List Keyed}{ia ib:Nat}
theorem BD(l:List Keyed)(i k:Nat):l.drop i=(l.drop i).take k++l.drop (i+k):=by
 rw[<- List.drop_drop,List.take_append_drop]
theorem Pw.dr{l:List Keyed}(h:Pw F l)(i:Nat):Pw F (l.drop i):=h.sublist (List.drop_sublist i l)
theorem J.qR(H:J F la lb o ia ib)(sa:Pw F la)(k:Nat)(hc:∀x∈(la.drop ia).take k,∀y∈lb.drop ib,F x<=F y):J F la lb (o++(la.drop ia).take k) (ia+k) ib:=by
 have e:=BD la ia k;have s1:=sa.dr ia;rw[e]at s1;obtain⟨t1,t2,t3⟩:=List.pairwise_append.mp s1;refine⟨?_,List.pairwise_append.mpr ⟨H.so,t1,λx hx y hy=>H.xa x hx y (abr hy)⟩,λx hx y hy=>?_,λx hx y hy=>?_⟩
 ·have:=H.perm;rw[e,List.append_assoc]at this;rw[List.append_assoc];exact this
 ·rcases List.mem_append.mp hx with hx|hx
  ·exact H.xa x hx y (by rw[e];exact aam _ hy)
  ·exact t3 x hx y hy
 ·rcases List.mem_append.mp hx with hx|hx
  ·exact H.xb x hx y hy
  ·exact hc x hx y hy
theorem J.qQ(H:J F la lb o ia ib)(sb:Pw F lb)(k:Nat)(hc:∀x∈(lb.drop ib).take k,∀y∈la.drop ia,F x<=F y):J F la lb (o++(lb.drop ib).take k) ia (ib+k):=by
 have e:=BD lb ib k;have s1:=sb.dr ib;rw[e]at s1;obtain⟨t1,t2,t3⟩:=List.pairwise_append.mp s1;refine⟨?_,List.pairwise_append.mpr ⟨H.so,t1,λx hx y hy=>H.xb x hx y (abr hy)⟩,λx hx y hy=>?_,λx hx y hy=>?_⟩
 ·have:=H.perm;rw[e]at this;rw[List.append_assoc];exact(abp o (List.perm_append_comm_assoc _ _ _)).trans this
 ·rcases List.mem_append.mp hx with hx|hx
  ·exact H.xa x hx y hy
  ·exact hc x hx y hy
 ·rcases List.mem_append.mp hx with hx|hx
  ·exact H.xb x hx y (by rw[e];exact aam _ hy)
  ·exact t3 x hx y hy
theorem J.done(H:J F la lb o ia ib)(sa:Pw F la)(sb:Pw F lb)(hc:lb.drop ib=[]\/la.drop ia=[]):(o++la.drop ia++lb.drop ib).Perm (la++lb)/\Pw F (o++la.drop ia++lb.drop ib):=by
 refine⟨by rw[List.append_assoc];exact H.perm,?_⟩;rcases hc with e|e
 ·rw[e,List.append_nil];exact List.pairwise_append.mpr ⟨H.so,sa.dr ia,H.xa⟩
 ·rw[e,List.append_nil];exact List.pairwise_append.mpr ⟨H.so,sb.dr ib,H.xb⟩
theorem J.last(H:J F la lb o ia ib)(sa:Pw F la)(sb:Pw F lb)(hc:∀y∈lb.drop ib,∀z∈la.drop ia,F y<=F z):(o++lb.drop ib++la.drop ia).Perm (la++lb)/\Pw F (o++lb.drop ib++la.drop ia):=by
 refine⟨?_,?_⟩
 ·rw[List.append_assoc];exact(abp o abT).trans H.perm
 ·refine List.pairwise_append.mpr ⟨List.pairwise_append.mpr ⟨H.so,sb.dr ib,H.xb⟩,sa.dr ia,λx hx y hy=>?_⟩;rcases List.mem_append.mp hx with hx|hx
  ·exact H.xa x hx y hy
  ·exact hc x hx y hy
end
theorem take1{l:List Keyed}{i:Nat}{x:Keyed}(h:l[i]?=some x):(l.drop i).take 1=[x]:=by
 obtain⟨hi,rfl⟩:=List.getElem?_eq_some_iff.mp h;rw[List.drop_eq_getElem_cons hi];rfl
theorem mO{l:List Keyed}{i:Nat}{y:Keyed}(h:y∈l.drop i):∃j,l[i+j]?=some y:=by
 obtain⟨j,hj⟩:=List.mem_iff_getElem?.mp h;exact⟨j,by rw[<- List.getElem?_drop];exact hj⟩
theorem lK{l:List Keyed}{i k:Nat}{y:Keyed}(h:y∈(l.drop i).take k):∃j,j<k/\l[i+j]?=some y:=by
 obtain⟨j,hj⟩:=List.mem_iff_getElem?.mp h;rw[List.getElem?_take]at hj;split at hj
 ·next hjk=>exact⟨j,hjk,by rw[<- List.getElem?_drop];exact hj⟩
 ·cases hj
structure aI(st aP:SortSt):Prop where
 a:arrOf aP=arrOf st
 p:pendingOf aP=pendingOf st
 k:kindOf aP=kindOf st
 f:failedOf aP=failedOf st
theorem aI.n6(st:SortSt):aI st st:=⟨rfl,rfl,rfl,rfl⟩
theorem aI.trans{a b c:SortSt}(h:aI a b)(h':aI b c):aI a c:=⟨h'.a.trans h.a,h'.p.trans h.p,h'.k.trans h.k,h'.f.trans h.f⟩
theorem ext_toList(a:Array Keyed)(i j:Nat):(a.extract i j).toList=(a.toList.drop i).take (j - i):=by simp
theorem wD(a:Array Keyed)(i:Nat):(a.extract i a.size).toList=a.toList.drop i:=by
 rw[ext_toList];exact List.take_of_length_le (by simp)
noncomputable def Am:Array Keyed->Array Keyed->StateT SortSt Sem (Array Keyed):=sortPriv% PySem.Builtin.mergeLo
section
variable {F:Keyed->Int}{a b out:Array Keyed}{ia ib:Nat}
theorem fb{a:Array Keyed}{i:Nat}(h:i<a.size):∃x,a[i]?=some x/\x∈a.toList:=⟨a[i],abZ a i h,by simp⟩
theorem tS{a:Array Keyed}{i:Nat}{x:Keyed}(h:a[i]?=some x):a.toList[i]?=some x:=by simpa using h
theorem xJ{a:Array Keyed}{i:Nat}{x:Keyed}(h:a.toList[i]?=some x):a[i]?=some x:=by simpa using h
theorem Pw.ix(sa:Pw F a.toList){i j:Nat}{x y:Keyed}(de:i<=j)(hx:a[i]?=some x)(hy:a[j]?=some y):F x<=F y:=by
 obtain⟨hi,rfl⟩:=List.getElem?_eq_some_iff.mp (tS hx);obtain⟨hj,rfl⟩:=List.getElem?_eq_some_iff.mp (tS hy);rcases Nat.lt_or_ge i j with h|h
 ·exact List.pairwise_iff_getElem.mp sa i j hi hj h
 ·have:i=j:=by left
  subst this;exact aa_ _
theorem Pw.hd(sa:Pw F a.toList){i:Nat}{x:Keyed}(hx:a[i]?=some x):∀z∈a.toList.drop i,F x<=F z:=λz hz=>by
 obtain⟨j,hj⟩:=mO hz;exact sa.ix (by left) hx (xJ hj)
theorem zG(H:J F a.toList b.toList out.toList ia ib)(sa:Pw F a.toList)(sb:Pw F b.toList)(hc:b.size<=ib\/a.size<=ia):Res F a.toList b.toList (out++a.extract ia a.size++b.extract ib b.size):=by
 unfold Res;simp only[Array.toList_append,wD];exact H.done sa sb (hc.imp (λh=>abK (by simpa using h)) λh=>abK (by simpa using h))
theorem Dk(H:J F a.toList b.toList out.toList ia ib)(sa:Pw F a.toList)(sb:Pw F b.toList)(e:ia+1=a.size)(hl:∀y∈b.toList,∀z,a[a.size - 1]?=some z->F y<=F z):Res F a.toList b.toList (out++b.extract ib b.size++a.extract ia a.size):=by
 unfold Res;simp only[Array.toList_append,wD];refine H.last sa sb λy hy z hz=>?_;obtain⟨j,hj⟩:=mO hz;have cL:ia+j<a.size:=by
  obtain⟨hi,_⟩:=List.getElem?_eq_some_iff.mp hj;simpa using hi
 have:ia+j=a.size - 1:=by left
 rw[this]at hj;exact hl y (ab0 hy) z (xJ hj)
theorem J.MO(H:J F a.toList b.toList out.toList ia ib)(sb:Pw F b.toList){y:Keyed}(hy:b[ib]?=some y)(hc:∀z∈a.toList.drop ia,F y<=F z):J F a.toList b.toList (out.push y).toList ia (ib+1):=by
 have:=H.qQ sb 1 λx hx z hz=>by
  rw[take1 (tS hy),List.mem_singleton]at hx;subst hx;exact hc z hz
 rw[take1 (tS hy)]at this;rw[Array.toList_push];exact this
theorem J.PY(H:J F a.toList b.toList out.toList ia ib)(sa:Pw F a.toList){x:Keyed}(hx:a[ia]?=some x)(hc:∀z∈b.toList.drop ib,F x<=F z):J F a.toList b.toList (out.push x).toList (ia+1) ib:=by
 have:=H.qR sa 1 λy hy z hz=>by
  rw[take1 (tS hx),List.mem_singleton]at hy;subst hy;exact hc z hz
 rw[take1 (tS hx)]at this;rw[Array.toList_push];exact this
theorem J.Us(H:J F a.toList b.toList out.toList ia ib)(sa:Pw F a.toList)(k:Nat)(hc:∀i x,i<k->a[ia+i]?=some x->∀z∈b.toList.drop ib,F x<=F z):J F a.toList b.toList (out++a.extract ia (ia+k)).toList (ia+k) ib:=by
 rw[Array.toList_append,ext_toList,show ia+k - ia=k by left];exact H.qR sa k λx hx z hz=>by
  obtain⟨j,hj,e⟩:=lK hx;exact hc j x hj (xJ e) z hz
theorem J.Ur(H:J F a.toList b.toList out.toList ia ib)(sb:Pw F b.toList)(k:Nat)(hc:∀i x,i<k->b[ib+i]?=some x->∀z∈a.toList.drop ia,F x<=F z):J F a.toList b.toList (out++b.extract ib (ib+k)).toList ia (ib+k):=by
 rw[Array.toList_append,ext_toList,show ib+k - ib=k by left];exact H.qQ sb k λx hx z hz=>by
  obtain⟨j,hj,e⟩:=lK hx;exact hc j x hj (xJ e) z hz
end
section
variable {prog:aB}{w:World}{A:az}{E:au}{s:Shared}{κ:SortKind}{a₀:Array Keyed}{F:Keyed->Int}(L:ox prog w A E s κ a₀ F)
include L
theorem eU{key:Keyed}{arr:Array Keyed}{n:Nat}{st:SortSt}{Q:Option Nat->SortSt->Prop}(hk:kindOf st=κ)(n_:key∈a₀.toList)(hh:hint<n)(hn:base+n<=arr.size)(hm:∀i x,base<=i->i<base+n->arr[i]?=some x->x∈a₀.toList)
  (hs:∀i j x y,base<=i->i<=j->j<base+n->arr[i]?=some x->arr[j]?=some y->F x<=F y)
  (h:∀k,k<=n->(∀i x,i<k->arr[base+i]?=some x->if left then F x<F key else F x<=F key)->(∀i x,k<=i->i<n->arr[base+i]?=some x->if left then F key<=F x else F key<F x)->Q (some k) st):wpS (model prog w) A E s (wy left key arr base n hint) Q st:=by
 have TL:∀i,i<n->∃x,arr[base+i]?=some x:=λi hi=>⟨arr[base+i]'(by left),abZ _ _ _⟩
 refine tG L (G:=λi=>if left then decide (R F arr (base+i)<F key)else !decide (F key<R F arr (base+i))) hk n_ hh (λi hi=>?_) (λi j de hj e=>?_) λk Eb h1 h2=>h k Eb (λi x hi hx=>?_) λi x hi Tp hx=>?_
 ·obtain⟨x,hx⟩:=TL i hi;exact⟨x,hx,hm _ x (by left) (by left) hx,by rw[fh hx]⟩
 ·obtain⟨x,hx⟩:=TL i (by left);obtain⟨y,hy⟩:=TL j hj;have:=hs _ _ x y (by left) (by left) (by left) hx hy;rw[fh hy]at e;rw[fh hx];cases left<;>simp at e ⊢ <;> left
 ·have e:=h1 i hi;rw[fh hx]at e;cases left<;>simp at e ⊢ <;> left
 ·have e:=h2 i hi Tp;rw[fh hx]at e;cases left<;>simp at e ⊢ <;> left
end
theorem BE{T G:Prop}(f:T->G)(t:T):G:=f t
section
variable {M:Model}{A:az}{E:au}{s:Shared}{σ α:Type}{c:Prop}[Decidable c]{t e:StateT σ Sem α}{Q:α->σ->Prop}{st:σ}
theorem bu(h:c)(k:wpS M A E s t Q st):wpS M A E s (if c then t else e) Q st:=by rw[if_pos h];exact k
theorem bw(h:¬ c)(k:wpS M A E s e Q st):wpS M A E s (if c then t else e) Q st:=by rw[if_neg h];exact k
theorem gh(h:c->wpS M A E s t Q st)(k:¬ c->wpS M A E s e Q st):wpS M A E s (if c then t else e) Q st:=by
 by_cases z:c
 ·exact bu z (h z)
 ·exact bw z (k z)
end
noncomputable def Mr:Nat->StateT SortSt Sem Unit:=sortPriv% PySem.Builtin.setMinGallop
section
variable {prog:aB}{w:World}{A:az}{E:au}{s:Shared}{κ:SortKind}{a₀:Array Keyed}{F:Keyed->Int}(L:ox prog w A E s κ a₀ F)
include L
omit L in
theorem jA{g:Nat}{st:SortSt}{Q:Unit->SortSt->Prop}(h:∀aP,aI st aP->Q () aP):wpS (model prog w) A E s (Mr g) Q st:=by
 exact abc (h _ ⟨rfl,rfl,rfl,rfl⟩)
theorem GD{a b:Array Keyed}{st:SortSt}{Q:Array Keyed->SortSt->Prop}(hk:kindOf st=κ)(ma:∀x∈a.toList,x∈a₀.toList)(mb:∀x∈b.toList,x∈a₀.toList)(sa:Pw F a.toList)(sb:Pw F b.toList)(ha:1<=a.size)(hb:1<=b.size)
  (h0:∀y,b[0]?=some y->∀x∈a.toList,F y<=F x) (hl:∀y∈b.toList,∀z,a[a.size - 1]?=some z->F y<=F z) (h:∀r aP,aI st aP->Res F a.toList b.toList r->Q r aP):wpS (model prog w) A E s (Am a b) Q st:=by
 obtain⟨y0,tf,KQ⟩:=fb (a:=b) (i:=0) hb;have J0:J F a.toList b.toList (#[]:Array Keyed).toList 0 0:=⟨by simp,.nil,(λ_ h=>nomatch h),(λ_ h=>nomatch h)⟩
 have J1:=J0.MO sb tf λz hz=>h0 y0 tf z (by simpa using hz);refine aah (wpS_lift (aa9 ⟨rfl,?_⟩));refine aah (br tf ?_);dsimp only;by_cases e1:1=b.size
 ·refine bu (by simpa using e1) ?_;exact aaj (h _ st (.n6 st) (zG J1 sa sb (.inl (by left))))
 refine bw (by simpa using e1) ?_;by_cases e2:0+1=a.size
 ·refine bu (by simpa using e2) ?_;exact aaj (h _ st (.n6 st) (Dk J1 sa sb e2 hl))
 refine bw (by simpa using e2) ?_;refine aah (abi ?_);refine aah (aaK (aau (I:=λx c aP=>aI st aP/\∃out ia ib g,c=(none,out,ia,ib,g)/\J F a.toList b.toList out.toList ia ib/\ia+1<a.size/\ib<b.size/\x+1<=ia+ib)
  (Q:=λc aP=>aI st aP/\∃r o ia ib g,c=(some r,o,ia,ib,g)/\Res F a.toList b.toList r) ?step ?fin ⟨.n6 st,_,_,_,_,rfl,J1,by left,by left,by left⟩) ?post)
 case fin =>
  rintro c aP ⟨S,out,ia,ib,g,rfl,JJ,qI,hib,hx⟩;left
 case post =>
  rintro c aP ⟨S,r,o,ia,ib,g,rfl,hr⟩;exact aaj (h r aP S hr)
 case step =>
  rintro x c iz _ IB ⟨S1,out,ia,ib,g,rfl,JJ,qI,hib,hx⟩;dsimp only;refine aah (aaK (aau (I:=λx' c aP=>iz=aP/\∃out ia ib ac bc,c=(none,out,ia,ib,ac,bc)/\J F a.toList b.toList out.toList ia ib/\ia+1<a.size/\ib<b.size/\x+1+x'<=ia+ib)
   (Q:=λc aP=>iz=aP/\((∃r o ia ib ac bc,c=(some r,o,ia,ib,ac,bc)/\Res F a.toList b.toList r)\/∃out ia ib ac bc,c=(none,out,ia,ib,ac,bc)/\J F a.toList b.toList out.toList ia ib/\ia+1<a.size/\ib<b.size/\x+2<=ia+ib)) ?_ ?_ ⟨rfl,_,_,_,_,_,rfl,JJ,qI,hib,by left⟩) ?_)
  ·rintro x' c aP _ v_ ⟨rfl,out,ia,ib,ac,bc,rfl,JJ,qI,hib,hx⟩;dsimp only;obtain⟨y,hy,my⟩:=fb hib;obtain⟨z,hz,mz⟩:=fb (show ia<a.size by left);refine aah (br hy (aah (br hz (aah (L y z (mb y my) (ma z mz) iz _ (S1.k.trans hk) ?_)))));by_cases cL:F y<F z
   ·refine bu (aaP cL) ?_;have J2:=JJ.MO sb hy λv hv=>aaO (aa0 cL) (sa.hd hz v hv);refine aah (br hy ?_);by_cases eb:ib+1=b.size
    ·refine bu (by simpa using eb) ?_;exact aaj ⟨rfl,.inl ⟨_,_,_,_,_,_,rfl,zG J2 sa sb (.inl (by left))⟩⟩
    refine bw (by simpa using eb) ?_;exact gh (λ_=>aaj ⟨rfl,.inr ⟨_,_,_,_,_,rfl,J2,qI,by left,by left⟩⟩) (λ_=>aaj ⟨rfl,_,_,_,_,_,rfl,J2,qI,by left,by left⟩)
   ·refine bw (by simpa using cL) ?_;have J2:=JJ.PY sa hz λv hv=>aaO (Int.not_lt.mp cL) (sb.hd hy v hv);refine aah (br hz ?_);by_cases ea:ia+1+1=a.size
    ·refine bu (by simpa using ea) ?_;exact aaj ⟨rfl,.inl ⟨_,_,_,_,_,_,rfl,Dk J2 sa sb ea hl⟩⟩
    refine bw (by simpa using ea) ?_;exact gh (λ_=>aaj ⟨rfl,.inr ⟨_,_,_,_,_,rfl,J2,by left,hib,by left⟩⟩) (λ_=>aaj ⟨rfl,_,_,_,_,_,rfl,J2,by left,hib,by left⟩)
  ·rintro c aP ⟨rfl,out,ia,ib,ac,bc,rfl,JJ,qI,hib,hx⟩;exact⟨rfl,.inr ⟨_,_,_,_,_,rfl,JJ,qI,hib,by left⟩⟩
  rintro c aP ⟨rfl,⟨r,o,ia,ib,ac,bc,rfl,hr⟩|⟨out,ia,ib,ac,bc,rfl,JJ,qI,hib,hx⟩⟩
  ·exact aaj ⟨S1,_,_,_,_,_,rfl,hr⟩
  dsimp only;refine aah (wpS_lift (aa9 ⟨rfl,?_⟩));obtain⟨lw,hlw⟩:∃lw,lw=x+2:=⟨_,rfl⟩
  rw[<- hlw]at hx;refine aah (aaK (aau (I:=λx' c aP=>aI st aP/\∃out ia ib g ac bc,c=(none,out,ia,ib,g,ac,bc)/\J F a.toList b.toList out.toList ia ib/\ia+1<a.size/\ib<b.size/\lw<=ia+ib)
   (Q:=λc aP=>aI st aP/\((∃r o ia ib g ac bc,c=(some r,o,ia,ib,g,ac,bc)/\Res F a.toList b.toList r)\/∃out ia ib g ac bc,c=(none,out,ia,ib,g,ac,bc)/\J F a.toList b.toList out.toList ia ib/\ia+1<a.size/\ib<b.size/\lw<=ia+ib)) ?_ ?_ ⟨S1,_,_,_,_,_,_,rfl,JJ,qI,hib,hx⟩) ?_)
  ·clear JJ qI hib hx S1;rintro x' c iz _ v_ ⟨S1,out,ia,ib,g,ac,bc,rfl,JJ,qI,hib,hx⟩;dsimp only;apply BE
   ·intro key;by_cases hg:g>1
    ·refine bu hg ?_;generalize g - 1=z
     revert z
     exact key
    ·refine bw hg ?_;generalize g=z
     revert z
     exact key
   intro g;refine aah (jA λqU S3=>?_);have S2:=S1.trans S3;clear S3;obtain⟨y0,tf,KQ⟩:=fb hib;refine aah (br tf ?_);refine aah (eU L (S2.k.trans hk) (mb y0 KQ) (show 0<a.size - ia by left) (by left) (λi z _ _ hz=>ma z (by simpa using List.mem_of_getElem? (tS hz))) (λi j z z' _ de _ hz ui=>sa.ix de hz ui) λk VY g1 g2=>?_);dsimp only;simp only[Bool.false_eq_true,if_false]at g1 g2;have Lz:=JJ.Us sa k λi z hi hz z' ui=>aaO (g1 i z hi hz) (sb.hd tf z' ui);have x6:∀y,b[ib]?=some y->∀z∈a.toList.drop (ia+k),F y<=F z:=λy hy z hz=>by
    obtain⟨j,hj⟩:=mO hz;have cL:ia+k+j<a.size:=by
     obtain⟨hi,_⟩:=List.getElem?_eq_some_iff.mp hj;simpa using hi
    have e:y=y0:=by rw[tf]at hy;exact(aap hy).symm
    subst e;exact aa0 (g2 (k+j) z (by left) (by left) (by rw[<- Nat.add_assoc];exact xJ hj))
   apply BE
   ·intro key;by_cases k0:k>0
    ·refine bu k0 ?_;by_cases JM:ia+k+1=a.size
     ·refine bu (by clear key;simpa using JM) ?_;exact aaj ⟨S2,.inl ⟨_,_,_,_,_,_,_,rfl,Dk Lz sa sb JM hl⟩⟩
     refine bw (by clear key;simpa using JM) ?_;by_cases Wq:ia+k=a.size
     ·refine bu (by clear key;simpa using Wq) ?_;exact aaj ⟨S2,.inl ⟨_,_,_,_,_,_,_,rfl,zG Lz sa sb (.inr (by clear key;left))⟩⟩
     refine bw (by clear key;simpa using Wq) ?_;have IS:ia+k+1<a.size:=by clear key;left
     have kA:lw<=ia+k+ib:=by clear key;left
     have K1:=Lz;have oS:=x6;generalize out++a.extract ia (ia+k)=o1 at K1 ⊢;generalize ia+k=i1 at K1 oS IS kA ⊢
     revert kA
     revert IS
     revert oS
     revert K1
     revert i1
     revert o1
     exact key
    ·refine bw k0 ?_;have z0:k=0:=by clear key;left
     have IS:ia+1<a.size:=by clear key;left
     have kA:lw<=ia+ib:=by clear key;left
     have oS:=x6;rw[z0,Nat.add_zero]at oS;have K1:=JJ;generalize out=o1 at K1 ⊢;generalize ia=i1 at K1 oS IS kA ⊢
     revert kA
     revert IS
     revert oS
     revert K1
     revert i1
     revert o1
     exact key
   intro o1 i1 J1 x6 IS kA;obtain⟨y,hy,my⟩:=fb hib;have J2:=J1.MO sb hy (x6 y hy);refine aah (br hy ?_);by_cases eb:ib+1=b.size
   ·refine bu (by simpa using eb) ?_;exact aaj ⟨S2,.inl ⟨_,_,_,_,_,_,_,rfl,zG J2 sa sb (.inl (by left))⟩⟩
   refine bw (by simpa using eb) ?_;obtain⟨x,hx,mx⟩:=fb (show i1<a.size by left);refine aah (br hx ?_);refine aah (eU L (S2.k.trans hk) (ma x mx) (show 0<b.size - (ib+1) by left) (by left) (λi z _ _ hz=>mb z (by simpa using List.mem_of_getElem? (tS hz))) (λi j z z' _ de _ hz ui=>sb.ix de hz ui) λk2 IQ g1 g2=>?_);dsimp only;simp only[if_true]at g1 g2;have J3:=J2.Ur sb k2 λi z hi hz z' ui=>aaO (aa0 (g1 i z hi hz)) (sa.hd hx z' ui);have Ca:∀z∈b.toList.drop (ib+1+k2),F x<=F z:=λz hz=>by
    obtain⟨j,hj⟩:=mO hz;have cL:ib+1+k2+j<b.size:=by
     obtain⟨hi,_⟩:=List.getElem?_eq_some_iff.mp hj;simpa using hi
    exact g2 (k2+j) z (by left) (by left) (by rw[show ib+1+(k2+j)=ib+1+k2+j by left];exact xJ hj)
   apply BE
   ·intro key;by_cases k0:k2>0
    ·refine bu k0 ?_;by_cases Lo:ib+1+k2=b.size
     ·refine bu (by clear key;simpa using Lo) ?_;exact aaj ⟨S2,.inl ⟨_,_,_,_,_,_,_,rfl,zG J3 sa sb (.inl (by clear key;left))⟩⟩
     refine bw (by clear key;simpa using Lo) ?_;have hj:ib+1+k2<b.size:=by clear key;left
     have x9:lw<=i1+(ib+1+k2):=by clear key;left
     have K1:=J3;have oS:=Ca;generalize o1.push y++b.extract (ib+1) (ib+1+k2)=o2 at K1 ⊢;generalize ib+1+k2=j2 at K1 oS hj x9 ⊢
     revert x9
     revert hj
     revert oS
     revert K1
     revert j2
     revert o2
     exact key
    ·refine bw k0 ?_;have z0:k2=0:=by clear key;left
     have hj:ib+1<b.size:=by clear key;left
     have x9:lw<=i1+(ib+1):=by clear key;left
     have oS:=Ca;rw[z0,Nat.add_zero]at oS;have K1:=J2;generalize o1.push y=o2 at K1 ⊢;generalize ib+1=j2 at K1 oS hj x9 ⊢
     revert x9
     revert hj
     revert oS
     revert K1
     revert j2
     revert o2
     exact key
   intro o2 j2 J3 Ca hj x9;have J4:=J3.PY sa hx Ca;refine aah (br hx ?_);by_cases ea:i1+1+1=a.size
   ·refine bu (by simpa using ea) ?_;exact aaj ⟨S2,.inl ⟨_,_,_,_,_,_,_,rfl,Dk J4 sa sb ea hl⟩⟩
   refine bw (by simpa using ea) ?_;exact gh (λ_=>aaj ⟨S2,.inr ⟨_,_,_,_,_,_,rfl,J4,by left,by left,by left⟩⟩) (λ_=>aaj ⟨S2,_,_,_,_,_,_,rfl,J4,by left,by left,by left⟩)
  ·rintro c aP ⟨S,out,ia,ib,g,ac,bc,rfl,JJ,qI,hib,hx⟩;exact⟨S,.inr ⟨_,_,_,_,_,_,rfl,JJ,qI,hib,hx⟩⟩
  rintro c aP ⟨S,⟨r,o,ia,ib,g,ac,bc,rfl,hr⟩|⟨out,ia,ib,g,ac,bc,rfl,JJ,qI,hib,hx⟩⟩
  ·exact aaj ⟨S,_,_,_,_,_,rfl,hr⟩
  ·dsimp only;exact aah (jA λqU S3=>aaj ⟨S.trans S3,_,_,_,_,rfl,JJ,qI,hib,by left⟩)
end
noncomputable def An:Array Keyed->Array Keyed->StateT SortSt Sem (Array Keyed):=sortPriv% PySem.Builtin.mergeHi
structure H(F:Keyed->Int)(la lb o:List Keyed)(na nb:Nat):Prop where
 perm:((la.take na++lb.take nb)++o.reverse).Perm (la++lb)
 so:Pw F o.reverse
 xa:∀x∈o,∀y∈la.take na,F y<=F x
 xb:∀x∈o,∀y∈lb.take nb,F y<=F x
section
variable {F:Keyed->Int}{la lb o:List Keyed}{na nb m:Nat}
theorem FC(l:List Keyed){m n:Nat}(h:m<=n):l.take n=l.take m++(l.take n).drop m:=by
 have:=List.take_append_drop m (l.take n);rw[List.take_take,Nat.min_eq_left h]at this;exact this.symm
theorem Pw.tk{l:List Keyed}(h:Pw F l)(i:Nat):Pw F (l.take i):=h.sublist (List.take_sublist i l)
theorem H.qR(H:H F la lb o na nb)(sa:Pw F la)(hm:m<=na)(hc:∀x∈(la.take na).drop m,∀y∈lb.take nb,F y<=F x):TS.H F la lb (o++((la.take na).drop m).reverse) m nb:=by
 have e:=FC la hm;have s1:=sa.tk na;rw[e]at s1;obtain⟨t1,t2,t3⟩:=List.pairwise_append.mp s1;refine⟨?_,?_,λx hx y hy=>?_,λx hx y hy=>?_⟩
 ·have:=H.perm;rw[e]at this;rw[List.reverse_append,List.reverse_reverse];refine List.Perm.trans ?_ this;generalize (la.take na).drop m=T;rw[<- List.append_assoc];refine abM _ ?_;rw[List.append_assoc,List.append_assoc];exact abp _ abT
 ·rw[List.reverse_append,List.reverse_reverse];exact List.pairwise_append.mpr ⟨t2,H.so,λx hx y hy=>H.xa y (List.mem_reverse.mp hy) x (ab0 hx)⟩
 ·rcases List.mem_append.mp hx with hx|hx
  ·exact H.xa x hx y (by rw[e];exact aax _ hy)
  ·exact t3 y hy x (List.mem_reverse.mp hx)
 ·rcases List.mem_append.mp hx with hx|hx
  ·exact H.xb x hx y hy
  ·exact hc x (List.mem_reverse.mp hx) y hy
theorem H.qQ(H:H F la lb o na nb)(sb:Pw F lb)(hm:m<=nb)(hc:∀x∈(lb.take nb).drop m,∀y∈la.take na,F y<=F x):TS.H F la lb (o++((lb.take nb).drop m).reverse) na m:=by
 have e:=FC lb hm;have s1:=sb.tk nb;rw[e]at s1;obtain⟨t1,t2,t3⟩:=List.pairwise_append.mp s1;refine⟨?_,?_,λx hx y hy=>?_,λx hx y hy=>?_⟩
 ·have:=H.perm;rw[e]at this;rw[List.reverse_append,List.reverse_reverse];refine List.Perm.trans ?_ this;simp only[List.append_assoc];exact .refl _
 ·rw[List.reverse_append,List.reverse_reverse];exact List.pairwise_append.mpr ⟨t2,H.so,λx hx y hy=>H.xb y (List.mem_reverse.mp hy) x (ab0 hx)⟩
 ·rcases List.mem_append.mp hx with hx|hx
  ·exact H.xa x hx y hy
  ·exact hc x (List.mem_reverse.mp hx) y hy
 ·rcases List.mem_append.mp hx with hx|hx
  ·exact H.xb x hx y (by rw[e];exact aax _ hy)
  ·exact t3 y hy x (List.mem_reverse.mp hx)
theorem H.done(H:H F la lb o na nb)(sa:Pw F la)(sb:Pw F lb)(hc:na=0\/nb=0):(la.take na++lb.take nb++o.reverse).Perm (la++lb)/\Pw F (la.take na++lb.take nb++o.reverse):=by
 refine⟨H.perm,?_⟩;rcases hc with rfl|rfl
 ·rw[List.take_zero,List.nil_append];exact List.pairwise_append.mpr ⟨sb.tk nb,H.so,λx hx y hy=>H.xb y (List.mem_reverse.mp hy) x hx⟩
 ·rw[List.take_zero,List.append_nil];exact List.pairwise_append.mpr ⟨sa.tk na,H.so,λx hx y hy=>H.xa y (List.mem_reverse.mp hy) x hx⟩
theorem H.first(H:H F la lb o na nb)(sa:Pw F la)(sb:Pw F lb)(hc:∀y∈lb.take nb,∀z∈la.take na,F y<=F z):(lb.take nb++la.take na++o.reverse).Perm (la++lb)/\Pw F (lb.take nb++la.take na++o.reverse):=by
 refine⟨(abM _ abT).trans H.perm,?_⟩;refine List.pairwise_append.mpr ⟨List.pairwise_append.mpr ⟨sb.tk nb,sa.tk na,hc⟩,H.so,λx hx y hy=>?_⟩;rcases List.mem_append.mp hx with hx|hx
 ·exact H.xb y (List.mem_reverse.mp hy) x hx
 ·exact H.xa y (List.mem_reverse.mp hy) x hx
end
theorem pV{l:List Keyed}{n:Nat}{y:Keyed}(h:y∈l.take n):∃j,j<n/\l[j]?=some y:=by
 have:=lK (l:=l) (i:=0) (k:=n) (y:=y) (by simpa using h);obtain⟨j,hj,e⟩:=this;exact⟨j,hj,by simpa using e⟩
theorem Ao{l:List Keyed}{m n:Nat}{y:Keyed}(h:y∈(l.take n).drop m):∃j,m<=j/\j<n/\l[j]?=some y:=by
 obtain⟨j,hj⟩:=mO h;rw[List.getElem?_take]at hj;split at hj
 ·next hjn=>exact⟨m+j,by left,hjn,hj⟩
 ·cases hj
theorem Py{l:List Keyed}{i:Nat}{x:Keyed}(h:l[i]?=some x):(l.take (i+1)).drop i=[x]:=by
 obtain⟨hi,rfl⟩:=List.getElem?_eq_some_iff.mp h;rw[List.take_succ_eq_append_getElem hi,List.drop_append];simp;rw[Nat.min_eq_left (by left),Nat.sub_self];rfl
section
variable {F:Keyed->Int}{a b out:Array Keyed}{na nb:Nat}
theorem Ox(a:Array Keyed)(n:Nat):(a.extract 0 n).toList=a.toList.take n:=by rw[ext_toList];simp
theorem Ld(K:H F a.toList b.toList out.toList na nb)(sa:Pw F a.toList)(sb:Pw F b.toList)(hc:na=0\/nb=0):Res F a.toList b.toList (a.extract 0 na++b.extract 0 nb++out.reverse):=by
 unfold Res;simp only[Array.toList_append,Ox,Array.toList_reverse];exact K.done sa sb hc
theorem Qg(K:H F a.toList b.toList out.toList na nb)(sa:Pw F a.toList)(sb:Pw F b.toList)(e:nb=1)(h0:∀y,b[0]?=some y->∀x∈a.toList,F y<=F x):Res F a.toList b.toList (b.extract 0 nb++a.extract 0 na++out.reverse):=by
 unfold Res;simp only[Array.toList_append,Ox,Array.toList_reverse];refine K.first sa sb λy hy z hz=>?_;obtain⟨j,hj,e'⟩:=pV hy;have:j=0:=by left
 subst this;exact h0 y (xJ e') z (abr hz)
theorem H.PY(K:H F a.toList b.toList out.toList (na+1) nb)(sa:Pw F a.toList){x:Keyed}(hx:a[na]?=some x)(hc:∀z∈b.toList.take nb,F z<=F x):H F a.toList b.toList (out.push x).toList na nb:=by
 have:=K.qR sa (show na<=na+1 by left) λy hy z hz=>by
  rw[Py (tS hx),List.mem_singleton]at hy;subst hy;exact hc z hz
 rw[Py (tS hx)]at this;rw[Array.toList_push];exact this
theorem H.MO(K:H F a.toList b.toList out.toList na (nb+1))(sb:Pw F b.toList){y:Keyed}(hy:b[nb]?=some y)(hc:∀z∈a.toList.take na,F z<=F y):H F a.toList b.toList (out.push y).toList na nb:=by
 have:=K.qQ sb (show nb<=nb+1 by left) λx hx z hz=>by
  rw[Py (tS hy),List.mem_singleton]at hx;subst hx;exact hc z hz
 rw[Py (tS hy)]at this;rw[Array.toList_push];exact this
theorem Bn(a:Array Keyed)(m n:Nat):((a.extract m n).reverse).toList=((a.toList.take n).drop m).reverse:=by
 rw[Array.toList_reverse,ext_toList,List.drop_take]
theorem H.Us(K:H F a.toList b.toList out.toList na nb)(sa:Pw F a.toList){m:Nat}(hm:m<=na)(hc:∀i x,m<=i->i<na->a[i]?=some x->∀z∈b.toList.take nb,F z<=F x):H F a.toList b.toList (out++(a.extract m na).reverse).toList m nb:=by
 rw[Array.toList_append,Bn];exact K.qR sa hm λx hx z hz=>by
  obtain⟨j,h1,h2,e⟩:=Ao hx;exact hc j x h1 h2 (xJ e) z hz
theorem H.Ur(K:H F a.toList b.toList out.toList na nb)(sb:Pw F b.toList){m:Nat}(hm:m<=nb)(hc:∀i x,m<=i->i<nb->b[i]?=some x->∀z∈a.toList.take na,F z<=F x):H F a.toList b.toList (out++(b.extract m nb).reverse).toList na m:=by
 rw[Array.toList_append,Bn];exact K.qQ sb hm λx hx z hz=>by
  obtain⟨j,h1,h2,e⟩:=Ao hx;exact hc j x h1 h2 (xJ e) z hz
theorem Pw.tl(sa:Pw F a.toList){n:Nat}{x:Keyed}(hx:a[n]?=some x):∀z∈a.toList.take (n+1),F z<=F x:=λz hz=>by
 obtain⟨j,hj,e⟩:=pV hz;exact sa.ix (by left) (xJ e) hx
theorem H.pA(K:H F a.toList b.toList out.toList na nb)(sa:Pw F a.toList){x:Keyed}(h1:1<=na)(hx:a[na - 1]?=some x)(hc:∀z∈b.toList.take nb,F z<=F x):H F a.toList b.toList (out.push x).toList (na - 1) nb:=by
 obtain⟨n,rfl⟩:∃n,na=n+1:=⟨na - 1,by left⟩
 exact K.PY sa hx hc
theorem H.pB(K:H F a.toList b.toList out.toList na nb)(sb:Pw F b.toList){y:Keyed}(h1:1<=nb)(hy:b[nb - 1]?=some y)(hc:∀z∈a.toList.take na,F z<=F y):H F a.toList b.toList (out.push y).toList na (nb - 1):=by
 obtain⟨n,rfl⟩:∃n,nb=n+1:=⟨nb - 1,by left⟩
 exact K.MO sb hy hc
theorem Pw.Pu(sa:Pw F a.toList){n:Nat}{x:Keyed}(h1:1<=n)(hx:a[n - 1]?=some x):∀z∈a.toList.take n,F z<=F x:=by
 obtain⟨n,rfl⟩:∃m,n=m+1:=⟨n - 1,by left⟩
 exact sa.tl hx
end
section
variable {prog:aB}{w:World}{A:az}{E:au}{s:Shared}{κ:SortKind}{a₀:Array Keyed}{F:Keyed->Int}(L:ox prog w A E s κ a₀ F)
include L
theorem GF{a b:Array Keyed}{st:SortSt}{Q:Array Keyed->SortSt->Prop}(hk:kindOf st=κ)(ma:∀x∈a.toList,x∈a₀.toList)(mb:∀x∈b.toList,x∈a₀.toList)(sa:Pw F a.toList)(sb:Pw F b.toList)(ha:1<=a.size)(hb:1<=b.size)
  (h0:∀y,b[0]?=some y->∀x∈a.toList,F y<=F x) (hl:∀y∈b.toList,∀z,a[a.size - 1]?=some z->F y<=F z) (h:∀r aP,aI st aP->Res F a.toList b.toList r->Q r aP):wpS (model prog w) A E s (An a b) Q st:=by
 obtain⟨x0,Su,ZT⟩:=fb (a:=a) (i:=a.size - 1) (by left);have J0:H F a.toList b.toList (#[]:Array Keyed).toList a.size b.size:=⟨by simp[List.take_of_length_le],.nil,(λ_ h=>nomatch h),(λ_ h=>nomatch h)⟩
 have J1:=J0.pA sa ha Su λz hz=>hl z (abr hz) x0 Su;refine aah (wpS_lift (aa9 ⟨rfl,?_⟩));refine aah (br Su ?_);dsimp only;by_cases e1:a.size - 1=0
 ·refine bu (by simpa using e1) ?_;exact aaj (h _ st (.n6 st) (Ld J1 sa sb (.inl e1)))
 refine bw (by simpa using e1) ?_;by_cases e2:b.size=1
 ·refine bu (by simpa using e2) ?_;exact aaj (h _ st (.n6 st) (Qg J1 sa sb e2 h0))
 refine bw (by simpa using e2) ?_;refine aah (abi ?_);refine aah (aaK (aau (I:=λx c aP=>aI st aP/\∃na nb out g,c=(none,na,nb,out,g)/\H F a.toList b.toList out.toList na nb/\1<=na/\2<=nb/\na<=a.size/\nb<=b.size/\x+1+na+nb<=a.size+b.size)
  (Q:=λc aP=>aI st aP/\∃r na nb o g,c=(some r,na,nb,o,g)/\Res F a.toList b.toList r) ?step ?fin ⟨.n6 st,_,_,_,_,rfl,J1,by left,by left,by left,by left,by left⟩) ?post)
 case fin =>
  rintro c aP ⟨S,na,nb,out,g,rfl,JJ,tm,wg,ja,jb,hx⟩;left
 case post =>
  rintro c aP ⟨S,r,na,nb,o,g,rfl,hr⟩;exact aaj (h r aP S hr)
 case step =>
  rintro x c iz _ IB ⟨S1,na,nb,out,g,rfl,JJ,tm,wg,ja,jb,hx⟩;dsimp only;refine aah (aaK (aau (I:=λx' c aP=>iz=aP/\∃na nb out ac bc,c=(none,na,nb,out,ac,bc)/\H F a.toList b.toList out.toList na nb/\1<=na/\2<=nb/\na<=a.size/\nb<=b.size/\x+1+x'+na+nb<=a.size+b.size)
   (Q:=λc aP=>iz=aP/\((∃r na nb o ac bc,c=(some r,na,nb,o,ac,bc)/\Res F a.toList b.toList r)\/∃na nb out ac bc,c=(none,na,nb,out,ac,bc)/\H F a.toList b.toList out.toList na nb/\1<=na/\2<=nb/\na<=a.size/\nb<=b.size/\x+2+na+nb<=a.size+b.size)) ?_ ?_ ⟨rfl,_,_,_,_,_,rfl,JJ,tm,wg,ja,jb,by left⟩) ?_)
  ·rintro x' c aP _ v_ ⟨rfl,na,nb,out,ac,bc,rfl,JJ,tm,wg,ja,jb,hx⟩;dsimp only;obtain⟨y,hy,my⟩:=fb (show nb - 1<b.size by left);obtain⟨z,hz,mz⟩:=fb (show na - 1<a.size by left);refine aah (br hy (aah (br hz (aah (L y z (mb y my) (ma z mz) iz _ (S1.k.trans hk) ?_)))));by_cases cL:F y<F z
   ·refine bu (aaP cL) ?_;have J2:=JJ.pA sa tm hz λv hv=>aaO (sb.Pu (by left) hy v hv) (aa0 cL);refine aah (br hz ?_);by_cases ea:na - 1=0
    ·refine bu (by simpa using ea) ?_;exact aaj ⟨rfl,.inl ⟨_,_,_,_,_,_,rfl,Ld J2 sa sb (.inl ea)⟩⟩
    refine bw (by simpa using ea) ?_;exact gh (λ_=>aaj ⟨rfl,.inr ⟨_,_,_,_,_,rfl,J2,by left,by left,by left,by left,by left⟩⟩) (λ_=>aaj ⟨rfl,_,_,_,_,_,rfl,J2,by left,by left,by left,by left,by left⟩)
   ·refine bw (by simpa using cL) ?_;have J2:=JJ.pB sb (by left) hy λv hv=>aaO (sa.Pu tm hz v hv) (Int.not_lt.mp cL);refine aah (br hy ?_);by_cases eb:nb - 1=1
    ·refine bu (by simpa using eb) ?_;exact aaj ⟨rfl,.inl ⟨_,_,_,_,_,_,rfl,Qg J2 sa sb eb h0⟩⟩
    refine bw (by simpa using eb) ?_;exact gh (λ_=>aaj ⟨rfl,.inr ⟨_,_,_,_,_,rfl,J2,by left,by left,by left,by left,by left⟩⟩) (λ_=>aaj ⟨rfl,_,_,_,_,_,rfl,J2,by left,by left,by left,by left,by left⟩)
  ·rintro c aP ⟨rfl,na,nb,out,ac,bc,rfl,JJ,tm,wg,ja,jb,hx⟩;exact⟨rfl,.inr ⟨_,_,_,_,_,rfl,JJ,tm,wg,ja,jb,by left⟩⟩
  rintro c aP ⟨rfl,⟨r,na,nb,o,ac,bc,rfl,hr⟩|⟨na,nb,out,ac,bc,rfl,JJ,tm,wg,ja,jb,hx⟩⟩
  ·exact aaj ⟨S1,_,_,_,_,_,rfl,hr⟩
  dsimp only;refine aah (wpS_lift (aa9 ⟨rfl,?_⟩));obtain⟨lw,hlw⟩:∃lw,lw=x+2:=⟨_,rfl⟩
  rw[<- hlw]at hx;refine aah (aaK (aau (I:=λx' c aP=>aI st aP/\∃na nb out g ac bc,c=(none,na,nb,out,g,ac,bc)/\H F a.toList b.toList out.toList na nb/\1<=na/\2<=nb/\na<=a.size/\nb<=b.size/\lw+na+nb<=a.size+b.size)
   (Q:=λc aP=>aI st aP/\((∃r na nb o g ac bc,c=(some r,na,nb,o,g,ac,bc)/\Res F a.toList b.toList r)\/∃na nb out g ac bc,c=(none,na,nb,out,g,ac,bc)/\H F a.toList b.toList out.toList na nb/\1<=na/\2<=nb/\na<=a.size/\nb<=b.size/\lw+na+nb<=a.size+b.size)) ?_ ?_ ⟨S1,_,_,_,_,_,_,rfl,JJ,tm,wg,ja,jb,hx⟩) ?_)
  ·clear JJ tm wg ja jb hx S1;rintro x' c iz _ v_ ⟨S1,na,nb,out,g,ac,bc,rfl,JJ,tm,wg,ja,jb,hx⟩;dsimp only;apply BE
   ·intro key;by_cases hg:g>1
    ·refine bu hg ?_;generalize g - 1=z
     revert z
     exact key
    ·refine bw hg ?_;generalize g=z
     revert z
     exact key
   intro g;refine aah (jA λqU S3=>?_);have S2:=S1.trans S3;clear S3;obtain⟨y0,tf,KQ⟩:=fb (show nb - 1<b.size by left);refine aah (br tf ?_);refine aah (eU L (base:=0) (S2.k.trans hk) (mb y0 KQ) (show na - 1<na by left) (by left) (λi z _ _ hz=>ma z (by simpa using List.mem_of_getElem? (tS hz))) (λi j z z' _ de _ hz ui=>sa.ix de hz ui) λk VY g1 g2=>?_);dsimp only;simp only[Bool.false_eq_true,if_false,Nat.zero_add]at g1 g2;have VP:∀z∈a.toList.take k,F z<=F y0:=λz hz=>by
    obtain⟨j,hj,e⟩:=pV hz;exact g1 j z hj (xJ e)
   have Lz:=JJ.Us sa VY λi z h1 h2 hz z' ui=>aaO (sb.Pu (by left) tf z' ui) (aa0 (g2 i z h1 h2 hz));apply BE
   ·intro key;by_cases k0:na - k>0
    ·refine bu k0 ?_;by_cases JM:k=0
     ·refine bu (by clear key;simpa using JM) ?_;exact aaj ⟨S2,.inl ⟨_,_,_,_,_,_,_,rfl,Ld Lz sa sb (.inl JM)⟩⟩
     refine bw (by clear key;simpa using JM) ?_;have Ea:1<=k:=by clear key;left
     have hsz:k<=a.size:=by clear key;left
     have kA:lw+k+nb<=a.size+b.size:=by clear key;left
     have K1:=Lz;have oS:=VP;generalize na - k=ac;generalize out++(a.extract k na).reverse=o1 at K1 ⊢;generalize k=n1 at K1 oS Ea hsz kA ⊢
     revert kA
     revert hsz
     revert Ea
     revert oS
     revert K1
     revert n1
     revert o1
     revert ac
     exact key
    ·refine bw k0 ?_;have z0:k=na:=by clear key;left
     have Ea:1<=na:=by clear key;left
     have hsz:na<=a.size:=by clear key;left
     have kA:lw+na+nb<=a.size+b.size:=by clear key;left
     have K1:=JJ;have oS:=VP;rw[z0]at oS;generalize na - k=ac;generalize out=o1 at K1 ⊢;generalize na=n1 at K1 oS Ea hsz kA ⊢
     revert kA
     revert hsz
     revert Ea
     revert oS
     revert K1
     revert n1
     revert o1
     revert ac
     exact key
   intro ac o1 n1 J1 x6 Ea hsz kA;have J2:=J1.pB sb (by left) tf x6;refine aah (br tf ?_);by_cases eb:nb - 1=1
   ·refine bu (by simpa using eb) ?_;exact aaj ⟨S2,.inl ⟨_,_,_,_,_,_,_,rfl,Qg J2 sa sb eb h0⟩⟩
   refine bw (by simpa using eb) ?_;obtain⟨x,hx,mx⟩:=fb (show n1 - 1<a.size by left);refine aah (br hx ?_);refine aah (eU L (base:=0) (S2.k.trans hk) (ma x mx) (show nb - 1 - 1<nb - 1 by left) (by left) (λi z _ _ hz=>mb z (by simpa using List.mem_of_getElem? (tS hz))) (λi j z z' _ de _ hz ui=>sb.ix de hz ui) λk2 IQ g1 g2=>?_);dsimp only;simp only[if_true,Nat.zero_add]at g1 g2;have Ca:∀z∈b.toList.take k2,F z<=F x:=λz hz=>by
    obtain⟨j,hj,e⟩:=pV hz;exact aa0 (g1 j z hj (xJ e))
   have U3:=J2.Ur sb IQ λi z h1 h2 hz z' ui=>aaO (sa.Pu Ea hx z' ui) (g2 i z h1 h2 hz);by_cases k0:nb - 1 - k2>0
   ·refine bu k0 ?_;by_cases Lo:k2=1
    ·refine bu (by simpa using Lo) ?_;exact aaj ⟨S2,.inl ⟨_,_,_,_,_,_,_,rfl,Qg U3 sa sb Lo h0⟩⟩
    refine bw (by simpa using Lo) ?_;by_cases Uy:k2=0
    ·refine bu (by simpa using Uy) ?_;exact aaj ⟨S2,.inl ⟨_,_,_,_,_,_,_,rfl,Ld U3 sa sb (.inr Uy)⟩⟩
    refine bw (by simpa using Uy) ?_;have J3:=U3;have J4:=J3.pA sa Ea hx Ca;refine aah (br hx ?_);by_cases ea:n1 - 1=0
    ·refine bu (by simpa using ea) ?_;exact aaj ⟨S2,.inl ⟨_,_,_,_,_,_,_,rfl,Ld J4 sa sb (.inl ea)⟩⟩
    refine bw (by simpa using ea) ?_;exact gh (λ_=>aaj ⟨S2,.inr ⟨_,_,_,_,_,_,rfl,J4,by left,by left,by left,by left,by left⟩⟩) (λ_=>aaj ⟨S2,_,_,_,_,_,_,rfl,J4,by left,by left,by left,by left,by left⟩)
   ·refine bw k0 ?_;have z0:k2=nb - 1:=by left
    subst z0;have J3:=J2;have J4:=J3.pA sa Ea hx Ca;refine aah (br hx ?_);by_cases ea:n1 - 1=0
    ·refine bu (by simpa using ea) ?_;exact aaj ⟨S2,.inl ⟨_,_,_,_,_,_,_,rfl,Ld J4 sa sb (.inl ea)⟩⟩
    refine bw (by simpa using ea) ?_;exact gh (λ_=>aaj ⟨S2,.inr ⟨_,_,_,_,_,_,rfl,J4,by left,by left,by left,by left,by left⟩⟩) (λ_=>aaj ⟨S2,_,_,_,_,_,_,rfl,J4,by left,by left,by left,by left,by left⟩)
  ·rintro c aP ⟨S,na,nb,out,g,ac,bc,rfl,JJ,tm,wg,ja,jb,hx⟩;exact⟨S,.inr ⟨_,_,_,_,_,_,rfl,JJ,tm,wg,ja,jb,hx⟩⟩
  rintro c aP ⟨S,⟨r,na,nb,o,g,ac,bc,rfl,hr⟩|⟨na,nb,out,g,ac,bc,rfl,JJ,tm,wg,ja,jb,hx⟩⟩
  ·exact aaj ⟨S,_,_,_,_,_,rfl,hr⟩
  ·dsimp only;exact aah (jA λqU S3=>aaj ⟨S.trans S3,_,_,_,_,rfl,JJ,tm,wg,ja,jb,by left⟩)
end
noncomputable def wr(o:Nat)(n:Nat)(l:List Keyed)(a:Array Keyed):Array Keyed:=(l.zipIdx n).foldl (λa (p,j)=>a.setIfInBounds (o+j) p) a
theorem Ct(o n:Nat)(x:Keyed)(l:List Keyed)(a:Array Keyed):wr o n (x::l) a=wr o (n+1) l (a.setIfInBounds (o+n) x):=rfl
theorem pj(o:Nat):∀(l:List Keyed) (n:Nat) (a:Array Keyed),o+n+l.length<=a.size->(wr o n l a).size=a.size/\∀i,(wr o n l a)[i]?=if o+n<=i/\i<o+n+l.length then l[i - (o+n)]? else a[i]?
 |[],n,a,h=>⟨rfl,λi=>by rw[if_neg (by simp)];rfl⟩
 |x::l,n,a,h=>by
  rw[List.length_cons]at h;obtain⟨h1,h2⟩:=pj o l (n+1) (a.setIfInBounds (o+n) x) (by rw[Array.size_setIfInBounds];left);rw[Ct];refine⟨by rw[h1,Array.size_setIfInBounds],λi=>?_⟩;rw[h2,Array.getElem?_setIfInBounds,List.length_cons];by_cases c1:o+n=i
  ·subst c1;rw[if_neg (by left),if_pos rfl,if_pos (by left),if_pos (by left),Nat.sub_self];rfl
  ·rw[if_neg c1];by_cases c2:o+(n+1)<=i/\i<o+(n+1)+l.length
   ·rw[if_pos c2,if_pos (by left)];obtain⟨j,hj⟩:∃j,i - (o+n)=j+1:=⟨i - (o+n) - 1,by left⟩
    rw[hj,List.getElem?_cons_succ];congr 1;left
   ·rw[if_neg c2,if_neg (by left)]
theorem Cs{o:Nat}{l:List Keyed}{a:Array Keyed}(h:o+l.length<=a.size)(hp:l.Perm ((a.toList.drop o).take l.length)):(wr o 0 l a).Perm a:=by
 obtain⟨h1,h2⟩:=pj o l 0 a (by left);have e:(wr o 0 l a).toList=a.toList.take o++(l++a.toList.drop (o+l.length)):=by
  refine abH λi=>?_;have g:=h2 i;rw[Nat.add_zero,<- Array.getElem?_toList (xs:=a),<- Array.getElem?_toList (xs:=wr o 0 l a)]at g;have h3:a.toList.length=a.size:=ab7;rw[g,List.getElem?_append,List.length_take,Nat.min_eq_left (by left)];by_cases c1:i<o
  ·rw[if_neg (by left),if_pos c1,List.getElem?_take,if_pos c1]
  ·rw[if_neg c1,List.getElem?_append];by_cases c2:i<o+l.length
   ·rw[if_pos (by left),if_pos (by left)]
   ·rw[if_neg (by left),if_neg (by left),List.getElem?_drop];congr 1;left
 rw[Array.perm_iff_toList_perm,e];have e2:a.toList=a.toList.take o++((a.toList.drop o).take l.length++a.toList.drop (o+l.length)):=by
  rw[<- List.drop_drop,List.take_append_drop,List.take_append_drop]
 conv=>rhs;rw[e2]
 exact abp _ (abM _ hp)
theorem FR{F:Keyed->Int}{xs:Array Keyed}(h:On F xs lo hi)(hs:hi<=xs.size):Pw F (xs.extract lo hi).toList:=by
 rw[ext_toList];refine List.pairwise_iff_getElem.mpr λi j eP ya de=>?_;rw[List.length_take,List.length_drop,Array.length_toList]at eP ya;rw[List.getElem_take,List.getElem_take,List.getElem_drop,List.getElem_drop,Array.getElem_toList,Array.getElem_toList];have:=h (lo+i) (lo+j) (by left) (by left) (by left);rw[fh (getElem?_pos xs (lo+i) (by left)),fh (getElem?_pos xs (lo+j) (by left))]at this;exact this
theorem iF{a:Array Keyed}{i j:Nat}{x:Keyed}(h:x∈(a.extract i j).toList):∃t,i<=t/\t<j/\a[t]?=some x:=by
 rw[ext_toList]at h;obtain⟨k,hk,e⟩:=lK h;exact⟨i+k,by left,by left,xJ e⟩
theorem ext_get{a:Array Keyed}{i j t:Nat}(h:i+t<j)(hj:j<=a.size):(a.extract i j)[t]?=a[i+t]?:=by
 rw[<- Array.getElem?_toList,ext_toList,List.getElem?_take,if_pos (by left),List.getElem?_drop,Array.getElem?_toList]
theorem si{a:Array Keyed}{i j:Nat}(hj:j<=a.size):(a.extract i j).size=j - i:=by simp;left
theorem Cu{M:Model}{A:az}{E:au}{s:Shared}{σ:Type}{x:σ}{Q:PUnit->σ->Prop}{st:σ}(h:Q ⟨⟩ x):wpS M A E s (set x:StateT σ Sem PUnit) Q st:=by
 unfold wpS;rw[StateT.run_set];exact aab ⟨rfl,h⟩
section
variable {prog:aB}{w:World}{A:az}{E:au}{s:Shared}{κ:SortKind}{a₀:Array Keyed}{F:Keyed->Int}(L:ox prog w A E s κ a₀ F)
include L
omit L in
theorem xM{xs:Array Keyed}{k m:Nat}{l:List Keyed}(hk:sa+k<=sb)(hm:m<=nb)(hs:sb+nb<=xs.size)(oa:On F xs sa sb)(ob:On F xs sb (sb+nb))(hl:l.length=sb+m - (sa+k))(pl:Pw F l)
  (ml:∀v∈l,∃t,sa+k<=t/\t<sb+m/\xs[t]?=some v) (h1:∀i,sa<=i->i<sa+k->∀t,sb<=t->t<sb+nb->R F xs i<=R F xs t) (h2:∀t,sb+m<=t->t<sb+nb->∀i,sa<=i->i<sb->R F xs i<=R F xs t):On F (wr (sa+k) 0 l xs) sa (sb+nb):=by
 obtain⟨_,g⟩:=pj (sa+k) l 0 xs (by left);have rI:∀i,¬ (sa+k<=i/\i<sb+m)->R F (wr (sa+k) 0 l xs) i=R F xs i:=λi hi=>fL (by rw[g,if_neg (by left)]);have rM:∀i,sa+k<=i->i<sb+m->∃v,l[i - (sa+k)]?=some v/\R F (wr (sa+k) 0 l xs) i=F v:=λi h h'=>by
  have cL:i - (sa+k)<l.length:=by left
  refine⟨l[i - (sa+k)],aaq cL,fh ?_⟩;rw[g,if_pos (by left),Nat.add_zero,List.getElem?_eq_getElem cL]
 have up:∀i,sa<=i->i<sa+k->∀v∈l,R F xs i<=F v:=λi hi eP v hv=>by
  obtain⟨t,t1,t2,e⟩:=ml v hv;rw[<- fh (F:=F) e];by_cases c:t<sb
  ·exact oa i t hi (by left) c
  ·exact h1 i hi eP t (by left) (by left)
 have dn:∀j,sb+m<=j->j<sb+nb->∀v∈l,F v<=R F xs j:=λj hj ya v hv=>by
  obtain⟨t,t1,t2,e⟩:=ml v hv;rw[<- fh (F:=F) e];by_cases c:t<sb
  ·exact h2 j hj ya t (by left) c
  ·exact ob t j (by left) (by left) ya
 intro i j hi de hj;by_cases ci:sa+k<=i/\i<sb+m
 ·obtain⟨v,e,r⟩:=rM i ci.1 ci.2;rw[r];by_cases cj:sa+k<=j/\j<sb+m
  ·obtain⟨v',e',r'⟩:=rM j cj.1 cj.2;rw[r'];obtain⟨q1,rfl⟩:=List.getElem?_eq_some_iff.mp e;obtain⟨q2,rfl⟩:=List.getElem?_eq_some_iff.mp e';by_cases c:i=j
   ·subst c;exact aa_ _
   ·exact List.pairwise_iff_getElem.mp pl _ _ q1 q2 (by left)
  ·rw[rI j cj];exact dn j (by left) hj v (aar e)
 ·rw[rI i ci];by_cases cj:sa+k<=j/\j<sb+m
  ·obtain⟨v',e',r'⟩:=rM j cj.1 cj.2;rw[r'];exact up i hi (by left) v' (aar e')
  ·rw[rI j cj];by_cases c1:i<sb
   ·by_cases c2:j<sb
    ·exact oa i j hi de c2
    ·by_cases c3:i<sa+k
     ·exact h1 i hi c3 j (by left) hj
     ·exact h2 j (by left) hj i hi c1
   ·exact ob i j (by left) de hj
theorem xl{st:SortSt}{i na pw qw:Nat}{Q:Bool->SortSt->Prop}(hB:SB a₀ κ st)(e1:(pendingOf st)[i]?=some (sa,na,pw))(e2:(pendingOf st)[i+1]?=some (sb,nb,qw))(yM:sb=sa+na)(tm:1<=na)(wg:1<=nb)(hs:sb+nb<=a₀.size)(oa:On F (arrOf st) sa sb)(ob:On F (arrOf st) sb (sb+nb))
  (h:∀aP,SB a₀ κ aP->pendingOf aP=((pendingOf st).setIfInBounds i (sa,na+nb,pw)).eraseIdxIfInBounds (i+1)->(∀t,t<sa\/sb+nb<=t->(arrOf aP)[t]?=(arrOf st)[t]?)->On F (arrOf aP) sa (sb+nb)->Q true aP):wpS (model prog w) A E s (mergeAt' i) Q st:=by
 have yR:SB a₀ κ (setPending st (((pendingOf st).setIfInBounds i (sa,na+nb,pw)).eraseIdxIfInBounds (i+1))):=⟨hB.perm,hB.kind,hB.failed⟩
 have sz:=hB.size;refine aah (abi ?_);rw[e1,e2];dsimp only;refine aah (Cu ?_);generalize lA:setPending st (((pendingOf st).setIfInBounds i (sa,na+nb,pw)).eraseIdxIfInBounds (i+1))=iz at yR;have A7:arrOf iz=arrOf st:=by rw[<- lA]
 have IG:pendingOf iz=((pendingOf st).setIfInBounds i (sa,na+nb,pw)).eraseIdxIfInBounds (i+1):=by rw[<- lA]
 change wpS _ _ _ _ _ Q (setPending st (((pendingOf st).setIfInBounds i (sa,na+nb,pw)).eraseIdxIfInBounds (i+1)));rw[lA];have mm:∀(t:Nat) (x:Keyed),(arrOf st)[t]?=some x->x∈a₀.toList:=λt x e=>(Array.perm_iff_toList_perm.mp hB.perm).mem_iff.mp (aar (tS e));obtain⟨y0,tf,KQ⟩:=hB.at (show sb<a₀.size by left);refine aah (br tf ?_);refine aah (eU L (arr:=arrOf st) yR.kind KQ (show 0<na by left) (by left) (λt x _ _ e=>mm t x e) (λt u x y h1 h2 h3 ex ey=>by
  have:=oa t u h1 h2 (by left)
  rwa [fh ex,fh ey]at this) λk hk g1 g2=>?_)
 simp only[Bool.false_eq_true,if_false]at g1 g2;have low:∀i,sa<=i->i<sa+k->∀t,sb<=t->t<sb+nb->R F (arrOf st) i<=R F (arrOf st) t:=λi hi eP t ht NH=>by
  obtain⟨x,ex,_⟩:=hB.at (show i<a₀.size by left);have a1:=g1 (i - sa) x (by left) (by rw[show sa+(i - sa)=i by left];exact ex);have a2:=ob sb t (aak _) ht NH;rw[fh tf]at a2;rw[fh ex];exact aaO a1 a2
 dsimp only;by_cases c0:na - k=0
 ·rw[if_pos (by simpa using c0)];refine aaj (h iz yR IG (λt _=>by rw[A7]) ?_);rw[A7];intro i j hi de hj;by_cases ci:i<sb
  ·by_cases cj:j<sb
   ·exact oa i j hi de cj
   ·exact low i hi (by left) j (by left) hj
  ·exact ob i j (by left) de hj
 rw[if_neg (by simpa using c0)];obtain⟨z0,AM,XN⟩:=hB.at (show sa+k+(na - k) - 1<a₀.size by left);refine aah (br AM ?_);refine aah (eU L (arr:=arrOf st) yR.kind XN (show nb - 1<nb by left) (by left) (λt x _ _ e=>mm t x e) (λt u x y h1 h2 h3 ex ey=>by
  have:=ob t u h1 h2 h3
  rwa [fh ex,fh ey]at this) λm hm q1 q2=>?_)
 simp only[if_true]at q1 q2;have high:∀t,sb+m<=t->t<sb+nb->∀i,sa<=i->i<sb->R F (arrOf st) i<=R F (arrOf st) t:=λt ht NH i hi eP=>by
  obtain⟨x,ex,_⟩:=hB.at (show t<a₀.size by left);have a1:=q2 (t - sb) x (by left) (by left) (by rw[show sb+(t - sb)=t by left];exact ex);have a2:=oa i (sa+k+(na - k) - 1) hi (by left) (by left);rw[fh AM]at a2;rw[fh ex];exact aaO a2 a1
 dsimp only;by_cases c1:m=0
 ·rw[if_pos (by simpa using c1)];refine aaj (h iz yR IG (λt _=>by rw[A7]) ?_);rw[A7];intro i j hi de hj;by_cases ci:i<sb
  ·by_cases cj:j<sb
   ·exact oa i j hi de cj
   ·exact high j (by left) hj i hi ci
  ·exact ob i j (by left) de hj
 rw[if_neg (by simpa using c1)];have px:Pw F ((arrOf st).extract (sa+k) sb).toList:=FR (λi j h1 h2 h3=>oa i j (by left) h2 h3) (by left);have py:Pw F ((arrOf st).extract sb (sb+m)).toList:=FR (λi j h1 h2 h3=>ob i j h1 h2 (by left)) (by left);have mx:∀x∈((arrOf st).extract (sa+k) sb).toList,x∈a₀.toList:=λx hx=>by
  obtain⟨t,_,_,e⟩:=iF hx;exact mm t x e
 have my:∀x∈((arrOf st).extract sb (sb+m)).toList,x∈a₀.toList:=λx hx=>by
  obtain⟨t,_,_,e⟩:=iF hx;exact mm t x e
 have zx:((arrOf st).extract (sa+k) sb).size=sb - (sa+k):=si (by left);have zy:((arrOf st).extract sb (sb+m)).size=sb+m - sb:=si (by left);have V3:∀y,((arrOf st).extract sb (sb+m))[0]?=some y->∀x∈((arrOf st).extract (sa+k) sb).toList,F y<=F x:=λy ey x hx=>by
  rw[ext_get (by left) (by left),Nat.add_zero,tf]at ey;obtain⟨t,t1,t2,e⟩:=iF hx;have:=g2 (t - sa) x (by left) (by left) (by rw[show sa+(t - sa)=t by left];exact e);rw[<- Option.some.inj ey];exact aa0 this
 have V2:∀y∈((arrOf st).extract sb (sb+m)).toList,∀z,((arrOf st).extract (sa+k) sb)[((arrOf st).extract (sa+k) sb).size - 1]?=some z->F y<=F z:=λy hy z ez=>by
  rw[zx,ext_get (by left) (by left),show sa+k+(sb - (sa+k) - 1)=sa+k+(na - k) - 1 by left,AM]at ez;obtain⟨t,t1,t2,e⟩:=iF hy;have:=q1 (t - sb) y (by left) (by rw[show sb+(t - sb)=t by left];exact e);rw[<- Option.some.inj ez];exact aa0 this
 have fin:∀(r:Array Keyed) (fu:SortSt),aI iz fu->Res F ((arrOf st).extract (sa+k) sb).toList ((arrOf st).extract sb (sb+m)).toList r->Q true (setArr fu (wr (sa+k) 0 r.toList (arrOf fu))):=λr fu S hr=>by
  have TM:arrOf fu=arrOf st:=S.a.trans A7;have hlen:r.toList.length=sb+m - (sa+k):=by
   rw[hr.1.length_eq,List.length_append,Array.length_toList,Array.length_toList,zx,zy];left
  have TC:((arrOf st).toList.drop (sa+k)).take r.toList.length=((arrOf st).extract (sa+k) sb).toList++((arrOf st).extract sb (sb+m)).toList:=by
   rw[ext_toList,ext_toList,hlen,show sb+m - (sa+k)=(sb - (sa+k))+(sb+m - sb) by left,List.take_add,List.drop_drop,show sa+k+(sb - (sa+k))=sb by left]
  have NO:(wr (sa+k) 0 r.toList (arrOf st)).Perm (arrOf st):=Cs (by left) (by rw[TC];exact hr.1);obtain⟨_,gw⟩:=pj (sa+k) r.toList 0 (arrOf st) (by left);refine h _ ⟨?_,S.k.trans yR.kind,S.f.trans yR.failed⟩ (S.p.trans IG) (λt ht=>?_) ?_
  ·show(wr (sa+k) 0 r.toList (arrOf fu)).Perm a₀;rw[TM];exact NO.trans hB.perm
  ·show(wr (sa+k) 0 r.toList (arrOf fu))[t]?=_;rw[TM,gw,if_neg (by left)]
  ·show On F (wr (sa+k) 0 r.toList (arrOf fu)) sa (sb+nb);rw[TM];refine xM (by left) hm (by left) oa ob hlen hr.2 (λv hv=>?_) low high;rcases List.mem_append.mp (hr.1.mem_iff.mp hv)with hv|hv
   ·obtain⟨t,t1,t2,e⟩:=iF hv;exact⟨t,t1,by left,e⟩
   ·obtain⟨t,t1,t2,e⟩:=iF hv;exact⟨t,by left,t2,e⟩
 have Gg:∀(r:Array Keyed) (fu:SortSt),aI iz fu->failedOf (setArr fu (wr (sa+k) 0 r.toList (arrOf fu)))=none:=λr fu S=>S.f.trans yR.failed;by_cases c2:na - k<=m
 ·rw[if_pos c2];refine aah (GD L (a:=(arrOf st).extract (sa+k) sb) (b:=(arrOf st).extract sb (sb+m)) yR.kind mx my px py (by rw[zx];left) (by rw[zy];left) V3 V2 λr fu S hr=>?_);refine aah (abc (aah (abi (aaj ?_))));have hf:=Gg r fu S;change Q (failedOf (setArr fu (wr (sa+k) 0 r.toList (arrOf fu)))).isNone (setArr fu (wr (sa+k) 0 r.toList (arrOf fu)));rw[hf];exact fin r fu S hr
 ·rw[if_neg c2];refine aah (GF L (a:=(arrOf st).extract (sa+k) sb) (b:=(arrOf st).extract sb (sb+m)) yR.kind mx my px py (by rw[zx];left) (by rw[zy];left) V3 V2 λr fu S hr=>?_);refine aah (abc (aah (abi (aaj ?_))));have hf:=Gg r fu S;change Q (failedOf (setArr fu (wr (sa+k) 0 r.toList (arrOf fu)))).isNone (setArr fu (wr (sa+k) 0 r.toList (arrOf fu)));rw[hf];exact fin r fu S hr
end
noncomputable abbrev Run:=Nat×Nat×Nat
def Chain(F:Keyed->Int)(xs:Array Keyed):Nat->List Run->Nat->Prop
 |c,[],hi=>c=hi
 |c,r::l,hi=>r.1=c/\1<=r.2.1/\On F xs c (c+r.2.1)/\Chain F xs (c+r.2.1) l hi
section
variable {F:Keyed->Int}{xs ys:Array Keyed}
theorem Chain.le:∀{l:List Run} {c hi:Nat},Chain F xs c l hi->c+l.length<=hi
 |[],c,hi,h=>by have:c=hi:=h;simp;left
 |r::l,c,hi,h=>by
  obtain⟨_,h1,_,h2⟩:=h;have:=h2.le;rw[List.length_cons];left
theorem Chain.out:∀{l:List Run} {c hi:Nat},Chain F xs c l hi->(∀t,c<=t->t<hi->ys[t]?=xs[t]?)->Chain F ys c l hi
 |[],_,_,h,_=>h
 |r::l,c,hi,⟨h1,h2,h3,h4⟩,e=>by
  have:=h4.le;exact⟨h1,h2,h3.out λi eP hj=>e i eP (by left),h4.out λt h h'=>e t (by left) h'⟩
theorem gd:∀{l m:List Run} {c hi:Nat},Chain F xs c (l++m) hi ↔ ∃d,Chain F xs c l d/\Chain F xs d m hi
 |[],m,c,hi=>⟨λh=>⟨c,rfl,h⟩,λ⟨d,h1,h2⟩=>by have:c=d:=h1;subst this;exact h2⟩
 |r::l,m,c,hi=>by
  constructor
  ·rintro ⟨h1,h2,h3,h4⟩;obtain⟨d,h5,h6⟩:=gd.mp h4;exact⟨d,⟨h1,h2,h3,h5⟩,h6⟩
  ·rintro ⟨d,⟨h1,h2,h3,h4⟩,h5⟩;exact⟨h1,h2,h3,gd.mpr ⟨d,h4,h5⟩⟩
theorem Chain.push{l:List Run}{c n q:Nat}(h:Chain F xs c l lo)(hn:1<=n)(ho:On F xs lo (lo+n)):Chain F xs c (l++[(lo,n,q)]) (lo+n):=gd.mpr ⟨lo,h,rfl,hn,ho,rfl⟩
theorem Chain.HW{f:Run->Run}(hf:∀r,(f r).1=r.1/\(f r).2.1=r.2.1):∀{l:List Run} {i c hi:Nat},Chain F xs c l hi->Chain F xs c (l.modify i f) hi
 |[],i,_,_,h=>by cases i<;>exact h
 |r::l,0,c,hi,h=>by
  obtain⟨h1,h2,h3,h4⟩:=h;rw[List.modify_zero_cons];obtain⟨e1,e2⟩:=hf r;exact⟨e1.trans h1,by rw[e2];exact h2,by rw[e2];exact h3,by rw[e2];exact h4⟩
 |r::l,i+1,c,hi,h=>by
  obtain⟨h1,h2,h3,h4⟩:=h;rw[List.modify_succ_cons];exact⟨h1,h2,h3,h4.HW hf⟩
end
section
variable {prog:aB}{w:World}{A:az}{E:au}{s:Shared}{κ:SortKind}{a₀:Array Keyed}{F:Keyed->Int}(L:ox prog w A E s κ a₀ F)
include L
theorem i9{st:SortSt}{i:Nat}{Q:Bool->SortSt->Prop}(hB:SB a₀ κ st)(hC:Chain F (arrOf st) 0 (pendingOf st).toList hi)(hh:hi<=a₀.size)(IS:i+1<(pendingOf st).size)
  (h:∀aP,SB a₀ κ aP->Chain F (arrOf aP) 0 (pendingOf aP).toList hi->(pendingOf aP).size+1=(pendingOf st).size->(∀t,hi<=t->(arrOf aP)[t]?=(arrOf st)[t]?)->Q true aP):wpS (model prog w) A E s (mergeAt' i) Q st:=by
 have hl:(pendingOf st).toList.length=(pendingOf st).size:=ab7;obtain⟨pre,x,y,post,e,ei⟩:∃pre x y post,(pendingOf st).toList=pre++x::y::post/\pre.length=i:=by
  refine⟨(pendingOf st).toList.take i,(pendingOf st).toList[i],(pendingOf st).toList[i+1],(pendingOf st).toList.drop (i+2),?_,by rw[List.length_take];left⟩;rw[<- List.drop_eq_getElem_cons,<- List.drop_eq_getElem_cons,List.take_append_drop]
 obtain⟨sa,na,pw⟩:=x;obtain⟨sb,nb,qw⟩:=y;rw[e]at hC;obtain⟨d,c1,c2⟩:=gd.mp hC;obtain⟨d1,d2,d3,d4,d5,d6,d7⟩:=c2;have d1:sa=d:=d1;have d4:sb=d+na:=d4;subst d1;subst d4;have l7:sa+na+nb+post.length<=hi:=d7.le;have lp:=c1.le;refine xl L (i:=i) (sa:=sa) (na:=na) (pw:=pw) (sb:=sa+na) (nb:=nb) (qw:=qw) hB ?_ ?_ rfl d2 d5 (by left) d3 d6 λaP B' P' O' S'=>?_
 ·rw[<- Array.getElem?_toList,e,List.getElem?_append_right (by left),ei,Nat.sub_self];rfl
 ·rw[<- Array.getElem?_toList,e,List.getElem?_append_right (by left),ei,show i+1 - i=1 by left];rfl
 ·have e':(pendingOf aP).toList=pre++(sa,na+nb,pw)::post:=by
   rw[P',Array.toList_eraseIdxIfInBounds,Array.toList_setIfInBounds,e,List.set_append_right _ _ (by left),ei,Nat.sub_self,List.set_cons_zero,List.eraseIdx_append_of_length_le (by left),ei,show i+1 - i=1 by left];rfl
  refine h aP B' ?_ ?_ λt ht=>O' t (.inr (by left))
  ·rw[e'];refine gd.mpr ⟨sa,c1.out λt _ ht=>O' t (.inl ht),rfl,?_,?_,?_⟩
   ·show 1<=na+nb;left
   ·show On F (arrOf aP) sa (sa+(na+nb));rw[<- Nat.add_assoc];exact S'
   ·show Chain F (arrOf aP) (sa+(na+nb)) post hi;rw[<- Nat.add_assoc];exact d7.out λt h1 _=>O' t (.inr h1)
  ·have h1:(pendingOf aP).toList.length=(pendingOf aP).size:=ab7;rw[e']at h1;rw[e]at hl;simp at h1 hl;left
end
section
variable {prog:aB}{w:World}{A:az}{E:au}{s:Shared}{κ:SortKind}{a₀:Array Keyed}{F:Keyed->Int}(L:ox prog w A E s κ a₀ F)
include L
theorem y2(D:Pn a₀ F){st:SortSt}{Q:Unit->SortSt->Prop}(hB:SB a₀ κ st)(hp:pendingOf st = #[])(h1:1<=a₀.size)(h:∀aP,SB a₀ κ aP->On F (arrOf aP) 0 a₀.size->Q () aP):wpS (model prog w) A E s sortRuns' Q st:=by
 rw[sortRuns'_eq];refine aah (abi ?_);dsimp only;simp only[hB.size];generalize minRun' a₀.size a₀.size 0=mr;refine aah (aaK (aau (I:=λx c aP=>∃lo,c=(none,lo)/\lo<=a₀.size/\x<=lo/\SB a₀ κ aP/\Chain F (arrOf aP) 0 (pendingOf aP).toList lo)
  (Q:=λc aP=>c=(none,a₀.size)/\SB a₀ κ aP/\Chain F (arrOf aP) 0 (pendingOf aP).toList a₀.size) ?step ?fin ⟨0,rfl,by left,by left,hB,by rw[hp];rfl⟩) ?post)
 case fin =>
  rintro c aP ⟨lo,rfl,l1,l2,B,C⟩;have:lo=a₀.size:=by left
  subst this;exact⟨rfl,B,C⟩
 case step =>
  rintro x c iz _ hx ⟨lo,rfl,l1,l2,B,C⟩;dsimp only;by_cases cl:lo ≥ a₀.size
  ·rw[if_pos cl];have:lo=a₀.size:=by left
   subst this;exact aaj ⟨rfl,B,C⟩
  rw[if_neg cl];refine aah (xn L D (by left) (by left) B λm fu S2 m1 m2 O2=>?_);have C2:Chain F (arrOf fu) 0 (pendingOf fu).toList lo:=by
   rw[S2.pend];exact C.out λt _ ht=>S2.out t (.inl ht)
  dsimp only;by_cases cm:m<mr
  ·rw[if_pos cm];refine aah (wpS_lift (aa9 ⟨rfl,?_⟩));refine aah (Cv L (n:=min (a₀.size - lo) mr) (by left) (by left) S2.sb O2 λqU S3 O3=>?_);have C3:Chain F (arrOf qU) 0 (pendingOf qU).toList lo:=by
    rw[S3.pend];exact C2.out λt _ ht=>S3.out t (.inl ht)
   have B3:=S3.sb;rw[if_neg (by simp)];have n1:1<=min (a₀.size - lo) mr:=by left
   have n2:lo+min (a₀.size - lo) mr<=a₀.size:=by left
   generalize min (a₀.size - lo) mr=n at O3 n1 n2 ⊢;refine aah (abi ?_);cases yR:(pendingOf qU).back? with
   |none =>
    dsimp only;refine aah (abc (aaj ⟨lo+n,rfl,n2,by left,⟨B3.perm,B3.kind,B3.failed⟩,?_⟩));show Chain F (arrOf qU) 0 ((pendingOf qU).push (lo,n,0)).toList (lo+n);rw[Array.toList_push];exact C3.push n1 O3
   |some r =>
    obtain⟨s1,q1,w1⟩:=r;dsimp only;generalize power' a₀.size (2*s1+q1) (2*s1+q1+q1+n) a₀.size=pw;refine aah (aaK (aau (I:=λx' c aP=>c=(none,())/\SB a₀ κ aP/\Chain F (arrOf aP) 0 (pendingOf aP).toList lo/\On F (arrOf aP) lo (lo+n))
     (Q:=λc aP=>c=(none,())/\SB a₀ κ aP/\Chain F (arrOf aP) 0 (pendingOf aP).toList lo/\On F (arrOf aP) lo (lo+n)) ?_ (λ_ _ z=>z) ⟨rfl,B3,C3,O3⟩) ?_)
    ·rintro x' c pC _ _ ⟨rfl,B4,C4,O4⟩;refine aah (abi ?_);by_cases c5:(pendingOf pC).size>1
     ·rw[if_pos c5];obtain⟨r,hr⟩:∃r,(pendingOf pC)[(pendingOf pC).size - 2]?=some r:=⟨(pendingOf pC)[(pendingOf pC).size - 2]'(by left),abZ _ _ _⟩
      rw[hr];dsimp only;by_cases c6:r.2.2<=pw
      ·rw[if_pos c6];exact aaj ⟨rfl,B4,C4,O4⟩
      ·rw[if_neg c6];refine aah (i9 L B4 C4 (by left) (by left) λC6 B5 C5 _ S5=>?_);rw[if_neg (by simp)];exact aaj ⟨rfl,B5,C5,O4.out λi h1 h2=>S5 i h1⟩
     ·rw[if_neg c5];exact aaj ⟨rfl,B4,C4,O4⟩
    ·rintro c pC ⟨rfl,B4,C4,O4⟩;dsimp only;refine aah (abc (aah (abc (aaj ⟨lo+n,rfl,n2,by left,⟨B4.perm,B4.kind,B4.failed⟩,?_⟩))));show Chain F (arrOf pC) 0 (((pendingOf pC).modify ((pendingOf pC).size - 1) λx=>(x.1,x.2.1,pw)).push (lo,n,0)).toList (lo+n);rw[Array.toList_push,Array.toList_modify];exact(C4.HW (f:=λx=>(x.1,x.2.1,pw)) λr=>⟨rfl,rfl⟩).push n1 O4
  ·rw[if_neg cm];have C3:=C2;have B3:=S2.sb;have O3:=O2;have n1:=m1;have n2:lo+m<=a₀.size:=by left
   clear C2 S2 O2;generalize X_:fu=qU at C3 B3 O3 ⊢;generalize Z0:m=n at O3 n1 n2 ⊢;refine aah (abi ?_);cases yR:(pendingOf qU).back? with
   |none =>
    dsimp only;refine aah (abc (aaj ⟨lo+n,rfl,n2,by left,⟨B3.perm,B3.kind,B3.failed⟩,?_⟩));show Chain F (arrOf qU) 0 ((pendingOf qU).push (lo,n,0)).toList (lo+n);rw[Array.toList_push];exact C3.push n1 O3
   |some r =>
    obtain⟨s1,q1,w1⟩:=r;dsimp only;generalize power' a₀.size (2*s1+q1) (2*s1+q1+q1+n) a₀.size=pw;refine aah (aaK (aau (I:=λx' c aP=>c=(none,())/\SB a₀ κ aP/\Chain F (arrOf aP) 0 (pendingOf aP).toList lo/\On F (arrOf aP) lo (lo+n))
     (Q:=λc aP=>c=(none,())/\SB a₀ κ aP/\Chain F (arrOf aP) 0 (pendingOf aP).toList lo/\On F (arrOf aP) lo (lo+n)) ?_ (λ_ _ z=>z) ⟨rfl,B3,C3,O3⟩) ?_)
    ·rintro x' c pC _ _ ⟨rfl,B4,C4,O4⟩;refine aah (abi ?_);by_cases c5:(pendingOf pC).size>1
     ·rw[if_pos c5];obtain⟨r,hr⟩:∃r,(pendingOf pC)[(pendingOf pC).size - 2]?=some r:=⟨(pendingOf pC)[(pendingOf pC).size - 2]'(by left),abZ _ _ _⟩
      rw[hr];dsimp only;by_cases c6:r.2.2<=pw
      ·rw[if_pos c6];exact aaj ⟨rfl,B4,C4,O4⟩
      ·rw[if_neg c6];refine aah (i9 L B4 C4 (by left) (by left) λC6 B5 C5 _ S5=>?_);rw[if_neg (by simp)];exact aaj ⟨rfl,B5,C5,O4.out λi h1 h2=>S5 i h1⟩
     ·rw[if_neg c5];exact aaj ⟨rfl,B4,C4,O4⟩
    ·rintro c pC ⟨rfl,B4,C4,O4⟩;dsimp only;refine aah (abc (aah (abc (aaj ⟨lo+n,rfl,n2,by left,⟨B4.perm,B4.kind,B4.failed⟩,?_⟩))));show Chain F (arrOf pC) 0 (((pendingOf pC).modify ((pendingOf pC).size - 1) λx=>(x.1,x.2.1,pw)).push (lo,n,0)).toList (lo+n);rw[Array.toList_push,Array.toList_modify];exact(C4.HW (f:=λx=>(x.1,x.2.1,pw)) λr=>⟨rfl,rfl⟩).push n1 O4
 case post =>
  rintro c iz ⟨rfl,B,C⟩;dsimp only;have Yp:∀(c:Prop) [Decidable c] (p:Nat),(if c then p - 1 else p)<=p:=λc _ p=>by split<;>left
  have hlen:=C.le;rw[Array.length_toList]at hlen;refine aah (aaK (aau (I:=λx c aP=>c=(none,())/\SB a₀ κ aP/\Chain F (arrOf aP) 0 (pendingOf aP).toList a₀.size/\(pendingOf aP).size+x<=a₀.size+1)
   (Q:=λc aP=>c=(none,())/\SB a₀ κ aP/\Chain F (arrOf aP) 0 (pendingOf aP).toList a₀.size/\(pendingOf aP).size<=1) ?_ ?_ ⟨rfl,B,C,by left⟩) ?_)
  ·rintro x c fu _ hx ⟨rfl,B2,C2,z2⟩;refine aah (abi ?_);by_cases cp:(pendingOf fu).size<=1
   ·rw[if_pos cp];exact aaj ⟨rfl,B2,C2,cp⟩
   rw[if_neg cp];refine aah (i9 L B2 C2 (aak _) (aaG (Nat.add_le_add_right (Yp _ _) 1) (by left)) λqU B3 C3 z3 _=>?_);rw[if_neg (by simp)];exact aaj ⟨rfl,B3,C3,by left⟩
  ·rintro c fu ⟨rfl,B2,C2,z2⟩;exact⟨rfl,B2,C2,by left⟩
  ·rintro c fu ⟨rfl,B2,C2,z2⟩;dsimp only;refine aaj (h fu B2 ?_);generalize hpl:(pendingOf fu).toList=pl at C2;have hz:pl.length<=1:=by rw[<- hpl,Array.length_toList];exact z2
   cases pl with
   |nil=>have:0=a₀.size:=C2;left
   |cons r l =>
    have:l=[]:=by
     cases l with
     |nil=>rfl
     |cons _ _=>simp at hz
    subst this;obtain⟨_,_,o,e⟩:=C2;have e:0+r.2.1=a₀.size:=e;rw[<- e];exact o
end
end TS
end
section
namespace DI
open PySem PySem.Spec PyProof.Rows L2
theorem zZ{α β:Type}(f:α->β){l l':List β}(h:l.Perm l'):∀m:List α,l'=m.map f->∃q:List α,q.Perm m/\l=q.map f:=by
 induction h with
 |nil=>intro m e;exact⟨[],by rw[List.map_eq_nil_iff.mp e.symm],rfl⟩
 |cons x _ ih =>
  intro m e;obtain⟨a,m',rfl,rfl,e'⟩:=List.map_eq_cons_iff.mp e.symm;obtain⟨q,h1,h2⟩:=ih m' e'.symm;exact⟨a::q,h1.cons a,by rw[h2];rfl⟩
 |swap x y l =>
  intro m e;obtain⟨a,m',rfl,rfl,e'⟩:=List.map_eq_cons_iff.mp e.symm;obtain⟨b,m2,rfl,rfl,e2⟩:=List.map_eq_cons_iff.mp e';exact⟨b::a::m2,.swap a b m2,by rw[<- e2];rfl⟩
 |trans _ _ i1 i2 =>
  intro m e;obtain⟨q,h1,h2⟩:=i2 m e;obtain⟨q',h3,h4⟩:=i1 q h2;exact⟨q',h3.trans h1,h4⟩
def Dx(nss:aw)(ns:aa):Int:=((bq nss).idxOf ns:Nat)
variable {cs nss:aw}
theorem zS(h:nss.Nodup){a b:aa}(ha:a∈nss)(hb:b∈nss):decide (Dx nss a<Dx nss b)=HT.lexLt a b:=by
 have pm:(bq nss).Perm nss:=aaE _ _;have r:=jd h;have ma:=aba (pm.mem_iff.mpr ha);have mb:=aba (pm.mem_iff.mpr hb);have ea:(bq nss)[(bq nss).idxOf a]=a:=abC ma;have eb:(bq nss)[(bq nss).idxOf b]=b:=abC mb;have up:=List.pairwise_iff_getElem.mp r;unfold Dx;cases e:HT.lexLt a b with
 |true =>
  refine aaP ?_;rcases Nat.lt_trichotomy ((bq nss).idxOf a) ((bq nss).idxOf b)with c|c|c
  ·left
  ·have:a=b:=by rw[<- ea,<- eb];congr 1
   subst this;rw[kz _ _ e]at e;cases e
  ·have:=up _ _ mb ma c;rw[ea,eb,kz _ _ e]at this;cases this
 |false =>
  refine aaT λc=>?_;have:=up _ _ ma mb (by left);rw[ea,eb,e]at this;cases this
theorem Dv{a b:aa}(ha:a∈nss)(hb:b∈nss)(e:Dx nss a=Dx nss b):a=b:=by
 have pm:(bq nss).Perm nss:=aaE _ _;have ma:=aba (pm.mem_iff.mpr ha);have mb:=aba (pm.mem_iff.mpr hb);have ea:(bq nss)[(bq nss).idxOf a]=a:=abC ma;have eb:(bq nss)[(bq nss).idxOf b]=b:=abC mb;unfold Dx at e;rw[<- ea,<- eb];congr 1;left
theorem v9:∀{aJ:ak} {ns ms:aa},IntsAre aJ ns->IntsAre aJ ms->ns=ms
 |_,_,_,.nil,.nil=>rfl
 |_,_,_,.cons n t h,.cons _ _ h'=>by rw[v9 h h']
variable {h h':Heap}{vs:ak}
theorem CO(t:kO h vs nss){i j:Nat}(hi:i<nss.length)(hj:j<nss.length)(e:vs[i]?=vs[j]?):nss[i]=nss[j]:=by
 obtain⟨x,aJ,e1,⟨o,h1,_,n1,d1⟩,i2⟩:=t.2 i _ (aaq hi);obtain⟨y,AB,e2,⟨o',h2,_,n2,d2⟩,j2⟩:=t.2 j _ (aaq hj);rw[e1,e2]at e;cases e;rw[h1]at h2;cases h2;rw[d1]at d2;injection d2 with d2 _;have:aJ=AB:=by simpa using d2
 subst this;exact v9 i2 j2
structure Fn(vs:ak)(nss:aw):Prop where
 l:vs.length=nss.length
 f:∀(i j:Nat) (hi:i<nss.length) (hj:j<nss.length),vs[i]?=vs[j]?->nss[i]=nss[j]
theorem kO.fn(t:kO h vs nss):Fn vs nss:=⟨t.1,λi j hi hj e=>CO t hi hj e⟩
noncomputable def KH(vs:ak)(nss:aw)(x:Keyed):Int:=by
 classical
 exact if h:∃i,i<nss.length/\vs[i]?=some x.1 then Dx nss (nss.getD h.choose [])else 0
theorem mJ(t:Fn vs nss){i:Nat}(hi:i<nss.length){x:Keyed}(e:vs[i]?=some x.1):KH vs nss x=Dx nss nss[i]:=by
 have hx:∃i,i<nss.length/\vs[i]?=some x.1:=⟨i,hi,e⟩
 have hc:=hx.choose_spec;unfold KH;rw[dif_pos hx];have:nss[hx.choose]'hc.1=nss[i]:=t.f _ _ hc.1 hi (hc.2.trans e.symm);rw[<- this];simp[hc.1]
section
variable {prog:aB}{w:World}{A:az}{E:au}{s:Shared}
theorem DW{κ:SortKind}(nM:nss.Nodup)(t:Fn vs nss)(cL:∀(i j:Nat) (hi:i<nss.length) (hj:j<nss.length) (a b:Value) (E':au) (Q:Bool->Shared->Prop),vs[i]?=some a->vs[j]?=some b->Q (HT.lexLt nss[i] nss[j]) s->wpAny (model prog w) A (keyLt' κ a b) Q E' s):TS.ox prog w A E s κ (pairsOf vs) (KH vs nss):=by
 have key:∀x∈(pairsOf vs).toList,∃i,∃hi:i<nss.length,vs[i]?=some x.1:=λx hx=>by
  rw[pairsOf_toList]at hx;obtain⟨i,hi⟩:=List.mem_iff_getElem?.mp hx;rw[List.getElem?_zip_eq_some]at hi;have cL:i<nss.length:=by
   rw[<- t.l];obtain⟨h,_⟩:=List.getElem?_eq_some_iff.mp hi.1;exact h
  exact⟨i,cL,hi.1⟩
 intro x y hx hy st Q lA hq;obtain⟨i,hi,ei⟩:=key x hx;obtain⟨j,hj,ej⟩:=key y hy;rw[mJ t hi ei,mJ t hj ej,zS nM (List.getElem_mem hi) (List.getElem_mem hj)]at hq;rw[lt'_eq];refine aah (abi ?_);rw[lA];refine aah (wpS_lift (abh (cL i j hi hj x.1 y.1 _ _ ei ej ⟨rfl,?_⟩)));exact aaj hq
theorem wL(nM:nss.Nodup)(t:Fn vs nss):TS.Pn (pairsOf vs) (KH vs nss):=by
 have inj:∀x∈(pairsOf vs).toList,∃i,∃hi:i<nss.length,vs[i]?=some x.1/\vs[i]?=some x.2:=λx hx=>by
  rw[pairsOf_toList]at hx;obtain⟨i,hi⟩:=List.mem_iff_getElem?.mp hx;rw[List.getElem?_zip_eq_some]at hi;have cL:i<nss.length:=by
   rw[<- t.l];obtain⟨h,_⟩:=List.getElem?_eq_some_iff.mp hi.1;exact h
  exact⟨i,cL,hi.1,hi.2⟩
 refine⟨?_,λx hx y hy e=>?_⟩
 ·rw[pairsOf_toList];refine List.pairwise_iff_getElem.mpr λi j hi hj de e=>?_;rw[List.length_zip,Nat.min_self]at hi hj;rw[List.getElem_zip,List.getElem_zip]at e;have e':vs[i]?=vs[j]?:=by rw[List.getElem?_eq_getElem hi,List.getElem?_eq_getElem hj];exact aaR some (Prod.ext_iff.mp e).1
  have:=t.f i j (by rw[<- t.l];exact hi) (by rw[<- t.l];exact hj) e';have:=(abP nM).mp this;left
 ·obtain⟨i,hi,e1,e2⟩:=inj x hx;obtain⟨j,hj,f1,f2⟩:=inj y hy;rw[mJ t hi e1,mJ t hj f1]at e;have:=(abP nM).mp (Dv (aaH hi) (aaH hj) e);subst this;rw[e1]at f1;rw[e2]at f2;exact Prod.ext (aap f1) (aap f2)
theorem zE{κ:SortKind}(nM:nss.Nodup)(t:Fn vs nss){aP:SortSt}(B:TS.SB (pairsOf vs) κ aP)(O:TS.On (KH vs nss) (arrOf aP) 0 (pairsOf vs).size):∃p,Arr p vs.length/\(p.toList.map λi=>nss.getD i [])=bq nss/\(arrOf aP).map (·.2)=List.toArray (p.toList.map λi=>vs.getD i Value.none)/\failedOf aP=none:=by
 have hl:=t.l;have e0:(pairsOf vs).toList=(List.range vs.length).map λi=>(vs.getD i Value.none,vs.getD i Value.none):=by
  rw[pairsOf_toList];refine abq (by simp) λi h1 h2=>?_;rw[List.length_zip,Nat.min_self]at h1;simp[h1]
 obtain⟨q,hq,eq⟩:=zZ _ (Array.perm_iff_toList_perm.mp B.perm) _ e0;have hz:(pairsOf vs).size=vs.length:=by rw[<- Array.length_toList,e0];simp
 have Yd:q.length=vs.length:=by rw[hq.length_eq];simp
 have Yc:∀i∈q,i<vs.length:=λi hi=>List.mem_range.mp (hq.mem_iff.mp hi);have D:=wL nM t;refine⟨q.toArray,⟨by simp[Yd],by simpa using hq⟩,?_,?_,B.failed⟩
 ·refine qX nM ?_ ?_
  ·refine List.pairwise_iff_getElem.mpr λi j hi hj de=>?_;simp only[List.length_map]at hi hj;have hi:i<q.length:=by simpa using hi
   have hj:j<q.length:=by simpa using hj
   have o:=O i j (aaF _) (by left) (by left);have ne:=D.ne B (i:=i) (j:=j) (by left) (by left) (by left);have g:∀k (hk:k<q.length),∃hv:q[k]<nss.length,TS.R (KH vs nss) (arrOf aP) k=Dx nss nss[q[k]]:=λk hk=>by
    have hv:=Yc q[k] (aaH hk);refine⟨by left,?_⟩;have e1:(arrOf aP)[k]?=some (vs.getD q[k] Value.none,vs.getD q[k] Value.none):=by
     rw[<- Array.getElem?_toList,eq,List.getElem?_map,List.getElem?_eq_getElem hk];rfl
    rw[TS.fh e1];exact mJ t (by left) (by simp[hv])
   obtain⟨vi,gi⟩:=g i hi;obtain⟨vj,gj⟩:=g j hj;rw[gi,gj]at o ne;have:=zS nM (aaH vi) (aaH vj);rw[decide_eq_true (by left)]at this;simp only[List.getElem_map,List.toList_toArray];simpa [vi,vj]using this.symm
  ·have e:nss=(List.range nss.length).map λi=>nss.getD i []:=by
    refine abq (by simp) λi h1 h2=>?_;simp[h1]
   conv=>rhs;rw[e]
   rw[hl]at hq;exact(by simpa using hq:q.toArray.toList.Perm _).map _
 ·apply Array.toList_inj.mp;rw[Array.toList_map,eq,List.map_map];simp[Function.comp_def]
theorem zo{a:Addr}{n:Nat}{P:PySem.Fin->Shared->Prop}(ho:s.heap.get? a=some (seqObj "list" vs.toArray n))(tw:vs.length<100000)(nM:nss.Nodup)
  (ht:Fn vs nss) (KP:SortKind->Prop) (Th:vs≠[]->∀Q:SortKind->Shared->Prop,(∀κ,KP κ->Q κ ({ s with heap:=((s.heap.update a (Obj.mapSeq λ_=>#[])).push (seqObj "tuple" vs.toArray 0)).push (seqObj "list" #[] 0) }:Shared))->wpAny (model prog w) A (keyKind' vs.toArray) Q E ({ s with heap:=((s.heap.update a (Obj.mapSeq λ_=>#[])).push (seqObj "tuple" vs.toArray 0)).push (seqObj "list" #[] 0) }:Shared))
  (cL:∀κ,KP κ->∀(i j:Nat) (hi:i<nss.length) (hj:j<nss.length) (a' b':Value) (E':au) (Q:Bool->Shared->Prop),vs[i]?=some a'->vs[j]?=some b'->Q (HT.lexLt nss[i] nss[j]) ({ s with heap:=((s.heap.update a (Obj.mapSeq λ_=>#[])).push (seqObj "tuple" vs.toArray 0)).push (seqObj "list" #[] 0) }:Shared)->wpAny (model prog w) A (keyLt' κ a' b') Q E' ({ s with heap:=((s.heap.update a (Obj.mapSeq λ_=>#[])).push (seqObj "tuple" vs.toArray 0)).push (seqObj "list" #[] 0) }:Shared))
  (h:∀p:Array Nat,Arr p vs.length->(p.toList.map λi=>nss.getD i [])=bq nss->P (.done (.ret .none)) { s with heap:=sortedHeap s.heap a vs (List.toArray (p.toList.map λi=>vs.getD i Value.none)) }) :
  wpAny (model prog w) A (Builtin.«list.sort» ⟨[.ref a],[]⟩) P E s:=by
 rw[list_sort_plain];have ha:a<s.heap.objs.size:=aai ho;have hsz:vs.toArray.size=vs.length:=by simp
 have hz:vs.length<=sizeLine:=by rw[sizeLine_eq];left
 have hl:=ht.l;refine aaa (listItems_at ho rfl (aaa (listUpdate_at ho rfl ?_ (by rw[hsz];exact hz) (aaF _))));obtain⟨e1,F7⟩:∃e1,(s.heap.update a (Obj.mapSeq λ_=>#[])).get? a=some (seqObj "list" #[] e1):=⟨_,get?_update_seq ho (λ_=>#[])⟩
 refine aaa (seqEpoch_at F7 rfl (aaa (wpAny_newTuple (aaa (acf (aaD ?_) (aaF _))) (by simpa using hz))));have VX:(((s.heap.update a (Obj.mapSeq λ_=>#[])).push (seqObj "tuple" vs.toArray 0)).push (seqObj "list" #[] 0)).get? a=some (seqObj "list" #[] e1):=aag _ (aag _ F7);show wpAny (model prog w) A _ P E ({ s with heap:=((s.heap.update a (Obj.mapSeq λ_=>#[])).push (seqObj "tuple" vs.toArray 0)).push (seqObj "list" #[] 0) }:Shared);dsimp only;have fin:∀(aP:SortSt) (p:Array Nat),Arr p vs.length->(p.toList.map λi=>nss.getD i [])=bq nss->(arrOf aP).map (·.2)=List.toArray (p.toList.map λi=>vs.getD i Value.none)->failedOf aP=none->wpAny (model prog w) A (do
   let touched:=(<- seqEpoch a) != e1
   Builtin.List.listUpdate (.ref a) λ_=>(arrOf aP).map (·.2)
   if let some e:=failedOf aP then rule "list.sort.comparison-raised";throw e
   if touched then rule "list.sort.modified";raiseError "ValueError" "list modified during sort"
   ret .none) P E ({ s with heap:=((s.heap.update a (Obj.mapSeq λ_=>#[])).push (seqObj "tuple" vs.toArray 0)).push (seqObj "list" #[] 0) }:Shared):=by
  intro aP p hp hs hA hF;refine aaa (seqEpoch_at VX rfl ?_);rw[hA];refine aaa (listUpdate_at VX rfl ?_ (aaF _) (by rw[List.size_toArray,List.length_map,Array.length_toList,hp.sz];exact aci hz));rw[hF];simp only[bne_self_eq_false,Bool.false_eq_true,if_false];exact aab (h p hp hs)
 by_cases h2:vs.toArray.size<2
 ·rw[if_pos h2,if_pos h2];refine aaa (aab ?_);rw[StateT.run_pure];refine aaa (aab ?_);rw[hsz]at h2;have TN:Arr (List.toArray (List.range vs.length)) vs.length:=⟨by simp,by simp⟩
  refine fin (SortSt.mk' general' (vs.toArray.zip vs.toArray) #[] 7 none) (List.toArray (List.range vs.length)) TN ?_ ?_ rfl
  ·rw[hl]at TN ⊢;exact xx nM TN λi j de hj=>by left
  ·apply Array.toList_inj.mp;show(Array.map (·.2) (vs.toArray.zip vs.toArray)).toList=_;rw[Array.toList_map,show(vs.toArray.zip vs.toArray)=pairsOf vs from rfl,pairsOf_toList,List.map_snd_zip (Nat.le_refl _)];refine abq (by simp) λi h1 h2=>?_;simp[h1]
 ·rw[if_neg h2,if_neg h2];rw[hsz]at h2;refine aaa (Th (λz=>by rw[z]at h2;simp at h2) _ λκ hk=>?_);have W:=TS.y2 (prog:=prog) (w:=w) (A:=A) (E:=E) (s:=({ s with heap:=((s.heap.update a (Obj.mapSeq λ_=>#[])).push (seqObj "tuple" vs.toArray 0)).push (seqObj "list" #[] 0) }:Shared)) (st:=SortSt.mk' κ (pairsOf vs) #[] 7 none) (Q:=λ_ aP=>∃p,Arr p vs.length/\(p.toList.map λi=>nss.getD i [])=bq nss/\(arrOf aP).map (·.2)=List.toArray (p.toList.map λi=>vs.getD i Value.none)/\failedOf aP=none) (DW nM ht (cL κ hk)) (wL nM ht) ⟨Array.Perm.refl _,rfl,rfl⟩ rfl (by
   have:(pairsOf vs).toList.length=vs.length:=by rw[pairsOf_toList,List.length_zip,Nat.min_self]
   rw[Array.length_toList]at this;left) λaP B O=>zE nM ht B O
  refine aaa (aaw W (λr s' bN=>?_) λ_ _ e=>e);obtain⟨e,p,hp,hs,hA,hF⟩:=bN;subst e;exact fin r.2 p hp hs hA hF
theorem xy{a:Addr}{n:Nat}{P:PySem.Fin->Shared->Prop}(hu:A.units<cLine)(ho:s.heap.get? a=some (seqObj "list" vs.toArray n))(tw:vs.length<100000)(nM:nss.Nodup)
  (ht:kO (((s.heap.update a (Obj.mapSeq λ_=>#[])).push (seqObj "tuple" vs.toArray 0)).push (seqObj "list" #[] 0)) vs nss)
  (h:∀p:Array Nat,Arr p vs.length->(p.toList.map λi=>nss.getD i [])=bq nss->P (.done (.ret .none)) { s with heap:=sortedHeap s.heap a vs (List.toArray (p.toList.map λi=>vs.getD i Value.none)) }) :
  wpAny (model prog w) A (Builtin.«list.sort» ⟨[.ref a],[]⟩) P E s :=
 zo ho tw nM ht.fn B1 (λx_ Q hQ=>kind_any ht x_ hQ) (λκ hk i j hi hj a' b' E' Q ea eb hq=>by
  obtain⟨x,aJ,e1,i1,i2⟩:=ht.2 i _ (aaq hi);obtain⟨y,AB,e2,j1,j2⟩:=ht.2 j _ (aaq hj);rw[e1]at ea;rw[e2]at eb;cases ea;cases eb;exact H9 hk hu i1 j1 i2 j2 hq) h
end
variable {Q:Value->Shared->Prop}{ep:Nat}
section
variable {prog:aB}{w:World}{A:az}{E:au}{s:Shared}
theorem BB{es:Array DictEntry}(hh:A.handled=none)(I d:Addr)(x_:d≠I):Walks prog w A I [I,d] [I] es.size (λi v=>∃e,es[i]?=some e/\v=e.key) (λi h=>h.IsKeyIter I d i es.size ep/\iS h d es ep) where
 sub:=λb hb=>by simp at hb;simp[hb]
 frame:=λ_ _ _ st hk=>⟨st.1.at λo e=>hk I (by simp) o e,let ⟨o,ho,r⟩:=st.2;⟨o,hk d (by simp) o ho,r⟩⟩
 item:=λi s Q E hi st hQ=>EG st.1 st.2 hi λh' oe tj=>hQ _ h' s.toks ⟨es[i],aaX hi,rfl⟩ ⟨oe,let ⟨o,ho,r⟩:=st.2;⟨o,tj.extBut d o x_ ho,r⟩⟩ λb o hb e=>tj.extBut b o (λh=>hb (by simp[h])) e
 done:=λs Q E st hQ=>J5 hh st.1 st.2 (aak _) λh' Tw=>hQ h' s.toks λb o hb e=>Tw b o (λh=>hb (by simp[h])) e
 self:=λ_ _ _ _ st hQ=>wpAny_pyIter_keyiter st.1 hQ
theorem JZ{d:Addr}{es:Array DictEntry}(lo:(d==sysModules)=false):PySem.W.KdlSrc prog w "dict" d d es.size (λi v=>∃e,es[i]?=some e/\v=e.key) (λh=>iS h d es ep) where
 type:=λ_ hm=>hm.typeIs
 there:=λ_ hm=>let ⟨_,ho,_⟩:=hm;⟨aai ho,aai ho⟩
 keep:=λ_ _ hm hk=>let ⟨o,ho,r⟩:=hm;⟨o,hk d (.inl rfl) o ho,r⟩
 notList:=by decide
 notTuple:=by decide
 hint:=λ_ _ _ _ hm hq=>PySem.W.kdl_hint_dict hm.typeIs hq
 iter:=λ_ _ hh hm=>⟨_,_,(λ_ _ hq=>EH lo hm hq),BB hh _ d (let ⟨_,ho,_⟩:=hm;aan (aai ho)),⟨⟨_,aal _ rfl,rfl,rfl⟩,let ⟨o,ho,r⟩:=hm;⟨o,aag _ ho,r⟩⟩⟩
theorem qW{d:Addr}{es:Array DictEntry}(hh:A.handled=none)(hu:A.units+2<cLine)(lo:(d==sysModules)=false)(hm:iS s.heap d es ep)(tw:es.size<1000)(nM:nss.Nodup)(ht:kO s.heap (es.toList.map (·.key)) nss)
  (h:∀(S:Addr) (h':Heap) (tk e:Nat) (p:Array Nat),s.heap.get? S=none->(∀b o,s.heap.get? b=some o->h'.get? b=some o)->Arr p es.size->(p.toList.map λi=>nss.getD i [])=bq nss ->
   h'.get? S=some (seqObj "list" (List.toArray (p.toList.map λi=>(es.toList.map (·.key)).getD i Value.none)) e)->Q (.ref S) { s with heap:=h',toks:=tk }) :
  wpAny (model prog w) A (call (.builtin "sorted") [.ref d]) Q E s:=by
 refine Calls.call_function_entry kind_sorted plain_sorted entry_sorted (args_sorted1 _) ?_;unfold Builtin.«sorted»;have hz:es.size<=sizeLine:=by rw[sizeLine_eq];left
 refine aaa (m:=checkCount "sorted" 1 1 _) (aab (aaa (PySem.W.kdu_collect (A:=A.in1) (JZ lo) hh hm hz λh1 tk acc hk cY=>?_)));have N9:acc.toList=es.toList.map (·.key):=by
  refine abH λi=>?_;rw[List.getElem?_map,Array.getElem?_toList,Array.getElem?_toList];by_cases hi:i<es.size
  ·have qI:i<acc.size:=by rw[cY.1];exact hi
   obtain⟨e,he,hv⟩:=cY.2 i acc[i] (aaX qI);rw[Array.getElem?_eq_getElem qI,he,hv];rfl
  ·rw[Array.getElem?_eq_none (by rw[cY.1];left),Array.getElem?_eq_none (by left)];rfl
 rw[N9];generalize Sw:es.toList.map (·.key)=vs at *;have K4:vs.length=es.size:=by rw[<- Sw];simp
 refine aaa (acf ?_ (by rw[K4];exact hz));show wpAny _ _ _ _ _ ({ s with heap:=h1.push (seqObj "list" vs.toArray 0),toks:=tk }:Shared);have NQ:(h1.push (seqObj "list" vs.toArray 0)).get? h1.objs.size=some (seqObj "list" vs.toArray 0):=aal _ rfl;have k6:∀b o,s.heap.get? b=some o->((((h1.push (seqObj "list" vs.toArray 0)).update h1.objs.size (Obj.mapSeq λ_=>#[])).push (seqObj "tuple" vs.toArray 0)).push (seqObj "list" #[] 0)).get? b=some o:=λb o e=>by
  refine aag _ (aag _ ?_);rw[Heap.get?_update_other _ _ (Nat.ne_of_gt (Heap.lt_size (hk b o e)))];exact aag _ (hk b o e)
 have hle:s.heap.get? h1.objs.size=none:=by
  cases q:s.heap.get? h1.objs.size with
  |none=>rfl
  |some o=>exact absurd (aai (hk _ o q)) (aav _)
 refine aaa (aaD (aaI slot_list_sort ⟨_,NQ,rfl⟩ entry_list_sort (xy (s:={ s with heap:=h1.push (seqObj "list" vs.toArray 0),toks:=tk }) (nss:=nss) (show A.in1.in1.units<cLine by show A.units+1+1<cLine;left) NQ (by rw[K4];left) nM (ht.mono k6) λp hp hs=>⟨_,rfl,?_⟩) (args_list_sort _)));obtain⟨e,he⟩:=sortedHeap_at (out:=List.toArray (p.toList.map λi=>vs.getD i Value.none)) NQ;refine aab ⟨_,rfl,h h1.objs.size _ tk e p hle (λb o e=>?_) (by rw[<- K4];exact hp) hs he⟩;have cL:=aai (hk b o e);rw[sortedHeap_old (Nat.ne_of_lt cL) (by rw[size_push'];exact Nat.lt_succ_of_lt cL)];exact aag _ (hk b o e)
end
section
variable {α β:Type}
noncomputable def bK:aw->List α->aa->Option α
 |c'::cs,v::vs,c=>if c'=c then some v else bK cs vs c
 |_,_,_=>none
noncomputable def setC:aw->List α->aa->α->List α
 |c'::cs,v'::vs,c,v=>(if c'=c then v else v')::setC cs vs c v
 |_,_,_,_=>[]
noncomputable def aS(cs:aw)(c:aa):aw:=if c∈cs then cs else cs++[c]
noncomputable def kN(cs:aw)(as:List α)(c:aa)(a:α):List α:=if c∈cs then as else as++[a]
def bz(cs:aw)(vs:List α)(c:aa)(v:α):List α:=if c∈cs then setC cs vs c v else vs++[v]
end
section
variable {zs:List (aa×Addr×Value)}{c:aa}
theorem iL:∀(zs:List (aa×Addr×Value)) (c:aa),(atKey zs c).map (·.2)=bK (zs.map (·.1)) (zs.map (·.2.2)) c
 |[],_=>rfl
 |z::zs,c=>by
  have ih:=iL zs c;unfold atKey at ih ⊢;rw[List.find?_cons];show _=if z.1=c then some z.2.2 else bK (zs.map (·.1)) (zs.map (·.2.2)) c
  by_cases e:z.1=c
  ·rw[decide_eq_true e,if_pos e];rfl
  ·rw[decide_eq_false e,if_neg e];exact ih
theorem du:∀(zs:List (aa×Addr×Value)) (c:aa),(atKey zs c).isSome=true ↔ c∈zs.map (·.1)
 |[],c=>by simp[atKey]
 |z::zs,c=>by
  have ih:=du zs c;unfold atKey at ih ⊢;rw[List.find?_cons,List.map_cons,List.mem_cons];by_cases e:z.1=c
  ·rw[decide_eq_true e];simp[e]
  ·rw[decide_eq_false e];rw[ih];exact⟨.inr,λh=>h.resolve_left λz=>e z.symm⟩
theorem fw(a:Addr)(v:Value):(storedH zs c a v).map (·.1)=aS (zs.map (·.1)) c:=by
 unfold storedH aS;by_cases h:c∈zs.map (·.1)
 ·rw[if_pos ((du zs c).mpr h),if_pos h,List.map_map];refine aaL λz _=>?_;show(putAt c v z).1=z.1;unfold putAt;split<;>rfl
 ·rw[if_neg (λz=>h ((du zs c).mp z)),if_neg h,List.map_append];rfl
theorem kW(a:Addr)(v:Value):(storedH zs c a v).map (·.2.1)=kN (zs.map (·.1)) (zs.map (·.2.1)) c a:=by
 unfold storedH kN;by_cases h:c∈zs.map (·.1)
 ·rw[if_pos ((du zs c).mpr h),if_pos h,List.map_map];refine aaL λz _=>?_;show(putAt c v z).2.1=z.2.1;unfold putAt;split<;>rfl
 ·rw[if_neg (λz=>h ((du zs c).mp z)),if_neg h,List.map_append];rfl
theorem rE(v:Value):∀zs:List (aa×Addr×Value),(zs.map (putAt c v)).map (·.2.2)=setC (zs.map (·.1)) (zs.map (·.2.2)) c v
 |[]=>rfl
 |z::zs=>by
  show(putAt c v z).2.2::((zs.map (putAt c v)).map (·.2.2))=(if z.1=c then v else z.2.2)::setC (zs.map (·.1)) (zs.map (·.2.2)) c v;rw[rE v zs];unfold putAt;by_cases e:z.1=c
  ·rw[if_pos e,if_pos e]
  ·rw[if_neg e,if_neg e]
theorem kU(a:Addr)(v:Value):(storedH zs c a v).map (·.2.2)=bz (zs.map (·.1)) (zs.map (·.2.2)) c v:=by
 unfold storedH bz;by_cases h:c∈zs.map (·.1)
 ·rw[if_pos ((du zs c).mpr h),if_pos h];exact rE v zs
 ·rw[if_neg (λz=>h ((du zs c).mp z)),if_neg h,List.map_append];rfl
end
theorem qK{c:aa}{v:V}{u:Value}(r:RelV v u):∀{cs:aw} {xs:af} {us:ak},Vals xs us->Vals (setC cs xs c v) (setC cs us c u)
 |[],_,_,h=>by cases h<;>exact .nil
 |c'::cs,_,_,h=>by
  cases h with
  |nil=>exact .nil
  |cons h t =>
   refine .cons ?_ (qK r t);show RelV (if c'=c then v else _) (if c'=c then u else _);by_cases e:c'=c
   ·rw[if_pos e,if_pos e];exact r
   ·rw[if_neg e,if_neg e];exact h
theorem oA{v:V}{u:Value}(r:RelV v u):∀{xs:af} {us:ak},Vals xs us->Vals (xs++[v]) (us++[u])
 |_,_,.nil=>.cons r .nil
 |_,_,.cons h t=>.cons h (oA r t)
theorem qL{xs:af}{us:ak}(h:Vals xs us){c:aa}{v:V}{u:Value}(r:RelV v u):Vals (bz cs xs c v) (bz cs us c u):=by
 unfold bz;by_cases e:c∈cs
 ·rw[if_pos e,if_pos e];exact qK r h
 ·rw[if_neg e,if_neg e];exact oA r h
theorem jD:∀{cs:aw} {xs:af} {us:ak} (_:Vals xs us) (c:aa),sY (bK cs xs c) (bK cs us c)
 |[],_,_,_,_=>by cases ‹Vals _ _› <;> exact True.intro
 |c'::cs,_,_,h,c=>by
  cases h with
  |nil=>exact True.intro
  |cons h t =>
   show sY (if c'=c then some _ else _) (if c'=c then some _ else _);by_cases e:c'=c
   ·rw[if_pos e,if_pos e];exact h
   ·rw[if_neg e,if_neg e];exact jD t c
variable {pos pos':Pos}
section
variable {X:Cx}{pins:ao}{σ:St}{H:Hp}{s:Shared}{p b:Addr}{cs:aw}{as:aR}{xs:af}{ep:Nat}{c:aa}{A:az}{E:au}
theorem items_int:∀{c:aa} {aJ:ak},Vals (c.map V.int) aJ->ItemsAre (intKind X.prog X.w) c aJ
 |[],_,h=>by cases h;exact .nil
 |i::c,_,h=>by
  cases h with
  |cons h t =>
   obtain⟨t',rfl⟩:=h;exact .cons (by simp[intKind,Value.isInt]) (items_int t)
theorem mW(I:Inv X pins σ H s)(h:aW X.K H b (c.map V.int)):(tupleKind (intKind X.prog X.w)).is s.heap c b:=by
 obtain⟨aJ,rv,⟨o,h1,h2,n,h3⟩,_⟩:=I.tuple h;exact⟨o,aJ.toArray,n,h1,h2,h3,by simpa using items_int rv⟩
theorem lZ(I:Inv X pins σ H s)(h:H p=some (.ext (DO p cs as xs ep)))(k:dv (aW X.K H) as cs):
  ∃(zs:List (aa×Addr×Value)) (o:Obj) (es:Array DictEntry),zs.map (·.1)=cs/\zs.map (·.2.1)=as/\Vals xs (zs.map (·.2.2))/\s.heap.get? p=some o/\o.ExactDict/\o.data=.dict es ep /\
   s.heap.DictOfH (tupleKind (intKind X.prog X.w)) p zs/\es.toList=zs.map (entryOfKey (tupleKind (intKind X.prog X.w)))/\cs.length<=sizeLine/\(p==sysModules)=false:=by
 obtain⟨⟨zs,o,es,e1,e2,e3,ho,hx,hd,he,hn,hl,hs⟩,_⟩:=(show cu X.prog X.w H s.heap p (.ext (DO p cs as xs ep)) from I.cN p _ h)
 refine⟨zs,o,es,e1,e2,e3,ho,hx,hd,⟨o,es,ep,ho,hx,hd,he,λz hz=>?_,by rw[e1];exact hn⟩,he,hl,hs⟩;obtain⟨j,hj⟩:=List.mem_iff_getElem?.mp hz;exact mW I (k.tup j z.2.1 z.1 (by rw[<- e2,List.getElem?_map,hj];rfl) (by rw[<- e1,List.getElem?_map,hj];rfl))
theorem dict_cls(I:Inv X pins σ H s)(h:H p=some (.ext (DO p cs as xs ep))):s.TypeIs (.ref p) "dict" /\ ∀b,Value.ref p=.ref b->∃ob,s.heap.get? b=some ob/\ob.dict=none:=by
 obtain⟨⟨zs,o,es,e1,e2,e3,ho,hx,_⟩,_⟩:=(show cu X.prog X.w H s.heap p (.ext (DO p cs as xs ep)) from I.cN p _ h)
 exact⟨⟨o,ho,hx.1⟩,λb q=>by cases q;exact⟨o,ho,hx.2.1⟩⟩
theorem uF{v:V}{r:Value}{Q:Unit->Shared->Prop}(hu:A.units+1<cLine)(I:Inv X pins σ H s)(h:H p=some (.ext (DO p cs as xs ep)))(k:dv (aW X.K H) as cs)(hb:aW X.K H b (c.map V.int))(rv:RelV v r)(cL:cs.length<sizeLine)
  (hQ:∀j0 s',Inv X pins σ (upd H p (.ext (DO p (aS cs c) (kN cs as c b) (bz cs xs c v) j0))) s'->Q () s') :
  wpAny (model X.prog X.w) A (setItem (.ref p) (.ref b) r) Q E s:=by
 obtain⟨zs,o,es,e1,e2,e3,ho,hx,hd,dd,_,hl,hs⟩:=lZ I h k;have hz:zs.length<=sizeLine:=by rw[<- e1,List.length_map]at hl;exact hl
 refine wpAny_setItem_heap (hsz:=hz) (abD hu) (mW I hb) dd λh' UJ yM=>?_;obtain⟨q,Gh,j0,hq,h2,h3,h4,_,h5⟩:=UJ;refine hQ j0 _ (I.write (x:=p) (e:=p) (by rw[h];exact True.intro) (.inl rfl) (λb q hb z=>(yM.2 b hb).trans z) ⟨q,hq⟩ ⟨⟨storedH zs c b r,q,Gh,?_,?_,?_,hq,h2,h3,h4,?_,?_,hs⟩,⟨q,hq⟩,?_⟩)
 ·rw[fw,e1]
 ·rw[kW,e1,e2]
 ·rw[kU,e1];exact qL e3 rv
 ·rw[<- e1,<- fw (zs:=zs) (c:=c) b r];exact h5
 ·unfold aS;split
  ·exact hl
  ·rw[List.length_append,List.length_singleton];left
 ·rintro h1 Ua ⟨Ku,o',es'',f1,f2,f3,f4,f5⟩ kk;exact⟨Ku,o',es'',f1,f2,f3,kk _ f4,f5⟩
theorem DB:PE X (.Dict [] [] pos) (λ_ H Q=>∀p,H p=none->Q (.ref p) (upd H p (.ext (DO p [] [] [] 0)))):=λpins s σ H Q I h=>by
 have TH:sysModules<s.heap.objs.size:=abB (by decide) (show mainGlobals<s.heap.objs.size from(I.mod.glob.keeps I.bk).lt);refine wpAny_Dict_empty ⟨.ref s.heap.objs.size,_,I.laid (a:=s.heap.objs.size) (o:=.ext (DO s.heap.objs.size [] [] [] 0)) (t':=s.toks) (λ_ _ q=>aag _ q) (aak _) ?_,rfl,h _ (I.cN.fresh (aak _))⟩;have hg:(s.heap.push { cls:=.type "dict",data:=.dict #[] }).get? s.heap.objs.size=some { cls:=.type "dict",data:=.dict #[] }:=aal _ rfl;refine⟨⟨[],_,#[],rfl,rfl,.nil,hg,⟨rfl,rfl,rfl⟩,rfl,rfl,aaW,aaF _,beq_eq_false_iff_ne.mpr (abE (aan TH))⟩,⟨_,hg⟩,?_⟩;rintro h1 Ua ⟨Ku,o',es'',f1,f2,f3,f4,f5⟩ kk;exact⟨Ku,o',es'',f1,f2,f3,kk _ f4,f5⟩
end
variable {N:gR}{T:lg}{k':bj}
theorem lN{N':gR}{k:bj}{v:V}{d:D}(h:Rep T N k v d)(hf:aT anyF d=false):Rep T N' k' v d:=by
 have:=Rep.gen (T':=T) (N':=N') (g:=id) (P:=anyF) (C:=λ_ _=>True) (I:=λ_ _=>True) (λ_ _ h=>h) trivial (λ_ _ e=>e) (λ_ _ _ _ e _=>e) (λk k' p xs f _ hz _=>nomatch hz) h (k':=k') trivial hf;rw[dB]at this;exact this
theorem mH{T:lg}{N:gR}:∀{cs:aw} {k:bj} {n:Nat} {xs:af} {ds:ae} (_:aD T N k n xs ds) (c:aa),(bK cs xs c=none/\bK cs ds c=none)\/∃v d k',bK cs xs c=some v/\bK cs ds c=some d/\Rep T N k' v d/\d∈ds
 |[],_,_,_,_,_,_=>by cases ‹aD _ _ _ _ _ _› <;> exact .inl ⟨rfl,rfl⟩
 |c'::cs,_,_,_,_,r,c=>by
  cases r with
  |nil=>exact .inl ⟨rfl,rfl⟩
  | @cons _ _ v d vs ds h t =>
   by_cases e:c'=c
   ·exact .inr ⟨v,d,_,aaN e,aaN e,h,aaf⟩
   ·have e1:∀{α:Type} (a:α) (l:List α),bK (c'::cs) (a::l) c=bK cs l c:=λa l=>ack e;rw[e1,e1];rcases mH (cs:=cs) t c with h|⟨v',d',k',h1,h2,h3,h4⟩
    ·exact .inl h
    ·exact .inr ⟨v',d',k',h1,h2,h3,aae _ h4⟩
theorem rA{T:lg}{N:gR}{c:aa}{v:V}{d:D}(hv:∀k,Rep T N k v d):∀{cs:aw} {k:bj} {n:Nat} {xs:af} {ds:ae},aD T N k n xs ds->aD T N k n (setC cs xs c v) (setC cs ds c d)
 |[],_,_,_,_,r=>by cases r<;>exact .nil
 |c'::cs,_,_,_,_,r=>by
  cases r with
  |nil=>exact .nil
  |cons h t =>
   refine .cons ?_ (rA hv t);show Rep _ _ _ (if c'=c then v else _) (if c'=c then d else _);by_cases e:c'=c
   ·rw[if_pos e,if_pos e];exact hv _
   ·rw[if_neg e,if_neg e];exact h
theorem oH{T:lg}{N:gR}{v:V}{d:D}(hv:∀k,Rep T N k v d):∀{k:bj} {n:Nat} {xs:af} {ds:ae},aD T N k n xs ds->aD T N k n (xs++[v]) (ds++[d])
 |_,_,_,_,.nil=>.cons (hv _) .nil
 |_,_,_,_,.cons h t=>.cons h (oH hv t)
variable {ds xs:ae}
theorem zH{c:aa}{v:V}{d:D}(hv:∀k,Rep T N k v d){k:bj}{n:Nat}{xs:af}(r:aD T N k n xs ds):aD T N k n (bz cs xs c v) (bz cs ds c d):=by
 unfold bz;by_cases e:c∈cs
 ·rw[if_pos e,if_pos e];exact rA hv r
 ·rw[if_neg e,if_neg e];exact oH hv r
variable {as:aR}
theorem mV(k:dv T as cs){b:Addr}{c:aa}(hb:T b (c.map V.int)):dv T (kN cs as c b) (aS cs c):=by
 unfold kN aS;by_cases e:c∈cs
 ·rw[if_pos e,if_pos e];exact k
 ·rw[if_neg e,if_neg e];refine⟨by rw[List.length_append,List.length_append,k.len];rfl,λj a c' ha hc=>?_⟩;by_cases hj:j<as.length
  ·rw[List.getElem?_append_left hj]at ha;rw[List.getElem?_append_left (by rw[<- k.len];exact hj)]at hc;exact k.tup j a c' ha hc
  ·rw[List.getElem?_append_right (by left)]at ha;rw[List.getElem?_append_right (by rw[<- k.len];left),<- k.len]at hc;cases hz:j - as.length with
   |zero =>
    rw[hz]at ha hc;cases ha;cases hc;exact hb
   |succ m=>rw[hz]at ha;cases ha
variable {K:av}{τ:Addr->Option bj}
theorem bY.newD{G R:ah}{fv:aO}{H H':Hp}{p:Addr}(hp:H p=none)(hl:H' p=some (.ext (DO p [] [] [] 0))):bY K G R τ fv H H' (.ref p) (.bS .ow [] []):=by
 refine⟨λq=>if q=p then some []else none,λq k hq=>?_,.bS (ep:=0) (as:=[]) (xs:=[]) ⟨hl,by simp⟩ ⟨rfl,λj a c h=>by simp at h⟩ .nil⟩;by_cases uk:q=p
 ·subst uk;exact hp
 ·simp[uk]at hq
noncomputable def wK(xs:ae):O D:=match xs with
 |[]=>ok (.bS .ow [] [])
 |_::_=>none
noncomputable def qr(_:Scope)(_:aq)(e:Expr):Option (aA):=match e with
 |.Dict [] [] _=>some []
 |_=>none
variable {F:Addr->Prop}{X:Cx}{args:aA}{Φ:a_}
theorem EF{n:Nat}(hΦ:Φ n=wK){sc:Scope}{bl:aq}{k:Nat}(L:PX X sc bl k){e:Expr}(he:qr sc bl e=some args){cs:aF}(hs:lJ X F Φ cs args):PE X e (tD X F Φ (.cF n cs))/\PT X e (gm X F Φ (.cF n cs)):=by
 have h1:∃pos,e=.Dict [] [] pos/\args=[]:=by
  unfold qr at he;split at he
  ·cases he;exact⟨_,rfl,rfl⟩
  ·cases he
 obtain⟨pos,rfl,rfl⟩:=h1;cases cs with
 |cons _ _=>exact hs.elim
 |nil =>
  have this:PE X (.Dict [] [] pos) (tD X F Φ (.cF n [])):=by
   refine PE.imp (DB (X:=X) (pos:=pos)) λσ H Q hq p hp=>?_;obtain⟨R,τ,ρ,d,Si,ev,hq⟩:=hq;have ev:Φ n []=ok d:=ev;rw[hΦ]at ev;cases ev;exact hq _ _ (aI.upd hp) (bY.newD hp aV)
  exact⟨this,cE this λ_=>rfl⟩
noncomputable def three{α:Type}:List α->Option (α×α×α)
 |[a,b,c]=>some (a,b,c)
 |_=>none
theorem zg{α:Type}{l:List α}{z:α×α×α}(h:three l=some z):l=[z.1,z.2.1,z.2.2]:=by
 unfold three at h;split at h
 ·cases h;rfl
 ·cases h
noncomputable def fg:D->Option (aw×ae)
 |.bS _ cs vs=>some (cs,vs)
 |_=>none
def keyOf:D->Option (aa)
 |.tup ks=>intsOf ks
 |_=>none
theorem j3{d:D}{z:aw×ae}(h:fg d=some z):∃f,d=.bS f z.1 z.2:=by
 cases d<;>first | (cases h;done) | (cases h;exact⟨_,rfl⟩)
theorem mZ{d:D}{c:aa}(h:keyOf d=some c):d=.tup (c.map D.int):=by
 cases d<;>first | (cases h;done)|skip
 rw[dt (show intsOf _=some c from h)]
def yv(xs:ae):O D:=match two xs with
 |some z=>match fg z.1 with
  |some d=>match keyOf z.2 with
   |some c=>match bK d.1 d.2 c with
    |some v=>if aT anyF v=false then ok v else none
    |none=>none
   |none=>none
  |none=>none
 |none=>none
theorem EI{r:D}(h:yv xs=ok r):∃f cs vs c,xs=[.bS f cs vs,.tup (c.map D.int)]/\bK cs vs c=some r/\aT anyF r=false:=by
 unfold yv at h;cases h1:two xs with
 |none=>rw[h1]at h;cases h
 |some z =>
  rw[h1]at h;have h:(match fg z.1 with|some d=>(match keyOf z.2 with|some c=>(match bK d.1 d.2 c with|some v=>if aT anyF v=false then ok v else none|none=>none)|none=>none)|none=>none)=ok r:=h;cases h2:fg z.1 with
  |none=>rw[h2]at h;cases h
  |some d =>
   rw[h2]at h;have h:(match keyOf z.2 with|some c=>(match bK d.1 d.2 c with|some v=>if aT anyF v=false then ok v else none|none=>none)|none=>none)=ok r:=h;cases h3:keyOf z.2 with
   |none=>rw[h3]at h;cases h
   |some c =>
    rw[h3]at h;have h:(match bK d.1 d.2 c with|some v=>if aT anyF v=false then ok v else none|none=>none)=ok r:=h;cases h4:bK d.1 d.2 c with
    |none=>rw[h4]at h;cases h
    |some v =>
     rw[h4]at h;obtain⟨hf,rfl⟩:=n9 (show(if aT anyF v=false then ok v else none)=ok r from h);obtain⟨f,e1⟩:=j3 h2;exact⟨f,d.1,d.2,c,by rw[gT h1,e1,mZ h3],h4,hf⟩
def RA(K:av):R2:=λx y H Q=>∃p b cs as xs ep c v,x=.ref p/\y=.ref b/\H p=some (.ext (DO p cs as xs ep))/\dv (aW K H) as cs/\aW K H b (c.map V.int)/\bK cs xs c=some v/\Q v H
theorem D1(hu:X.A.units+1<cLine):Ft X (RA X.K):=by
 intro value slice pins s σ H x y v u Q I rx ry h hs;obtain⟨p,b,cs,as,xs,ep,c,w,rfl,rfl,hp,hk,hb,hg,q⟩:=h;cases rx;cases ry;obtain⟨zs,o,es,e1,e2,e3,ho,hx,hd,dd,_,hl,x8⟩:=lZ I hp hk;have Ed:=jD (cs:=cs) e3 c;rw[hg]at Ed;obtain⟨u,F6,ru⟩:=sY.some_of Ed;have:(atKey zs c).map (·.2)=some u:=by rw[iL,e1];exact F6
 obtain⟨q',SO,rfl⟩:=Option.map_eq_some_iff.mp this;exact abn (x:=q'.2) dd.typeIs PySem.F.slot_dict_getitem.lookup
  (wpAny_getItem_heap (Q:=λr s'=>r=q'.2/\EP X pins σ Q r s') (abD hu) (mW I hb) dd SO ⟨rfl,w,H,I.tok _,ru,q⟩) hs
def kK(_:Scope)(_:aq)(e:Expr):Option (aA):=match jF e with
 |some z=>some [z.1,z.2]
 |none=>none
theorem J6{n:Nat}(hΦ:Φ n=yv){sc:Scope}{bl:aq}{k:Nat}(L:PX X sc bl k){e:Expr}(he:kK sc bl e=some args){cs:aF}(hs:lJ X F Φ cs args):PE X e (tD X F Φ (.cF n cs))/\PT X e (gm X F Φ (.cF n cs)):=by
 unfold kK at he;cases h1:jF e with
 |none=>rw[h1]at he;cases he
 |some z =>
  rw[h1]at he;cases he;obtain⟨pos,rfl⟩:=iy h1;obtain⟨⟨c1,c2,rfl,p1,p2⟩,_⟩:=ku hs;have this:PE X (.Subscript z.1 z.2 pos) (tD X F Φ (.cF n [c1,c2])):=by
   refine PE.imp (vK (D1 (F5 L.room)) p1 p2 hs.2.2.2.2.2.1) λσ H Q hq=>?_;obtain⟨R,τ,ρ,d,Si,ev,hq⟩:=hq;obtain⟨xs,cy,ev⟩:=aH ev;rw[hΦ]at ev;obtain⟨f,cs,vs,c,rfl,hg,hf⟩:=EI ev;obtain⟨x,ex,cy⟩:=aH cy;obtain⟨ys,uy,cy⟩:=aH cy;obtain⟨y,ey,Ow⟩:=aH uy;cases Ow;cases cy;refine tD.intro Si ex λv H1 e1 r1=>tD.intro (Si.go e1) ey λu H2 e2 r2=>?_;obtain⟨τ1,f1,q1⟩:=r1;obtain⟨τ2,f2,q2⟩:=r2;cases q1 with
   |bS hn hk hr=>cases q2 with
    |tup ht SK =>
     cases SK.ofInts;rcases mH hr c with ⟨_,hz⟩|⟨w,d',k',g1,g2,g3,_⟩
     ·rw[hg]at hz;cases hz
     ·rw[hg]at g2;cases g2;refine⟨_,_,_,_,_,_,c,w,rfl,rfl,e2 _ _ hn.dat,hk.imp λ_ _ h=>aW.same e2 h,ht,g1,hq w H2 (e1.trans e2) ⟨λ_=>none,λ_ _ h=>by simp at h,?_⟩⟩;exact(lN (N':=nd X.K R (jo (gP X F) τ (gQ (.cF n [c1,c2]))) (λ_=>none) H1) (k':=[]) g3 hf).imp (λ_ _ h=>aW.same e2 h) λ_ _ _ _ h=>nd.same e2 h
  exact⟨this,cE this λ_=>rfl⟩
def OG(xs:ae):O D:=match three xs with
 |some z=>match fg z.1 with
  |some d=>match keyOf z.2.1 with
   |some c=>if aQ anyF d.2=false/\aT anyF z.2.2=false then ok ((bK d.1 d.2 c).getD z.2.2)else none
   |none=>none
  |none=>none
 |none=>none
def o4(xs:ae):O D:=match three xs with
 |some z=>match z.1 with
  |.bS f cs vs=>match keyOf z.2.2 with
   |some c=>if bR f=true/\aT anyF z.2.1=false/\cs.length<ck then ok (.bS .ow (aS cs c) (bz cs vs c z.2.1))else none
   |none=>none
  |_=>none
 |none=>none
theorem sE{d:D}{r:D}(h:o4 (d::xs)=ok r):∃cs vs c x,d=.bS .ow cs vs/\xs=[x,.tup (c.map D.int)]/\aT anyF x=false/\cs.length<ck/\r=.bS .ow (aS cs c) (bz cs vs c x):=by
 unfold o4 at h;cases h1:three (d::xs)with
 |none=>rw[h1]at h;cases h
 |some z =>
  rw[h1]at h;have e0:=zg h1;obtain⟨d',x,y⟩:=z;obtain⟨rfl,rfl⟩:d=d'/\xs=[x,y]:=abt e0;cases d<;>first | (cases h;done)|skip
  rename_i f cs vs;have h:(match keyOf y with|some c=>if bR f=true/\aT anyF x=false/\cs.length<ck then ok (D.bS .ow (aS cs c) (bz cs vs c x))else none|none=>none)=ok r:=h;cases h3:keyOf y with
  |none=>rw[h3]at h;cases h
  |some c =>
   rw[h3]at h;obtain⟨⟨hf,hx,hl⟩,rfl⟩:=n9 (show(if bR f=true/\aT anyF x=false/\cs.length<ck then ok (D.bS .ow (aS cs c) (bz cs vs c x))else none)=ok r from h);cases f<;>first | (cases hf;done)|exact⟨cs,vs,c,x,rfl,by rw[mZ h3],hx,hl,rfl⟩
def l6(_:Scope)(_:aq)(st:Stmt):Option (Expr×aA):=match y8 st with
 |some z=>match one z.1 with
  |some t=>match jF t with
   |some y=>some (y.1,[z.2,y.2])
   |none=>none
  |none=>none
 |none=>none
variable {o value:Expr}{st:Stmt}
theorem uM{sc:Scope}{bl:aq}(h:l6 sc bl st=some (o,args)):∃v i pos' pos,st=.Assign [.Subscript o i pos'] v pos/\args=[v,i]:=by
 unfold l6 at h;cases h1:y8 st with
 |none=>rw[h1]at h;cases h
 |some z =>
  obtain⟨ts,v⟩:=z;rw[h1]at h;have h2:(match one ts with|some t=>(match jF t with|some y=>some (y.1,[v,y.2])|none=>none)|none=>none)=some (o,args):=h;clear h;cases h3:one ts with
  |none=>rw[h3]at h2;cases h2
  |some t =>
   rw[h3]at h2;have h4:(match jF t with|some y=>some (y.1,[v,y.2])|none=>none)=some (o,args):=h2;clear h2;cases h5:jF t with
   |none=>rw[h5]at h4;cases h4
   |some y =>
    rw[h5]at h4;cases h4;obtain⟨pos,rfl⟩:=pk h1;obtain rfl:=b9 h3;obtain⟨p,rfl⟩:=iy h5;exact⟨_,_,_,_,rfl,rfl⟩
mutual
theorem any_map(g:Fl->Fl):∀d:D,aT anyF (aY g d)=aT anyF d
 |.bW=>rfl
 |.bl _=>rfl
 |.int _=>rfl
 |.tup ds=>sT g ds
 |.lst _ ds=>rfl
 |.bS _ _ ds=>rfl
theorem sT(g:Fl->Fl):∀ds:ae,aQ anyF (aC g ds)=aQ anyF ds
 |[]=>rfl
 |d::ds=>by show(aT _ _||aQ _ _)=(aT _ d||aQ _ ds);rw[any_map g d,sT g ds]
end
mutual
theorem uR:∀d:D,aT anyF d=false->aT bL d=false
 |.bW,_=>rfl
 |.bl _,_=>rfl
 |.int _,_=>rfl
 |.tup ds,h=>xi ds h
 |.lst _ ds,h=>nomatch h
 |.bS _ _ ds,h=>nomatch h
theorem xi:∀ds:ae,aQ anyF ds=false->aQ bL ds=false
 |[],_=>rfl
 |d::ds,h=>by
  have h:=HF h;show(aT _ d||aQ _ ds)=false;rw[uR d h.1,xi ds h.2];rfl
end
theorem any_ints:∀c:aa,aQ anyF (c.map D.int)=false
 |[]=>rfl
 |i::c=>any_ints c
theorem GV{i:Expr}{l:Nat}{env:Env}:swapsWith value (some (.Subscript o i pos')) l env=pure false:=by
 unfold swapsWith;cases value<;>rfl
theorem zO{x:Str}{p0:Pos}{i:Expr}{tv to ti:TE}(hu:X.A.units+1<cLine)(hv:PE X value tv)(ho:PE X (.Name x p0) to)(hi:PE X i ti):
  PS X (.Assign [.Subscript (.Name x p0) i pos'] value pos) (λD σ H=>tv σ H λv H1=>to σ H1 λo H2=>ti σ H2 λy H3=>∃q b cs as xs ep c,o=.ref q/\y=.ref b/\H3 q=some (.ext (DO q cs as xs ep))/\dv (aW X.K H3) as cs/\aW X.K H3 b (c.map V.int)/\cs.length<sizeLine /\
   ∀j0,D.nx σ (upd H3 q (.ext (DO q (aS cs c) (kN cs as c b) (bz cs xs c v) j0)))):=by
 intro pins s σ H D I h;refine wpAny_Assign_Subscript (cV (hv pins s σ H _ I h) λr s1 ⟨v,H1,I1,rv,q1⟩=>cV (ho pins s1 σ H1 _ I1 q1) λu s2 ⟨o,H2,I2,rx,q2⟩=>cV (hi pins s2 σ H2 _ I2 q2) λiv s3 bN=>?_) GV;obtain⟨y,H3,I3,ry,q,b,cs,as,xs,ep,c,eo,ey,hd,hk,hb,hl,q3⟩:=bN;subst eo ey;obtain rfl:u=Value.ref q:=rx;obtain rfl:iv=Value.ref b:=ry;exact uF hu I3 hd hk hb rv hl λj0 s4 I4=>⟨σ,_,I4,q3 j0⟩
variable {ρ:bh}{σ:L2.St}
theorem SI.HD{R:Addr->Prop}{H:Hp}{i:Nat}(Si:SI X F R τ ρ σ H)(hi:ρ[i]?=some (some (.bS .ow cs ds))):
  ∃p as xs ep,σ[i]?=some (some (.ref p))/\H p=some (.ext (DO p cs as xs ep))/\τ p=some [i]/\dv (aW X.K H) as cs/\aD (aW X.K H) (nd X.K R (λ_=>False) τ H) [i] 0 xs ds:=by
 obtain⟨v,hv,rp⟩:=Si.rep i _ hi;cases rp with
 |bS h k r=>exact⟨_,_,_,_,hv,h.1,h.2,k,r⟩
theorem EE{n:Nat}(hΦ:Φ n=o4){sc:Scope}{bl:aq}{k:Nat}(L:PX X sc bl k)(hN:X.N.Nodup)(oT:∀x,X.fn x=true){x:Str}(he:l6 sc bl st=some (.Name x pos,args))
  {i:Nat} (hi:X.N[i]?=some x) (hl:L2.Loc X.env.scope x) (pe:PE X (.Name x pos) (pz i)) {cs:aF} (hs:lJ X F Φ cs args):PS X st (j_ X F Φ (.mut n i cs)):=by
 obtain⟨v,ix,p1,p2,rfl,rfl⟩:=uM he;obtain⟨⟨c1,c2,rfl,h1,h2⟩,_⟩:=ku hs;refine PS.imp (zO (F5 L.room) h1 pe h2) λD σ H hq=>?_;obtain⟨R,τ,ρ,r,Si,ev,hq⟩:=hq;obtain⟨xs,cy,ev⟩:=aH ev;obtain⟨y,ey,cy⟩:=aH cy;obtain⟨ys,uy,cy⟩:=aH cy;cases cy;obtain⟨kd,ek,Ow⟩:=aH uy;cases Ow;have key:∃cs vs c,kd=.tup (c.map DI.D.int)/\ρ[i]?=some (some (.bS .ow cs vs))/\aT anyF y=false/\cs.length<ck/\r=(.nx,ρ.set i (some (.bS .ow (aS cs c) (bz cs vs c y)))):=by
  cases hz:aQ bL [y,kd]with
  |true =>
   obtain⟨d,d',h⟩:=t8 ev hz;rw[hΦ]at h;obtain⟨cs,vs,c,x',_,e1,e2,_⟩:=sE h;have e3:aY bp y=x'/\aY bp kd=.tup (c.map DI.D.int):=by
    have:=abt e1;exact⟨this.1,(abt this.2).1⟩
   have a1:aT bL y=false:=uR y (by rw[<- any_map bp y,e3.1];exact e2);have a2:aT bL kd=false:=uR kd (by rw[<- any_map bp kd,e3.2];exact any_ints c);have:aQ bL [y,kd]=false:=by show(aT bL y||(aT bL kd||false))=false;rw[a1,a2];rfl
   rw[this]at hz;cases hz
  |false =>
   obtain⟨d,d',h,h',rfl⟩:=pS ev hz;rw[hΦ]at h';obtain⟨cs,vs,c,x',rfl,e1,e2,e3,rfl⟩:=sE h';cases e1;exact⟨cs,vs,c,rfl,h,e2,e3,rfl⟩
 obtain⟨cs,vs,c,rfl,ho,hf,hc,rfl⟩:=key;obtain⟨p,as,zs,ep,hv,hd,ht,hk,rs⟩:=Si.HD ho;refine tD.intro Si ey λu H1 e1 ru=>⟨.ref p,hv,tD.intro (Si.go e1) ek λw H2 e2 iD=>?_⟩
 obtain⟨τ1,f1,q1⟩:=ru;obtain⟨τ2,f2,q2⟩:=iD;cases q2 with
 | @tup _ b _ _ hb SK =>
  cases SK.ofInts;have es:=e1.trans e2;have sV:=Si.go es;have hd2:=es _ _ hd;have jX:ck=1000000:=rfl;have hz:sizeLine=16777216:=aaY;refine⟨p,b,cs,as,zs,ep,c,rfl,rfl,hd2,hk.imp λ_ _ h=>aW.same es h,hb,by left,λj0=>?_⟩;have hn:dE H2 p (.d cs as zs ep):=hd2;have rk:gC X R τ H2 u y:=mI ((lN (N':=nd X.K R (λ_=>False) τ H1) (k':=[]) q1 hf).imp (λ_ _ h=>aW.same e2 h) λ_ _ _ _ h=>nd.same e2 h) hf;obtain⟨p',QB,Ku,Y1,NG,Eg,NH,Eb,qH⟩:=sV.HD ho;rw[hv]at NG;cases NG;rw[hd2]at Eg;obtain⟨τ3,uS⟩:=sV.ML (m:=0) (n':=.d (aS cs c) (kN cs as c b) (bz cs zs c u) j0) (o:=.ext (DO p (aS cs c) (kN cs as c b) (bz cs zs c u) j0)) (d1:=.bS .ow (aS cs c) (bz cs vs c y)) (xs':=bz cs zs c u) (ds':=bz cs vs c y) ho hv hn ht (rs.imp (λ_ _ h=>aW.same es h) λ_ _ _ _ h=>nd.same es h) rk aV
   (λhN r=>.bS hN (mV ((hk.imp λ_ _ h=>aW.same es h).imp λ_ _ h=>kl hn h) (kl hn hb)) r) (λrs r=>zH (λk=>lN r hf) rs)
  exact hq σ _ R τ3 uS (jg sV es (λ_ h=>h) hn ht)
theorem HN{P:aB}{w:World}{H:Hp}{a:Addr}{o:HO}(x:cu P w H h a o):∃u,h.get? a=some u:=by
 cases o with
 |lst xs=>obtain⟨_,_,_,_,e⟩:=x;exact⟨_,e⟩
 |tup xs=>obtain⟨_,_,_,o,e,_⟩:=x;exact⟨_,e⟩
 |dK mU=>obtain⟨_,_,_,_,o,_,_,e,_⟩:=x;exact⟨_,e⟩
 |dT mU=>obtain⟨_,_,_,_,o,_,_,e,_⟩:=x;exact⟨_,e⟩
 |set S n=>obtain⟨o,_,_,_,e,_⟩:=x;exact⟨_,e⟩
 |ins C dx fs=>obtain⟨_,_,_,e,_⟩:=x;exact⟨_,e⟩
 |own y=>exact x
 |xd fs=>obtain⟨_,⟨o,_,_,e,_⟩,_⟩:=x;exact⟨_,e⟩
 |lM lo hi=>obtain⟨_,_,_,e⟩:=x;exact⟨_,e⟩
 |h_ o u=>exact⟨_,x.1⟩
 |FD ps=>exact⟨_,x⟩
 |met f y=>exact⟨_,x⟩
 |ext φ=>exact x.2.1
theorem Inv.Nr{pins:ao}{H:Hp}{s:Shared}{t':Nat}{a:Addr}{o:HO}(I:Inv X pins σ H s)(k:∀b u,s.heap.get? b=some u->h'.get? b=some u)(ha:s.heap.get? a=none)(new:cu X.prog X.w (upd H a o) h' a o):
  H a=none/\Inv X pins σ (upd H a o) { s with heap:=h',toks:=t' }:=by
 have hn:H a=none:=by
  cases q:H a with
  |none=>rfl
  |some u =>
   obtain⟨z,hz⟩:=HN (I.cN a u q);rw[ha]at hz;exact nk hz
 have up:∀b u,H b=some u->upd H a o b=some u:=λb u e=>by rw[aZ (b6 e hn)];exact e
 refine⟨hn,I.step (g':=s.gens) (d':=s.drawn) (ch:=[]) (λb hb=>nomatch hb) (λb o _ _ _ e _=>k b o e) (λb o _ _ _ e _=>⟨o.slots,k b o e⟩) (λb u _ e n=>?_)
  (λb o _ e=>⟨o,k b o e⟩) (λ_ _ e=>up _ _ e) (λ_ _ _ e=>up _ _ e) (λb ps e=>⟨#[],by rw[up _ _ e];simp⟩) (λm hm=>?_) (λb u e=>?_) I.bare⟩
 ·rw[aZ λz=>by rw[z,ha]at e;cases e];exact n
 ·obtain⟨o,es,ep,ho,r⟩:=hm;exact⟨o,es,ep,k _ o ho,r⟩
 ·by_cases z:b=a
  ·subst z;rw[aV]at e;cases e;exact new
  ·rw[aZ z]at e;exact(I.cN b u e).mD (λc v _ q=>k c v q) (λ_ q=>up _ _ q) λ_ _ q=>up _ _ q
section
variable {X:Cx}{pins:ao}{σ:St}{H:Hp}{s:Shared}{d:Addr}{cs:aw}{as:aR}{xs:af}{ep:Nat}
theorem Hg(I:Inv X pins σ H s)(h:H d=some (.ext (DO d cs as xs ep))):∃es:Array DictEntry,iS s.heap d es ep/\es.size=as.length/\es.toList.map (·.key)=as.map Value.ref/\cs.Nodup/\as.length=cs.length/\(d==sysModules)=false:=by
 obtain⟨⟨zs,o,es,e1,e2,e3,ho,hx,hd,he,hn,hl,hs⟩,_⟩:=(show cu X.prog X.w H s.heap d (.ext (DO d cs as xs ep)) from I.cN d _ h)
 refine⟨es,⟨o,ho,hx,hd⟩,?_,?_,hn,?_,hs⟩
 ·rw[<- Array.length_toList,he,<- e2,List.length_map,List.length_map]
 ·rw[he,<- e2,List.map_map,List.map_map];rfl
 ·rw[<- e1,<- e2,List.length_map,List.length_map]
end
def JY(xs:ae):O D:=match one xs with
 |some d=>match fg d with
  |some z=>ok (.lst .ow (z.1.map dH))
  |none=>none
 |none=>none
theorem fD(g:Fl->Fl):∀cs:aw,aC g (cs.map dH)=cs.map dH
 |[]=>rfl
 |c::cs=>by
  show aY g (dH c)::aC g (cs.map dH)=_;rw[fD g cs];have:∀c:aa,aC g (c.map D.int)=c.map D.int:=λc=>by
   induction c with
   |nil=>rfl
   |cons i c ih=>show D.int i::aC g (c.map D.int)=_;rw[ih];rfl
  show D.tup (aC g (c.map D.int))::_=_;rw[this];rfl
theorem Dm{k:bj}{a:Addr}{c:aa}(h:T a (c.map V.int)):Rep T N k (.ref a) (dH c):=.tup h (aD.ints c)
theorem uO(hc:X.calm=true)(hu:X.A.units+2<cLine):ft X (.builtin "sorted") (λxs H Q=>∃(d:Addr) (cs:aw) (as:aR) (ys:af) (ep:Nat),xs=[.ref d]/\H d=some (.ext (DO d cs as ys ep))/\dv (aW X.K H) as cs/\cs.length<1000 /\
  ∀(l:Addr) (bs:aR),H l=none->dv (aW X.K H) bs (bq cs)->Q (.ref l) (upd H l (.lst (bs.map V.ref)))):=by
 intro pins s σ H xs us Q I r h;obtain⟨d,cs,as,ys,ep,rfl,hd,hk,tw,q⟩:=h;obtain⟨u,rfl,ru⟩:=r.one;cases ru;obtain⟨es,AR,hz,wk,S7,hlen,x8⟩:=Hg I hd;have ht:kO s.heap (es.toList.map (·.key)) cs:=by
  rw[wk];refine⟨by rw[List.length_map,hlen],λi ns e=>?_⟩;have hi:i<as.length:=by rw[hlen];exact(List.getElem?_eq_some_iff.mp e).1
  obtain⟨AB,rj,ij,_⟩:=I.tuple (hk.tup i as[i] ns (aaq hi) e);exact⟨as[i],AB,by rw[List.getElem?_map,List.getElem?_eq_getElem hi];rfl,ij,dC rj⟩
 refine qW (I.ok.hd hc) hu x8 AR (by rw[hz,hlen];exact tw) S7 ht λS h' tk e p hS Lb hp hs hl=>?_;rw[wk]at hl;have SR:(p.toList.map λi=>(as.map Value.ref).getD i Value.none)=(p.toList.map λi=>as.getD i 0).map Value.ref:=by
  rw[List.map_map];refine aaL λi hi=>?_;have eP:i<as.length:=by
   have:=List.mem_range.mp (hp.pm.mem_iff.mp hi);left
  simp[eP]
 rw[SR]at hl;have TF:dv (aW X.K H) (p.toList.map λi=>as.getD i 0) (bq cs):=by
  rw[<- hs];refine⟨by simp,λj a c h1 h2=>?_⟩;rw[List.getElem?_map]at h1 h2;cases hj:p.toList[j]? with
  |none=>rw[hj]at h1;exact nk h1
  |some i =>
   rw[hj]at h1 h2;have eP:i<as.length:=by
    have:=List.mem_range.mp (hp.pm.mem_iff.mp (aar hj));left
   cases h1;cases h2;exact hk.tup i _ _ (by simp[eP]) (by simp[show i<cs.length by left])
 have wa:∀l:aR,Vals (l.map V.ref) (l.map Value.ref):=λl=>by
  induction l with
  |nil=>exact .nil
  |cons a l ih=>exact .cons rfl ih
 have hsz:sizeLine=16777216:=aaY;obtain⟨hn,I'⟩:=Inv.Nr (t':=tk) (o:=.lst ((p.toList.map λi=>as.getD i 0).map V.ref)) I Lb hS ⟨by rw[List.length_map,List.length_map,Array.length_toList,hp.sz];left,_,e,wa _,hl⟩;exact⟨.ref S,_,I',rfl,q S _ hn TF⟩
def kE(xs:ae):O D:=match one xs with
 |some d=>match fg d with
  |some z=>if z.1.length<1000 then ok (.lst .ow ((bq z.1).map dH))else none
  |none=>none
 |none=>none
theorem yu{r:D}(h:kE xs=ok r):∃f cs vs,xs=[.bS f cs vs]/\cs.length<1000/\r=.lst .ow ((bq cs).map dH):=by
 unfold kE at h;cases h1:one xs with
 |none=>rw[h1]at h;exact nk h
 |some d =>
  rw[h1]at h;have h:(match fg d with|some z=>if z.1.length<1000 then ok (D.lst .ow ((bq z.1).map dH))else none|none=>none)=ok r:=h;cases h2:fg d with
  |none=>rw[h2]at h;exact nk h
  |some z =>
   rw[h2]at h;obtain⟨hl,rfl⟩:=n9 (show(if z.1.length<1000 then ok (D.lst .ow ((bq z.1).map dH))else none)=ok r from h);obtain⟨f,e⟩:=j3 h2;exact⟨f,z.1,z.2,by rw[b9 h1,e],hl,rfl⟩
theorem oI{T:lg}{N:gR}:∀{bs:aR} {cs:aw} {k:bj} {n:Nat},dv T bs cs->aD T N k n (bs.map V.ref) (cs.map dH)
 |[],[],_,_,_=>.nil
 |[],_::_,_,_,h=>by have:=h.len;simp at this
 |_::_,[],_,_,h=>by have:=h.len;simp at this
 |b::bs,c::cs,_,_,h=>.cons (Dm (h.tup 0 b c rfl rfl)) (oI ⟨by have:=h.len;simpa using this,λj a c' h1 h2=>h.tup (j+1) a c' h1 h2⟩)
theorem Bz{n:Nat}(hΦ:Φ n=kE){sc:Scope}{bl:aq}{k:Nat}(L:PX X sc bl k){e:Expr}(he:fM ("sorted" : Str) sc bl e=some args){cs:aF}(hs:lJ X F Φ cs args):PE X e (tD X F Φ (.cF n cs))/\PT X e (gm X F Φ (.cF n cs)):=by
 obtain⟨p,pos,a,rfl,rfl,h1,h2⟩:=kI he;cases cs with
 |nil=>exact hs.elim
 |cons c cs=>cases cs with
  |cons _ _=>exact hs.2.2.2.elim
  |nil =>
   have pa:PA X [a] (qT X F Φ [c]):=PA.imp (cv hs.1 (PA.imp dI λ_ _ _ h=>jJ h) (hs.2.1 _)) λ_ _ _ h=>fV h;have hu:X.A.units+2<cLine:=aaG (ab6 (by decide:2<=64) _) L.room.units;have this:PE X (.Call (.Name ("sorted" : Str) p) [a] [] pos) (tD X F Φ (.cF n [c])):=by
    refine PE.imp (dZ (uO L.calm hu) (L.gl h1) (L.bl _ h2) (by decide +kernel) pa (he:=hs.2.1 _)) λσ H Q hq=>?_;obtain⟨R,τ,ρ,d,Si,ev,hq⟩:=hq;obtain⟨xs,cy,ev⟩:=aH ev;rw[hΦ]at ev;obtain⟨f,ks,vs,rfl,hl,rfl⟩:=yu ev;refine⟨R,τ,ρ,_,Si,cy,λus H1 e1 r1=>?_⟩;obtain⟨τt,fr,rs⟩:=r1;obtain⟨v,rfl,rv⟩:=rs.one;cases rv with
    |bS hn hk hr =>
     refine⟨_,ks,_,_,_,rfl,hn.dat,hk,hl,λl bs lS TF=>hq _ _ (e1.trans (aI.upd lS)) (bY.rO (e1.free lS) (e1.trans (aI.upd lS)) aV ?_)⟩;exact oI (TF.imp λ_ _ h=>aW.same (aI.upd lS) h)
   exact⟨this,cE this λ_=>rfl⟩
section
variable {prog:aB}{w:World}{A:az}{E:au}{s:Shared}
end
section
variable {prog:aB}{w:World}{K:Type}[DecidableEq K]{knd:HeapKind prog w K}{A:az}{E:au}{s:Shared}
theorem q_{d a:Addr}{xs:List (K×Addr×Value)}{k:K}{v:Value}(hu:knd.room A)(n_:knd.is s.heap k a)(hm:s.heap.DictOfH knd d xs)
  (h1:∀p,atKey xs k=some p->Q p.2 { s with toks:=s.toks+knd.draws k })
  (h2:atKey xs k=none->∀h',h'.DictOfH knd d (storedH xs k a v)->Heap.SameBut d s.heap h'->Q v { s with heap:=h',toks:=s.toks+knd.draws k })
  (hsz:xs.length<=sizeLine):wpAny (model prog w) A (dictSetDefault d (.ref a) v) Q E s:=by
 obtain⟨o,es,ep,ho,hc,hd,he,VZ,hn⟩:=hm;unfold dictSetDefault
 try with_reducible refine aaD ?_
 refine aaa (knd.pyHash hu n_ ?_);refine aaa (wpAny_dictFind_heap (s:={ s with toks:=s.toks+knd.draws k }) hu n_ ho hd he VZ hn ?_ ?_)
 ·intro we;have S0:k∉xs.map (·.1):=not_mem_keys_of_get we;have h2:=h2 (atKey_none_of_get we);refine aaa (aa9 (aaa (wpAny_updateDictKeys (hz:=by have e:=size_of_entries he;left) (s:={ s with toks:=s.toks+knd.draws k }) ho hd (aab (h2 _ ⟨_,_,ep+1,aaM _ ho (Obj.isFreed_of_dict (Obj.data_mapDictKeys hd _)),
   hc.mapDictKeys _,Obj.data_mapDictKeys hd _,?_,?_,?_⟩ (aaU ..))))))
  ·rw[storedH_new (atKey_none_of_get we)];simp[he,entryOfKey]
  ·rw[storedH_new (atKey_none_of_get we)];intro x hx;rcases List.mem_append.mp hx with hx|hx
   ·exact knd.keeps (VZ x hx) ho hd (aaU ..)
   ·simp only[List.mem_singleton]at hx;subst hx;exact knd.keeps n_ ho hd (aaU ..)
  ·rw[storedH_new (atKey_none_of_get we)];rw[List.map_append,List.nodup_append];refine⟨hn,by simp,?_⟩;intro x hx y hy;simp only[List.map_cons,List.map_nil,List.mem_singleton]at hy;subst hy;exact λe=>S0 (e▸hx)
 ·intro j p hj;refine aaa (aa4 (s:={ s with toks:=s.toks+knd.draws k }) ho hd ?_);rw[entry_at he j,hj];exact aaa (aa9 (aab (h1 p (atKey_of_get hn hj))))
theorem pH(d a:Addr)(hd:(d==sysModules)=false)(v:Value):
  MeetsIn prog w (Builtin.«dict.setdefault» ⟨[.ref d,.ref a,v],[]⟩) (λA R s=>knd.room A.in1/\∃k xs,knd.is s.heap k a/\s.heap.DictOfH knd d xs/\xs.length<=sizeLine /\
   (∀p,atKey xs k=some p->R (.ok (.ret p.2)) { s with toks:=s.toks+knd.draws k }) /\
   (atKey xs k=none->∀h',h'.DictOfH knd d (storedH xs k a v)->Heap.SameBut d s.heap h'->R (.ok (.ret v)) { s with heap:=h',toks:=s.toks+knd.draws k })) :=
 .of_wp λA R s bN=>by
  obtain⟨hu,k,xs,n_,hm,hz,h1,h2⟩:=bN;unfold Builtin.«dict.setdefault»;refine aaa ?_;unfold Builtin.Dict.keyAndDefault;refine aaa (abS hm.typeIs ?_);show wpAny _ _ (pure (d,Value.ref a,some v)) _ _ s;refine aab ?_;show wpAny _ _ (if (d==sysModules)=true then _ else(dictSetDefault d (.ref a) v >>= _)) _ _ s;rw[if_neg (by rw[hd];exact Bool.false_ne_true)];exact aaa (q_ hu n_ hm (λp hp=>aab ⟨p.2,rfl,h1 p hp⟩) (λhn h' IL tj=>aab ⟨v,rfl,h2 hn h' IL tj⟩) hz)
end
section
variable {X:Cx}{pins:ao}{σ:St}{H:Hp}{s:Shared}{p b:Addr}{cs:aw}{as:aR}{xs:af}{ep:Nat}{c:aa}{A:az}{E:au}
end
theorem AN{A:az}{k:Nat}(hr:fO k A):A.units+2<cLine:=aaG (ab6 (by decide:2<=64) _) hr.units
noncomputable def mK:Fl->Bool
 |.fz=>false
 |_=>true
theorem Hf{R A A':ah}{τ':Addr->Option bj}{H:Hp}{k:bj}{v:V}{d:D}(h:Rep (aW K H) (nd K R A τ H) k v d)(hf:aT mK d=false):Rep (aW K H) (nd K R A' τ' H) k' v d:=by
 have:=Rep.gen (T':=aW K H) (N':=nd K R A' τ' H) (g:=id) (P:=mK) (C:=λ_ _=>True) (I:=λ_ _=>True) (λ_ _ h=>h) trivial (λ_ _ e=>e) (λ_ _ _ _ e _=>e) (λk k' p xs f _ hz h=>by
  cases f<;>first | (cases hz;done)|exact h) h (k':=k') trivial hf
 rw[dB]at this;exact this
def ko:aw->ae->aa->D->Option (ae)
 |[],vs,_,d=>if vs.length=0 then some [.lst .ow [d]]else none
 |c'::cs,vs,c,d=>match vs with
  |[]=>none
  |v::vs=>if c'=c then(match vN v with
    |some gs=>if gs.length<ck then some (.lst .ow (gs++[d])::vs)else none
    |none=>none)else(ko cs vs c d).map (v :: ·)
theorem wu{α:Type}{c:aa}:∀{cs:aw} {xs:List α},c∉cs->bK cs xs c=none
 |[],_,_=>by unfold bK;rfl
 |c'::cs,[],_=>rfl
 |c'::cs,x::xs,h=>by
  show(if c'=c then some x else bK cs xs c)=none;rw[if_neg (λe:c'=c=>h (e▸List.mem_cons_self)),wu λz=>h (List.mem_cons_of_mem _ z)]
theorem u0{d:D}:∀{vs:ae} {j n m:Nat},jH (j+m) d (n+m) vs=jH j d n vs
 |[],_,_,_=>rfl
 |v::vs,j,n,m=>by
  show(if n+m=j+m then d else v)::jH (j+m) d (n+m+1) vs=(if n=j then d else v)::jH j d (n+1) vs;rw[show n+m+1=n+1+m by left,u0];by_cases e:n=j
  ·rw[if_pos e,if_pos (by left)]
  ·rw[if_neg e,if_neg (by left)]
theorem y9{d:D}:∀{vs:ae} {j n:Nat},j<n->jH j d n vs=vs
 |[],_,_,_=>rfl
 |v::vs,j,n,h=>by
  show(if n=j then d else v)::jH j d (n+1) vs=_;rw[if_neg (by left),y9 (by left)]
theorem pI{c:aa}{d:D}:∀{cs:aw} {vs ws:ae},ko cs vs c d=some ws->(c∉cs/\cs.length=vs.length/\ws=vs++[.lst .ow [d]])\/∃j gs,vs[j]?=some (.lst .ow gs)/\gs.length<ck/\c∈cs/\(∀(xs:af),xs.length=vs.length->bK cs xs c=xs[j]?)/\ws=jH j (.lst .ow (gs++[d])) 0 vs
 |[],vs,ws,h=>by
  unfold ko at h;by_cases hv:vs.length=0
  ·rw[if_pos hv]at h;cases h;obtain rfl:=List.length_eq_zero_iff.mp hv;exact .inl ⟨by simp,rfl,rfl⟩
  ·rw[if_neg hv]at h;exact nk h
 |c'::cs,[],ws,h=>nk h
 |c'::cs,v::vs,ws,h=>by
  have h:(if c'=c then(match vN v with|some gs=>if gs.length<ck then some (D.lst .ow (gs++[d])::vs)else none|none=>none)else(ko cs vs c d).map (v :: ·))=some ws:=h;by_cases e:c'=c
  ·rw[if_pos e]at h;cases h1:vN v with
   |none=>rw[h1]at h;exact nk h
   |some gs =>
    rw[h1]at h;have h:(if gs.length<ck then some (D.lst .ow (gs++[d])::vs)else none)=some ws:=h;by_cases hg:gs.length<ck
    ·rw[if_pos hg]at h;cases h;refine .inr ⟨0,gs,by rw[pP h1];rfl,hg,e▸aaf,λxs hx=>?_,?_⟩
     ·cases xs with
      |nil=>cases hx
      |cons x xs=>exact aaN e
     ·show _=(if 0=0 then _ else v)::jH 0 _ 1 vs;rw[if_pos rfl,y9 (by left)]
    ·rw[if_neg hg]at h;exact nk h
  ·rw[if_neg e]at h;obtain⟨us,h1,rfl⟩:=Option.map_eq_some_iff.mp h;rcases pI h1 with ⟨h2,h3,rfl⟩|⟨j,gs,h2,h3,h4,h5,rfl⟩
   ·exact .inl ⟨λz=>(List.mem_cons.mp z).elim (λq=>e q.symm) h2,by rw[List.length_cons,List.length_cons,h3],rfl⟩
   ·refine .inr ⟨j+1,gs,h2,h3,aae _ h4,λxs hx=>?_,?_⟩
    ·cases xs with
     |nil=>cases hx
     |cons x xs =>
      show(if c'=c then some x else bK cs xs c)=_;rw[if_neg e,h5 xs (Nat.succ.inj hx)];rfl
    ·show _=(if 0=j+1 then _ else v)::jH (j+1) _ (0+1) vs;rw[if_neg (by left),u0]
def Kv(e:Expr):Option (Expr×Expr):=match kh e with
 |some z=>match mv z.1 with
  |some y=>match two z.2.1 with
   |some w=>match tI w.2 with
    |some l=>if y.2.1=("setdefault" : Str)/\z.2.2.1=[]/\(y.2.2.endLine==z.2.2.2.line)=true/\l=[]then some (y.1,w.1)else none
    |none=>none
   |none=>none
  |none=>none
 |none=>none
theorem GI{e k:Expr}(h:Kv e=some (o,k)):∃p1 p2 pl,e=.Call (.Attribute o ("setdefault" : Str) p1) [k,.List [] pl] [] p2/\(p1.endLine==p2.line)=true:=by
 unfold Kv at h;cases h1:kh e with
 |none=>rw[h1]at h;exact nk h
 |some z =>
  obtain⟨f,as,ks,p2⟩:=z;rw[h1]at h;obtain rfl:=kg h1;replace h:(match mv f with|some y=>(match two as with|some w=>(match tI w.2 with|some l=>if y.2.1=("setdefault" : Str)/\ks=[]/\(y.2.2.endLine==p2.line)=true/\l=[]then some (y.1,w.1)else none|none=>none)|none=>none)|none=>none)=some (o,k):=h;cases h2:mv f with
  |none=>rw[h2]at h;exact nk h
  |some y =>
   obtain⟨ob,nm,p1⟩:=y;rw[h2]at h;obtain rfl:=mq h2;replace h:(match two as with|some w=>(match tI w.2 with|some l=>if nm=("setdefault" : Str)/\ks=[]/\(p1.endLine==p2.line)=true/\l=[]then some (ob,w.1)else none|none=>none)|none=>none)=some (o,k):=h;cases h3:two as with
   |none=>rw[h3]at h;exact nk h
   |some w =>
    obtain⟨a,b⟩:=w;rw[h3]at h;obtain rfl:=gT h3;replace h:(match tI b with|some l=>if nm=("setdefault" : Str)/\ks=[]/\(p1.endLine==p2.line)=true/\l=[]then some (ob,a)else none|none=>none)=some (o,k):=h;cases h4:tI b with
    |none=>rw[h4]at h;exact nk h
    |some l =>
     rw[h4]at h;obtain⟨pl,rfl⟩:=uX h4;replace h:(if nm=("setdefault" : Str)/\ks=[]/\(p1.endLine==p2.line)=true/\l=[]then some (ob,a)else none)=some (o,k):=h;by_cases hc:nm=("setdefault" : Str)/\ks=[]/\(p1.endLine==p2.line)=true/\l=[]
     ·rw[if_pos hc]at h;cases h;obtain⟨rfl,rfl,hl,rfl⟩:=hc;exact⟨p1,p2,pl,rfl,hl⟩
     ·rw[if_neg hc]at h;exact nk h
def qq(_:Scope)(_:aq)(st:Stmt):Option (Expr×aA):=match iU ("append" : Str) st with
 |some z=>match one z.2 with
  |some e=>match Kv z.1 with
   |some y=>some (y.1,[y.2,e])
   |none=>none
  |none=>none
 |none=>none
theorem yx{sc:Scope}{bl:aq}(h:qq sc bl st=some (o,args)):∃k e p1 p2 p3 p4 pl pos,args=[k,e]/\st=.Expr (.Call (.Attribute (.Call (.Attribute o ("setdefault" : Str) p1) [k,.List [] pl] [] p2) ("append" : Str) p3) [e] [] p4) pos/\(p1.endLine==p2.line)=true/\(p3.endLine==p4.line)=true:=by
 unfold qq at h;cases h1:iU ("append" : Str) st with
 |none=>rw[h1]at h;exact nk h
 |some z =>
  obtain⟨b,as⟩:=z;rw[h1]at h;replace h:(match one as with|some e=>(match Kv b with|some y=>some (y.1,[y.2,e])|none=>none)|none=>none)=some (o,args):=h;cases h2:one as with
  |none=>rw[h2]at h;exact nk h
  |some e =>
   rw[h2]at h;obtain rfl:=b9 h2;replace h:(match Kv b with|some y=>some (y.1,[y.2,e])|none=>none)=some (o,args):=h;cases h3:Kv b with
   |none=>rw[h3]at h;exact nk h
   |some y =>
    rw[h3]at h;cases h;obtain⟨p1,p2,pl,rfl,hl⟩:=GI h3;obtain⟨p3,p4,pos,rfl,lS⟩:=jG h1;exact⟨_,e,p1,p2,p3,p4,pl,pos,rfl,rfl,hl,lS⟩
variable {kd:D}
theorem HV{n i:Nat}{d:D}{r:Fo×bh}(h:Aj Φ n i ρ kd d=ok r):∃x x',ρ[i]?=some (some x)/\aT anyF kd=false/\aT anyF d=false/\Φ n [x,kd,d]=ok x'/\r=(.nx,ρ.set i (some x')):=by
 unfold Aj at h;split at h
 ·rename_i x hx;split at h
  ·rename_i hc;obtain⟨x',h1,h2⟩:=aH h;cases h2;exact⟨x,x',hx,hc.1,hc.2,h1,rfl⟩
  ·cases h
 ·cases h
section
variable {X:Cx}{F R:ah}{τ:Addr->Option bj}{ρ:bh}{σ:St}{H:Hp}
theorem SI.drop(i:Nat)(S:SI X F R τ ρ σ H):SI X F R τ (ρ.set i none) σ H:=by
 refine⟨by simp[S.len],λj d hj=>?_,S.rt,S.rh,S.rf,S.th,S.t0,S.same⟩;have de:i≠j:=by
  rintro rfl;by_cases h:i<ρ.length
  ·rw[List.getElem?_set_self h]at hj;cases hj
  ·rw[List.getElem?_eq_none (by rw[List.length_set];left)]at hj;cases hj
 rw[List.getElem?_set_ne de]at hj;exact S.rep j d hj
end
section
variable {X:Cx}{pins:ao}{σ:St}{H:Hp}{s:Shared}{p b:Addr}{cs:aw}{as:aR}{xs:af}{ep:Nat}{c:aa}{A:az}{E:au}
theorem BA{r:Value}{v:V}{t:Nat}{zs:List (aa×Addr×Value)}(I:Inv X pins σ H s)(h:H p=some (.ext (DO p cs as xs ep)))(e1:zs.map (·.1)=cs)(e2:zs.map (·.2.1)=as)(e3:Vals xs (zs.map (·.2.2)))(hl:cs.length<sizeLine)(hs:(p==sysModules)=false)(rv:RelV v r)
  (dd:h'.DictOfH (tupleKind (intKind X.prog X.w)) p (storedH zs c b r)) (sb:Heap.SameBut p s.heap h'):∃j0,Inv X pins σ (upd H p (.ext (DO p (aS cs c) (kN cs as c b) (bz cs xs c v) j0))) { s with heap:=h',toks:=t }:=by
 obtain⟨q,Gh,j0,hq,h2,h3,h4,_,h5⟩:=dd;refine⟨j0,I.write (x:=p) (e:=p) (by rw[h];exact True.intro) (.inl rfl) (λb q hb z=>(sb.2 b hb).trans z) ⟨q,hq⟩ ⟨⟨storedH zs c b r,q,Gh,?_,?_,?_,hq,h2,h3,h4,?_,?_,hs⟩,⟨q,hq⟩,?_⟩⟩
 ·rw[fw,e1]
 ·rw[kW,e1,e2]
 ·rw[kU,e1];exact qL e3 rv
 ·rw[<- e1,<- fw (zs:=zs) (c:=c) b r];exact h5
 ·unfold aS;split
  ·left
  ·rw[List.length_append,List.length_singleton];left
 ·rintro h1 Ua ⟨Ku,o',es'',f1,f2,f3,f4,f5⟩ kk;exact⟨Ku,o',es'',f1,f2,f3,kk _ f4,f5⟩
theorem yt{z:V}{r:Value}(hu:A.units+2<cLine)(I:Inv X pins σ H s)(h:H p=some (.ext (DO p cs as xs ep)))(k:dv (aW X.K H) as cs)(hb:aW X.K H b (c.map V.int))(rz:RelV z r)(cL:cs.length<sizeLine)
  (h1:∀v w' s',bK cs xs c=some v->Inv X pins σ H s'->RelV v w'->Q w' s')
  (h2:c∉cs->∀j0 s',Inv X pins σ (upd H p (.ext (DO p (aS cs c) (kN cs as c b) (bz cs xs c z) j0))) s'->Q r s') :
  wpAny (model X.prog X.w) A (call (.builtin "dict.setdefault") [.ref p,.ref b,r]) Q E s:=by
 obtain⟨zs,o,es,e1,e2,e3,ho,hx,hd,dd,_,hl,hs⟩:=lZ I h k;have hz:zs.length<=sizeLine:=by rw[<- e1,List.length_map]at hl;exact hl
 refine call_meetsIn PySem.F.slot_dict_setdefault dd.typeIs PySem.F.entry_dict_setdefault (PySem.F.args_dict_setdefault_3 _ _ _) (pH (knd:=tupleKind (intKind X.prog X.w)) p b hs r) ⟨abD (by left),c,zs,mW I hb,dd,hz,λq hq=>?_,λhn h' UJ sb=>?_⟩
 ·have hg:=jD (cs:=cs) e3 c;have:(atKey zs c).map (·.2)=bK cs (zs.map (·.2.2)) c:=by rw[iL,e1]
  rw[hq]at this;rw[<- this]at hg;cases q2:bK cs xs c with
  |none=>rw[q2]at hg;exact hg.elim
  |some v=>rw[q2]at hg;exact h1 v _ _ q2 (I.tok _) hg
 ·have S_:c∉cs:=λhc=>by
   have:=(du zs c).mpr (by rw[e1];exact hc);rw[hn]at this;cases this
  obtain⟨j0,I'⟩:=BA (t:=s.toks+(tupleKind (intKind X.prog X.w)).draws c) I h e1 e2 e3 cL hs rz UJ sb;exact h2 S_ j0 _ I'
end
theorem Hx{x:Str}{p p1 p2:Pos}{a b:Expr}{td:TE}{ta:TA}(hu:X.A.units+2<cLine)(ho:PE X (.Name x p) td)(ha:PA X [a,b] ta)(s1:∀es,starEach (a::es) X.env=(false,eval a X.env)::starEach es X.env)(s2:∀es,starEach (b::es) X.env=(false,eval b X.env)::starEach es X.env)(hl:(p1.endLine==p2.line)=true):
  PE X (.Call (.Attribute (.Name x p) ("setdefault" : Str) p1) [a,b] [] p2) (λσ H Q=>td σ H λv H1=>∃q cs as xs ep,v=.ref q/\H1 q=some (.ext (DO q cs as xs ep))/\ta σ H1 λys H2=>∃k c z,ys=[.ref k,z]/\H2 q=some (.ext (DO q cs as xs ep))/\dv (aW X.K H2) as cs/\aW X.K H2 k (c.map V.int)/\cs.length<sizeLine/\(∀u,bK cs xs c=some u->Q u H2)/\(c∉cs->∀j0,Q z (upd H2 q (.ext (DO q (aS cs c) (kN cs as c k) (bz cs xs c z) j0))))):=by
 intro pins s σ H Q I h;refine wpAny_Call_method rfl (by rw[s1,s2];rfl) hl PySem.F.plainAttrs_dict PySem.F.slot_dict_setdefault PySem.F.type_dict_setdefault (cV (ho pins s σ H _ I h) λu Xs bN=>?_);obtain⟨v,H1,I1,rx,q,cs,as,xs,ep,ex,hd,q1⟩:=bN;subst ex;obtain rfl:u=Value.ref q:=rx;obtain⟨t1,t2⟩:=dict_cls I1 hd;refine⟨t1,t2,?_⟩;have hA:=ha p2 pins Xs σ H1 _ I1 q1;rw[s1]at hA ⊢;refine abJ (by show(false||(backTo p2 (starEach [b] X.env)).any (·.1))=false;rw[s2];rfl) (Calls.evalArgs_plain ?_);refine cV hA λus s3 bN=>?_;obtain⟨ys,H2,I2,r2,k,c,z,ey,hd2,hk,hb,cL,q2,q3⟩:=bN;subst ey;obtain⟨w1,w2,rfl,Xt,Vj⟩:=vals2 r2;cases Xt;exact yt hu I2 hd2 hk hb Vj cL (λv w' s' hv I' rv=>⟨v,H2,I',rv,q2 v hv⟩) λhn j0 s' I'=>⟨z,_,I',Vj,q3 hn j0⟩
theorem va{k:bj}{v:V}{d:D}{c:aa}(hk:keyOf d=some c)(r:Rep T N k v d):∃b,v=.ref b/\T b (c.map V.int):=by
 rw[mZ hk]at r;obtain⟨b,xs,rfl,h1,r1⟩:=r.Cy;cases r1.ofInts;exact⟨b,rfl,h1⟩
def uC(xs:ae):O D:=match two xs with
 |some z=>match fg z.1 with
  |some d=>match keyOf z.2 with
   |some c=>match bK d.1 d.2 c with
    |some v=>if aT mK v=false then ok v else none
    |none=>none
   |none=>none
  |none=>none
 |none=>none
theorem EA{r:D}(h:uC xs=ok r):∃f cs vs c kd,xs=[.bS f cs vs,kd]/\keyOf kd=some c/\bK cs vs c=some r/\aT mK r=false:=by
 unfold uC at h;cases h1:two xs with
 |none=>rw[h1]at h;cases h
 |some z =>
  rw[h1]at h;have h:(match fg z.1 with|some d=>(match keyOf z.2 with|some c=>(match bK d.1 d.2 c with|some v=>if aT mK v=false then ok v else none|none=>none)|none=>none)|none=>none)=ok r:=h;cases h2:fg z.1 with
  |none=>rw[h2]at h;cases h
  |some d =>
   rw[h2]at h;have h:(match keyOf z.2 with|some c=>(match bK d.1 d.2 c with|some v=>if aT mK v=false then ok v else none|none=>none)|none=>none)=ok r:=h;cases h3:keyOf z.2 with
   |none=>rw[h3]at h;cases h
   |some c =>
    rw[h3]at h;have h:(match bK d.1 d.2 c with|some v=>if aT mK v=false then ok v else none|none=>none)=ok r:=h;cases h4:bK d.1 d.2 c with
    |none=>rw[h4]at h;cases h
    |some v =>
     rw[h4]at h;obtain⟨hf,rfl⟩:=n9 (show(if aT mK v=false then ok v else none)=ok r from h);obtain⟨f,e1⟩:=j3 h2;exact⟨f,d.1,d.2,c,z.2,by rw[gT h1,e1],h3,h4,hf⟩
def Hi(K:av):R2:=λx y H Q=>∃p b cs as xs ep c v,x=.ref p/\y=.ref b/\H p=some (.ext (DO p cs as xs ep))/\dv (aW K H) as cs/\aW K H b (c.map V.int)/\bK cs xs c=some v/\Q v H
theorem AE(hu:X.A.units+2<cLine):Ft X (Hi X.K):=by
 intro value slice pins s σ H x y v u Q I rx ry h hs;obtain⟨p,b,cs,as,xs,ep,c,w,rfl,rfl,hp,hk,hb,hg,q⟩:=h;cases rx;cases ry;obtain⟨zs,o,es,e1,e2,e3,ho,hx,hd,dd,_,hl,x8⟩:=lZ I hp hk;have Ed:=jD (cs:=cs) e3 c;rw[hg]at Ed;obtain⟨u,F6,ru⟩:=sY.some_of Ed;have:(atKey zs c).map (·.2)=some u:=by rw[iL,e1];exact F6
 obtain⟨q',SO,rfl⟩:=Option.map_eq_some_iff.mp this;exact abn (x:=q'.2) dd.typeIs PySem.F.slot_dict_getitem.lookup
  (wpAny_getItem_heap (knd:=tupleKind (intKind X.prog X.w)) (Q:=λr s'=>r=q'.2/\EP X pins σ Q r s') (abD (by left)) (mW I hb) dd SO ⟨rfl,w,H,I.tok _,ru,q⟩) hs
theorem JR{n:Nat}(hΦ:Φ n=uC){sc:Scope}{bl:aq}{k:Nat}(L:PX X sc bl k){e:Expr}(he:kK sc bl e=some args){cs:aF}(hs:lJ X F Φ cs args):PE X e (tD X F Φ (.cF n cs))/\PT X e (gm X F Φ (.cF n cs)):=by
 unfold kK at he;cases h1:jF e with
 |none=>rw[h1]at he;cases he
 |some z =>
  rw[h1]at he;cases he;obtain⟨pos,rfl⟩:=iy h1;obtain⟨⟨c1,c2,rfl,p1,p2⟩,_⟩:=ku hs;have this:PE X (.Subscript z.1 z.2 pos) (tD X F Φ (.cF n [c1,c2])):=by
   refine PE.imp (vK (AE (AN L.room)) p1 p2 hs.2.2.2.2.2.1) λσ H Q hq=>?_;obtain⟨R,τ,ρ,d,Si,ev,hq⟩:=hq;obtain⟨xs,cy,ev⟩:=aH ev;rw[hΦ]at ev;obtain⟨f,cs,vs,c,kd,rfl,Th,hg,hf⟩:=EA ev;obtain⟨x,ex,cy⟩:=aH cy;obtain⟨ys,uy,cy⟩:=aH cy;obtain⟨y,ey,Ow⟩:=aH uy;cases Ow;cases cy;refine tD.intro Si ex λv H1 e1 r1=>tD.intro (Si.go e1) ey λu H2 e2 r2=>?_;obtain⟨τ1,f1,q1⟩:=r1;obtain⟨τ2,f2,q2⟩:=r2;obtain⟨b,rfl,hb⟩:=va Th q2;cases q1 with
   |bS hn hk hr =>
    rcases mH hr c with ⟨_,hz⟩|⟨w,d',k',g1,g2,g3,_⟩
    ·rw[hg]at hz;cases hz
    ·rw[hg]at g2;cases g2;refine⟨_,b,_,_,_,_,c,w,rfl,rfl,e2 _ _ hn.dat,hk.imp λ_ _ h=>aW.same e2 h,hb,g1,hq w H2 (e1.trans e2) ⟨λ_=>none,λ_ _ h=>by simp at h,?_⟩⟩;exact(Hf (A':=jo (gP X F) τ (gQ (.cF n [c1,c2]))) (τ':=λ_=>none) (k':=[]) g3 hf).imp (λ_ _ h=>aW.same e2 h) λ_ _ _ _ h=>nd.same e2 h
  exact⟨this,cE this λ_=>rfl⟩
def tQ(xs:ae):O D:=match three xs with
 |some z=>match z.1 with
  |.bS f cs vs=>match keyOf z.2.1 with
   |some c=>match ko cs vs c z.2.2 with
    |some ws=>if bR f=true/\cs.length<ck then ok (.bS .ow (aS cs c) ws)else none
    |none=>none
   |none=>none
  |_=>none
 |none=>none
theorem CP{x d r:D}(h:tQ [x,kd,d]=ok r):∃cs vs c ws,x=.bS .ow cs vs/\keyOf kd=some c/\ko cs vs c d=some ws/\cs.length<ck/\r=.bS .ow (aS cs c) ws:=by
 cases x<;>first|exact nk h | (cases h;done)|skip
 rename_i f cs vs;replace h:(match keyOf kd with|some c=>(match ko cs vs c d with|some ws=>if bR f=true/\cs.length<ck then ok (D.bS .ow (aS cs c) ws)else none|none=>none)|none=>none)=ok r:=h;cases h1:keyOf kd with
 |none=>rw[h1]at h;exact nk h
 |some c =>
  rw[h1]at h;replace h:(match ko cs vs c d with|some ws=>if bR f=true/\cs.length<ck then ok (D.bS .ow (aS cs c) ws)else none|none=>none)=ok r:=h;cases h2:ko cs vs c d with
  |none=>rw[h2]at h;exact nk h
  |some ws =>
   rw[h2]at h;obtain⟨⟨hf,hl⟩,rfl⟩:=n9 (show(if bR f=true/\cs.length<ck then ok (D.bS .ow (aS cs c) ws)else none)=ok r from h);cases f<;>first | (cases hf;done)|exact⟨cs,vs,c,ws,rfl,rfl,h2,hl,rfl⟩
section
variable {X:Cx}{F R:ah}{τ:Addr->Option bj}{ρ:bh}{σ:St}{H:Hp}
theorem SI.UQ{i j:Nat}{vs gs:ae}{d:D}{u:V}{p q:Addr}{xs:af}(Si:SI X F R τ ρ σ H)(ho:ρ[i]?=some (some (.bS .ow cs vs)))(hv:σ[i]?=some (some (.ref q)))(hq:H q=some (.ext (DO q cs as xs ep)))(X7:τ q=some [i])(hk:dv (aW X.K H) as cs)
  (rs:aD (aW X.K H) (nd X.K R (λ_=>False) τ H) [i] 0 xs vs) (hx:xs[j]?=some (.ref p)) (hj:vs[j]?=some (.lst .ow gs)) {k:bj} (ru:Rep (aW X.K H) N k u d) (hf:aT anyF d=false) :
  ∃zs,H p=some (.lst zs)/\zs.length=gs.length/\τ p=some [j,i]/\SI X F R τ (ρ.set i (some (.bS .ow cs (jH j (.lst .ow (gs++[d])) 0 vs)))) σ (upd H p (.lst (zs++[u]))):=by
 obtain⟨w,hw,iD⟩:=rs.get hj;rw[Nat.zero_add]at iD;rw[hx]at hw;cases hw;cases iD with
 | @lst _ _ zs _ _ hp rz =>
 refine⟨zs,hp.1,rz.length,hp.2,Si.UK ho hp.1 hp.2 hv (.bS (as:=as) (ep:=ep) (xs:=xs) (Si.KO (n:=.d cs as xs ep) (f:=.ow) hp.1 hp.2 (λz=>?_) ⟨hq,X7⟩) (hk.imp λ_ _ h=>fA hp.1 h) (aD.jH (λ_ _ h=>fA hp.1 h) (λc m a n f hm h=>Si.KO hp.1 hp.2 (λz=>?_) h) rs λm w VS hm=>?_))⟩
 ·have:=aaR List.length z;simp at this
 ·have:=aaR List.reverse z;simp at this;exact hm this.1
 ·rw[Nat.zero_add]at hm;subst hm;rw[hx]at VS;cases VS;refine .lst ⟨aV,hp.2⟩ (aD.vq (aD.child (λ_ _ h=>fA hp.1 h) (λc n a ys f h=>Si.KO hp.1 hp.2 (λz=>?_) h) rz) ((lN (N':=nd X.K R (λ_=>False) τ (upd H p (.lst (zs++[u])))) ru hf).imp (q:=(0+gs.length)::[m,i]) (λ_ _ h=>fA hp.1 h) λ_ _ _ _ h=>h))
  ·have:=aaR List.length z;simp at this
end
theorem GN{n:Nat}(hΦ:Φ n=tQ){sc:Scope}{bl:aq}{k:Nat}(L:PX X sc bl k)(hN:X.N.Nodup)(oT:∀x,X.fn x=true){x:Str}(he:qq sc bl st=some (.Name x pos,args))
  {i:Nat} (hi:X.N[i]?=some x) (hl:L2.Loc X.env.scope x) (pe:PE X (.Name x pos) (pz i)) {c1 c2:CE} (hs:lJ X F Φ [c1,c2] args):PS X st (j_ X F Φ (.mu2 n i c1 c2)):=by
 obtain⟨ke,ve,p1,p2,p3,p4,pl,pos',rfl,rfl,yO,uo⟩:=yx he;obtain⟨⟨a1,a2,e0,h1,h2⟩,_,s1,s2⟩:=ku hs;cases e0;refine PS.imp (jN (z8 abg abA PySem.F.type_list_append oO (Hx (AN L.room) pe (cv h1 (cv (z7 dI) dI) (s1 _)) s1 (λ_=>rfl) yO) (cv h2 dI (s2 _)) (hfew:=by rw[s2];rfl) (hline:=uo) (hs:=s2 _))) λD σ H hq=>?_;obtain⟨R,τ,ρ,r,Si,ev,hq⟩:=hq;obtain⟨kd,Y5,ev⟩:=aH ev;obtain⟨d,ed,ev⟩:=aH ev;obtain⟨x0,x',ho,Z5,Ys,v_,rfl⟩:=HV ev;rw[hΦ]at v_;obtain⟨cs,vs,c,ws,rfl,Yo,VU,jX,rfl⟩:=CP v_;obtain⟨q,as,xs,ep,hv,hd,ht,hk,rs⟩:=Si.HD ho;have Z8:ck=1000000:=rfl;have AM:sizeLine=16777216:=aaY;have Lc:i<ρ.length:=by
  by_cases z:i<ρ.length
  ·exact z
  ·rw[List.getElem?_eq_none (by left)]at ho;cases ho
 have fin:∀{H':Hp} {τ':Addr->Option bj} {ρ1:bh} {Lq:aw} {UP:aR} {Fy:af} {Wn:Nat} {vs1 gs:List DI.D} {j:Nat} {u:V},SI X F R τ' ρ1 σ H'->Kp R H R H'->ρ1[i]?=some (some (.bS .ow Lq vs1))->ρ1.set i none=ρ.set i none->vs1[j]?=some (.lst .ow gs)->gs.length<ck->Lq=aS cs c->ws=jH j (.lst .ow (gs++[d])) 0 vs1 ->
   H' q=some (.ext (DO q Lq UP Fy Wn))->τ' q=some [i]->dv (aW X.K H') UP Lq->aD (aW X.K H') (nd X.K R (λ_=>False) τ' H') [i] 0 Fy vs1->Fy[j]?=some u->Pq X.K "list" u H'/\zk (tD X F Φ c2) GS σ H' λxs H2=>vD u xs H2 λ_ H3=>D.nx σ H3:=by
  intro H' τ' ρ1 Lq UP Fy Wn vs1 gs j u fK kp F7 NJ hj hg ek ew Eg NH Eb qH VR;have WK:=fK.drop i;rw[NJ]at WK;obtain⟨w,hw,iD⟩:=qH.get hj;rw[VR]at hw;cases hw;obtain⟨l,zs,rfl,lS,rz⟩:=iD.nQ;refine⟨.inl ⟨rfl,_,dh.of lS.1⟩,tD.intro WK ed λy H3 e3 r3=>?_⟩;obtain⟨τ3,f3,q3⟩:=r3;obtain⟨WS,g4,g5,g6,WL⟩:=(fK.go e3).UQ F7 hv (e3 _ _ Eg) NH (Eb.imp λ_ _ h=>aW.same e3 h) (qH.imp (λ_ _ h=>aW.same e3 h) λ_ _ _ _ h=>nd.same e3 h) VR hj q3 Ys;refine⟨l,WS,y,rfl,rfl,g4,by left,?_⟩;have er:ρ1.set i (some (.bS .ow Lq (jH j (.lst .ow (gs++[d])) 0 vs1)))=ρ.set i (some (.bS .ow (aS cs c) ws)):=by
   rw[ek,<- ew];have:=aaR (λz:bh=>z.set i (some (.bS .ow (aS cs c) ws))) NJ;simpa using this
  rw[er]at WL;exact hq σ _ R τ' WL (kp.trans (jg (n:=.l _) (fK.go e3) e3 (λ_ h=>h) g4 g6))
 refine⟨.ref q,hv,q,cs,as,xs,ep,rfl,hd,tD.intro Si Y5 λu H1 e1 ru=>⟨by simp,λl lS=>?_⟩⟩;obtain⟨τ1,f1,r1⟩:=ru;obtain⟨b,rfl,hb⟩:=va Yo r1;have e2:aI H1 (upd H1 l (.lst [])):=aI.upd lS;have es:=e1.trans e2;have sV:=Si.go es;have IQ:=hk.imp λ_ _ h=>aW.same es h;have TJ:aW X.K (upd H1 l (.lst [])) b (c.map V.int):=aW.same e2 hb;have B9:aD (aW X.K (upd H1 l (.lst []))) (nd X.K R (λ_=>False) τ (upd H1 l (.lst []))) [i] 0 xs vs:=rs.imp (λ_ _ h=>aW.same es h) λ_ _ _ _ h=>nd.same es h;refine⟨b,c,.ref l,rfl,es _ _ hd,IQ,TJ,by left,λw hw=>?_,λhn j0=>?_⟩
 ·rcases pI VU with ⟨we,_,_⟩|⟨j,gs,g1,g2,g3,g4,g5⟩
  ·rw[wu we]at hw;exact nk hw
  ·rw[g4 xs rs.length]at hw;exact fin sV (Kp.of es λ_ h=>h) ho rfl g1 g2 (by unfold aS;rw[if_pos g3]) g5 (es _ _ hd) ht IQ B9 hw
 ·rcases pI VU with ⟨we,hlen,hws⟩|⟨j,gs,g1,g2,g3,g4,g5⟩
  ·have tq:H l=none:=e1.free lS;have Z2:l≠q:=λz=>by rw[z,hd]at tq;cases tq
   have rk:gC X R τ (upd H1 l (.lst [])) (.ref l) (.lst .ow []):=⟨λa=>if a=l then some []else none,λa z hz=>by
    by_cases ha:a=l
    ·subst ha;refine⟨?_,λhr=>Si.rh a hr tq,?_,by rw[aV];simp⟩
     ·cases SE:τ a with
      |none=>rfl
      |some z=>exact absurd tq (Si.th a z SE)
     ·cases h0:X.H₀ a with
      |none=>rfl
      |some o=>rw[Si.same a o h0]at tq;cases tq
    ·simp[ha]at hz,.lst ⟨aV,by simp⟩ .nil⟩
   have K9:dE (upd H1 l (.lst [])) q (.d cs as xs ep):=es _ _ hd;have ekc:aS cs c=cs++[c]:=by unfold aS;rw[if_neg we]
   have Wm:bz cs xs c (.ref l)=xs++[.ref l]:=by unfold bz;rw[if_neg we]
   obtain⟨τ3,uS,X8,Xz⟩:=sV.MK (m:=vs.length) (n':=.d (aS cs c) (kN cs as c b) (bz cs xs c (.ref l)) j0) (o:=.ext (DO q (aS cs c) (kN cs as c b) (bz cs xs c (.ref l)) j0)) (d1:=.bS .ow (aS cs c) (vs++[.lst .ow []])) (xs':=bz cs xs c (.ref l)) (ds':=vs++[.lst .ow []]) ho hv K9 ht B9 rk aV
    (λhN r=>.bS hN (mV (IQ.imp λ_ _ h=>kl K9 h) (kl K9 TJ)) r) (λrs r=>by have h:=aD.vq rs (by simpa using r);rw[<- Wm]at h;exact h)
   refine fin (vs1:=vs++[.lst .ow []]) (gs:=[]) (j:=vs.length) uS (jg sV es (λ_ h=>h) K9 ht) (by rw[List.getElem?_set_self Lc]) (by simp) (by simp) (by simp;left) rfl ?_ aV X8 (mV (IQ.imp λ_ _ h=>kl K9 h) (kl K9 TJ)) Xz (by rw[Wm,List.getElem?_append_right (by rw[rs.length];exact Nat.le_refl _),rs.length];simp);rw[hws];have:∀(vs:List DI.D) (n:Nat),jH (n+vs.length) (.lst .ow [d]) n (vs++[.lst .ow []])=vs++[.lst .ow [d]]:=λvs=>by
    induction vs with
    |nil=>intro n;show(if n=n+0 then _ else _)::jH _ _ _ []=_;rw[if_pos (by left)];rfl
    |cons v vs ih =>
     intro n;show(if n=n+(vs.length+1)then _ else v)::jH (n+(vs.length+1)) _ (n+1) (vs++[.lst .ow []])=_;rw[if_neg (by left),show n+(vs.length+1)=n+1+vs.length by left,ih];rfl
   have h0:=this vs 0;rw[Nat.zero_add]at h0;exact h0.symm
  ·exact absurd g3 hn
end DI
end
section
namespace DI
open PySem PySem.Spec PyProof.Rows L2
open AutoSeq1 (wpAny_loadPart')
section
variable {prog:aB}{w:World}{A:az}{E:au}{s:Shared}
theorem om{R:ak->Shared->Prop}{r:Addr}{a b c:Int}{t u v:Tok}{n:Nat}(hh:A.handled=none)(hr:IsRange s.heap r a b c t u v)(m7:Builtin.Range.small a b c=true)(hn:Builtin.Range.rangeSize a b c=n)(hlen:n<=2 ^ 24)
  (h:∀(h':Heap) (tk:Nat) (acc:aM),(∀b o,s.heap.get? b=some o->h'.get? b=some o)->ItemsOf (λi v=>∃t,v=.int (a+i*c) t) acc n->R acc.toList { s with heap:=h',toks:=tk }):wpAny (model prog w) A (collect (.ref r)) R E s:=by
 unfold collect;refine aaa (wpAny_runValue (aaZ entry_proto_collect' ?_));rw[Around.under_plainId PySem.F.plain_proto_collect _];show wpAny _ A.in1 (newList [] >>= λl=>again (.builtin "list.__iadd__" ⟨[l,.ref r],[]⟩)) _ _ s;refine aaa (aaB ?_);refine aab ⟨acg PySem.F.plain_list_iadd _,aaZ entry_list_iadd' ?_⟩;rw[Around.under_plainId PySem.F.plain_list_iadd _];have Oa:(s.heap.push { cls:=.type "list",data:=.seq ([]:ak).toArray }).get? s.heap.objs.size=some { cls:=.type "list",data:=.seq #[] }:=aal _ rfl;show wpAny _ A.in1 (Builtin.List.listExtendWith (.ref s.heap.objs.size) (.ref r) (.ref s.heap.objs.size)) _ _ _;have key:=wpAny_extend_range (prog:=prog) (w:=w) (A:=A) (s:={ s with heap:=s.heap.push { cls:=.type "list",data:=.seq ([]:ak).toArray } })
  (R:=λ(q:Result) (s':Shared)=>∃(h':Heap) (tk:Nat) (lH:aM) (c':Nat),q=.ok (.ret (.ref s.heap.objs.size))/\s'={ s with heap:=h',toks:=tk } /\
   (∀b o,s.heap.get? b=some o->h'.get? b=some o)/\h'.get? s.heap.objs.size=some { cls:=.type "list",dict:=none,data:=.seq lH c',slots:=#[] }/\ItemsOf (λi v=>∃t,v=.int (a+i*c) t) lH n)
  hh (aag _ hr) m7 hn hlen s.heap.objs.size (.ref s.heap.objs.size) 0 Oa
  (λh' tk lH c' hk qf cY=>⟨h',tk,lH,c',rfl,rfl,λb o e=>hk b o (aan (aai e)) (aag _ e),qf,cY⟩)
 refine aaw key (λfin s' x=>?_) λe s' x=>?_
 ·cases fin with
  |done f =>
   obtain⟨h',tk,lH,c',e,rfl,hk,qf,cY⟩:=x;cases e;show wpAny _ A (load s.heap.objs.size >>= _) _ _ _;refine aaa (wpAny_load qf ?_);exact aab (h h' tk lH hk cY)
  |again c₁ =>
   refine⟨x.1,abx x.2 λq s₂ y=>?_⟩;obtain⟨h',tk,lH,c',rfl,rfl,hk,qf,cY⟩:=y;show wpAny _ A (load s.heap.objs.size >>= _) _ _ _;refine aaa (wpAny_load qf ?_);exact aab (h h' tk lH hk cY)
 ·obtain⟨_,_,_,_,e',_⟩:=x;cases e'
theorem kH{Q₁:au}{r:Addr}{a b c:Int}{t u v:Tok}{n:Nat}(hh:A.handled=none)(hr:IsRange s.heap r a b c t u v)(m7:Builtin.Range.small a b c=true)(hn:Builtin.Range.rangeSize a b c=n)(hlen:n<=2 ^ 24)
  (h:∀(h':Heap) (tk:Nat) (acc:aM),(∀b o,s.heap.get? b=some o->h'.get? b=some o)->ItemsOf (λi v=>∃t,v=.int (a+i*c) t) acc n->Q₁ (.ref h'.objs.size) { s with heap:=h'.push { cls:=.type "tuple",data:=.seq acc },toks:=tk }) :
  codeAny (model prog w) A (.call (.builtin "tuple.__new__") ⟨[.type "tuple",.ref r],[]⟩) (wants Q₁ E) s:=by
 refine codeAny_of_tree ?_;show wpAny _ A.in1 (do checkBuiltinCall "tuple.__new__" ⟨[.type "tuple",.ref r],[]⟩;again (.builtin "tuple.__new__" ⟨[.type "tuple",.ref r],[]⟩)) _ _ s;refine aaa (wpAny_of_eq (PySem.F.newCall_tuple_1 _) (aab ⟨acg PySem.F.plain_tuple_new _,aaZ PySem.F.entry_tuple_new ?_⟩));rw[Around.under_plainId PySem.F.plain_tuple_new _];have NI:=sub_tuple_self;have V0:=init_tuple_lookup;have Z1:=madeHere_tuple;have yS:s.TypeIs (.ref r) "range":=⟨_,hr,rfl⟩
 wp_walk using wpAny_typeOf yS,om (A:=A.in1) (n:=n) hh hr m7 hn hlen
 intro h' tk acc hk cY;show wpAny _ _ (Builtin.Tuple.tupleExact acc.toList.toArray >>= λv=>ret v) _ _ _;unfold Builtin.Tuple.tupleExact;refine aaa (aaB ?_ (by show acc.toList.toArray.size<=sizeLine;simp only[Array.toArray_toList];rw[cY.1,sizeLine_eq];exact hlen));refine aab ?_;have e:acc.toList.toArray=acc:=by simp
 rw[e];exact h h' tk acc hk cY
theorem kL{Q:au}{r:Addr}{a b c:Int}{t u v:Tok}{n:Nat}(hh:A.handled=none)(hr:IsRange s.heap r a b c t u v)(m7:Builtin.Range.small a b c=true)(hn:Builtin.Range.rangeSize a b c=n)(hlen:n<=2 ^ 24)
  (hQ:∀(h':Heap) (tk:Nat) (acc:aM),(∀b o,s.heap.get? b=some o->h'.get? b=some o)->ItemsOf (λi v=>∃t,v=.int (a+i*c) t) acc n->Q (.ref h'.objs.size) { s with heap:=h'.push { cls:=.type "tuple",data:=.seq acc },toks:=tk }) :
  wpAny (model prog w) A (call (.type "tuple") [.ref r]) Q E s:=by
 refine callType_codes (Q₁:=λobj s₁=>s₁.TypeIs obj "tuple" /\ Q obj s₁) PySem.F.called_tuple (PySem.F.typeCall_tuple_1 _) PySem.F.entry_object_init
  (kH hh hr m7 hn hlen λh' tk acc hk cY=>⟨⟨_,aal _ rfl,rfl⟩,hQ h' tk acc hk cY⟩) λobj s₁ h₁=>?_
 exact⟨h₁.1,PySem.F.args_object_init_2 obj _,object_init_meets PySem.F.called_tuple.init.lookup PySem.F.called_tuple.made (by decide) prog w A.in1 _ s₁ ⟨h₁.1,rfl,h₁.2⟩⟩
end
def L3(xs:ae):O D:=match one xs with
 |some x=>match x with
  |.int n=>if n<=ck /\ -ck<=n then ok (.tup ((ki n).map D.int))else none
  |_=>none
 |none=>none
theorem GO{xs:ae}{d:D}(h:L3 xs=ok d):∃n:Int,xs=[.int n]/\n<=ck /\ -ck<=n/\d=.tup ((ki n).map D.int):=by
 unfold L3 at h;cases hw:one xs with
 |none=>rw[hw]at h;exact nk h
 |some x =>
  obtain rfl:=b9 hw;rw[hw]at h;cases x<;>first|exact nk h | (cases h;done)|skip
  rename_i n;obtain⟨⟨h1,h2⟩,h3⟩:=n9 h;exact⟨n,rfl,h1,h2,h3.symm⟩
def wV(sc:Scope)(bl:aq)(e:Expr):Option (aA):=match dF e with
 |some z=>match one z.2 with
  |some i=>if z.1=("tuple" : Str)/\gb sc z.1=true/\z.1∈bl then fM ("range" : Str) sc bl i else none
  |none=>none
 |none=>none
variable {args:aA}
theorem BH{sc:Scope}{bl:aq}{e:Expr}(h:wV sc bl e=some args):∃p pos i,e=.Call (.Name ("tuple" : Str) p) [i] [] pos/\gb sc ("tuple" : Str)=true/\("tuple" : Str)∈bl/\fM ("range" : Str) sc bl i=some args:=by
 unfold wV at h;cases hv:dF e with
 |none=>rw[hv]at h;exact nk h
 |some z =>
  obtain⟨x,as⟩:=z;rw[hv]at h;obtain⟨p,pos,rfl⟩:=cG hv;have h2:(match one as with|some i=>if x=("tuple" : Str)/\gb sc x=true/\x∈bl then fM ("range" : Str) sc bl i else none|none=>none)=some args:=h;clear h;cases hw:one as with
  |none=>rw[hw]at h2;exact nk h2
  |some a =>
   rw[hw]at h2;have h3:(if x=("tuple" : Str)/\gb sc x=true/\x∈bl then fM ("range" : Str) sc bl a else none)=some args:=h2;clear h2;obtain rfl:=b9 hw;by_cases hc:x=("tuple" : Str)/\gb sc x=true/\x∈bl
   ·rw[if_pos hc]at h3;obtain⟨rfl,h1,h2⟩:=hc;exact⟨_,_,_,rfl,h1,h2,h3⟩
   ·rw[if_neg hc]at h3;cases h3
def W9(ta:TA):TE:=λσ H Q=>ta σ H λvs H1=>∃n:Int,vs=[.int n]/\n<=ck /\ -ck<=n/\∀l,H1 l=none->Q (.ref l) (upd H1 l (.tup ((ki n).map V.int)))
variable {X:Cx}
theorem xI{e1:Expr}{ta:TA}{p pos p' pos':Pos}(hc:X.calm=true)(NW:Gl X "tuple")(Ta:X.mg "tuple" = none)(hg:Gl X "range")(hm:X.mg "range" = none)(ha:PA X [e1] ta)(hs:starEach [e1] X.env=[(false,eval e1 X.env)]):
  PE X (.Call (.Name "tuple" p') [.Call (.Name "range" p) [e1] [] pos] [] pos') (W9 ta):=by
 intro pins s σ H Q I h;refine aaV (eE I NW Ta (show bootBuiltins "tuple" = some (.type "tuple") by decide +kernel) ?_);refine aas ?_;show wpAny _ _ (spliced ((false,eval (.Call (.Name "range" p) [e1] [] pos) X.env)::backTo pos' (starEach [] X.env))) _ _ s;refine abw ?_;refine Call_ (eE I hg hm boot_range (aas (cV (ha pos pins s σ H _ I h) λus s1 bN=>?_) hs rfl));obtain⟨vs,H1,I1,r1,q1⟩:=bN;obtain⟨n,e,n1,n2,hq⟩:=q1;subst e;have ZS:n<=1000000:=n1;have ZR:-1000000<=n:=n2;cases r1 with
 |cons r rr =>
  cases rr;obtain⟨t,rfl⟩:=r;refine call_range_1 (abG ?_);have e2:Builtin.Range.rangeSize 0 n 1=((n.toNat:Nat):Int):=by rw[rangeSize_one];split<;>left
  refine kL (I1.ok.hd hc) (IsRange.new ..) (small_one (by left) (by left) (by left) (by left)) e2 (by left) λh' tk lH hk cY=>?_;have keep:∀b o,s1.heap.get? b=some o->h'.get? b=some o:=λb o e=>hk b o (aag _ e);have hsz:lH.size=n.toNat:=cY.1;have hle:s1.heap.objs.size<=h'.objs.size:=by
   have cL:=aai (hk _ _ (IsRange.new (h:=s1.heap) (a:=0) (b:=n) (c:=1) (t:=_) (u:=_) (v:=_)));exact acj cL
  refine⟨.ref _,upd H1 _ (.tup ((ki n).map V.int)),I1.laid (t':=tk) (λb o e=>aag _ (keep b o e)) hle ⟨?_,lH.toList,?_,?_⟩,rfl,hq _ (I1.cN.fresh hle)⟩
  ·rw[sizeLine_eq];simp[ki];left
  ·refine qM (by simp[ki,hsz]) λi u hu=>?_;have F6:lH[i]?=some u:=by simpa using hu
   have hi:i<n.toNat:=by rw[<- hsz];exact(Array.getElem?_eq_some_iff.mp F6).1
   obtain⟨t,rfl⟩:=cY.2 i u F6;refine⟨t,?_⟩;have:(ki n).getD i 0=(i:Int):=by unfold ki;simp[List.getD,hi]
   rw[this];congr 1;left
  ·exact⟨_,aal _ rfl,rfl,_,by rw[Array.toArray_toList]⟩
theorem L1{Φ:a_}{n:Nat}(hΦ:Φ n=L3){sc:Scope}{bl:aq}{k:Nat}(L:PX X sc bl k){e:Expr}(he:wV sc bl e=some args){F:ah}{cs:aF}(hs:lJ X F Φ cs args):PE X e (tD X F Φ (.cF n cs))/\PT X e (gm X F Φ (.cF n cs)):=by
 obtain⟨p,pos,i,rfl,h1,h2,hz⟩:=BH he;obtain⟨p',pos',a,rfl,rfl,h3,h4⟩:=kI hz;cases cs with
 |nil=>exact hs.elim
 |cons c cs=>cases cs with
  |cons _ _=>exact hs.2.2.2.elim
  |nil =>
   have pa:PA X [a] (qT X F Φ [c]):=PA.imp (cv hs.1 (PA.imp dI λ_ _ _ h=>jJ h) (hs.2.1 _)) λ_ _ _ h=>fV h;have this:PE X (.Call (.Name ("tuple" : Str) p) [.Call (.Name ("range" : Str) p') [a] [] pos'] [] pos) (tD X F Φ (.cF n [c])):=by
    refine PE.imp (xI L.calm (L.gl h1) (L.bl _ h2) (L.gl h3) (L.bl _ h4) pa (hs.2.1 _)) λσ H Q hq=>?_;obtain⟨R,τ,ρ,d,Si,ev,hq⟩:=hq;obtain⟨xs,cy,ev⟩:=aH ev;rw[hΦ]at ev;obtain⟨m,rfl,m1,m2,rfl⟩:=GO ev;refine⟨R,τ,ρ,_,Si,cy,λus H1 e1 r1=>?_⟩;obtain⟨τt,fr,rs⟩:=r1;obtain⟨v,rfl,rv⟩:=rs.one;cases rv;refine⟨m,rfl,m1,m2,λl lS=>hq _ _ (e1.trans (aI.upd lS)) ⟨λ_=>none,λ_ _ h=>by simp at h,.tup (aW.of aV) (iH _)⟩⟩
   exact⟨this,cE this λ_=>rfl⟩
end DI
end
section
namespace DI
open PySem (Str)
section
variable {α β:Type}
@[simp]theorem cZ(a:α)(f:α->O β):bd (ok a) f=f a:=rfl
@[simp]theorem Qy(c:Nat)(f:α->O β):bd (some (.error c)) f=some (.error c):=rfl
noncomputable def Gv(f:α->O β)(x:O α):O β:=bd x f
@[simp]theorem UR(f:α->O β)(a:α):Gv f (ok a)=f a:=rfl
@[simp]theorem QC(f:α->O β)(c:Nat):Gv f (some (.error c))=some (.error c):=rfl
end
def OU(op:Fx)(x y:O D):O D:=bd x λx=>bd y λy=>cD op x y
@[simp]theorem Qx(op:Fx)(x y:D):OU op (ok x) (ok y)=cD op x y:=rfl
def OI(op:yX)(x y:O D):O D:=bd x λx=>bd y λy=>gO op x y
@[simp]theorem Qv(op:yX)(x y:D):OI op (ok x) (ok y)=gO op x y:=rfl
def VI(x y:O D):O D:=bd x λx=>bd y λy=>v5 x y
@[simp]theorem R8(x y:D):VI (ok x) (ok y)=v5 x y:=rfl
def M4(x:O D):O D:=bd (bd x gL) λb=>ok (.bl (!b))
@[simp]theorem P5(b:Bool):M4 (ok (.bl b))=ok (.bl (!b)):=rfl
@[simp]theorem LZ(b:Bool):gL (.bl b)=ok b:=rfl
def tR(x:O D):O Bool:=bd x gL
@[simp]theorem Pr(b:Bool):tR (ok (.bl b))=ok b:=rfl
@[simp]theorem LY(c:Nat):tR (some (.error c))=some (.error c):=rfl
def VL(t:Ty)(x:O D):O D:=bd x λx=>ok (.bl (cP t x))
@[simp]theorem Sh(t:Ty)(x:D):VL t (ok x)=ok (.bl (cP t x)):=rfl
def BQ(m:aG)(xs:O (ae)):O D:=bd xs λxs=>bd (m (aC bp xs)) λr=>ok (aY gv r)
def Uj(x:O D):O D:=bd x λr=>ok (aY gv r)
@[simp]theorem Ui(r:D):Uj (ok r)=ok (aY gv r):=rfl
@[simp]theorem Qm(c:Nat):Uj (some (.error c))=some (.error c):=rfl
@[simp]theorem ON(m:aG)(xs:ae):BQ m (ok xs)=Uj (m (aC bp xs)):=rfl
@[simp]theorem Lw(m:aG)(c:Nat):BQ m (some (.error c))=some (.error c):=rfl
noncomputable def wN(x:O D)(xs:O (ae)):O (ae):=bd x λx=>bd xs λxs=>ok (x::xs)
@[simp]theorem OH(x:D)(xs:ae):wN (ok x) (ok xs)=ok (x::xs):=rfl
@[simp]theorem Lr(c:Nat)(xs:O (ae)):wN (some (.error c)) xs=some (.error c):=rfl
@[simp]theorem J8(x:D)(c:Nat):wN (ok x) (some (.error c))=some (.error c):=rfl
noncomputable def Nw(x:O Bool)(a b:O D):O D:=bd x λk=>if k then a else b
@[simp]theorem Se(a b:O D):Nw (ok true) a b=a:=rfl
@[simp]theorem Sf(a b:O D):Nw (ok false) a b=b:=rfl
def Fh(x y:O D):O D:=bd (bd x gL) λc=>if c then y else ok (.bl false)
@[simp]theorem US(y:O D):Fh (ok (.bl true)) y=y:=rfl
@[simp]theorem UT(y:O D):Fh (ok (.bl false)) y=ok (.bl false):=rfl
@[simp]theorem UU(a b:Bool):Fh (ok (.bl a)) (ok (.bl b))=ok (.bl (a&&b)):=by cases a<;>rfl
def P0(x y:O D):O D:=bd (bd x gL) λc=>if c then ok (.bl true)else y
@[simp]theorem Vo(y:O D):P0 (ok (.bl true)) y=ok (.bl true):=rfl
@[simp]theorem Vp(y:O D):P0 (ok (.bl false)) y=y:=rfl
@[simp]theorem Vq(a b:Bool):P0 (ok (.bl a)) (ok (.bl b))=ok (.bl (a||b)):=by cases a<;>rfl
def Ay(x:O D):O D:=bd (bd x gL) λc=>ok (.bl c)
@[simp]theorem Nq(c:Bool):Ay (ok (.bl c))=ok (.bl c):=rfl
@[simp]theorem Mq(d:D):vt (some (some d))=ok (aY bo d):=rfl
section
variable (Φ:a_)(ρ:bh)
@[simp]theorem Ww:bx Φ .bW ρ=ok .bW:=rfl
@[simp]theorem Zc(b:Bool):bx Φ (.bl b) ρ=ok (.bl b):=rfl
@[simp]theorem Gi(i:Int):bx Φ (.int i) ρ=ok (.int i):=rfl
@[simp]theorem WC(x:Str)(i:Int):bx Φ (.glo x i) ρ=ok (.int i):=rfl
@[simp]theorem WB(x:Str)(zs:aa):bx Φ (.glt x zs) ρ=ok (.tup (zs.map D.int)):=rfl
@[simp]theorem e_v(i:Nat):bx Φ (.v i) ρ=vt ρ[i]?:=rfl
@[simp]theorem WE(op:Fx)(a b:CE):bx Φ (.bin op a b) ρ=OU op (bx Φ a ρ) (bx Φ b ρ):=rfl
@[simp]theorem WD(op:yX)(a b:CE):bx Φ (.cmp op a b) ρ=OI op (bx Φ a ρ) (bx Φ b ρ):=rfl
@[simp]theorem Wy(a:CE):bx Φ (.neg a) ρ=Gv DT (bx Φ a ρ):=rfl
@[simp]theorem Wv(a:CE):bx Φ (.not a) ρ=M4 (bx Φ a ρ):=rfl
@[simp]theorem WA(a:CE)(t:Ty):bx Φ (.jV a t) ρ=VL t (bx Φ a ρ):=rfl
@[simp]theorem UB(f:Nat)(es:aF):bx Φ (.call f es) ρ=BQ (Φ f) (cz Φ es ρ):=rfl
@[simp]theorem Zd(f:Bf)(es:aF):bx Φ (.bf f es) ρ=Gv (qC f) (cz Φ es ρ):=rfl
@[simp]theorem Ws(f:Nat)(es:aF):bx Φ (.cF f es) ρ=Gv (Φ f) (cz Φ es ρ):=rfl
@[simp]theorem Zb(a b:CE):bx Φ (.ix a b) ρ=VI (bx Φ a ρ) (bx Φ b ρ):=rfl
@[simp]theorem Uz(a:CE):bx Φ (.iP a) ρ=Gv vR (bx Φ a ρ):=rfl
@[simp]theorem Wr(es:aF):bx Φ (.tup es) ρ=Gv (λxs=>ok (.tup xs)) (cz Φ es ρ):=rfl
@[simp]theorem Wz(es:aF):bx Φ (.lst es) ρ=Gv (λxs=>ok (.lst .ow xs)) (cz Φ es ρ):=rfl
@[simp]theorem WG(es:aF):bx Φ (.and es) ρ=o3 Φ es ρ:=rfl
@[simp]theorem Za(es:aF):bx Φ (.or es) ρ=yp Φ es ρ:=rfl
@[simp]theorem UD(e:CE):o3 Φ [e] ρ=Ay (bx Φ e ρ):=rfl
@[simp]theorem UC(e e':CE)(es:aF):o3 Φ (e::e'::es) ρ=Fh (bx Φ e ρ) (o3 Φ (e'::es) ρ):=rfl
@[simp]theorem Wu(e:CE):yp Φ [e] ρ=Ay (bx Φ e ρ):=rfl
@[simp]theorem Wt(e e':CE)(es:aF):yp Φ (e::e'::es) ρ=P0 (bx Φ e ρ) (yp Φ (e'::es) ρ):=rfl
@[simp]theorem Wx:cz Φ [] ρ=ok []:=rfl
@[simp]theorem UA(e:CE)(es:aF):cz Φ (e::es) ρ=wN (bx Φ e ρ) (cz Φ es ρ):=rfl
@[simp]theorem e_T(e:CE):yo Φ e ρ=tR (bx Φ e ρ):=rfl
theorem UH(e:CE):bd (bx Φ e ρ) gL=tR (bx Φ e ρ):=rfl
@[simp]theorem UG:gJ Φ [] ρ=ok true:=rfl
@[simp]theorem UE(e:CE):gJ Φ [e] ρ=tR (bx Φ e ρ):=by
 rw[gJ,UH];cases h:tR (bx Φ e ρ)with
 |none=>rfl
 |some r=>cases r with
  |error c=>rfl
  |ok b=>cases b<;>simp[gJ,bd,ok]
end
def kC(is:aO):Nat->bh->bh
 |_,[]=>[]
 |n,d::ρ=>(if n∈is then d.map (aY bp)else d)::kC is (n+1) ρ
theorem Gf(is:aO):∀(ρ:bh) (n:Nat),ρ.mapIdx (λi d=>if i+n∈is then d.map (aY bp)else d)=kC is n ρ
 |[],_=>rfl
 |d::ρ,n=>by
  rw[List.mapIdx_cons,kC,<- Gf is ρ (n+1)];simp only[Nat.zero_add,Nat.add_assoc,Nat.add_comm 1 n]
theorem uw(is:aO)(ρ:bh):h_ is ρ=kC is 0 ρ:=by rw[<- Gf];rfl
@[simp]theorem Om(is:aO)(n:Nat):kC is n []=[]:=rfl
@[simp]theorem Lj(is:aO)(n:Nat)(d:aE)(ρ:bh):kC is n (d::ρ)=(if n∈is then d.map (aY bp)else d)::kC is (n+1) ρ:=rfl
def cJ(e:CE)(ρ:bh)(x:O D):O (D×bh):=bd x λd=>ok (keep e d ρ)
variable {ρ ρ1:bh}
@[simp]theorem rX{e:CE}{d:D}(h:aT bL d=false):cJ e ρ (ok d)=ok (d,ρ):=by
 show ok (keep e d ρ)=_;rw[keep,h];rfl
@[simp]theorem Nu{e:CE}{d:D}(h:aT bL d=true):cJ e ρ (ok d)=ok (aY bp d,kC (gQ e) 0 ρ):=by
 show ok (keep e d ρ)=_;rw[keep,h,<- uw];rfl
@[simp]theorem KW(e:CE)(ρ:bh)(c:Nat):cJ e ρ (some (.error c))=some (.error c):=rfl
def Al(i:Nat)(ρ:bh)(o:Option (aE)):O (D×bh):=match o with
 |some (some d)=>if aT bR d then ok (d,ρ.set i none)else ok (d,ρ)
 |_=>none
@[simp]theorem M9{i:Nat}{d:D}(h:aT bR d=true):Al i ρ (some (some d))=ok (d,ρ.set i none):=aaN h
@[simp]theorem M_{i:Nat}{d:D}(h:aT bR d=false):Al i ρ (some (some d))=ok (d,ρ):=ack (by rw[h];exact aad)
@[simp]theorem ZV(Φ:a_)(i:Nat)(ρ:bh):ji Φ (.v i) ρ=Al i ρ ρ[i]?:=rfl
noncomputable def XX:CE->Bool
 |.v _=>true
 |_=>false
@[simp]theorem VE(Φ:a_)(ρ:bh)(op:Fx)(a b:CE):ji Φ (.bin op a b) ρ=cJ (.bin op a b) ρ (bx Φ (.bin op a b) ρ):=rfl
@[simp]theorem VD(Φ:a_)(ρ:bh)(op:yX)(a b:CE):ji Φ (.cmp op a b) ρ=cJ (.cmp op a b) ρ (bx Φ (.cmp op a b) ρ):=rfl
@[simp]theorem R7(Φ:a_)(ρ:bh)(f:Nat)(es:aF):ji Φ (.call f es) ρ=cJ (.call f es) ρ (bx Φ (.call f es) ρ):=rfl
@[simp]theorem XW(Φ:a_)(ρ:bh)(f:Bf)(es:aF):ji Φ (.bf f es) ρ=cJ (.bf f es) ρ (bx Φ (.bf f es) ρ):=rfl
@[simp]theorem Vx(Φ:a_)(ρ:bh)(f:Nat)(es:aF):ji Φ (.cF f es) ρ=cJ (.cF f es) ρ (bx Φ (.cF f es) ρ):=rfl
@[simp]theorem XT(Φ:a_)(ρ:bh)(a b:CE):ji Φ (.ix a b) ρ=cJ (.ix a b) ρ (bx Φ (.ix a b) ρ):=rfl
@[simp]theorem Vw(Φ:a_)(ρ:bh)(es:aF):ji Φ (.tup es) ρ=cJ (.tup es) ρ (bx Φ (.tup es) ρ):=rfl
@[simp]theorem VB(Φ:a_)(ρ:bh)(es:aF):ji Φ (.lst es) ρ=cJ (.lst es) ρ (bx Φ (.lst es) ρ):=rfl
@[simp]theorem FZ(Φ:a_)(ρ:bh)(i:Int):ji Φ (.int i) ρ=cJ (.int i) ρ (bx Φ (.int i) ρ):=rfl
@[simp]theorem XU(Φ:a_)(ρ:bh)(i:Bool):ji Φ (.bl i) ρ=cJ (.bl i) ρ (bx Φ (.bl i) ρ):=rfl
@[simp]theorem Vz(Φ:a_)(ρ:bh): ji Φ (.bW) ρ=cJ (.bW) ρ (bx Φ (.bW) ρ):=rfl
@[simp]theorem VA(Φ:a_)(ρ:bh)(a:CE):ji Φ (.neg a) ρ=cJ (.neg a) ρ (bx Φ (.neg a) ρ):=rfl
@[simp]theorem Vy(Φ:a_)(ρ:bh)(a:CE):ji Φ (.not a) ρ=cJ (.not a) ρ (bx Φ (.not a) ρ):=rfl
@[simp]theorem VF(Φ:a_)(ρ:bh)(es:aF):ji Φ (.and es) ρ=cJ (.and es) ρ (bx Φ (.and es) ρ):=rfl
@[simp]theorem XS(Φ:a_)(ρ:bh)(es:aF):ji Φ (.or es) ρ=cJ (.or es) ρ (bx Φ (.or es) ρ):=rfl
@[simp]theorem R6(Φ:a_)(ρ:bh)(n:Nat)(t:Tg)(caps:aO)(ik:IK)(es bI:aF)(elt:CE):ji Φ (.comp n t caps ik es bI elt) ρ=cJ (.comp n t caps ik es bI elt) ρ (bx Φ (.comp n t caps ik es bI elt) ρ):=rfl
@[simp]theorem VC(Φ:a_)(ρ:bh)(a:CE)(t:Ty):ji Φ (.jV a t) ρ=cJ (.jV a t) ρ (bx Φ (.jV a t) ρ):=rfl
@[simp]theorem R5(Φ:a_)(ρ:bh)(a:CE):ji Φ (.iP a) ρ=cJ (.iP a) ρ (bx Φ (.iP a) ρ):=rfl
theorem KY(Φ:a_)(e:CE)(ρ:bh)(h:XX e=false):ji Φ e ρ=cJ e ρ (bx Φ e ρ):=by cases e<;>first|rfl|cases h
@[simp]theorem Kz(ρ:bh):gI [] [] ρ=ok ρ:=rfl
variable {ds xs:ae}{is:aO}
@[simp]theorem G6{i:Nat}{d:D}(h:i<ρ.length):gI (i::is) (d::ds) ρ=gI is ds (ρ.set i (some d)):=aaN h
@[simp]theorem PH{i:Nat}{d:D}(h:i<ρ.length):bV (.nm i) d ρ=ok (ρ.set i (some d)):=aaN h
@[simp]theorem PF(h:aQ bR ds=false):bV (.tp is) (.tup ds) ρ=gI is ds ρ:=ack (by rw[h];exact aad)
def Kk(i:Nat)(r:O (D×bh)):O (Fo×bh):=bd r λr=>bd (bV (.nm i) r.1 r.2) λρ'=>ok (.nx,ρ')
@[simp]theorem xh{i:Nat}{d:D}(h:i<ρ.length):Kk i (ok (d,ρ))=ok (.nx,ρ.set i (some d)):=by
 show bd (bV (.nm i) d ρ) _=_;rw[bV,if_pos h];rfl
@[simp]theorem OZ(i:Nat)(c:Nat):Kk i (some (.error c))=some (.error c):=rfl
def OY(is:aO)(r:O (D×bh)):O (Fo×bh):=bd r λr=>bd (bV (.tp is) r.1 r.2) λρ'=>ok (.nx,ρ')
@[simp]theorem QA(h:aQ bR ds=false):OY is (ok (.tup ds,ρ))=bd (gI is ds ρ) λρ'=>ok (.nx,ρ'):=by
 show bd (bV (.tp is) (.tup ds) ρ) _=_;rw[bV,h];rfl
noncomputable def retS(r:O (D×bh)):O (Fo×bh):=bd r λr=>ok (.rt r.1,r.2)
@[simp]theorem PJ(d:D)(ρ:bh):retS (ok (d,ρ))=ok (.rt d,ρ):=rfl
@[simp]theorem Mx(c:Nat):retS (some (.error c))=some (.error c):=rfl
noncomputable def Uq(ρ:bh)(x:O D):O (Fo×bh):=bd x λ_=>ok (.nx,ρ)
@[simp]theorem Uo(ρ:bh)(d:D):Uq ρ (ok d)=ok (.nx,ρ):=rfl
@[simp]theorem Qr(ρ:bh)(c:Nat):Uq ρ (some (.error c))=some (.error c):=rfl
noncomputable def oE(Φ:a_)(ss:aj)(r:O (Fo×bh)):O (Fo×bh):=bd r λr=>match r with
 | (.nx,ρ')=>bX Φ ss ρ'
 |r=>ok r
@[simp]theorem mC(Φ:a_)(ss:aj)(ρ:bh):oE Φ ss (ok (.nx,ρ))=bX Φ ss ρ:=rfl
@[simp]theorem L5(Φ:a_)(ss:aj)(d:D)(ρ:bh):oE Φ ss (ok (.rt d,ρ))=ok (.rt d,ρ):=rfl
@[simp]theorem L7(Φ:a_)(ss:aj)(ρ:bh):oE Φ ss (ok (.bk,ρ))=ok (.bk,ρ):=rfl
@[simp]theorem L6(Φ:a_)(ss:aj)(ρ:bh):oE Φ ss (ok (.ct,ρ))=ok (.ct,ρ):=rfl
@[simp]theorem Kw(Φ:a_)(ss:aj)(c:Nat):oE Φ ss (some (.error c))=some (.error c):=rfl
noncomputable def D3(Φ:a_)(a b:aj)(ρ:bh)(x:O Bool):O (Fo×bh):=bd x λk=>if k then bX Φ a ρ else bX Φ b ρ
@[simp]theorem Sb(Φ:a_)(a b:aj)(ρ:bh):D3 Φ a b ρ (ok true)=bX Φ a ρ:=rfl
@[simp]theorem Sd(Φ:a_)(a b:aj)(ρ:bh):D3 Φ a b ρ (ok false)=bX Φ b ρ:=rfl
@[simp]theorem Nv(Φ:a_)(a b:aj)(ρ:bh)(c:Nat):D3 Φ a b ρ (some (.error c))=some (.error c):=rfl
def O0(i:Nat)(r:O (D×bh)):O (Fo×bh):=bd r λr=>match z9 r.2[i]? with
  |some ds=>if ds.length<ck then ok (.nx,r.2.set i (some (.lst .ow (ds++[r.1]))))else none
  |none=>none
@[simp]theorem Ff{i:Nat}{d:D}(h:ρ[i]?=some (some (.lst .ow ds)))(hl:ds.length<ck):O0 i (ok (d,ρ))=ok (.nx,ρ.set i (some (.lst .ow (ds++[d])))):=by
 show(match z9 ρ[i]? with|some ds=>_|none=>_)=_;rw[h];exact aaN hl
section
variable (Φ:a_)(ρ:bh)
@[simp]theorem U_:bX Φ [] ρ=ok (.nx,ρ):=rfl
@[simp]theorem eC(s:CS)(ss:aj):bX Φ (s::ss) ρ=oE Φ ss (oZ Φ s ρ):=rfl
@[simp]theorem Fz(i:Nat)(e:CE):oZ Φ (.asg (.nm i) e) ρ=Kk i (ji Φ e ρ):=rfl
@[simp]theorem QH(is:aO)(e:CE):oZ Φ (.asg (.tp is) e) ρ=OY is (ji Φ e ρ):=rfl
@[simp]theorem U9(e:CE):oZ Φ (.ret e) ρ=retS (ji Φ e ρ):=rfl
theorem oz(c:CE)(b:aj):oZ Φ (.GG c b) ρ=eW (λρ=>bd (yo Φ c ρ) λk=>if k then bd (bX Φ b ρ) λr=>match r with
   | (.nx,ρ')=>ok (.inl ρ')
   | (.ct,ρ')=>ok (.inl ρ')
   | (.bk,ρ')=>ok (.inr (.nx,ρ'))
   | (.rt d,ρ')=>ok (.inr (.rt d,ρ'))
  else ok (.inr (.nx,ρ))) ρ:=rfl
theorem LH(i j:Nat)(a b:CE):oZ Φ (.par i j a b) ρ=bd (bx Φ a ρ) λx=>bd (bx Φ b ρ) λy=>if aT anyF x=false/\aT anyF y=false/\i<ρ.length/\j<ρ.length then ok (.nx,(ρ.set i (some x)).set j (some y))else none:=rfl
@[simp]theorem WU(c:Nat):oZ Φ (.rs c) ρ=some (.error c):=rfl
@[simp]theorem WV(e:CE):oZ Φ (.ex e) ρ=Uq ρ (bx Φ e ρ):=rfl
@[simp]theorem LJ(c:CE)(a b:aj):oZ Φ (.ifs c a b) ρ=D3 Φ a b ρ (tR (bx Φ c ρ)):=rfl
@[simp]theorem LM(i:Nat)(e:CE):oZ Φ (.app i e) ρ=O0 i (ji Φ e ρ):=rfl
end
noncomputable def mk(Φ:a_)(ar n:Nat)(b:aj):aG:=λds=>if ds.length=ar then pM Φ n b ds else none
noncomputable def qk(r:O (Fo×bh)):O D:=bd r λr=>match r.1 with
 |.nx=>ok .bW
 |.rt d=>ok d
 |_=>none
@[simp]theorem Qt(ρ:bh):qk (ok (.nx,ρ))=ok .bW:=rfl
@[simp]theorem Qs(d:D)(ρ:bh):qk (ok (.rt d,ρ))=ok d:=rfl
@[simp]theorem OA(c:Nat):qk (some (.error c))=some (.error c):=rfl
variable {ar:Nat}{Φ:a_}
theorem mk_eq{n:Nat}{b:aj}(h:ds.length=ar):mk Φ ar n b ds=qk (bX Φ b (ds.map some++List.replicate (n - ds.length) none)):=aaN h
theorem t_{n:Nat}{b:aj}(ds:ae)(r:D)(h:mk Φ ar n b ds=ok r):ds.length=ar/\pM Φ n b ds=ok r:=by
 unfold mk at h;split at h
 ·rename_i hl;exact⟨hl,h⟩
 ·cases h
theorem Int.beq_eq_decide_eq(i j:Int):(i==j)=decide (i=j):=rfl
section
variable (g:Fl->Fl)(p:Fl->Bool)
@[simp]theorem DU(b:Bool):aY g (.bl b)=.bl b:=rfl
@[simp]theorem Ar(b:Int):aY g (.int b)=.int b:=rfl
@[simp]theorem Nf:aY g .bW=.bW:=rfl
@[simp]theorem Ap(ds:ae):aY g (.tup ds)=.tup (aC g ds):=rfl
@[simp]theorem Ng(f:Fl)(ds:ae):aY g (.lst f ds)=.lst (g f) (aC g ds):=rfl
@[simp]theorem Nh(f:Fl)(ks:aw)(vs:ae):aY g (.bS f ks vs)=.bS (g f) ks (aC g vs):=rfl
@[simp]theorem KR:aC g []=[]:=rfl
@[simp]theorem eZ(d:D)(ds:ae):aC g (d::ds)=aY g d::aC g ds:=rfl
@[simp]theorem KU(a b:ae):aC g (a++b)=aC g a++aC g b:=by simp only[bg,List.map_append]
@[simp]theorem KS(ds:ae):(aC g ds).length=ds.length:=by rw[bg,List.length_map]
theorem dJ{α:Type}{e:α->D}(h:∀x,aY g (e x)=e x)(xs:List α):aC g (xs.map e)=xs.map e:=by
 rw[bg,List.map_map];exact aaL λx _=>h x
theorem cQ{α:Type}{e:α->D}(h:∀x,aT p (e x)=false):∀xs:List α,aQ p (xs.map e)=false
 |[]=>by rw[List.map_nil,aQ]
 |x::xs=>by rw[List.map_cons,aQ,h x,cQ h xs];rfl
@[simp]theorem Ek(b:Bool):aT p (.bl b)=false:=aca rfl
@[simp]theorem m_(b:Int):aT p (.int b)=false:=aca rfl
@[simp]theorem N6:aT p .bW=false:=aca rfl
@[simp]theorem A5(ds:ae):aT p (.tup ds)=aQ p ds:=aca rfl
@[simp]theorem A6(f:Fl)(ds:ae):aT p (.lst f ds)=(p f||aQ p ds):=aca rfl
@[simp]theorem N7(f:Fl)(ks:aw)(vs:ae):aT p (.bS f ks vs)=(p f||aQ p vs):=aca rfl
@[simp]theorem Lg:aQ p []=false:=aca rfl
@[simp]theorem IZ(d:D)(ds:ae):aQ p (d::ds)=(aT p d||aQ p ds):=aca rfl
@[simp]theorem yg:∀a b:ae,aQ p (a++b)=(aQ p a||aQ p b)
 |[],b=>by simp
 |d::a,b=>by simp[yg a b,Bool.or_assoc]
@[simp]theorem gu(ns:aa):aC g (ns.map D.int)=ns.map D.int:=dJ g (Ar g) ns
@[simp]theorem uu(ns:aa):aQ p (ns.map D.int)=false:=cQ p (m_ p) ns
@[simp]theorem xO(ns:List Bool):aC g (ns.map D.bl)=ns.map D.bl:=dJ g (DU g) ns
@[simp]theorem yf(ns:List Bool):aQ p (ns.map D.bl)=false:=cQ p (Ek p) ns
@[simp]theorem KZ(t:Ty)(d:D):cP t (aY g d)=cP t d:=by cases d<;>cases t<;>rfl
end
@[simp]theorem Jp:bo .ow=.al:=rfl
@[simp]theorem Jq:bo .fz=.fz:=rfl
@[simp]theorem Jr:bo .al=.al:=rfl
@[simp]theorem Jo:bo .sc=.sc:=rfl
@[simp]theorem Jl:bp .ow=.fz:=rfl
@[simp]theorem Jm:bp .fz=.fz:=rfl
@[simp]theorem Jn:bp .al=.fz:=rfl
@[simp]theorem Jk:bp .sc=.sc:=rfl
@[simp]theorem JE:gv .ow=.ow:=rfl
@[simp]theorem JF:gv .fz=.al:=rfl
@[simp]theorem JG:gv .al=.al:=rfl
@[simp]theorem JD:gv .sc=.sc:=rfl
@[simp]theorem JA:bL .ow=false:=rfl
@[simp]theorem JB:bL .fz=false:=rfl
@[simp]theorem JC:bL .al=true:=rfl
@[simp]theorem Jz:bL .sc=false:=rfl
@[simp]theorem Jw:bR .ow=true:=rfl
@[simp]theorem Jx:bR .fz=false:=rfl
@[simp]theorem Jy:bR .al=false:=rfl
@[simp]theorem Jv:bR .sc=false:=rfl
@[simp]theorem Js:uf .ow=false:=rfl
@[simp]theorem Jt:uf .fz=false:=rfl
@[simp]theorem Ju:uf .al=false:=rfl
noncomputable def ai(ns:aa):ae:=ns.map D.int
noncomputable def lG(ns:List Bool):ae:=ns.map D.bl
@[simp]theorem oQ(ns:aa):(ai ns).length=ns.length:=aa1 ..
@[simp]theorem OT(ns:List Bool):(lG ns).length=ns.length:=aa1 ..
@[simp]theorem x3:ai []=[]:=rfl
@[simp]theorem ug(n:Int)(ns:aa):ai (n::ns)=.int n::ai ns:=rfl
@[simp]theorem IA(ns:aa)(n:Int):ai ns++[.int n]=ai (ns++[n]):=by simp[ai]
@[simp]theorem x4(ns:aa)(i:Nat):(ai ns)[i]?=ns[i]?.map D.int:=List.getElem?_map ..
@[simp]theorem g9(g:Fl->Fl)(ns:aa):aC g (ai ns)=ai ns:=gu g ns
@[simp]theorem F_(p:Fl->Bool)(ns:aa):aQ p (ai ns)=false:=uu p ns
@[simp]theorem HX(g:Fl->Fl)(ns:List Bool):aC g (lG ns)=lG ns:=xO g ns
@[simp]theorem I0(p:Fl->Bool)(ns:List Bool):aQ p (lG ns)=false:=yf p ns
@[simp]theorem WI(i j:Int):cD .add (.int i) (.int j)=ok (.int (i+j)):=rfl
@[simp]theorem WH(i j:Int):cD .sub (.int i) (.int j)=ok (.int (i - j)):=rfl
theorem i5{i j:Int}(h:eY i j=true):cD .mul (.int i) (.int j)=ok (.int (i*j)):=aaN h
theorem jn{i j:Int}(h:o5 j=true):cD .fdiv (.int i) (.int j)=ok (.int (i.fdiv j)):=aaN h
@[simp]theorem OW{i j:Int}(h:j≠0):cD .mod (.int i) (.int j)=ok (.int (i.fmod j)):=aaN h
theorem OV{i j:Int}(h:jO i j=true):cD .shl (.int i) (.int j)=ok (.int (i*2 ^ j.toNat)):=aaN h
theorem Gp{i j:Int}(h:jO i j=true):cD .pow (.int i) (.int j)=ok (.int (i ^ j.toNat)):=aaN h
@[simp]theorem Vu(i:Int):DT (.int i)=ok (.int (-i)):=rfl
theorem mulOk_of{i j:Int}(h:i.natAbs<2 ^ 9000)(h':j.natAbs<2 ^ 9000):eY i j=true:=by
 simp only[eY,big,h,h',decide_true,Bool.and_self,Bool.or_true]
theorem mQ{n:Nat}(h:n<2 ^ 64):n<2 ^ 9000:=aao h (aay (by decide) (by decide))
theorem pU{i:Int}(j:Int)(h:i.natAbs<2 ^ 64):eY i j=true:=by simp only[eY,h,decide_true,Bool.true_or]
theorem vO{j:Int}(i:Int)(h:j.natAbs<2 ^ 64):eY i j=true:=by simp only[eY,h,decide_true,Bool.true_or,Bool.or_true]
theorem ff{j:Int}(h0:j≠0)(h:j.natAbs<2 ^ 9000):o5 j=true:=by
 simp only[o5,big,h,decide_true,Bool.and_true,decide_eq_true_eq];exact h0
@[simp]theorem w9{i j:Int}(h:j.natAbs<2 ^ 64):cD .mul (.int i) (.int j)=ok (.int (i*j)):=i5 (vO i h)
@[simp]theorem Qz{i j:Int}(h:i.natAbs<2 ^ 64):cD .mul (.int i) (.int j)=ok (.int (i*j)):=i5 (pU j h)
@[simp]theorem OX{i j:Int}(h0:j≠0)(h:j.natAbs<2 ^ 64):cD .fdiv (.int i) (.int j)=ok (.int (i.fdiv j)):=jn (ff h0 (mQ h))
theorem OQ{a b:D}(ha:di 40 a=true)(hb:di 40 b=true):gO .eq a b=ok (.bl (kD a b)):=by
 show(if di 40 a&&di 40 b then _ else _)=_;rw[ha,hb];rfl
theorem Ke{a b:D}(ha:di 40 a=true)(hb:di 40 b=true):gO .ne a b=ok (.bl (!kD a b)):=by
 show(if di 40 a&&di 40 b then _ else _)=_;rw[ha,hb];rfl
@[simp]theorem gp(n:Nat)(i:Int):di n (.int i)=true:=by cases n<;>rfl
@[simp]theorem RO(n:Nat)(i:Bool):di n (.bl i)=true:=by cases n<;>rfl
@[simp]theorem P2(n:Nat):di n .bW=true:=by cases n<;>rfl
@[simp]theorem pQ(n:Nat)(ds:ae):di (n+1) (.tup ds)=ds.all (di n):=rfl
@[simp]theorem DN(n:Nat)(f:Fl)(ds:ae):di (n+1) (.lst f ds)=ds.all (di n):=rfl
@[simp]theorem RD(i j:Int):gO .eq (.int i) (.int j)=ok (.bl (decide (i=j))):=by rw[OQ (gp _ _) (gp _ _)];show ok (D.bl (i==j))=_;rw[Int.beq_eq_decide_eq]
@[simp]theorem RC(i j:Int):gO .ne (.int i) (.int j)=ok (.bl (!decide (i=j))):=by rw[Ke (gp _ _) (gp _ _)];show ok (D.bl (!(i==j)))=_;rw[Int.beq_eq_decide_eq]
@[simp]theorem XB(i j:Int):gO .lt (.int i) (.int j)=ok (.bl (decide (i<j))):=rfl
@[simp]theorem XC(i j:Int):gO .le (.int i) (.int j)=ok (.bl (decide (i<=j))):=rfl
@[simp]theorem XD(i j:Int):gO .gt (.int i) (.int j)=ok (.bl (decide (j<i))):=rfl
@[simp]theorem XE(i j:Int):gO .ge (.int i) (.int j)=ok (.bl (decide (j<=i))):=rfl
@[simp]theorem VM(ds:ae)(i:Int):v5 (.tup ds) (.int i)=tx ds i:=rfl
@[simp]theorem VN(f:Fl)(ds:ae)(i:Int):v5 (.lst f ds) (.int i)=tx ds i:=rfl
theorem qE{n:Nat}{d:D}(h:ds[n]?=some d):tx ds (n:Int)=ok (aY bo d):=by
 have hn:n<ds.length:=(List.getElem?_eq_some_iff.mp h).1;have e:xU ds.length (n:Int)=some n:=by unfold xU;rw[if_pos (by left),if_pos (by left)];rfl
 unfold tx;rw[e,Option.bind_some,h]
theorem at_of{i:Int}{d:D}(h0:0<=i)(h:ds[i.toNat]?=some d):tx ds i=ok (aY bo d):=by
 have:=qE h
 rwa [show((i.toNat:Nat):Int)=i by left]at this
@[simp]theorem UO(d:D)(ds:ae):tx (d::ds) 0=ok (aY bo d):=qE (n:=0) rfl
@[simp]theorem UN(a d:D)(ds:ae):tx (a::d::ds) 1=ok (aY bo d):=qE (n:=1) rfl
@[simp]theorem Zj(a b d:D)(ds:ae):tx (a::b::d::ds) 2=ok (aY bo d):=qE (n:=2) rfl
@[simp]theorem Qp(ds:ae):qC .len [.tup ds]=ok (.int ds.length):=rfl
@[simp]theorem Qq(f:Fl)(ds:ae):qC .len [.lst f ds]=ok (.int ds.length):=rfl
@[simp]theorem Wk(i:Int):qC .abs [.int i]=ok (.int i.natAbs):=by
 show ok (D.int (if i<0 then -i else i))=_;congr 2;split<;>left
@[simp]theorem Ov(f:Fl)(ds:ae):qC .list1 [.lst f ds]=ok (.lst .ow (aC bo ds)):=rfl
@[simp]theorem Ou(ds:ae):qC .list1 [.tup ds]=ok (.lst .ow (aC bo ds)):=rfl
@[simp]theorem Qo(f:Fl)(ds:ae):qC .tuple1 [.lst f ds]=ok (.tup (aC bo ds)):=rfl
@[simp]theorem Qn(ds:ae):qC .tuple1 [.tup ds]=ok (.tup (aC bo ds)):=rfl
@[simp]theorem Bm(f:Fl)(ns:aa):qC .jc [.lst f (ai ns)]=ok (.int ns.sum):=by
 show(match intsOf (ns.map D.int)with|some ns=>_|none=>_)=_;rw[bM]
@[simp]theorem Wj(f:Fl)(bs:List Bool):qC .all1 [.lst f (lG bs)]=ok (.bl (bs.all id)):=by
 show(match il (bs.map D.bl)with|some ns=>_|none=>_)=_;rw[kM]
variable {ns ws:aa}
@[simp]theorem Et(h:ns.length<64):qC .gn [.tup (ai ns)]=ok (.lst .ow (ai (sortI ns))):=by
 show oF _=_;unfold oF ai;rw[bM];exact aaN h
@[simp]theorem JH(h:ns.length<4000):vR (.tup (ai ns))=ok (.int (qm ns).length):=by
 show(match intsOf (ns.map D.int)with|some ns=>_|none=>_)=_;rw[bM];exact aaN h
@[simp]theorem qj(i j:Int):kD (.int i) (.int j)=decide (i=j):=by show(i==j)=_;rw[Int.beq_eq_decide_eq]
@[simp]theorem Uw(i j:Bool):kD (.bl i) (.bl j)=(i==j):=rfl
@[simp]theorem wH(a b:ae):kD (.tup a) (.tup b)=dD a b:=rfl
@[simp]theorem lW(f g:Fl)(a b:ae):kD (.lst f a) (.lst g b)=dD a b:=rfl
@[simp]theorem Bq:dD [] []=true:=rfl
@[simp]theorem dO(a b:D)(as bs:ae):dD (a::as) (b::bs)=(kD a b&&dD as bs):=rfl
theorem nv:∀{as bs:ae},dD as bs=true->as.length=bs.length
 |[],[],_=>rfl
 |[],_::_,h=>(aad h).elim
 |_::_,[],h=>(aad h).elim
 |a::as,b::bs,h=>by
  replace h:(_&&_)=true:=h;rw[Bool.and_eq_true]at h;rw[List.length_cons,List.length_cons,nv h.2]
theorem jZ{α:Type}{e:α->D}[DecidableEq α](h:∀x y,kD (e x) (e y)=decide (x=y)):∀xs ys:List α,dD (xs.map e) (ys.map e)=decide (xs=ys)
 |[],[]=>by simp
 |[],y::ys=>by
  cases z:dD ([].map e) ((y::ys).map e)with
  |true=>have:=nv z;simp at this
  |false=>simp
 |x::xs,[]=>by
  cases z:dD ((x::xs).map e) ([].map e)with
  |true=>have:=nv z;simp at this
  |false=>simp
 |x::xs,y::ys=>by
  rw[List.map_cons,List.map_cons,dO,h,jZ h xs ys];by_cases e1:x=y<;>by_cases e2:xs=ys<;>simp[e1,e2]
theorem jP{α:Type}{e:α->D}{n:Nat}(h:∀x,di n (e x)=true)(xs:List α):(xs.map e).all (di n)=true:=by
 rw[List.all_map];exact List.all_eq_true.mpr λx _=>h x
theorem bJ{bind:D->O bh}{test:bh->O Bool}{el:bh->O D}{α:Type}{e:α->D}{g:α->D}:∀{xs:List α},(∀x∈xs,∃ρ,bind (e x)=ok ρ/\test ρ=ok true/\el ρ=ok (g x))->gc bind test el (xs.map e)=ok (xs.map g)
 |[],_=>rfl
 |x::xs,h=>by
  obtain⟨ρ,h1,h2,h3⟩:=h x (aaf ..);have ih:=bJ (xs:=xs) λy hy=>h y (aae _ hy);rw[List.map_cons,gc,h1,cZ,h2,cZ,if_pos rfl,h3,cZ,ih];rfl
theorem ie{bind:D->O bh}{test:bh->O Bool}{el:bh->O D}{α:Type}{e:α->D}{g:α->D}{t:α->Bool}:∀{xs:List α},(∀x∈xs,∃ρ,bind (e x)=ok ρ/\test ρ=ok (t x)/\(t x=true->el ρ=ok (g x)))->gc bind test el (xs.map e)=ok ((xs.filter t).map g)
 |[],_=>rfl
 |x::xs,h=>by
  obtain⟨ρ,h1,h2,h3⟩:=h x (aaf ..);have ih:=ie (xs:=xs) λy hy=>h y (aae _ hy);rw[List.map_cons,gc,h1,cZ,h2,cZ,List.filter_cons];cases ht:t x with
  |true=>rw[if_pos rfl,h3 ht,cZ,ih,if_pos rfl];rfl
  |false=>rw[if_neg Bool.false_ne_true,ih,if_neg Bool.false_ne_true]
section
variable {Φ:a_}{n:Nat}{t:Tg}{caps:aO}{ik:IK}{es bI:aF}{elt:CE}{ρ:bh}{xs items ds:ae}
theorem cc(h1:cz Φ es ρ=ok xs)(h2:eF Φ ik xs=ok items)
  (h3:gc (λd=>bV t d (bC n caps ρ)) (λρ'=>gJ Φ bI ρ') (λρ'=>bx Φ elt ρ') items=ok ds) (hl:ds.length<=ck):bx Φ (.comp n t caps ik es bI elt) ρ=ok (.lst .ow (aC gv ds)):=by
 show bd (cz Φ es ρ) _=_;rw[h1,cZ,h2,cZ,h3,cZ,if_pos hl]
end
theorem iG(Φ:a_)(ds:ae):eF Φ .seq [.tup ds]=ok (aC bp ds):=rfl
theorem cO(Φ:a_)(f:Fl)(ds:ae):eF Φ .seq [.lst f ds]=ok (aC bp ds):=rfl
theorem D2(Φ:a_){n:Int}(h0:0<=n)(h:n<=1000000):eF Φ .lM [.int n]=ok ((List.range n.toNat).map λ(k:Nat)=>D.int (k:Int)):=by
 show(if n<=(ck:Int) /\ -(ck:Int)<=n then _ else _)=_;have:(ck:Int)=1000000:=rfl;rw[if_pos (by left)]
theorem bT{n:Nat}(h:n<=1000000):n<=ck:=h
theorem dz{t:Tg}{it:CI}{b:aj}{items:ae}{r:O (Fo×bh)}(h:bO Φ it ρ=ok (items,ρ1))(h':cR (λd ρ=>bV t d ρ) (λρ=>bX Φ b ρ) items ρ1=r):oZ Φ (.fr t it b) ρ=r:=by
 show bd (bO Φ it ρ) _=_;rw[h];exact h'
theorem fG(bind:D->bh->O bh)(body:bh->O (Fo×bh))(ρ:bh):cR bind body [] ρ=ok (.nx,ρ):=rfl
theorem b8{bind:D->bh->O bh}{body:bh->O (Fo×bh)}{x:D}{ρ2:bh}{r:O (Fo×bh)}(h1:bind x ρ=ok ρ1)(h2:body ρ1=ok (.nx,ρ2))(h3:cR bind body xs ρ2=r):cR bind body (x::xs) ρ=r:=by
 rw[cR,h1,cZ,h2];exact h3
theorem Nx{a:CE}{n:Int}(h:bx Φ a ρ=ok (.int n))(h0:0<=n)(h1:n<=1000000):bO Φ (.lM a) ρ=ok ((List.range n.toNat).map λ(k:Nat)=>D.int (k:Int),ρ):=by
 show bd (bx Φ a ρ) _=_;rw[h];show(if n<=(ck:Int) /\ -(ck:Int)<=n then _ else _)=_;have:(ck:Int)=1000000:=rfl;rw[if_pos (by left)]
theorem Sg{a:CE}(h:bx Φ a ρ=ok (.tup ds)):bO Φ (.seq a) ρ=ok (aC bp ds,if aQ bL ds then kC (gQ a) 0 ρ else ρ):=by
 show bd (bx Φ a ρ) _=_;rw[h,<- uw];show ok (_,if aT bL (.tup ds)then _ else _)=_;rw[A5]
theorem jT{a:CE}{f:Fl}(h:bx Φ a ρ=ok (.lst f ds)):bO Φ (.seq a) ρ=ok (aC bp ds,if (bL f||aQ bL ds)then kC (gQ a) 0 ρ else ρ):=by
 show bd (bx Φ a ρ) _=_;rw[h,<- uw];show ok (_,if aT bL (.lst f ds)then _ else _)=_;rw[A6]
noncomputable def fe(t b:Int):Int:=if b<0 then -(Int.gcd t b:Int)else(Int.gcd t b:Int)
def HQ(t b:Int):Int:=t.fdiv (fe t b)
def HR(t b:Int):Int:=b.fdiv (fe t b)
theorem wx{t b:Int}(h:b≠0):0<Int.gcd t b:=Int.gcd_pos_of_ne_zero_right t h
theorem jl{t b:Int}(h:b≠0):fe t b≠0:=by
 have:=wx (t:=t) h;unfold fe;split<;>left
theorem Jg{t b:Int}(h:b≠0):Int.gcd t b<=b.natAbs:=ach (by left) (Nat.gcd_dvd_right _ _)
theorem EB{t b:Int}(h:b≠0):(fe t b).natAbs<=b.natAbs:=by
 have:=Jg (t:=t) h;unfold fe;split<;>left
theorem mL{t b:Int}(h:b≠0):∃t' b':Int,t=fe t b*t'/\b=fe t b*b'/\HQ t b=t'/\HR t b=b'/\1<=b'/\Int.gcd t' b'=1:=by
 have hg:=wx (t:=t) h;obtain⟨t1,ht⟩:(Int.gcd t b:Int)∣t:=Int.gcd_dvd_left ..;obtain⟨b1,hb⟩:(Int.gcd t b:Int)∣b:=Int.gcd_dvd_right ..;have hc:Int.gcd t1 b1=1:=by
  have e:Int.gcd ((Int.gcd t b:Int)*t1) ((Int.gcd t b:Int)*b1)=Int.gcd t b*Int.gcd t1 b1:=by
   rw[Int.gcd_mul_left];simp
  rw[<- ht,<- hb]at e;have:Int.gcd t b*1=Int.gcd t b*Int.gcd t1 b1:=by rw[Nat.mul_one];exact e
  exact(Nat.eq_of_mul_eq_mul_left hg this).symm
 by_cases hn:b<0
 ·have ed:fe t b = -(Int.gcd t b:Int):=by simp[fe,hn]
  have e1:t=fe t b*(-t1):=by rw[ed,Int.neg_mul_neg];exact ht
  have e2:b=fe t b*(-b1):=by rw[ed,Int.neg_mul_neg];exact hb
  refine⟨-t1,-b1,e1,e2,?_,?_,?_,by rw[Int.gcd_neg,Int.neg_gcd];exact hc⟩
  ·unfold HQ
   conv=>lhs;arg 1;rw[e1]
   exact abe _ (jl h)
  ·unfold HR
   conv=>lhs;arg 1;rw[e2]
   exact abe _ (jl h)
  ·have:b1<0:=by
    by_cases TK:b1<0
    ·exact TK
    ·have:0<=(Int.gcd t b:Int)*b1:=Int.mul_nonneg (by left) (by left);left
   left
 ·have ed:fe t b=(Int.gcd t b:Int):=by simp[fe,hn]
  have e1:t=fe t b*t1:=by rw[ed];exact ht
  have e2:b=fe t b*b1:=by rw[ed];exact hb
  refine⟨t1,b1,e1,e2,?_,?_,?_,hc⟩
  ·unfold HQ
   conv=>lhs;arg 1;rw[e1]
   exact abe _ (jl h)
  ·unfold HR
   conv=>lhs;arg 1;rw[e2]
   exact abe _ (jl h)
  ·have:0<b1:=by
    by_cases TK:0<b1
    ·exact TK
    ·have:(Int.gcd t b:Int)*b1<=0:=Int.mul_nonpos_of_nonneg_of_nonpos (by left) (by left);left
   left
noncomputable def qD(q:Rat):D:=.tup [.int q.num,.int q.den]
@[simp]theorem Aq(g:Fl->Fl)(q:Rat):aY g (qD q)=qD q:=by unfold qD;simp
@[simp]theorem uv(g:Fl->Bool)(q:Rat):aT g (qD q)=false:=by unfold qD;simp
noncomputable def dY(qs:aU):ae:=qs.map qD
@[simp]theorem PN(qs:aU):(dY qs).length=qs.length:=aa1 ..
@[simp]theorem PM:dY []=[]:=rfl
@[simp]theorem MF(q:Rat)(qs:aU):dY (q::qs)=qD q::dY qs:=rfl
@[simp]theorem ME(qs:aU)(q:Rat):dY qs++[qD q]=dY (qs++[q]):=by simp[dY]
@[simp]theorem PQ(qs:aU)(i:Nat):(dY qs)[i]?=qs[i]?.map qD:=List.getElem?_map ..
@[simp]theorem PL(qs:aU)(i:Nat)(q:Rat):(dY qs).set i (qD q)=dY (qs.set i q):=by unfold dY;rw[List.map_set]
@[simp]theorem Nc(g:Fl->Fl)(qs:aU):aC g (dY qs)=dY qs:=dJ g (Aq g) qs
@[simp]theorem N5(g:Fl->Bool)(qs:aU):aQ g (dY qs)=false:=cQ g (uv g) qs
theorem MZ(n:Nat)(q:Rat):di (n+1) (qD q)=true:=by
 unfold qD;rw[pQ,List.all_cons,List.all_cons,gp,gp];rfl
theorem Oz(p q:Rat):kD (qD p) (qD q)=decide (p=q):=by
 unfold qD;rw[wH,dO,dO,Bq,qj,qj,Bool.and_true];by_cases h:p=q
 ·subst h;simp
 ·rw[decide_eq_false h];cases e1:decide (p.num=q.num)with
  |false=>rfl
  |true =>
   cases e2:decide ((p.den:Int)=(q.den:Int))with
   |false=>rfl
   |true =>
    refine absurd (Rat.ext (by simpa using e1) ?_) h;have:(p.den:Int)=q.den:=by simpa using e2
    left
@[simp]theorem VH(q:Rat):v5 (qD q) (.int 0)=ok (.int q.num):=by unfold qD;simp
@[simp]theorem VG(q:Rat):v5 (qD q) (.int 1)=ok (.int q.den):=by unfold qD;simp
theorem qi{t b:Int}(hb:b≠0):t.fdiv (fe t b)=(Rat.divInt t b).num/\b.fdiv (fe t b)=((Rat.divInt t b).den:Int):=by
 obtain⟨t',b',e1,e2,h1,h2,h3,h4⟩:=mL (t:=t) hb;have hd:=jl (t:=t) hb;have e:Rat.divInt t b=Rat.divInt t' b':=by
  generalize fe t b=d at *;rw[e1,e2];exact Rat.divInt_mul_left hd
 obtain⟨n,rfl⟩:∃n:Nat,b'=(n:Int):=⟨b'.toNat,by left⟩
 have hc:t'.natAbs.Coprime n:=by
  have:Nat.gcd t'.natAbs n=1:=by simpa [Int.gcd]using h4
  exact this
 have hn:n≠0:=by left
 have e3:Rat.divInt t' (n:Int)=⟨t',n,hn,hc⟩:=Rat.mk_eq_divInt.symm;rw[e,e3];exact⟨h1,h2⟩
theorem jM(q:Rat):(q.den:Int)≠0:=by have:=q.den_pos;left
theorem MH(q:Rat):(1:Int)<=q.den:=by have:=q.den_pos;left
theorem je(q:Rat):Rat.divInt q.num q.den=q:=Rat.num_divInt_den q
theorem lP{t b:Int}(hb:b≠0):(Rat.divInt t b).num.natAbs<=t.natAbs/\(Rat.divInt t b).den<=b.natAbs:=by
 obtain⟨t',b',e1,e2,h1,h2,h3,h4⟩:=mL (t:=t) hb;obtain⟨g1,g2⟩:=qi (t:=t) hb;have hd:1<=(fe t b).natAbs:=by have:=jl (t:=t) hb;left
 rw[show t.fdiv (fe t b)=t' from h1]at g1;rw[show b.fdiv (fe t b)=b' from h2]at g2;refine⟨?_,?_⟩
 ·rw[<- g1];have:t.natAbs=(fe t b).natAbs*t'.natAbs:=by rw[<- Int.natAbs_mul,<- e1]
  rw[this];exact Nat.le_mul_of_pos_left _ hd
 ·have hz:(Rat.divInt t b).den=b'.natAbs:=by left
  rw[hz];have:b.natAbs=(fe t b).natAbs*b'.natAbs:=by rw[<- Int.natAbs_mul,<- e2]
  rw[this];exact Nat.le_mul_of_pos_left _ hd
theorem MI(p q:Rat):p+q=Rat.divInt (p.num*q.den+q.num*p.den) (p.den*q.den):=by
 conv=>lhs;rw[<- je p,<- je q]
 exact Rat.divInt_add_divInt _ _ (jM p) (jM q)
theorem FN(p q:Rat):p*q=Rat.divInt (p.num*q.num) (p.den*q.den):=by
 conv=>lhs;rw[<- je p,<- je q]
 exact Rat.divInt_mul_divInt _ _
def Sm(k:Nat)(q:Rat):Prop:=q.num.natAbs<2 ^ k/\q.den<2 ^ k
theorem Sm.mono{k l:Nat}{q:Rat}(h:Sm k q)(hl:k<=l):Sm l q :=
 ⟨aao h.1 (aay (by decide) hl),aao h.2 (aay (by decide) hl)⟩
theorem cn{a b k l:Nat}(h:a<2 ^ k)(h':b<2 ^ l):a*b<2 ^ (k+l):=by
 rw[Nat.pow_add];exact Nat.mul_lt_mul'' h h'
theorem Fm(a b:Int):(a+b).natAbs<=a.natAbs+b.natAbs:=by left
section
variable {k l:Nat}{p q:Rat}
theorem Sm.den(h:Sm k p)(h':Sm l q):((p.den:Int)*q.den).natAbs<2 ^ (k+l):=by
 rw[Int.natAbs_mul];exact cn (by simpa using h.2) (by simpa using h'.2)
theorem Sm.add(h:Sm k p)(h':Sm l q):Sm (k+l+1) (p+q):=by
 have hb:(p.den:Int)*q.den≠0:=ab1 (jM p) (jM q);obtain⟨g1,g2⟩:=lP (t:=p.num*q.den+q.num*p.den) hb;rw[<- MI]at g1 g2;have n1:(p.num*q.den).natAbs<2 ^ (k+l):=by rw[Int.natAbs_mul];exact cn h.1 (by simpa using h'.2)
 have n2:(q.num*p.den).natAbs<2 ^ (k+l):=by rw[Int.natAbs_mul,Nat.add_comm];exact cn h'.1 (by simpa using h.2)
 have:=Fm (p.num*q.den) (q.num*p.den);have e:2 ^ (k+l+1)=2 ^ (k+l)*2:=Nat.pow_succ ..;have d:=h.den h';exact⟨by left,by left⟩
theorem Sm.mul(h:Sm k p)(h':Sm l q):Sm (k+l) (p*q):=by
 have hb:(p.den:Int)*q.den≠0:=ab1 (jM p) (jM q);obtain⟨g1,g2⟩:=lP (t:=p.num*q.num) hb;rw[<- FN]at g1 g2;have n1:(p.num*q.num).natAbs<2 ^ (k+l):=by rw[Int.natAbs_mul];exact cn h.1 h'.1
 have d:=h.den h';exact⟨by left,by left⟩
theorem Sm.big(h:Sm k p)(hk:k<=9000):p.num.natAbs<2 ^ 9000/\(p.den:Int).natAbs<2 ^ 9000:=by
 have:=h.mono hk;exact⟨this.1,by simpa using this.2⟩
end
theorem xA{t b:Int}{k:Nat}(hb:b≠0)(h1:t.natAbs<2 ^ k)(h2:b.natAbs<2 ^ k):Sm k (Rat.divInt t b):=by
 obtain⟨g1,g2⟩:=lP (t:=t) hb;exact⟨by left,by left⟩
def dA(d:D):Bool:=cP .int d&&!cP .bool d
def dQ(m:aG):Prop:=∀d,m [d]=ok (.bl (dA d))
noncomputable def gy:aj:=[.ret (.and [(.jV (.v 0) .int),(.not (.jV (.v 0) .bool))])]
theorem tZ(Φ:a_):dQ (mk Φ 1 1 gy):=by
 intro d;simp[mk_eq,gy,dA]
theorem nq(a:Int){b:Int}(h:b≠0):(a.fmod b).natAbs<b.natAbs:=by
 rcases Int.lt_or_gt_of_ne h with hb|hb
 ·have e:=Int.neg_fmod_neg a b;have h1:=abN (-a) (show 0 < -b by left);have h2:=acd (-a) (show 0 < -b by left);left
 ·have h1:=abN a hb;have h2:=acd a hb;left
theorem Be(a b:Int):Int.gcd b (a.fmod b)=Int.gcd a b:=by
 rw[Int.fmod_def,Int.gcd_sub_mul_left_right,Int.gcd_comm]
def bE(m:aG):Prop:=∀a b:Int,m [.int a,.int b]=ok (.int (Int.gcd a b))
noncomputable def y3:CS:=.GG (.cmp .ne (.v 1) (.int 0)) [.asg (.nm 2) (.bin .mod (.v 0) (.v 1)),.asg (.nm 0) (.v 1),.asg (.nm 1) (.v 2)]
def cS:aj:=[y3,.ret (.bf .abs [(.v 0)])]
theorem ER(Φ:a_):∀(n:Nat) (a b:Int) (r:aE),b.natAbs<=n->∃(g:Int) (r':aE),oZ Φ y3 [some (.int a),some (.int b),r]=ok (.nx,[some (.int g),some (.int 0),r'])/\g.natAbs=Int.gcd a b:=by
 intro n;induction n with
 |zero =>
  intro a b r h;have hb:b=0:=by left
  subst hb;refine⟨a,r,?_,by simp⟩;rw[y3,oz];exact gk (by simp)
 |succ n ih =>
  intro a b r h;by_cases hb:b=0
  ·subst hb;refine⟨a,r,?_,by simp⟩;rw[y3,oz];exact gk (by simp)
  ·have cL:=nq a hb;obtain⟨g,r',e,hg⟩:=ih b (a.fmod b) (some (.int (a.fmod b))) (by left);refine⟨g,r',?_,by rw[hg,Be]⟩;rw[y3,oz]at e ⊢;rw[<- e];exact mn (by simp[hb])
theorem kr(Φ:a_):bE (mk Φ 2 3 cS):=by
 intro a b;obtain⟨g,r',e,hg⟩:=ER Φ b.natAbs a b none (aak _);have e1:(g.natAbs:Int)=(Int.gcd a b:Int):=by left
 simp[mk_eq,cS,e,e1]
def l_(m:aG):Prop:=∀t b:Int,b≠0->b.natAbs<2 ^ 9000->m [.int t,.int b]=ok (qD (Rat.divInt t b))
def i8(m:aG):Prop:=l_ m/\∀t:Int,m [.int t,.int 0]=some (.error 0)
noncomputable def cB:aj:=[.ifs (.cmp .eq (.v 1) (.int 0)) [.rs 0] [],.asg (.nm 2) (.call 1 [(.v 0),(.v 1)]),.ifs (.cmp .lt (.v 1) (.int 0)) [.asg (.nm 2) (.neg (.v 2))] [],.ret (.tup [(.bin .fdiv (.v 0) (.v 2)),(.bin .fdiv (.v 1) (.v 2))])]
theorem lY{t b:Int}(hb:b≠0)(h:b.natAbs<2 ^ 9000)(x:Int):cD .fdiv (.int x) (.int (fe t b))=ok (.int (x.fdiv (fe t b))) :=
 jn (ff (jl hb) (aaG (EB hb) h))
theorem n5(Φ:a_)(h1:bE (Φ 1)):i8 (mk Φ 2 3 cB):=by
 refine⟨λt b hb h=>?_,λt=>by simp[mk_eq,cB]⟩;obtain⟨e1,e2⟩:=qi (t:=t) hb;unfold bE at h1;have d1:=lY (t:=t) hb h t;have d2:=lY (t:=t) hb h b;rw[qD,<- e1,<- e2];by_cases hn:b<0
 ·have ed:-(Int.gcd t b:Int)=fe t b:=by simp[fe,hn]
  simp[mk_eq,cB,hb,h1,hn,ed,d1,d2]
 ·have ed:(Int.gcd t b:Int)=fe t b:=by simp[fe,hn]
  simp[mk_eq,cB,hb,h1,hn,ed,d1,d2]
noncomputable def k7:D->Bool
 |.tup [.int a,.int b]=>decide (1<=b)&&decide (Int.gcd a b=1)
 |_=>false
theorem Ep(q:Rat):k7 (qD q)=true:=by
 have h1:=MH q;have h2:Int.gcd q.num q.den=1:=by
  have:=q.reduced;simpa [Int.gcd]using this
 simp[qD,k7,h1,h2]
def i7(m:aG):Prop:=∀d,m [d]=ok (.bl (k7 d))
noncomputable def bQ:aj:=[.ifs (.or [(.not (.jV (.v 0) .tuple)),(.cmp .ne (.bf .len [(.v 0)]) (.int 2))]) [.ret (.bl false)] [],.ifs (.or [(.not (.call 0 [(.ix (.v 0) (.int 0))])),(.not (.call 0 [(.ix (.v 0) (.int 1))]))]) [.ret (.bl false)] [],.ret (.and [(.cmp .ge (.ix (.v 0) (.int 1)) (.int 1)),(.cmp .eq (.call 1 [(.ix (.v 0) (.int 0)),(.ix (.v 0) (.int 1))]) (.int 1))])]
theorem kT(g:Fl->Fl)(d:D):dA (aY g d)=dA d:=by simp[dA]
theorem mj{d:D}(h:dA d=true):∃i,d=.int i:=by
 cases d<;>simp[dA,cP]at h ⊢
theorem oX{x y:D}(h:dA x=false\/dA y=false):k7 (.tup [x,y])=false:=by
 cases x<;>cases y<;>simp[dA,cP]at h<;>rfl
theorem yk(h:ds.length≠2):k7 (.tup ds)=false:=by
 unfold k7;split
 ·rename_i e;cases e;simp at h
 ·rfl
theorem n4(Φ:a_)(h0:dQ (Φ 0))(h1:bE (Φ 1)):i7 (mk Φ 1 1 bQ):=by
 intro d;unfold dQ at h0;unfold bE at h1;cases d with
 |tup ds =>
  by_cases hl:ds.length=2
  ·match ds,hl with
   |[x,y],_ =>
    by_cases hx:dA x=true
    ·by_cases hy:dA y=true
     ·obtain⟨a,rfl⟩:=mj hx;obtain⟨b,rfl⟩:=mj hy;simp[mk_eq,bQ,h0,h1,hx,hy,cP,k7];by_cases hg:a.gcd b=1
      ·simp[hg]
      ·simp[hg];left
     ·simp[mk_eq,bQ,h0,hx,hy,cP,kT,oX (.inr (by simpa using hy))]
    ·simp[mk_eq,bQ,h0,hx,cP,kT,oX (.inl (by simpa using hx))]
  ·have lS:¬ (ds.length:Int)=2:=by left
   simp[mk_eq,bQ,cP,lS,yk hl]
 |_=>simp[mk_eq,bQ,cP,k7]
def eT(m:aG):Prop:=∀p q,Sm 4000 p->Sm 4000 q->m [qD p,qD q]=ok (qD (p*q))
noncomputable def iK(f:Nat):aj:=[.ret (.call f [(.bin .mul (.ix (.v 0) (.int 0)) (.ix (.v 1) (.int 0))),(.bin .mul (.ix (.v 0) (.int 1)) (.ix (.v 1) (.int 1)))])]
section
variable (Φ:a_){f:Nat}(h2:l_ (Φ f))
theorem UI{p q:Rat}(hp:Sm 4000 p)(hq:Sm 4000 q):(p.den:Int)*q.den≠0/\((p.den:Int)*q.den).natAbs<2 ^ 9000 :=
 ⟨ab1 (jM p) (jM q),aao (hp.den hq) (aay (by decide) (by decide))⟩
theorem RT{p q:Rat}(hp:Sm 4000 p)(hq:Sm 4000 q):cD .mul (.int p.num) (.int q.den)=ok (.int (p.num*q.den))/\cD .mul (.int p.num) (.int q.num)=ok (.int (p.num*q.num))/\cD .mul (.int p.den) (.int q.den)=ok (.int (p.den*q.den))/\cD .mul (.int p.den) (.int q.num)=ok (.int (p.den*q.num)):=by
 obtain⟨a,b⟩:=hp.big (by decide);obtain⟨c,d⟩:=hq.big (by decide);exact⟨i5 (mulOk_of a d),i5 (mulOk_of a c),i5 (mulOk_of b d),i5 (mulOk_of b c)⟩
include h2
theorem vx:eT (mk Φ 2 2 (iK f)):=by
 intro p q hp hq;obtain⟨a,b,c,d⟩:=RT hp hq;obtain⟨n,k⟩:=UI hp hq;have e:=h2 (p.num*q.num) _ n k;rw[<- FN]at e;simp[mk_eq,iK,b,c,e]
omit h2 in
end
theorem BG{bind:D->O bh}{test:bh->O Bool}{el:bh->O D}{g:D->D}(h:∀x∈xs,∃ρ,bind x=ok ρ/\test ρ=ok true/\el ρ=ok (g x)):gc bind test el xs=ok (xs.map g):=by
 have:=bJ (bind:=bind) (test:=test) (el:=el) (e:=λd=>d) (g:=g) (xs:=xs) h
 rwa [List.map_id']at this
def uN(d:D):Prop:=match d with
 |.lst _ ds=>ds.length<=1000000
 |.tup ds=>ds.length<64
 |_=>True
noncomputable def e9(qs:aU):Nat:=qs.foldl (λb q=>Nat.lcm b q.den) 1
theorem Aw(b:Nat)(q:Rat):(b:Int).fdiv (Int.gcd b q.den)*q.den=(Nat.lcm b q.den:Nat):=by
 have hg:0<Nat.gcd b q.den:=Nat.gcd_pos_of_pos_right _ q.den_pos;have e:Int.gcd (b:Int) (q.den:Int)=Nat.gcd b q.den:=by simp[Int.gcd]
 rw[e,Int.fdiv_eq_ediv_of_nonneg _ (by left)];have:((b:Int) / (Nat.gcd b q.den:Nat))=((b / Nat.gcd b q.den:Nat):Int):=(Int.natCast_ediv ..).symm;rw[this,Nat.lcm];have hd:Nat.gcd b q.den∣b:=Nat.gcd_dvd_left ..;rw[Nat.mul_comm b,Nat.mul_div_assoc _ hd,Nat.mul_comm];exact(Int.natCast_mul ..).symm
theorem lcm_pos{b:Nat}(hb:0<b)(q:Rat):0<Nat.lcm b q.den:=Nat.lcm_pos hb q.den_pos
theorem vW:∀(qs:aU) (b k j:Nat),0<b->b<2 ^ j->(∀q∈qs,Sm k q)->0<qs.foldl (λb q=>Nat.lcm b q.den) b/\qs.foldl (λb q=>Nat.lcm b q.den) b<2 ^ (j+k*qs.length)/\b∣qs.foldl (λb q=>Nat.lcm b q.den) b/\∀q∈qs,q.den∣qs.foldl (λb q=>Nat.lcm b q.den) b
 |[],b,k,j,h0,h1,_=>⟨h0,by simpa using h1,Nat.dvd_refl _,λq hq=>nomatch hq⟩
 |q::qs,b,k,j,h0,h1,hs=>by
  have hq:=hs q aaf;have h2:Nat.lcm b q.den<2 ^ (j+k):=aaG (Nat.lcm_le_mul h0 q.den_pos) (cn h1 hq.2);obtain⟨g1,g2,g3,g4⟩:=vW qs (Nat.lcm b q.den) k (j+k) (lcm_pos h0 q) h2 λp hp=>hs p (aae _ hp);have e:j+k*(q::qs).length=j+k+k*qs.length:=by rw[List.length_cons,Nat.mul_succ];left
  refine⟨g1,by rw[e];exact g2,Nat.dvd_trans (Nat.dvd_lcm_left ..) g3,λp hp=>?_⟩;rcases List.mem_cons.mp hp with rfl|hp
  ·exact Nat.dvd_trans (Nat.dvd_lcm_right ..) g3
  ·exact g4 p hp
structure xj(k:Nat)(qs:aU):Prop where
 sm:∀q∈qs,Sm k q
 ux:k*qs.length<=3000
 len:qs.length<=1000
variable {qs:aU}
theorem xj.lcm{k:Nat}(h:xj k qs):0<e9 qs/\e9 qs<2 ^ (1+k*qs.length)/\∀q∈qs,q.den∣e9 qs:=by
 obtain⟨g1,g2,_,g4⟩:=vW qs 1 k 1 (by decide) (by decide) h.sm;exact⟨g1,g2,g4⟩
theorem uc{n j:Nat}(h:n<2 ^ j)(hj:j<=9000):n<2 ^ 9000:=aao h (aay (by decide) hj)
def eH(m:aG):Prop:=∀f qs k,xj k qs->m [.lst f (dY qs)]=ok (.int (e9 qs))
noncomputable def bZ:aj:=[.asg (.nm 1) (.bin .mul (.bin .fdiv (.v 1) (.call 1 [(.v 1),(.ix (.v 2) (.int 1))])) (.ix (.v 2) (.int 1)))]
def cA:aj:=[.asg (.nm 1) (.int 1),.fr (.nm 2) (.seq (.v 0)) bZ,.ret (.v 1)]
theorem w5(Φ:a_)(h1:bE (Φ 1))(x:aE):∀(qs:aU) (b k j:Nat) (z:aE),0<b->b<2 ^ j->j+k*qs.length<=8000->(∀q∈qs,Sm k q) ->
  ∃z',cR (λd ρ=>bV (.nm 2) d ρ) (λρ=>bX Φ bZ ρ) (dY qs) [x,some (.int b),z]=ok (.nx,[x,some (.int (qs.foldl (λb q=>Nat.lcm b q.den) b:Nat)),z'])
 |[],b,k,j,z,_,_,_,_=>⟨z,rfl⟩
 |q::qs,b,k,j,z,h0,hb,hj,hs=>by
  have hq:=hs q aaf;have h2:Nat.lcm b q.den<2 ^ (j+k):=aaG (Nat.lcm_le_mul h0 q.den_pos) (cn hb hq.2);have e:j+k*(q::qs).length=j+k+k*qs.length:=by rw[List.length_cons,Nat.mul_succ];left
  obtain⟨z',ih⟩:=w5 Φ h1 x qs (Nat.lcm b q.den) k (j+k) (some (qD q)) (lcm_pos h0 q) h2 (by left) λp hp=>hs p (aae _ hp);have hg:0<Nat.gcd b q.den:=Nat.gcd_pos_of_pos_right _ q.den_pos;have eg:Int.gcd (b:Int) (q.den:Int)=Nat.gcd b q.den:=by simp[Int.gcd]
  have NW:Nat.gcd b q.den<=b:=ach h0 (Nat.gcd_dvd_left ..);have V_:b<2 ^ 9000:=uc hb (by left);have d1:cD .fdiv (.int b) (.int (Nat.gcd b q.den:Nat))=ok (.int ((b:Int).fdiv (Nat.gcd b q.den:Nat))):=jn (ff (by left) (by simpa using Nat.lt_of_le_of_lt NW V_));have hm:((b:Int).fdiv (Nat.gcd b q.den:Nat)).natAbs<=b:=by
   rw[Int.fdiv_eq_ediv_of_nonneg _ (by left),<- Int.natCast_ediv];simp;exact Nat.div_le_self ..
  have d2:cD .mul (.int ((b:Int).fdiv (Nat.gcd b q.den:Nat))) (.int q.den)=ok (.int (Nat.lcm b q.den:Nat)):=by
   have:=Aw b q;rw[eg]at this;rw[i5 (mulOk_of (Nat.lt_of_le_of_lt hm V_) (hq.big (by
    rw[e]at hj;have:k<=j+k+k*qs.length:=by left
    left)).2),this]
  unfold bE at h1;refine⟨z',b8 (ρ1:=[x,some (.int b),some (qD q)]) (by simp) (ρ2:=[x,some (.int (Nat.lcm b q.den:Nat)),some (qD q)]) ?_ ih⟩;simp[bZ,h1,d1,d2]
theorem lq(Φ:a_)(h1:bE (Φ 1)):eH (mk Φ 1 3 cA):=by
 intro f qs k hs;have hit:bO Φ (.seq (.v 0)) [some (.lst f (dY qs)),some (.int 1),none]=ok (dY qs,if (bL (bo f)||false)then[some (.lst (bp f) (dY qs)),some (.int 1),none]else[some (.lst f (dY qs)),some (.int 1),none]):=by
  rw[jT (f:=bo f) (ds:=dY qs) (by simp)];simp[show gQ (.v 0)=[0] from rfl]
 have hk:=hs.ux;have hx:∀x:aE,∃z',cR (λd ρ=>bV (.nm 2) d ρ) (λρ=>bX Φ bZ ρ) (dY qs) [x,some (.int (1:Nat)),none]=ok (.nx,[x,some (.int (e9 qs)),z']):=λx=>w5 Φ h1 x qs 1 k 1 none (by decide) (by decide) (by left) hs.sm;cases hf:(bL (bo f)||false)with
 |true =>
  rw[hf]at hit;obtain⟨z',e⟩:=hx (some (.lst (bp f) (dY qs)));have:=dz (t:=.nm 2) (b:=bZ) hit e;simp[mk_eq,cA,this]
 |false =>
  rw[hf]at hit;obtain⟨z',e⟩:=hx (some (.lst f (dY qs)));have:=dz (t:=.nm 2) (b:=bZ) hit e;simp[mk_eq,cA,this]
noncomputable def eM(b:Nat)(q:Rat):Int:=q.num*(b:Int).fdiv q.den
theorem FL(q:Rat):(q.num:Rat)=q*(q.den:Rat):=by
 have h:(q.den:Rat)≠0:=by
  have:=q.den_pos;intro z;have:((q.den:Int):Rat)=0:=by rw[Rat.intCast_natCast];exact z
  rw[Rat.intCast_eq_zero_iff]at this;left
 have e:q=(q.num:Rat) / (q.den:Rat):=by
  conv=>lhs;rw[<- je q,Rat.divInt_eq_div,Rat.intCast_natCast]
 grind
theorem qP{b:Nat}{q:Rat}(h:q.den∣b):((eM b q:Int):Rat)=q*(b:Rat):=by
 obtain⟨c,rfl⟩:=h;have hd:(q.den:Int)≠0:=jM q;unfold eM;rw[Int.natCast_mul,Int.mul_fdiv_cancel_left _ hd,Rat.intCast_mul,FL,Rat.natCast_mul,Rat.intCast_natCast];grind
theorem mw{b:Nat}:∀{qs:aU},(∀q∈qs,q.den∣b)->(((qs.map (eM b)).sum:Int):Rat)=qs.sum*(b:Rat)
 |[],_=>by simp
 |q::qs,h=>by
  rw[List.map_cons,List.sum_cons,List.sum_cons,Rat.intCast_add,qP (h q List.mem_cons_self),mw λp hp=>h p (List.mem_cons_of_mem _ hp)];grind
def iq(m:aG):Prop:=∀f qs k (b:Nat),xj k qs->b<2 ^ 8000->m [.lst f (dY qs),.int b]=ok (.lst .ow (ai (qs.map (eM b))))
noncomputable def fI:aj:=[.ret (.comp 1 (.nm 0) [1] .seq [(.v 0)] [] (.bin .mul (.ix (.v 0) (.int 0)) (.bin .fdiv (.v 1) (.ix (.v 0) (.int 1)))))]
theorem C_{k:Nat}(h:xj k qs){q:Rat}(hq:q∈qs):Sm 3000 q:=by
 refine(h.sm q hq).mono ?_;have h1:=h.ux;have h2:0<qs.length:=List.length_pos_of_mem hq;have:k*1<=k*qs.length:=ab8 _ h2;left
theorem rm(Φ:a_):iq (mk Φ 2 2 fI):=by
 intro f qs k b hs hb;have wm:bx Φ (.comp 1 (.nm 0) [1] .seq [(.v 0)] [] (.bin .mul (.ix (.v 0) (.int 0)) (.bin .fdiv (.v 1) (.ix (.v 0) (.int 1))))) [some (.lst f (dY qs)),some (.int b)]=ok (.lst .ow (ai (qs.map (eM b)))):=by
  rw[cc (xs:=[.lst (bo f) (dY qs)]) (items:=dY qs) (ds:=qs.map λq=>.int (eM b q)) (by simp) (by rw[cO];simp) (bJ λq hq=>?_) (by have:=hs.len;simp;exact bT (by left))]
  ·have:(qs.map λq=>D.int (eM b q))=ai (qs.map (eM b)):=by simp[ai]
   rw[this,g9]
  ·refine⟨[some (qD q),some (.int b)],by simp[bC],by simp,?_⟩;have h3:=C_ hs hq;obtain⟨g1,g2⟩:=h3.big (by decide);have d1:cD .fdiv (.int b) (.int q.den)=ok (.int ((b:Int).fdiv q.den)):=jn (ff (jM q) g2);have d2:cD .mul (.int q.num) (.int ((b:Int).fdiv q.den))=ok (.int (q.num*(b:Int).fdiv q.den)):=by
    refine i5 (mulOk_of g1 ?_);rw[Int.fdiv_eq_ediv_of_nonneg _ (by left),<- Int.natCast_ediv];have:=Nat.div_le_self b q.den;have h9:=uc hb (by decide);rw[Int.natAbs_natCast];exact aaG this h9
   simp[d1,d2,eM]
 simp[mk_eq,fI,wm]
def nG(m:aG):Prop:=∀f qs k,xj k qs->m [.lst f (dY qs)]=ok (.tup [.int (e9 qs),.lst .ow (ai (qs.map (eM (e9 qs))))])
noncomputable def gx:aj:=[.asg (.nm 1) (.call 9 [(.v 0)]),.ret (.tup [(.v 1),(.call 10 [(.v 0),(.v 1)])])]
theorem xj.Ie{k:Nat}(h:xj k qs):e9 qs<2 ^ 8000:=aao h.lcm.2.1 (aay (by decide) (by have:=h.ux;left))
theorem tY(Φ:a_)(h9:eH (Φ 9))(Je:iq (Φ 10)):nG (mk Φ 1 2 gx):=by
 intro f qs k hs;have e1:=λf=>h9 f qs k hs;have e2:=λf=>Je f qs k (e9 qs) hs hs.Ie;simp[mk_eq,gx,e1,e2]
def gA(m:aG):Prop:=∀f qs k,xj k qs->m [.lst f (dY qs)]=ok (qD qs.sum)
noncomputable def eR:aj:=[.asg (.nm 1) (.call 41 [(.v 0)]),.ret (.call 2 [(.bf .jc [(.ix (.v 1) (.int 1))]),(.ix (.v 1) (.int 0))])]
theorem CQ{b:Nat}(h0:0<b)(h:∀q∈qs,q.den∣b):Rat.divInt (qs.map (eM b)).sum b=qs.sum:=by
 have hb:((b:Nat):Rat)≠0:=by
  intro z;have:((b:Int):Rat)=0:=by rw[Rat.intCast_natCast];exact z
  rw[Rat.intCast_eq_zero_iff]at this;left
 rw[Rat.divInt_eq_div,mw h,Rat.intCast_natCast];grind
theorem pK(Φ:a_)(h2:i8 (Φ 2))(YR:nG (Φ 41)):gA (mk Φ 1 2 eR):=by
 intro f qs k hs;have e1:=λf=>YR f qs k hs;obtain⟨g1,g2,g3⟩:=hs.lcm;have e2:=h2.1 (qs.map (eM (e9 qs))).sum (e9 qs) (by left) (by have:=uc hs.Ie (by decide);simpa using this);rw[CQ g1 g3]at e2;simp[mk_eq,eR,e1,e2]
noncomputable def b7(n:Int):D->Bool
 |.int i=>decide (0<=i)&&decide (i<n)
 |_=>false
theorem kZ(g:Fl->Fl)(n:Int)(d:D):b7 n (aY g d)=b7 n d:=by
 cases d<;>simp[b7]
theorem fF{n:Int}:∀{ds:ae},ds.all (b7 n)=true->∃ns:aa,ds=ai ns
 |[],_=>⟨[],rfl⟩
 |d::ds,h=>by
  simp only[List.all_cons,Bool.and_eq_true]at h;obtain⟨ns,rfl⟩:=fF h.2;cases d with
  |int i=>exact⟨i::ns,rfl⟩
  |_=>simp[b7]at h
def numsOf(ds:ae):aa:=(intsOf ds).getD []
theorem fC(ns:aa):numsOf (ai ns)=ns:=by unfold numsOf ai;rw[bM];rfl
def cw(d:D)(n:Int):Bool:=match d with
 |.tup ds=>ds.all (b7 n)&&decide ((qm (numsOf ds)).length=ds.length)
 |_=>false
def rR(d:D)(n:Int):Bool:=cw d n&&(match d with
 |.tup ds=>decide (numsOf ds=sortI (numsOf ds))
 |_=>false)
def gB(m:aG):Prop:=∀d n,uN d->m [d,.int n]=ok (.bl (cw d n))
noncomputable def cT:aj:=[.ifs (.not (.jV (.v 0) .tuple)) [.ret (.bl false)] [],.ifs (.not (.bf .all1 [(.comp 1 (.nm 0) [1] .seq [(.v 0)] [] (.and [(.call 0 [(.v 0)]),(.cmp .ge (.v 0) (.int 0)),(.cmp .lt (.v 0) (.v 1))]))])) [.ret (.bl false)] [],.ret (.cmp .eq (.iP (.v 0)) (.bf .len [(.v 0)]))]
theorem pL(Φ:a_)(h0:dQ (Φ 0)):gB (mk Φ 2 2 cT):=by
 intro d n hc;unfold dQ at h0;cases d with
 |tup ds =>
  have hl:ds.length<64:=hc;have wm:bx Φ (.comp 1 (.nm 0) [1] .seq [(.v 0)] [] (.and [(.call 0 [(.v 0)]),(.cmp .ge (.v 0) (.int 0)),(.cmp .lt (.v 0) (.v 1))])) [some (.tup ds),some (.int n)]=ok (.lst .ow (lG (ds.map (b7 n)))):=by
   rw[cc (xs:=[.tup (aC bo ds)]) (by simp) (iG ..) (BG (g:=λd=>.bl (b7 n d)) λx _=>⟨[some x,some (.int n)],by simp[bC],by simp,?_⟩) (by simp;exact bT (by left))]
   ·simp[bg,Function.comp_def,kZ,lG]
   ·cases x with
    |int i =>
     simp[h0,dA,cP,b7]
    |_=>simp[h0,dA,cP,b7]
  cases ha:ds.all (b7 n)with
  |true =>
   obtain⟨ns,rfl⟩:=fF ha;have lS:ns.length<4000:=by simp at hl;left
   have e:(List.all (List.map (b7 n) (ai ns)) id)=true:=by rw[List.all_map];exact ha
   simp[mk_eq,cT,cP,wm,e,JH lS,cw,ha,fC];simp[Int.natCast_inj]
  |false =>
   have e:(List.all (List.map (b7 n) ds) id)=false:=by rw[List.all_map];exact ha
   simp only[mk_eq,cT,List.length_cons,List.length_nil];simp[cP,wm,e,cw,ha]
 |_=>simp[mk_eq,cT,cP,cw]
def sW(m:aG):Prop:=∀d n,uN d->m [d,.int n]=ok (.bl (rR d n))
noncomputable def gf:aj:=[.ret (.and [(.call 43 [(.v 0),(.v 1)]),(.cmp .eq (.bf .list1 [(.v 0)]) (.bf .gn [(.v 0)]))])]
theorem rJ(n:Nat)(f:Fl)(ns:aa):di (n+1) (.lst f (ai ns))=true:=jP (gp n) ns
theorem yq(ns ms:aa):dD (ai ns) (ai ms)=decide (ns=ms):=jZ (λx y=>qj x y) ns ms
theorem jW(g:Fl->Fl)(d:D)(n:Int):cw (aY g d) n=cw d n:=by
 cases d with
 |tup ds =>
  cases h:ds.all (b7 n)with
  |true =>
   obtain⟨ns,rfl⟩:=fF h;simp
  |false =>
   have h2:(aC g ds).all (b7 n)=false:=by
    rw[bg,List.all_map,show(b7 n∘aY g)=b7 n from funext λd=>kZ g n d];exact h
   simp[cw,h,h2]
 |_=>simp[cw]
theorem o9{g:Fl->Fl}{d:D}(h:uN d):uN (aY g d):=by
 cases d<;>simp_all [uN]
theorem zD(Φ:a_)(T4:gB (Φ 43)):sW (mk Φ 2 2 gf):=by
 intro d n hc;have e1:=T4 (aY bp (aY bo d)) n (o9 (o9 hc));rw[jW,jW]at e1;cases d with
 |tup ds =>
  have hl:ds.length<64:=hc;simp only[Ap]at e1;cases ha:cw (.tup ds) n with
  |true =>
   have Qi:=ha;simp only[cw,Bool.and_eq_true]at Qi;obtain⟨ns,rfl⟩:=fF Qi.1;have lS:ns.length<64:=by simpa using hl
   have e2:gO .eq (.lst .ow (ai ns)) (.lst .ow (ai (sortI ns)))=ok (.bl (decide (ns=sortI ns))):=by
    rw[OQ (rJ 39 _ _) (rJ 39 _ _),lW,yq]
   rw[ha]at e1;simp at e1;simp[mk_eq,gf,e1,Et lS,e2,rR,ha,fC]
  |false =>
   rw[ha]at e1;simp[mk_eq,gf,e1,rR,ha]
 |_=>(simp at e1;simp[mk_eq,gf,e1,rR,cw])
def tE(n:Nat)(l:aa):Prop:=l.Pairwise (· < ·)/\∀h∈l,0<=h/\h<(n:Int)
theorem ql:∀(l m:aa),(∀x∈l,x∉m)->l.Nodup->l.foldl (λ(m:aa) (k:Int)=>if m.any (· == k)then m else m++[k]) m=m++l
 |[],m,_,_=>by simp
 |x::l,m,h,hn=>by
  have hx:m.any (· == x)=false:=by
   rw[List.any_eq_false];intro y hy z;have:y=x:=by simpa using z
   exact h x aaf (this▸hy)
  rw[List.foldl_cons,hx,if_neg Bool.false_ne_true,ql l (m++[x])]
  ·simp
  ·intro y hy z;rcases List.mem_append.mp z with z|z
   ·exact h y (aae _ hy) z
   ·have:y=x:=by simpa using z
    subst this;exact(List.nodup_cons.mp hn).1 hy
  ·exact(List.nodup_cons.mp hn).2
theorem tE.nodup{n:Nat}{l:aa}(h:tE n l):l.Nodup:=h.1.imp λz=>by left
theorem zp{l:aa}(h:l.Pairwise (· < ·)):sortI l=l:=by
 unfold sortI;apply List.mergeSort_of_pairwise;exact h.imp λz=>by simp;left
theorem tE.rR{n:Nat}{l:aa}(h:tE n l):rR (.tup (ai l)) n=true:=by
 have h1:(ai l).all (b7 n)=true:=by
  unfold ai;rw[List.all_map,List.all_eq_true];intro x hx;have:=h.2 x hx;simp[b7,this.1,this.2]
 have h2:qm l=l:=by
  have:=ql l [] (by simp) h.nodup;rw[List.nil_append]at this;exact this
 simp[DI.rR,cw,h1,fC,h2,zp h.1]
noncomputable def nE(ns:aa)(k:Int):Int :=
 let c:=if k<ns.length then ns.getD k.toNat 0 else 0
 if (10:Int) ^ 18<=c then(c - 10 ^ 18).fmod (10 ^ 60)else
  let n:=(c*48271+k*69621+11).fmod 2147483629
  let n:=(n*n).fmod 2147483587
  n*2147483563+(n*n).fmod 2147483563
def uT(m:aG):Prop:=∀(ns:aa) (k:Int),0<=k->m [.lst .sc (ai ns),.int k]=ok (.int (nE ns k))
noncomputable def eG:aj:=[.asg (.nm 2) (.int 0),.ifs (.cmp .lt (.v 1) (.bf .len [(.v 0)])) [.asg (.nm 2) (.ix (.v 0) (.v 1))] [],.ifs (.cmp .ge (.v 2) (.bin .pow (.int 10) (.int 18))) [.ret (.bin .mod (.bin .sub (.v 2) (.bin .pow (.int 10) (.int 18))) (.bin .pow (.int 10) (.int 60)))] [],.asg (.nm 3) (.bin .mod (.bin .add (.bin .add (.bin .mul (.v 2) (.int 48271)) (.bin .mul (.v 1) (.int 69621))) (.int 11)) (.int 2147483629)),.asg (.nm 3) (.bin .mod (.bin .mul (.v 3) (.v 3)) (.int 2147483587)),.ret (.bin .add (.bin .mul (.v 3) (.int 2147483563)) (.bin .mod (.bin .mul (.v 3) (.v 3)) (.int 2147483563)))]
theorem iI(a:Int){b:Int}(h:0<b):0<=a.fmod b/\a.fmod b<b:=⟨abN a h,acd a h⟩
theorem yB(Φ:a_)(x:D)(k c:Int)(hx:cP .list x=true)(o:aE):qk (bX Φ (eG.drop 2) [some x,some (.int k),some (.int c),o])=ok (.int (if (10:Int) ^ 18<=c then(c - 10 ^ 18).fmod (10 ^ 60)else
  let n:=(c*48271+k*69621+11).fmod 2147483629
  let n:=(n*n).fmod 2147483587
  n*2147483563+(n*n).fmod 2147483563)):=by
 have p1:cD .pow (.int 10) (.int 18)=ok (.int (10 ^ 18)):=Gp (by decide);have p2:cD .pow (.int 10) (.int 60)=ok (.int (10 ^ 60)):=Gp (by decide);by_cases h:(10:Int) ^ 18<=c
 ·have h':(1000000000000000000:Int)<=c:=h;simp[eG,p1,p2,h']
 ·have h':¬ (1000000000000000000:Int)<=c:=h;obtain⟨a1,a2⟩:=iI (c*48271+k*69621+11) (b:=2147483629) (by decide);generalize hn:(c*48271+k*69621+11).fmod 2147483629=n at *;obtain⟨a3,a4⟩:=iI (n*n) (b:=2147483587) (by decide);have m1:cD .mul (.int n) (.int n)=ok (.int (n*n)):=i5 (pU _ (by left));generalize hm:(n*n).fmod 2147483587=m at *;have m2:cD .mul (.int m) (.int m)=ok (.int (m*m)):=i5 (pU _ (by left));simp[eG,p1,h',hn,m1,hm,m2]
theorem Hc(Φ:a_):uT (mk Φ 2 4 eG):=by
 intro ns k hk;have:=λc=>yB Φ (.lst .sc (ai ns)) k c rfl none;by_cases h:k<ns.length
 ·have hg:tx (ai ns) k=ok (.int (ns.getD k.toNat 0)):=by
   have hl:k.toNat<ns.length:=by left
   rw[at_of hk (d:=.int (ns.getD k.toNat 0)) (by rw[x4,List.getElem?_eq_getElem hl,Option.map_some,List.getD_eq_getElem?_getD,List.getElem?_eq_getElem hl];rfl)];simp
  have e:qk (bX Φ eG ([some (D.lst Fl.sc (ai ns)),some (D.int k)]++[none,none]))=qk (bX Φ (eG.drop 2) [some (.lst .sc (ai ns)),some (.int k),some (.int (ns.getD k.toNat 0)),none]):=by
   rw[eG,eC,Fz];simp only[FZ,Gi,rX,m_];simp only[List.cons_append,List.nil_append,xh,List.length_cons,List.length_nil,Nat.reduceAdd,Nat.reduceLT,mC,List.set_cons_succ,List.set_cons_zero];rw[eC,LJ];simp[h,hg]
  rw[mk_eq (ar:=2) (ds:=[_,_]) rfl];refine(show _=_ from e).trans ?_;rw[this,nE,if_pos h]
 ·have e:qk (bX Φ eG ([some (D.lst Fl.sc (ai ns)),some (D.int k)]++[none,none]))=qk (bX Φ (eG.drop 2) [some (.lst .sc (ai ns)),some (.int k),some (.int 0),none]):=by
   rw[eG,eC,Fz];simp only[FZ,Gi,rX,m_];simp only[List.cons_append,List.nil_append,xh,List.length_cons,List.length_nil,Nat.reduceAdd,Nat.reduceLT,mC,List.set_cons_succ,List.set_cons_zero];rw[eC,LJ];simp[h]
  rw[mk_eq (ar:=2) (ds:=[_,_]) rfl];refine(show _=_ from e).trans ?_;rw[this,nE,if_neg h]
noncomputable def jC:CS:=.GG (.cmp .gt (.v 3) (.int 0)) [.par 2 3 (.v 3) (.bin .mod (.v 2) (.v 3))]
def j6:aj:=[.asg (.nm 2) (.bf .abs [(.v 0)]),.asg (.nm 3) (.bf .abs [(.v 1)]),jC,.ifs (.cmp .lt (.v 1) (.int 0)) [.asg (.nm 2) (.bin .sub (.int 0) (.v 2))] [],.ret (.tup [(.bin .fdiv (.v 0) (.v 2)),(.bin .fdiv (.v 1) (.v 2))])]
theorem ud(Φ:a_)(x y:aE):∀(n:Nat) (a b:Nat),b<=n->oZ Φ jC [x,y,some (.int a),some (.int b)]=ok (.nx,[x,y,some (.int (Nat.gcd a b)),some (.int 0)]):=by
 intro n;induction n with
 |zero =>
  intro a b h;have hb:b=0:=by left
  subst hb;rw[jC,oz];exact gk (by simp)
 |succ n ih =>
  intro a b h;by_cases hb:b=0
  ·subst hb;rw[jC,oz];exact gk (by simp)
  ·have cL:=Nat.mod_lt a (show 0<b by left);have e:=ih b (a % b) (by left);have eg:Nat.gcd b (a % b)=Nat.gcd a b:=by rw[Nat.gcd_comm a b,Nat.gcd_rec b a,Nat.gcd_comm]
   rw[eg]at e;rw[jC,oz]at e ⊢;rw[<- e];have wo:0<b:=by left
   have em:((a:Int)).fmod (b:Int)=((a % b:Nat):Int):=by
    rw[Int.fmod_eq_emod_of_nonneg _ (by left)];exact(Int.natCast_emod a b).symm
   have ep:oZ Φ (.par 2 3 (.v 3) (.bin .mod (.v 2) (.v 3))) [x,y,some (.int a),some (.int b)]=ok (.nx,[x,y,some (.int b),some (.int ((a % b:Nat):Int))]):=by
    rw[LH];simp[hb,em]
   exact mn (by simp[wo,ep])
theorem Dh(Φ:a_):l_ (mk Φ 2 4 j6):=by
 intro t b hb h;obtain⟨e1,e2⟩:=qi (t:=t) hb;have d1:=lY (t:=t) hb h t;have d2:=lY (t:=t) hb h b;have hl:=ud Φ (some (.int t)) (some (.int b)) b.natAbs t.natAbs b.natAbs (aak _);rw[qD,<- e1,<- e2];by_cases hn:b<0
 ·have ed:0 - (Nat.gcd t.natAbs b.natAbs:Int)=fe t b:=by simp[fe,hn,Int.gcd]
  have Y9:-(Nat.gcd t.natAbs b.natAbs:Int)=fe t b:=by simp[fe,hn,Int.gcd]
  simp[mk_eq,j6,hl,hn,Y9,d1,d2]
 ·have ed:(Nat.gcd t.natAbs b.natAbs:Int)=fe t b:=by simp[fe,hn,Int.gcd]
  simp[mk_eq,j6,hl,hn,ed,d1,d2]
def BZ(m:aG):Prop:=∀q,m [qD q]=ok (.bl true)
noncomputable def w_:aj:=[.ifs (.or [(.not (.jV (.v 0) .tuple)),(.cmp .ne (.bf .len [(.v 0)]) (.int 2))]) [.ret (.bl false)] [],.ret (.cmp .eq (.bf .len [(.comp 1 (.nm 0) [] .seq [(.v 0)] [(.or [(.not (.jV (.v 0) .int)),(.jV (.v 0) .bool)])] (.v 0))]) (.int 0))]
theorem Mv(Φ:a_):BZ (mk Φ 1 1 w_):=by
 intro q;have hc:bx Φ (.comp 1 (.nm 0) [] .seq [(.v 0)] [(.or [(.not (.jV (.v 0) .int)),(.jV (.v 0) .bool)])] (.v 0)) [some (qD q)]=ok (.lst .ow []):=by
  rw[cc (xs:=[qD q]) (items:=[.int q.num,.int q.den]) (ds:=[]) (by simp) (by unfold qD;rw[iG];simp) (by simp[gc,bC,cP]) (by simp)];simp
 have h2:cP .tuple (qD q)=true:=rfl;have h3:qC .len [qD q]=ok (.int 2):=rfl;simp[mk_eq,w_,hc,h2,h3]
noncomputable def Gr(qs:aU)(h:Int):Rat:=qs.getD h.toNat 0
theorem xf{h:Int}(h0:0<=h)(h1:h<qs.length):qs[h.toNat]?=some (Gr qs h)/\Gr qs h∈qs:=by
 have hl:h.toNat<qs.length:=by left
 have e:qs[h.toNat]?=some (Gr qs h):=by
  unfold Gr;rw[List.getD_eq_getElem?_getD,List.getElem?_eq_getElem hl];rfl
 exact⟨e,aar e⟩
theorem xE{q:Rat}(h:0<q):0<q.num:=by
 have:=(Rat.lt_iff 0 q).mp h;simpa using this
theorem tE.len{n:Nat}{l:aa}(h:tE n l):l.length<=n:=by
 have hn:(l.map Int.toNat).Nodup:=by
  unfold List.Nodup;rw[List.pairwise_map];refine h.1.imp_of_mem λha hb z e=>?_;have:=h.2 _ ha;have:=h.2 _ hb;left
 have hs:(l.map Int.toNat) ⊆ List.range n:=λx hx=>by
  obtain⟨y,hy,rfl⟩:=List.mem_map.mp hx;have:=h.2 y hy;rw[List.mem_range];left
 have:=hn.length_le_of_subset hs;simpa using this
theorem tE.ck{n:Nat}{l:aa}(h:tE n l)(hn:n<=12):uN (.tup (ai l)):=by
 have:=h.len;show(ai l).length<64;simp;left
theorem Mp{t b:Int}{k:Nat}(h0:b≠0)(h1:t.natAbs<2 ^ k)(h2:b.natAbs<2 ^ k):Sm k (Rat.divInt t b):=xA h0 h1 h2
theorem uD{t b:Int}(ht:0<t)(hb:0<b):0<Rat.divInt t b:=by
 rw[Rat.divInt_eq_div];have h1:(0:Rat)<(t:Rat):=by
  have:=Rat.intCast_lt_intCast (a:=0) (b:=t);simpa using this.mpr ht
 have h2:(0:Rat)<(b:Rat):=by
  have:=Rat.intCast_lt_intCast (a:=0) (b:=b);simpa using this.mpr hb
 rw[Rat.div_def];exact Rat.mul_pos h1 (Rat.inv_pos.mpr h2)
theorem Sm.zero(k:Nat)(h:1<=k):Sm k 0:=by
 have:Sm 1 (0:Rat):=by constructor<;>decide
 exact this.mono h
theorem Sm.sum{k:Nat}:∀{qs:aU},(∀q∈qs,Sm k q)->Sm (1+(k+1)*qs.length) qs.sum
 |[],_=>Sm.zero _ (by simp)
 |q::qs,h=>by
  have h1:=h q aaf;have h2:=Sm.sum (qs:=qs) λp hp=>h p (aae _ hp);rw[List.sum_cons];refine(h1.add h2).mono ?_;rw[List.length_cons,Nat.mul_succ];left
noncomputable def Rb(l:aa)(f:Int->Rat):Rat:=(l.map f).sum
@[simp]theorem Mi(f:Int->Rat):Rb [] f=0:=rfl
noncomputable abbrev Row:=Rat×aa
abbrev ag:=List Row
def rD(r:Row):D:=.tup [qD r.1,.tup (ai r.2)]
@[simp]theorem HY(g:Fl->Fl)(r:Row):aY g (rD r)=rD r:=by unfold rD;simp
@[simp]theorem I9(g:Fl->Bool)(r:Row):aT g (rD r)=false:=by unfold rD;simp
noncomputable def aN(rs:ag):ae:=rs.map rD
@[simp]theorem fB(rs:ag):(aN rs).length=rs.length:=aa1 ..
@[simp]theorem b_(g:Fl->Fl)(rs:ag):aC g (aN rs)=aN rs:=dJ g (HY g) rs
@[simp]theorem fZ(g:Fl->Bool)(rs:ag):aQ g (aN rs)=false:=cQ g (I9 g) rs
theorem FT(n:Nat)(r:Row):di (n+2) (rD r)=true:=by
 unfold rD;rw[pQ,List.all_cons,List.all_cons,MZ n];have:di (n+1) (.tup (ai r.2))=true:=by
  rw[pQ];exact jP (λ_=>by cases n<;>rfl) r.2
 rw[this];rfl
theorem Br(a b:aa):dD (ai a) (ai b)=decide (a=b):=jZ (λx y=>by show(x==y)=_;rfl) a b
theorem Oy(r s:Row):kD (rD r) (rD s)=decide (r=s):=by
 unfold rD;show(kD (qD r.1) (qD s.1)&&(dD (ai r.2) (ai s.2)&&true))=_;rw[Oz,Br,Bool.and_true];have:decide (r=s)=decide (r.1=s.1/\r.2=s.2):=by
  congr 1;exact propext ⟨λh=>by rw[h];exact⟨rfl,rfl⟩,λh=>Prod.ext h.1 h.2⟩
 rw[this,<- Bool.decide_and]
theorem wG(r s:ag):dD (aN r) (aN s)=decide (r=s):=jZ Oy r s
def gg(n:Nat)(rs:ag):D:=.tup [.int n,.lst .fz (aN rs)]
def U6(rs:ag):Prop:=∃W:Nat,0<W/\W<2 ^ 250/\∀r∈rs,r.1.den∣W
def Rw(n:Nat)(l:aa):Prop:=l.Nodup/\l.length<=n/\∀h∈l,0<=h/\h<(n:Int)
theorem tE.rw{n:Nat}{l:aa}(h:tE n l):Rw n l:=⟨h.nodup,h.len,h.2⟩
noncomputable def iR(rs:ag):aU:=rs.map (·.1)
structure Dp(P:aa->Prop)(k n:Nat)(rs:ag):Prop where
 n1:1<=n
 n2:n<=12
 fin:U6 rs
 len:rs.length<=1000
 lot:∀r∈rs,P r.2
 pos:∀r∈rs,0<r.1
 sm:∀r∈rs,Sm k r.1
 one:(rs.map (·.1)).sum=1
 rise:sX (rs.map (·.2))
 sl:∃j,xj j (iR rs)
abbrev Dr(k n:Nat)(rs:ag):Prop:=Dp (tE n) k n rs
theorem Dp.imp{P Q:aa->Prop}{k n:Nat}{rs:ag}(I:Dp P k n rs)(h:∀r∈rs,P r.2->Q r.2):Dp Q k n rs:=⟨I.n1,I.n2,I.fin,I.len,λr hr=>h r hr (I.lot r hr),I.pos,I.sm,I.one,I.rise,I.sl⟩
section
variable {P:aa->Prop}{k n:Nat}{rs:ag}(I:Dp P k n rs)
include I
end
def nH(m:aG):Prop:=∀(r:Row) (n:Nat),n<=12->Rw n r.2->0<r.1->m [rD r,.int n]=ok (.bl true)
noncomputable def j7:aj:=[.ifs (.or [(.not (.jV (.v 0) .tuple)),(.cmp .ne (.bf .len [(.v 0)]) (.int 2))]) [.ret (.bl false)] [],.ifs (.not (.call 43 [(.ix (.v 0) (.int 1)),(.v 1)])) [.ret (.bl false)] [],.ret (.and [(.call 3 [(.ix (.v 0) (.int 0))]),(.cmp .gt (.ix (.ix (.v 0) (.int 0)) (.int 0)) (.int 0))])]
theorem Rw.IH{n:Nat}{l:aa}(h:Rw n l):cw (.tup (ai l)) n=true:=by
 have h1:(ai l).all (b7 n)=true:=by
  unfold ai;rw[List.all_map,List.all_eq_true];intro x hx;have:=h.2.2 x hx;simp[b7,this.1,this.2]
 have h2:qm l=l:=by
  have:=ql l [] (by simp) h.1;rw[List.nil_append]at this;exact this
 simp[cw,h1,fC,h2]
theorem Rw.ck{n:Nat}{l:aa}(h:Rw n l)(hn:n<=12):uN (.tup (ai l)):=by
 have:=h.2.1;show(ai l).length<64;simp;left
theorem zC(Φ:a_)(h3:i7 (Φ 3))(T4:gB (Φ 43)):nH (mk Φ 2 2 j7):=by
 intro r n hn hl hp;have e1:=T4 (.tup (ai r.2)) n (hl.ck hn);rw[hl.IH]at e1;have e2:=h3 (qD r.1);rw[Ep]at e2;have SY:=xE hp;have e3:rD r=.tup [qD r.1,.tup (ai r.2)]:=rfl;have e4:qD r.1=.tup [.int r.1.num,.int r.1.den]:=rfl;simp[mk_eq,j7,e3,cP,e1,e2];simp[e4,SY]
theorem Dj(oU:Φ 1022=Li){a b:aa}(h:HT.lexLt a b=true):Φ 1022 [.tup (ai a),.tup (ai b)]=ok (.bl false):=by
 rw[oU];show(match intsOf (ai a)with|some ns=>(match intsOf (ai b)with|some ms=>ok (D.bl (!HT.lexLt ns ms))|none=>none)|none=>none)=_;unfold ai;rw[bM,bM];show ok (D.bl (!HT.lexLt a b))=_;rw[h];rfl
def lh(m:aG):Prop:=∀(rs:ag),1<=rs.length->sX (rs.map (·.2))->m [.lst .fz (aN rs)]=ok (.bl true)
noncomputable def CT:aj:=[.ifs (.cF 1022 [(.ix (.v 1) (.int 1)),(.ix (.v 2) (.int 1))]) [.ret (.bl false)] []]
def fJ:aj:=[.fr (.tp [1,2]) (.Hv 1000 [(.v 0),(.cF 1020 [(.v 0),(.int 1)])]) CT,.ret (.bl true)]
theorem vz(Φ:a_)(oU:Φ 1022=Li)(c0:aE):∀(rs:ag) (r:Row) (c1 c2:aE),sX ((r::rs).map (·.2)) ->
  ∃Kh Kg,cR (λd ρ=>bV (.tp [1,2]) d ρ) (λρ=>bX Φ CT ρ) (List.zipWith (λx y=>D.tup [x,y]) (aN (r::rs)) (aN rs)) [c0,c1,c2]=ok (.nx,[c0,Kh,Kg])
 |[],r,c1,c2,_=>⟨c1,c2,rfl⟩
 |s::rs,r,c1,c2,h=>by
  have h':=List.pairwise_cons.mp h;obtain⟨Kh,Kg,ih⟩:=vz Φ oU c0 rs s (some (rD r)) (some (rD s)) h'.2;have hl:=h'.1 s.2 (by simp);have e:=Dj oU hl;refine⟨Kh,Kg,b8 (ρ1:=[c0,some (rD r),some (rD s)]) (by simp) (ρ2:=[c0,some (rD r),some (rD s)]) ?_ ih⟩;have e1:∀r:Row,rD r=.tup [qD r.1,.tup (ai r.2)]:=λ_=>rfl;simp[CT,e1,e]
theorem rn(Φ:a_)(Oj:Φ 1000=Co)(Oi:Φ 1020=cutD true)(oU:Φ 1022=Li):lh (mk Φ 1 3 fJ):=by
 intro rs h1 hr;obtain⟨r,rs,rfl⟩:∃r qH,rs=r::qH:=by
  cases rs with
  |nil=>simp at h1
  |cons r rs=>exact⟨r,rs,rfl⟩
 obtain⟨c1,c2,e⟩:=vz Φ oU (some (.lst .fz (aN (r::rs)))) rs r none none hr;have e1:Φ 1020 [.lst .fz (aN (r::rs)),.int 1]=ok (.lst .ow (aN rs)):=by
  rw[Oi];show(if (0:Int)<=1/\(1:Int)<=((aN (r::rs)).length:Nat)then ok (D.lst .ow (aC bo (oj true (1:Int).toNat (aN (r::rs)))))else none)=_;rw[if_pos ⟨by decide,by simp;left⟩];show ok (D.lst .ow (aC bo (aN rs)))=_;simp
 have e2:Φ 1000 [.lst .fz (aN (r::rs)),.lst .ow (aN rs)]=ok (.lst .ow (List.zipWith (λx y=>D.tup [x,y]) (aN (r::rs)) (aN rs))):=by rw[Oj];rfl
 have e3:aC bp (List.zipWith (λx y=>D.tup [x,y]) (aN (r::rs)) (aN rs))=List.zipWith (λx y=>D.tup [x,y]) (aN (r::rs)) (aN rs):=by
  have:=fE bp (aN (r::rs)) (aN rs);rw[b_,b_]at this;exact this
 have hit:bO Φ (.Hv 1000 [(.v 0),(.cF 1020 [(.v 0),(.int 1)])]) [some (.lst .fz (aN (r::rs))),none,none]=ok (List.zipWith (λx y=>D.tup [x,y]) (aN (r::rs)) (aN rs),[some (.lst .fz (aN (r::rs))),none,none]):=by
  show bd (cz Φ [(.v 0),(.cF 1020 [(.v 0),(.int 1)])] [some (.lst .fz (aN (r::rs))),none,none]) _=_;have:cz Φ [(.v 0),(.cF 1020 [(.v 0),(.int 1)])] [some (.lst .fz (aN (r::rs))),none,none]=ok [.lst .fz (aN (r::rs)),.lst .ow (aN rs)]:=by simp[e1]
  rw[this,cZ,e2,cZ];show ok (aC bp (List.zipWith (λx y=>D.tup [x,y]) (aN (r::rs)) (aN rs)),if aQ bL [D.lst .fz (aN (r::rs)),.lst .ow (aN rs)]then _ else _)=_;rw[e3];simp
 have hf:=dz (Φ:=Φ) (t:=.tp [1,2]) (b:=CT) hit e;simp[mk_eq,fJ,hf]
def mS(rs:ag):ae:=rs.map λr=>.tup (ai r.2)
@[simp]theorem mP(g:Fl->Fl)(rs:ag):aC g (mS rs)=mS rs:=dJ g (λr=>by simp) rs
@[simp]theorem IY(g:Fl->Bool)(rs:ag):aQ g (mS rs)=false:=cQ g (λr=>by simp) rs
def Cr(b:Nat)(rs:ag):ae:=rs.map λr=>.tup [.int (eM b r.1),.tup (ai r.2)]
@[simp]theorem Nb(g:Fl->Fl)(b:Nat)(rs:ag):aC g (Cr b rs)=Cr b rs:=dJ g (λr=>by simp) rs
@[simp]theorem N4(g:Fl->Bool)(b:Nat)(rs:ag):aQ g (Cr b rs)=false:=cQ g (λr=>by simp) rs
noncomputable def Ey:CE:=.comp 2 (.tp [0,1]) [] .seq [(.v 0)] [] (.v 0)
noncomputable def Ex:CE:=.comp 2 (.tp [0,1]) [] .seq [(.v 0)] [] (.v 1)
theorem OM(Φ:a_){rs:ag}(h:rs.length<=1000)(r:bh):bx Φ Ey (some (.lst .fz (aN rs))::r)=ok (.lst .ow (dY (iR rs))):=by
 unfold Ey;rw[cc (xs:=[.lst .fz (aN rs)]) (items:=aN rs) (ds:=rs.map λr=>qD r.1) (by simp) (by rw[cO];simp) (bJ λr hr=>?_) (by simp;exact bT (by left))]
 ·simp[dY,iR,bg]
 ·exact⟨[some (qD r.1),some (.tup (ai r.2))],by simp[bC,rD],by simp,by simp⟩
theorem Nk(Φ:a_){rs:ag}(h:rs.length<=1000)(r:bh):bx Φ Ex (some (.lst .fz (aN rs))::r)=ok (.lst .ow (mS rs)):=by
 unfold Ex;rw[cc (xs:=[.lst .fz (aN rs)]) (items:=aN rs) (ds:=rs.map λr=>.tup (ai r.2)) (by simp) (by rw[cO];simp) (bJ λr hr=>?_) (by simp;exact bT (by left))]
 ·exact aaR (λx=>ok (D.lst .ow x)) (mP gv rs)
 ·exact⟨[some (qD r.1),some (.tup (ai r.2))],by simp[bC,rD],by simp,by simp⟩
def ph(m:aG):Prop:=∀(rs:ag) k,xj k (iR rs)->m [.lst .fz (aN rs)]=ok (.tup [.int (e9 (iR rs)),.lst .ow (Cr (e9 (iR rs)) rs)])
def iJ:aj:=[.asg (.nm 1) Ey,.asg (.nm 2) Ex,.asg (.nm 3) (.call 9 [(.v 1)]),.ret (.tup [(.v 3),(.cF 1040 [(.call 10 [(.v 1),(.v 3)]),(.v 2)])])]
theorem xD(Φ:a_)(h9:eH (Φ 9))(Je:iq (Φ 10))(Oh:Φ 1040=Nj):ph (mk Φ 1 4 iJ):=by
 intro rs k hs;have hl:rs.length<=1000:=by have:=hs.len;simpa [iR]using this
 have e1:=OM Φ hl;have e2:=Nk Φ hl;have e3:=λf=>h9 f (iR rs) k hs;have e4:=λf=>Je f (iR rs) k (e9 (iR rs)) hs hs.Ie;generalize e9 (iR rs)=b at *;have e5:Φ 1040 [.lst .ow (ai ((iR rs).map (eM b))),.lst .al (mS rs)]=ok (.lst .ow (Cr b rs)):=by
  rw[Oh];show ok (D.lst .ow (aC bo (List.zipWith pairD (ai ((iR rs).map (eM b))) (mS rs))))=_;rw[fE,g9,mP];unfold iR ai mS Cr;rw[List.map_map,List.map_map,List.zipWith_map,List.zipWith_self];rfl
 simp[mk_eq,iJ,KY Φ Ey _ rfl,KY Φ Ex _ rfl,e1,e2,e3,e4,e5]
noncomputable def JN:CE:=.comp 2 (.tp [0,1]) [] .seq [(.ix (.v 1) (.int 1))] [] (.v 0)
def i6(m:aG):Prop:=∀(rs:ag) k,xj k (iR rs)->(iR rs).sum=1->m [.lst .fz (aN rs)]=ok (.bl true)
def dX:aj:=[.asg (.nm 1) (.call 14 [(.v 0)]),.ret (.cmp .eq (.bf .jc [JN]) (.ix (.v 1) (.int 0)))]
theorem zf{b:Nat}(h:∀q∈qs,q.den∣b)(h1:qs.sum=1):(qs.map (eM b)).sum=(b:Int):=by
 have:=mw h;rw[h1,Rat.one_mul,<- Rat.intCast_natCast]at this;exact Rat.intCast_inj.mp this
theorem nZ(Φ:a_)(YU:ph (Φ 14)):i6 (mk Φ 1 2 dX):=by
 intro rs k hs h1;have hl:rs.length<=1000:=by have:=hs.len;simpa [iR]using this
 have e1:=YU rs k hs;have hb:=hs.lcm;have e2:=zf hb.2.2 h1;generalize e9 (iR rs)=b at *;have e3:∀c0,bx Φ JN [c0,some (.tup [.int b,.lst .ow (Cr b rs)])]=ok (.lst .ow (ai ((iR rs).map (eM b)))):=λc0=>by
  unfold JN;rw[cc (xs:=[.lst .al (Cr b rs)]) (items:=Cr b rs) (ds:=rs.map λr=>.int (eM b r.1)) (by simp) (by rw[cO];simp) (bJ λr hr=>?_) (by simp;exact bT (by left))]
  ·simp[ai,iR,bg]
  ·exact⟨[some (.int (eM b r.1)),some (.tup (ai r.2))],by simp[bC],by simp,by simp⟩
 have e4:qC .jc [.lst .ow (ai ((iR rs).map (eM b)))]=ok (.int b):=by
  show(match intsOf (ai ((iR rs).map (eM b)))with|some ns=>ok (D.int ns.sum)|none=>none)=_;unfold ai;rw[bM];show ok (D.int ((iR rs).map (eM b)).sum)=_;rw[e2]
 have e5:gO .eq (.int (b:Int)) (.int (b:Int))=ok (.bl true):=by
  show(if di 40 (.int (b:Int))&&di 40 (.int (b:Int))then ok (D.bl ((b:Int)==(b:Int)))else none)=_;simp[di]
 simp[mk_eq,dX,e1,e3,e4,e5]
noncomputable def lL:aj:=[.ifs (.not (.call 12 [(.v 3),(.v 1)])) [.ret (.bl false)] []]
def gz:aj:=[.ifs (.or [(.not (.jV (.v 0) .tuple)),(.cmp .ne (.bf .len [(.v 0)]) (.int 2))]) [.ret (.bl false)] [],.asg (.nm 1) (.ix (.v 0) (.int 0)),.asg (.nm 2) (.ix (.v 0) (.int 1)),.ifs (.or [(.not (.call 0 [(.v 1)])),(.cmp .lt (.v 1) (.int 1)),(.cmp .gt (.v 1) (.glo "MOST_HOUSES" 12))]) [.ret (.bl false)] [],.ifs (.not (.jV (.v 2) .list)) [.ret (.bl false)] [],.fr (.nm 3) (.seq (.v 2)) lL,.ret (.and [(.call 44 [(.v 2)]),(.call 15 [(.v 2)])])]
def Pf(m:aG):Prop:=∀k n rs,Dr k n rs->m [gg n rs]=ok (.bl true)
def Gx(m:aG):Prop:=∀k n rs,Dp (Rw n) k n rs->m [gg n rs]=ok (.bl true)
theorem nA(Φ:a_)(Jd:nH (Φ 12)){n:Nat}(hn:n<=12)(c0 c2:aE):∀(rs:ag) (c3:aE),(∀r∈rs,Rw n r.2/\0<r.1)->∃sQ,cR (λd ρ=>bV (.nm 3) d ρ) (λρ=>bX Φ lL ρ) (aN rs) [c0,some (.int n),c2,c3]=ok (.nx,[c0,some (.int n),c2,sQ])
 |[],c3,_=>⟨c3,rfl⟩
 |r::rs,c3,h=>by
  obtain⟨sQ,ih⟩:=nA Φ Jd hn c0 c2 rs (some (rD r)) λs hs=>h s (aae _ hs);have h1:=h r aaf;have e:=Jd r n hn h1.1 h1.2;refine⟨sQ,b8 (ρ1:=[c0,some (.int n),c2,some (rD r)]) (by simp) (ρ2:=[c0,some (.int n),c2,some (rD r)]) ?_ ih⟩;simp[lL,e]
theorem Dp.some{P:aa->Prop}{k n:Nat}{rs:ag}(I:Dp P k n rs):1<=rs.length:=by
 cases rs with
 |nil=>have:=I.one;simp at this
 |cons r rs=>simp
theorem t4(Φ:a_)(h0:dQ (Φ 0))(Jd:nH (Φ 12))(YT:i6 (Φ 15))(YQ:lh (Φ 44)):Gx (mk Φ 1 4 gz):=by
 intro k n rs I;have n1:=I.n1;have n2:=I.n2;obtain⟨k',sk⟩:=I.sl;have e1:=YT rs k' sk I.one;have e2:=YQ rs I.some I.rise;have e3:Φ 0 [.int (n:Int)]=ok (.bl true):=by rw[h0];rfl
 obtain⟨c3,e4⟩:=nA Φ Jd n2 (some (gg n rs)) (some (.lst .fz (aN rs))) rs none λr hr=>⟨I.lot r hr,I.pos r hr⟩
 have hit:bO Φ (.seq (.v 2)) [some (gg n rs),some (.int n),some (.lst .fz (aN rs)),none]=ok (aN rs,[some (gg n rs),some (.int n),some (.lst .fz (aN rs)),none]):=by
  rw[jT (f:=.fz) (ds:=aN rs) (by simp)];simp
 have hf:=dz (Φ:=Φ) (t:=.nm 3) (b:=lL) hit e4;have c1:gO .lt (.int (n:Int)) (.int 1)=ok (.bl false):=by
  show ok (D.bl (decide ((n:Int)<1)))=_;rw[decide_eq_false (by left)]
 have c2:gO .gt (.int (n:Int)) (.int 12)=ok (.bl false):=by
  show ok (D.bl (decide ((12:Int)<n)))=_;rw[decide_eq_false (by left)]
 have W3:∀ds,cP .tuple (.tup ds)=true:=λ_=>rfl;have LW:∀f ds,cP .list (.lst f ds)=true:=λ_ _=>rfl;unfold gg at hf ⊢;simp[mk_eq,gz,W3,LW,e3,c1,c2,hf,e2,e1]
noncomputable def JQ:CE:=.comp 2 (.tp [0,1]) [0] .seq [(.ix (.v 0) (.int 1))] [] (.call 11 [(.v 1),(.ix (.v 2) (.int 0))])
def eQ:aj:=[.ret (.and [(.call 45 [(.v 0)]),(.bf .all1 [JQ])])]
theorem pJ(Φ:a_)(YV:sW (Φ 11))(T3:Gx (Φ 45)):Pf (mk Φ 1 1 eQ):=by
 intro k n rs I;have e1:=T3 k n rs (I.imp λ_ _ h=>h.rw);have e2:bx Φ JQ [some (gg n rs)]=ok (.lst .ow (lG (rs.map λ_=>true))):=by
  unfold JQ;rw[cc (xs:=[.lst .fz (aN rs)]) (items:=aN rs) (ds:=rs.map λ_=>.bl true) (by simp[gg]) (by rw[cO];simp) (bJ λr hr=>?_) (by simp;exact bT (by have:=I.len;left))]
  ·simp[lG,bg]
  ·have hl:=I.lot r hr;have e:=YV (.tup (ai r.2)) n (hl.ck I.n2);rw[hl.rR]at e;exact⟨[some (qD r.1),some (.tup (ai r.2)),some (gg n rs)],by simp[bC,rD,gg],by simp,by simp[gg,e]⟩
 have e3:qC .all1 [.lst .ow (lG (rs.map λ_=>true))]=ok (.bl true):=by
  show(match il (lG (rs.map λ_=>true))with|some bs=>ok (D.bl (bs.all id))|none=>none)=_;unfold lG;rw[kM];show ok (D.bl ((rs.map λ_=>true).all id))=_;congr 2;simp
 have m1:aY bp (gg n rs)=gg n rs:=by simp[gg]
 have m2:aY bo (gg n rs)=gg n rs:=by simp[gg]
 simp[mk_eq,eQ,m1,m2,e1,e2,e3]
def jq(m:aG):Prop:=∀k n rs,Dr k n rs->m [gg n rs]=ok .bW
noncomputable def dg:aj:=[.ifs (.not (.call 16 [(.v 0)])) [.rs 1] []]
theorem lr(Φ:a_)(YS:Pf (Φ 16)):jq (mk Φ 1 1 dg):=by
 intro k n rs I;have e1:=YS k n rs I;have m1:aY bp (gg n rs)=gg n rs:=by simp[gg]
 have m2:aY bo (gg n rs)=gg n rs:=by simp[gg]
 simp[mk_eq,dg,m1,m2,e1]
noncomputable def Vm(ws xs:aU):aU:=(ws.zip xs).map λp=>p.1*p.2
structure Gs(j n:Nat)(ws xs:aU):Prop where
 l1:ws.length=n
 l2:xs.length=n
 s1:∀q∈ws,Sm j q
 s2:∀q∈xs,Sm j q
 jj:j<=100
theorem Gs.at{j n:Nat}{ws xs:aU}(G:Gs j n ws xs){h:Int}(h0:0<=h)(h1:h<n):Gr (Vm ws xs) h=Gr ws h*Gr xs h:=by
 obtain⟨g1,_⟩:=xf (qs:=ws) h0 (by rw[G.l1];exact h1);obtain⟨g2,_⟩:=xf (qs:=xs) h0 (by rw[G.l2];exact h1);unfold Gr at *;unfold Vm;rw[List.getD_eq_getElem?_getD,List.getElem?_map,List.zip,List.getElem?_zipWith,g1,g2];rfl
theorem mi{p i:Nat}{es:aF}{d d':D}(h1:cz Φ es ρ=ok xs)(h2:aQ bL xs=false)(h3:ρ[i]?=some (some d))(h4:Φ p (d::xs)=ok d'):oZ Φ (.mut p i es) ρ=ok (.nx,ρ.set i (some d')):=by
 show bd (cz Φ es ρ) (λxs=>pT Φ p i (jS es xs ρ))=_;rw[h1,cZ];unfold jS;rw[h2,if_neg Bool.false_ne_true];unfold pT;rw[h3];show bd (Φ p (d::xs)) _=_;rw[h4];rfl
theorem oV(c:aa):∀(cs:aw) (ws:aa),bK cs (ai ws) c=(bK cs ws c).map D.int
 |[],_=>by cases ‹aa› <;> rfl
 |_::_,[]=>rfl
 |c'::cs,w::ws=>by
  show(if c'=c then some (D.int w)else bK cs (ai ws) c)=Option.map D.int (if c'=c then some w else bK cs ws c);by_cases e:c'=c
  ·rw[if_pos e,if_pos e];rfl
  ·rw[if_neg e,if_neg e];exact oV c cs ws
theorem oG(c:aa)(v:Int):∀(cs:aw) (ws:aa),setC cs (ai ws) c (.int v)=ai (setC cs ws c v)
 |[],_=>by cases ‹aa› <;> rfl
 |_::_,[]=>rfl
 |c'::cs,w::ws=>by
  show(if c'=c then D.int v else D.int w)::setC cs (ai ws) c (.int v)=D.int (if c'=c then v else w)::ai (setC cs ws c v);rw[oG c v cs ws];by_cases e:c'=c
  ·rw[if_pos e,if_pos e]
  ·rw[if_neg e,if_neg e]
theorem tH(cs:aw)(ws:aa)(c:aa)(v:Int):bz cs (ai ws) c (.int v)=ai (bz cs ws c v):=by
 unfold bz;by_cases e:c∈cs
 ·rw[if_pos e,if_pos e];exact oG c v cs ws
 ·rw[if_neg e,if_neg e];simp
def dN(cs:aw)(ws:aa)(c:aa):Int:=(bK cs ws c).getD 0
theorem ng{α:Type}{c:aa}:∀{cs:aw} (ws:List α),c∉cs->bK cs ws c=none
 |[],_,_=>by cases ‹List α› <;> rfl
 |_::_,[],_=>rfl
 |c'::cs,w::ws,h=>by
  show(if c'=c then some w else bK cs ws c)=none;rw[if_neg λe=>h (by rw[e];exact List.mem_cons_self)];exact ng ws λz=>h (aae _ z)
theorem lU{α:Type}{c:aa}:∀{cs:aw} {ws:List α},cs.length=ws.length->c∈cs->∃w,bK cs ws c=some w/\w∈ws
 |[],_,_,h=>nomatch h
 |_::_,[],hl,_=>by simp at hl
 |c'::cs,w::ws,hl,h=>by
  by_cases e:c'=c
  ·exact⟨w,aaN e,aaf⟩
  ·have h':c∈cs:=(List.mem_cons.mp h).resolve_left λz=>e z.symm;obtain⟨w',e1,e2⟩:=lU (cs:=cs) (ws:=ws) (by simpa using hl) h';exact⟨w',(ack e).trans e1,aae _ e2⟩
theorem rQ:∀{cs:aw} {ws:aa},cs.Nodup->cs.length=ws.length->cs.map (dN cs ws)=ws
 |[],[],_,_=>rfl
 |[],_::_,_,h=>by simp at h
 |_::_,[],_,h=>by simp at h
 |c::cs,w::ws,hn,hl=>by
  have wj:=List.nodup_cons.mp hn;have ih:=rQ (cs:=cs) (ws:=ws) wj.2 (by simpa using hl);rw[List.map_cons];have e1:dN (c::cs) (w::ws) c=w:=by
   show(if c=c then some w else bK cs ws c).getD 0=w;rw[if_pos rfl];rfl
  have e2:cs.map (dN (c::cs) (w::ws))=cs.map (dN cs ws):=aaL λx hx=>by
   show(if c=x then some w else bK cs ws x).getD 0=_;rw[if_neg (show ¬ c=x from λz=>wj.1 (by rw[z];exact hx))];rfl
  rw[e1,e2,ih]
theorem mG{c:aa}{v:Int}:∀{cs:aw} {ws:aa} {x:Int},x∈setC cs ws c v->x∈ws\/x=v
 |[],_,_,h=>by cases ‹aa› <;> exact nomatch h
 |_::_,[],_,h=>nomatch h
 |c'::cs,w::ws,x,h=>by
  have h:x∈(if c'=c then v else w)::setC cs ws c v:=h;rcases List.mem_cons.mp h with e|h
  ·by_cases q:c'=c
   ·rw[if_pos q]at e;exact .inr e
   ·rw[if_neg q]at e;rw[e];exact .inl aaf
  ·rcases mG h with h|h
   ·exact .inl (aae _ h)
   ·exact .inr h
structure Tab(P:aa->Prop)(j:Nat)(cs:aw)(ws:aa):Prop where
 nd:cs.Nodup
 ln:cs.length=ws.length
 ux:cs.length<=j
 lot:∀c∈cs,P c
 pos:∀w∈ws,1<=w
 sum:ws.sum<=7*j
 ne:1<=j->cs≠[]
variable {cs:aw}
theorem Tab.get{n:aa->Prop}{j:Nat}(T:Tab n j cs ws)(c:aa):0<=dN cs ws c:=by
 by_cases h:c∈cs
 ·obtain⟨w,e,m⟩:=lU T.ln h;unfold dN;rw[e];have:=T.pos w m;show 0<=w;left
 ·unfold dN;rw[ng ws h];exact aa_ _
def iO(cs:aw)(ws:aa):ag:=(bq cs).map λc=>(Rat.divInt (dN cs ws c) ws.sum,c)
theorem vm(W:Int)(hW:W≠0):∀ls:aa,(ls.map λx=>Rat.divInt x W).sum=Rat.divInt ls.sum W
 |[]=>by simp
 |x::ls=>by
  rw[List.map_cons,List.sum_cons,vm W hW ls,List.sum_cons,Rat.divInt_eq_div,Rat.divInt_eq_div,Rat.divInt_eq_div,Rat.intCast_add];grind
theorem zY{a b:aU}(h:a.Perm b):a.sum=b.sum:=by
 induction h with
 |nil=>rfl
 |cons x _ ih=>rw[List.sum_cons,List.sum_cons,ih]
 |swap x y l=>rw[List.sum_cons,List.sum_cons,List.sum_cons,List.sum_cons];grind
 |trans _ _ i1 i2=>rw[i1,i2]
theorem RW(n:Nat)(t:Nat->Bool):tE n (((List.range n).filter t).map λ(k:Nat)=>(k:Int)):=by
 refine⟨?_,λh hh=>?_⟩
 ·rw[List.pairwise_map];refine(List.Pairwise.filter _ List.pairwise_lt_range).imp λz=>?_;left
 ·obtain⟨k,hk,rfl⟩:=List.mem_map.mp hh;have:=List.mem_range.mp (List.mem_filter.mp hk).1;left
structure ZK(Φ:a_):Prop where
 wt:Φ 1030=wK
 Wh:Φ 1031=OG
 Bc:Φ 1032=yv
 Bb:Φ 1033=o4
 Gd:Φ 1035=kE
 Wg:Φ 1100=JY
theorem uE{t b:Int}(hb:b≠0):(Rat.divInt t b).den∣b.natAbs:=by
 obtain⟨t',b',e1,e2,h1,h2,h3,h4⟩:=mL (t:=t) hb;obtain⟨g1,g2⟩:=qi (t:=t) hb;rw[show b.fdiv (fe t b)=b' from h2]at g2;have hz:(Rat.divInt t b).den=b'.natAbs:=by left
 have:b.natAbs=(fe t b).natAbs*b'.natAbs:=by rw[<- Int.natAbs_mul,<- e2]
 rw[hz,this];exact Nat.dvd_mul_left ..
end DI
end
section
namespace DI
open PySem PySem.Spec PyProof.Rows L2
def Df(K:av)(x:Str)(st:Stmt):Prop:=∃f fd,Fv K x x st f fd/\PySem.W.nsIn K mainGlobals x=some (some (.ref f))
variable {K:av}{f:Addr}{st:Stmt}
theorem dmk{x:Str}{oc:Value}{od an:Option Addr}{sl:Array (Option Value)}{kV dc pm cd ct:Value}(a:PySem.W.nsIn K mainGlobals x=some (some (.ref f)))(l:K.lookup f=some ⟨oc,od,.func (PySem.W.fnOf x x (fH st) (df st) (bG st) .none kV dc pm an cd ct),sl⟩)(c:PySem.W.codeIn K cd x=true)(k:PySem.W.keepIn K (.ref f)=true):Df K x st:=⟨f,_,Ji l c k,a⟩
noncomputable def Wi(N P:aq)(sc:Scope):Bool:=decide (sc.kind=.function)&&(!sc.isCoroutine&&(!sc.isGenerator&&(decide N.Nodup&&(decide (N.take P.length=P)&&(P.all (λx=>decide (sc.names.lookup x=some .local\/sc.names.lookup x=some .cell))&&sc.names.all λy=>decide (y.2≠.free))))))
variable {N:aq}
theorem Ge{P:aq}{sc:Scope}(h:Wi N P sc=true):iM N P sc:=by
 obtain⟨h1,h⟩:=aL h;obtain⟨h2,h⟩:=aL h;obtain⟨h3,h⟩:=aL h;obtain⟨h4,h⟩:=aL h;obtain⟨h5,h⟩:=aL h;obtain⟨h6,h7⟩:=aL h;exact⟨aac h1,kX h2,kX h3,aac h4,aac h5,λx hx=>aac (List.all_eq_true.mp h6 x hx),λy hy=>aac (List.all_eq_true.mp h7 y hy)⟩
def Qw(st:Stmt)(N ps:aq)(tb:List (Nat×Str))(bl:aq)(cs:List (Str×GK))(px:Px)(b:aj):Bool:=Wi N ps (bG st)&&j4 ⟨bG st,N,λn=>List.lookup n tb,bl,cs,px⟩ b (df st)
theorem u1{α:Type}{P:List α->Prop}(h:∀a,P [a])(us:List α)(e:us.length=1):P us:=by obtain⟨a,rfl⟩:=Nn e;exact h a
theorem u2{α:Type}{P:List α->Prop}(h:∀a b,P [a,b])(us:List α)(e:us.length=2):P us:=by obtain⟨a,b,rfl⟩:=Nm e;exact h a b
variable {P:aB}{base:Heap}{mg:Str->Option Value}{w:World}
theorem Ent.u{k k':Nat}{y:Str}{m:aG}(h:Ent P w K mg base k y m)(hk:k<=k':=by decide):Ent P w K mg base k' y m:=h.up hk
theorem en{h:Heap}(X:K.In h)(G:h.Ns mainGlobals mg)⦃x:Str⦄⦃st:Stmt⦄⦃N ps bl:aq⦄⦃tb:List (Nat×Str)⦄⦃cs:List (Str×GK)⦄⦃px:Px⦄⦃b:aj⦄(k:Nat)(Φ:a_)(m:aG)(d:Df K x st)(hc:Qw st N ps tb bl cs px b=true)
  (hp:uU px Φ/\Kr px Φ) (Eh:dk (λy=>mg y=none) bl) (uq:dk (λp:Str×GK=>∃u,mg p.1=some u/\B6 K p.2 u) cs)
  (hf:dk (λp:Nat×Str=>Ent P w K mg base k p.2 (Φ p.1)) tb) (hm:∀ds r,m ds=ok r->ds.length=ps.length/\pM Φ N.length b ds=ok r) (hb:∀(kV doc pm:Value) (an:Option Addr) (i4 ct:Value) (us:ak),us.length=ps.length->bindArgs (PySem.W.fnOf x x (fH st) (df st) (bG st) .none kV doc pm an i4 ct) ⟨us,[]⟩=pure (ps.zip us):=by first|exact λ_ _ _ _ _ _=>u1 λ_=>rfl|exact λ_ _ _ _ _ _=>u2 λ_ _=>rfl|exact λ_ _ _ _ _ _=>u3 λ_ _ _=>rfl|exact λ_ _ _ _ _ _=>u4 λ_ _ _ _=>rfl|exact λ_ _ _ _ _ _=>u5 λ_ _ _ _ _=>rfl):Ent P w K mg base (k+1) x m:=by
 obtain⟨f,fd,Fu,a⟩:=d;obtain⟨h1,h2⟩:=aL hc;exact ent Fu (abO X G a) (Fu.binds hb) (Ge h1) h2 hp.1 hp.2 (dk.mem Eh) (dk.two (P:=λy i=>∃u,mg y=some u/\B6 K i u) uq) (dk.tab (P:=λg y=>Ent P w K mg base k y (Φ g)) hf) hm
noncomputable def xm(PT F:a_)(i:Nat)(m:aG):a_:=λn=>bif Nat.ble 1000 n then PT n else bif Nat.beq n i then m else F n
theorem So{α:Type}{Q:Nat->Prop}(p:Nat){k:Nat}{a b c:α}(h:(if p=k then a else b)=c)(h1:a=c->Q k)(h2:b=c->Q p):Q p:=by
 by_cases e:p=k
 ·subst e;rw[if_pos rfl]at h;exact h1 h
 ·rw[if_neg e]at h;exact h2 h
variable {F:Addr->Prop}{X Z:Cx}{cs:aF}{Φ:a_}
theorem D8{α:Type}{e:Expr}{p k:Nat}{a b c:α}(h:(if p=k then a else b)=c)(h1:a=c->PE Z e (tD Z F Φ (.cF k cs))/\L2.PT Z e (gm Z F Φ (.cF k cs)))(h2:b=c->PE Z e (tD Z F Φ (.cF p cs))/\L2.PT Z e (gm Z F Φ (.cF p cs))):PE Z e (tD Z F Φ (.cF p cs))/\L2.PT Z e (gm Z F Φ (.cF p cs)):=So (Q:=λp=>PE Z e (tD Z F Φ (.cF p cs))/\L2.PT Z e (gm Z F Φ (.cF p cs))) p h h1 h2
theorem Qc{α:Type}{i p k:Nat}{a b c:α}(h:(if p=k then a else b)=c)(h1:a=c->PS Z st (j_ Z F Φ (.mut k i cs)))(h2:b=c->PS Z st (j_ Z F Φ (.mut p i cs))):PS Z st (j_ Z F Φ (.mut p i cs)):=So (Q:=λp=>PS Z st (j_ Z F Φ (.mut p i cs))) p h h1 h2
theorem Sn{α:Type}{c1 c2:CE}{i p k:Nat}{a b c:α}(h:(if p=k then a else b)=c)(h1:a=c->PS Z st (j_ Z F Φ (.mu2 k i c1 c2)))(h2:b=c->PS Z st (j_ Z F Φ (.mu2 p i c1 c2))):PS Z st (j_ Z F Φ (.mu2 p i c1 c2)):=So (Q:=λp=>PS Z st (j_ Z F Φ (.mu2 p i c1 c2))) p h h1 h2
theorem gK:True:=trivial
theorem dk.nn{K:av}{h:Heap}{mg:aX}(X:K.In h)(G:h.Ns mainGlobals mg):∀{l:aq},dk (λy=>PySem.W.nsIn K mainGlobals y=some none) l->dk (λy=>mg y=none) l
 |[],_=>trivial
 |_::_,z=>⟨PySem.W.mg_none_of X G z.1,dk.nn X G z.2⟩
theorem Y3{P:aB}{w:World}{K:av}{h base:Heap}{mg:aX}{bl:aq}{cs:List (Str×GK)}{px:Px}{PT:a_}(X:K.In h)(G:h.Ns mainGlobals mg)(hp:∀F i m,uU px (xm PT F i m)/\Kr px (xm PT F i m))(Eh:dk (λy=>mg y=none) bl)(uq:dk (λp:Str×GK=>∃u,mg p.1=some u/\B6 K p.2 u) cs)
  ⦃x:Str⦄ ⦃st:Stmt⦄ (k:Nat) (Φ:a_) (d:Df K x st) (N:aq) (a:Nat) (tb:List (Nat×Str)) (b:aj)
  (hf:dk (λp:Nat×Str=>Ent P w K mg base k p.2 (Φ p.1)) tb) (hc:Qw st N (N.take a) tb bl cs px b=true:=by decide +kernel) (e:∃F i m,Φ=xm PT F i m:=by exact⟨_,_,_,rfl⟩) (ha:(N.take a).length=a:=by rfl) (hb:∀(kV doc pm:Value) (an:Option Addr) (i4 ct:Value) (us:ak),us.length=a->bindArgs (PySem.W.fnOf x x (fH st) (df st) (bG st) .none kV doc pm an i4 ct) ⟨us,[]⟩=pure ((N.take a).zip us):=by first|exact λ_ _ _ _ _ _=>u1 λ_=>rfl|exact λ_ _ _ _ _ _=>u2 λ_ _=>rfl|exact λ_ _ _ _ _ _=>u3 λ_ _ _=>rfl|exact λ_ _ _ _ _ _=>u4 λ_ _ _ _=>rfl|exact λ_ _ _ _ _ _=>u5 λ_ _ _ _ _=>rfl):Ent P w K mg base (k+1) x (mk Φ a N.length b):=by
 obtain⟨F,i,m,e⟩:=e;exact en X G k Φ _ d hc (e▸hp F i m) Eh uq hf (λds r q=>⟨(t_ ds r q).1.trans ha.symm,(t_ ds r q).2⟩) (λkV doc pm an i4 ct us hu=>hb kV doc pm an i4 ct us (hu.trans ha))
theorem Y2{x:Str}{ps bl:aq}{tb:List (Nat×Str)}{cs:List (Str×GK)}{px:Px}{b:aj}{fd:FuncData}(k:Nat)(Φ:a_)(m:aG)(Fu:Fv K x x st f fd)(hc:Qw st N ps tb bl cs px b=true)
  (hp:uU px Φ/\Kr px Φ) (Eh:dk (λy=>mg y=none) bl) (uq:dk (λp:Str×GK=>∃u,mg p.1=some u/\B6 K p.2 u) cs)
  (hf:dk (λp:Nat×Str=>Ent P w K mg base k p.2 (Φ p.1)) tb) (hm:∀ds r,m ds=ok r->ds.length=ps.length/\pM Φ N.length b ds=ok r):iT P w K mg base yW (k+1) f fd ps (C9 K ps.length m):=by
 obtain⟨h1,h2⟩:=aL hc;exact sg Fu (Ge h1) h2 hp.1 hp.2 (dk.mem Eh) (dk.two (P:=λy i=>∃u,mg y=some u/\B6 K i u) uq) (λg y h=>(dk.tab (P:=λg y=>Ent P w K mg base k y (Φ g)) hf g y h).ex) hm
section
variable {prog:aB}{w:World}{A:az}{E:au}{s:Shared}{d it:Addr}{es:Array DictEntry}{ep i:Nat}
end
section
variable {X:Cx}{pins:ao}{σ:St}{H:Hp}{s:Shared}{d:Addr}{cs:aw}{as:aR}{xs:af}{ep:Nat}
theorem Mz(I:Inv X pins σ H s)(h:H d=some (.ext (DO d cs as xs ep))):∃es:Array DictEntry,iS s.heap d es ep/\es.size=as.length/\es.toList.map (·.key)=as.map Value.ref/\Vals xs (es.toList.map (·.val))/\as.length=cs.length/\(d==sysModules)=false:=by
 obtain⟨⟨zs,o,es,e1,e2,e3,ho,hx,hd,he,hn,hl,hs⟩,_⟩:=(show cu X.prog X.w H s.heap d (.ext (DO d cs as xs ep)) from I.cN d _ h)
 refine⟨es,⟨o,ho,hx,hd⟩,?_,?_,?_,?_,hs⟩
 ·rw[<- Array.length_toList,he,<- e2,List.length_map,List.length_map]
 ·rw[he,<- e2,List.map_map,List.map_map];rfl
 ·rw[he,List.map_map];exact e3
 ·rw[<- e1,<- e2,List.length_map,List.length_map]
end
section
variable {X:Cx}{pins:ao}{σ:St}{H:Hp}{s:Shared}{p b:Addr}{c:aa}{A:az}{E:au}
end
variable {Q:Value->Shared->Prop}
section
variable {prog:aB}{w:World}{A:az}{E:au}{s:Shared}{d it:Addr}{es:Array DictEntry}{ep i:Nat}
theorem By(d:Addr)(hd:(d==sysModules)=false):MeetsIn prog w (Builtin.«dict.values» ⟨[.ref d],[]⟩) (λ_ R s=>(∃es ep,iS s.heap d es ep)/\R (.ok (.ret (.ref s.heap.objs.size))) { s with heap:=s.heap.push { cls:=.type "dict_values",data:=.fields #[.ref d] } }) :=
 .of_wp λA R s bN=>by
  obtain⟨⟨_,_,hm⟩,h⟩:=bN;refine aaa ?_;unfold Builtin.Dict.noArgs;refine aaa (abS hm.typeIs ?_);show wpAny _ _ (pure d) _ _ s;refine aab ?_;show wpAny _ _ (Builtin.Dict.showsAll d >>= _) _ _ s;unfold Builtin.Dict.showsAll;rw[if_neg (by rw[hd];exact Bool.false_ne_true)];exact aaa (aab (aaa (aaB (aab ⟨_,rfl,h⟩))))
theorem ED{v:Addr}(hv:s.heap.IsValuesView v d)(hm:iS s.heap d es ep)
  (hQ:Q (.ref s.heap.objs.size) { s with heap:=s.heap.push { cls:=.type "dict_valueiterator",data:=.fields #[.ref d,.int 0 0,.int es.size 0,.int ep 0] } }):wpAny (model prog w) A (pyIter (.ref v)) Q E s:=by
 obtain⟨ov,Yf,Z6,Yx⟩:=id hv;obtain⟨o,ho,hx,A1⟩:=hm;refine wpAny_pyIter_slot hv.typeIs F.slot_dict_values_iter (aaI F.slot_dict_values_iter hv.typeIs F.entry_dict_values_iter ?_ (F.args_dict_values_iter_1 _));unfold Builtin.«dict_values.__iter__»;refine aaa (aab (aaa ?_));unfold Builtin.Dict_items.dictOf;refine aaa (abu Yf Yx (x:=.ref d) rfl (aab (aaa ?_)));unfold Builtin.Dict_items.newIterator;refine aaa (aa4 ho A1 (aaa (abl ho A1 ?_)));simp only[show Builtin.Dict_items.ownsTuple "dict_valueiterator" = false by decide,abm,acn];refine aaB (aab ⟨_,rfl,"dict_valueiterator",_,⟨_,aal _ rfl,rfl⟩,F.slot_dict_valueiterator_next.lookup,?_⟩);simpa [rawInt]using hQ
theorem EC{Q:Option Value->Shared->Prop}(hit:s.heap.IsValIter it d i es.size ep)(hm:iS s.heap d es ep)(cL:i<es.size)
  (hQ:∀h',h'.IsValIter it d (i+1) es.size ep->Heap.SameBut it s.heap h'->Q (some es[i].val) { s with heap:=h' }):wpAny (model prog w) A (pyNext (.ref it)) Q E s:=by
 obtain⟨o,ho,hc,hd⟩:=id hit;obtain⟨od,AS,yd,A0⟩:=hm;unfold pyNext;refine aaa (abh (aaQ (name:=Str.ofString "__next__") hit.typeIs aa2 (aaI aa2 hit.typeIs F.entry_dict_valueiterator_next ?_ (F.args_dict_valueiterator_next_1 _))));refine aaa (aab (aaa (aaa ?_)))
 first|refine aaa (aa6 hit.typeIs (aab ?_))|refine aaa (abf hit.typeIs (aab ?_))
 refine aaa (ab9 ho hd ?_);simp only[show Builtin.Dict_items.ownsTuple "dict_valueiterator" = false by decide,abm,acn];show wpAny _ _ (if (Value.ref d==Value.none)=true then _ else _) _ _ s;rw[if_neg (show ¬ ((Value.ref d==Value.none)=true) from Bool.false_ne_true)];refine aaa (aab (aaa (aa4 AS A0 ?_)));rw[if_neg (by simp)];refine aaa (aab (aaa (abl AS A0 ?_)));rw[if_neg (by simp)];refine aab ?_;simp only[show ¬ ((i:Int)<0) from by left,if_false,Int.toNat_natCast,Array.getElem?_eq_getElem cL];refine aaa ?_
 first|refine aaa (aa6 hit.typeIs (aab ?_))|refine aaa (abf hit.typeIs (aab ?_))
 refine aaa (abU hit.typeIs ?_);show wpAny _ _ (setField (.ref it) 1 (rawInt ((i:Int)+1)) >>= _) _ _ s;refine aaa (ab_ ho hd (by simp) ?_);have oe:(s.heap.update it (Obj.mapFields (·.setIfInBounds 1 (rawInt ((i:Int)+1))))).IsValIter it d (i+1) es.size ep :=
  ⟨_,aaM _ ho (Obj.isFreed_of_fields (Obj.data_mapFields hd _)),(Obj.cls_mapFields ..).trans hc,by rw[Obj.data_mapFields hd];simp[rawInt]⟩
 refine aaa (aaD ?_);refine aaa (abU (s:={ s with heap:=s.heap.update it (Obj.mapFields (·.setIfInBounds 1 (rawInt ((i:Int)+1)))) }) oe.typeIs ?_);refine aaa (abU (s:={ s with heap:=s.heap.update it (Obj.mapFields (·.setIfInBounds 1 (rawInt ((i:Int)+1)))) }) oe.typeIs ?_);show wpAny _ _ (pure es[i].val) _ _ _;exact aab (aab ⟨_,rfl,aab (hQ _ oe (aaU ..))⟩)
theorem JW{Q:Option Value->Shared->Prop}(hh:A.handled=none)(hit:s.heap.IsValIter it d i es.size ep)(hm:iS s.heap d es ep)(yP:es.size<=i)
  (hQ:∀h',Heap.ExtBut it s.heap h'->Q none { s with heap:=h' }):wpAny (model prog w) A (pyNext (.ref it)) Q E s:=by
 obtain⟨o,ho,hc,hd⟩:=id hit;obtain⟨od,AS,yd,A0⟩:=hm;unfold pyNext;refine aaa (abh (aaQ (name:=Str.ofString "__next__") hit.typeIs aa2 (aaI aa2 hit.typeIs F.entry_dict_valueiterator_next ?_ (F.args_dict_valueiterator_next_1 _))));refine aaa (aab (aaa (aaa ?_)))
 first|refine aaa (aa6 hit.typeIs (aab ?_))|refine aaa (abf hit.typeIs (aab ?_))
 refine aaa (ab9 ho hd ?_);simp only[show Builtin.Dict_items.ownsTuple "dict_valueiterator" = false by decide,abm,acn];show wpAny _ _ (if (Value.ref d==Value.none)=true then _ else _) _ _ s;rw[if_neg (show ¬ ((Value.ref d==Value.none)=true) from Bool.false_ne_true)];refine aaa (aab (aaa (aa4 AS A0 ?_)));rw[if_neg (by simp)];refine aaa (aab (aaa (abl AS A0 ?_)));rw[if_neg (by simp)];refine aab ?_;simp only[show ¬ ((i:Int)<0) from by left,if_false,Int.toNat_natCast,Array.getElem?_eq_none yP];refine aaa ?_
 first|refine aaa (aa6 hit.typeIs (aab ?_))|refine aaa (abf hit.typeIs (aab ?_))
 show wpAny _ _ (setField (.ref it) 0 .none >>= _) _ _ s;refine aaa (ab_ ho hd (by simp) ?_);show wpAny _ _ (newExc (.type "StopIteration") [] >>= _) _ _ _;refine aaa ?_;simp only[newExc,newTuple];refine aaa (aaB ?_ (by size_fits));refine aaa (m:=firstArgMember _ _) (wpAny_of_eq (a:=Value.none) (by first|rfl | (simp only[firstArgMember];rfl)) ?_);refine aaB ?_ (by size_fits);simp only[raiseNew];refine aaa (wpAny_handled ?_);rw[show A.in1.handled=none from hh];refine aaa (aab (wpAny_throw ?_));refine aaa (wpAny_isInstance (T:="StopIteration") (b:=true) ⟨_,aal _ rfl,rfl⟩ isSubtype_stop ?_);exact aab (hQ _ (((aaU ..).extBut.push _).push _))
theorem Bx(hh:A.handled=none)(I d:Addr)(x_:d≠I):Walks prog w A I [I,d] [I] es.size (λi v=>∃e,es[i]?=some e/\v=e.val) (λi h=>h.IsValIter I d i es.size ep/\iS h d es ep) where
 sub:=λb hb=>by simp at hb;simp[hb]
 frame:=λ_ _ _ st hk=>⟨st.1.at λo e=>hk I (by simp) o e,let ⟨o,ho,r⟩:=st.2;⟨o,hk d (by simp) o ho,r⟩⟩
 item:=λi s Q E hi st hQ=>EC st.1 st.2 hi λh' oe tj=>hQ _ h' s.toks ⟨es[i],aaX hi,rfl⟩ ⟨oe,let ⟨o,ho,r⟩:=st.2;⟨o,tj.extBut d o x_ ho,r⟩⟩ λb o hb e=>tj.extBut b o (λh=>hb (by simp[h])) e
 done:=λs Q E st hQ=>JW hh st.1 st.2 (aak _) λh' Tw=>hQ h' s.toks λb o hb e=>Tw b o (λh=>hb (by simp[h])) e
 self:=λ_ _ _ _ st hQ=>wpAny_pyIter_valiter st.1 hQ
theorem JV{v:Addr}{ns:aa}(hh:A.handled=none)(hv:s.heap.IsValuesView v d)(hm:iS s.heap d es ep)(NF:Vals (ns.map V.int) (es.toList.map (·.val)))
  (h:∀h' tk t',(∀b o,s.heap.get? b=some o->h'.get? b=some o)->Q (.int ns.sum t') { s with heap:=h',toks:=tk }):wpAny (model prog w) A (call (.builtin "sum") [.ref v]) Q E s:=by
 have hlen:es.size=ns.length:=by
  have:=NF.length;simpa using this.symm
 have Tx:d<s.heap.objs.size:=let ⟨_,ho,_⟩:=hm;aai ho;refine call_sum_walkAnyS (ED hv hm ⟨s.heap.objs.size,_,_,_,es.size,_,_,λi=>ns.getD i 0,rfl,(Bx (A:=A.in1) (es:=es) (ep:=ep) hh _ d (aan Tx)).toS,⟨⟨_,aal _ rfl,rfl,rfl⟩,let ⟨o,ho,r⟩:=hm;⟨o,aag _ ho,r⟩⟩,λb hb=>?_,λi v hP=>?_,λs' t' IL=>?_⟩)
 ·show b<(s.heap.push _).objs.size;rw[size_push'];rcases List.mem_cons.mp hb with e|hb
  ·rw[e];exact aa8 _
  ·rw[List.mem_singleton.mp hb];exact aaC Tx
 ·obtain⟨e,he,rfl⟩:=hP;have hi:i<es.size:=by
   by_cases z:i<es.size
   ·exact z
   ·rw[Array.getElem?_eq_none (by left)]at he;cases he
  have hn:(ns.map V.int)[i]?=some (.int (ns.getD i 0)):=by
   rw[List.getElem?_map,List.getElem?_eq_getElem (by left)];simp[List.getD,show i<ns.length by left]
  obtain⟨u,hu,ru⟩:=NF.get hn;rw[List.getElem?_map,Array.getElem?_toList,he]at hu;cases hu;exact ru
 ·have hk:∀b o,s.heap.get? b=some o->s'.heap.get? b=some o:=λb o e =>
   IL.heap b o (λhI=>absurd (aai e) (by rw[List.mem_singleton.mp hI];exact aav _)) (aag _ e)
  rw[Moved.eq_with IL];have hz:preSum (λi=>ns.getD i 0) es.size=ns.sum:=by
   rw[hlen,gX _ ns (λ_=>rfl) _ (Nat.le_refl _),List.take_length]
  rw[hz];exact h s'.heap s'.toks t' hk
end
def l3(_:Scope)(_:aq)(e:Expr):Option (aA):=match iU ("values" : Str) (.Expr e ⟨0,0,0,0⟩)with
 |some z=>if isNm z.1=true/\isNil z.2=true then some [z.1]else none
 |none=>none
variable {args:aA}
theorem uJ{sc:Scope}{bl:aq}{e:Expr}(h:l3 sc bl e=some args):∃x p p1 p2,e=.Call (.Attribute (.Name x p) ("values" : Str) p1) [] [] p2/\args=[.Name x p]/\(p1.endLine==p2.line)=true:=by
 unfold l3 at h;cases h1:iU ("values" : Str) (.Expr e ⟨0,0,0,0⟩)with
 |none=>rw[h1]at h;exact nk h
 |some z =>
  obtain⟨o,as⟩:=z;rw[h1]at h;by_cases hn:isNm o=true/\isNil as=true
  ·have h:(if isNm o=true/\isNil as=true then some [o]else none)=some args:=h;rw[if_pos hn]at h;cases h;obtain⟨p1,p2,pos,e1,hl⟩:=jG h1;cases e1;obtain⟨x,p,rfl⟩:=v7 hn.1;obtain rfl:=jU hn.2;exact⟨_,_,_,_,rfl,rfl,hl⟩
  ·have h:(if isNm o=true/\isNil as=true then some [o]else none)=some args:=h;rw[if_neg hn]at h;exact nk h
def wW(sc:Scope)(bl:aq)(e:Expr):Option (aA):=match fM ("sum" : Str) sc bl e with
 |some as=>match one as with
  |some i=>l3 sc bl i
  |none=>none
 |none=>none
theorem BI{sc:Scope}{bl:aq}{e:Expr}(h:wW sc bl e=some args):∃q pos x p p1 p2,e=.Call (.Name ("sum" : Str) q) [.Call (.Attribute (.Name x p) ("values" : Str) p1) [] [] p2] [] pos/\args=[.Name x p]/\(p1.endLine==p2.line)=true/\gb sc ("sum" : Str)=true/\("sum" : Str)∈bl:=by
 unfold wW at h;cases h1:fM ("sum" : Str) sc bl e with
 |none=>rw[h1]at h;exact nk h
 |some as =>
  rw[h1]at h;obtain⟨q,pos,a,rfl,rfl,g1,g2⟩:=kI h1;obtain⟨x,p,p1,p2,rfl,rfl,hl⟩:=uJ (show l3 sc bl a=some args from h);exact⟨q,pos,x,p,p1,p2,rfl,rfl,hl,g1,g2⟩
def Ky(xs:ae):O D:=match one xs with
 |some d=>match fg d with
  |some z=>match intsOf z.2 with
   |some ns=>ok (.int ns.sum)
   |none=>none
  |none=>none
 |none=>none
theorem GW{xs:ae}{r:D}(h:Ky xs=ok r):∃f cs,∃ns:aa,xs=[.bS f cs (ns.map D.int)]/\r=.int ns.sum:=by
 unfold Ky at h;cases h1:one xs with
 |none=>rw[h1]at h;exact nk h
 |some d =>
  rw[h1]at h;have h:(match fg d with|some z=>(match intsOf z.2 with|some ns=>ok (D.int ns.sum)|none=>none)|none=>none)=ok r:=h;cases h2:fg d with
  |none=>rw[h2]at h;exact nk h
  |some z =>
   rw[h2]at h;have h:(match intsOf z.2 with|some ns=>ok (D.int ns.sum)|none=>none)=ok r:=h;cases h3:intsOf z.2 with
   |none=>rw[h3]at h;exact nk h
   |some ns =>
    rw[h3]at h;cases h;obtain⟨f,e⟩:=j3 h2;exact⟨f,z.1,ns,by rw[b9 h1,e,dt h3],rfl⟩
def VW(v d:Addr)(h:Heap):Prop:=h.IsValuesView v d
theorem Dy{x:Str}{p p1 p2:Pos}{td:TE}(ho:PE X (.Name x p) td)(hl:(p1.endLine==p2.line)=true):PE X (.Call (.Attribute (.Name x p) ("values" : Str) p1) [] [] p2) (λσ H Q=>td σ H λu H1=>∃d cs as xs ep,u=.ref d/\H1 d=some (.ext (DO d cs as xs ep))/\∀v,H1 v=none->Q (.ref v) (upd H1 v (.ext (VW v d)))):=by
 intro pins s σ H Q I h;refine wpAny_Call_method rfl rfl hl PySem.F.plainAttrs_dict PySem.F.slot_dict_values PySem.F.type_dict_values (cV (ho pins s σ H _ I h) λu s1 bN=>?_);obtain⟨v,H1,I1,rv,d,cs,as,xs,ep,ex,hd,q⟩:=bN;subst ex;cases rv;obtain⟨es,AR,hz,wk,wa,hlen,x8⟩:=Mz I1 hd;obtain⟨t1,t2⟩:=dict_cls I1 hd;refine⟨t1,t2,?_⟩;show wpAny _ _ (callWith p2 (.builtin "dict.values") [.ref d] [] []) _ _ s1;refine method_meetsIn PySem.F.slot_dict_values PySem.F.entry_dict_values rfl (PySem.evalArgs_none ⟨rfl,t1,PySem.F.args_dict_values_1 _,_,By d x8,⟨es,ep,AR⟩,?_⟩);have hg:(s1.heap.push { cls:=.type "dict_values",data:=.fields #[.ref d] }).get? s1.heap.objs.size=some { cls:=.type "dict_values",data:=.fields #[.ref d] }:=aal _ rfl;refine⟨.ref s1.heap.objs.size,_,I1.laid (a:=s1.heap.objs.size) (o:=.ext (VW s1.heap.objs.size d)) (t':=s1.toks) (λ_ _ q=>aag _ q) (aak _) ⟨⟨_,hg,rfl,rfl⟩,⟨_,hg⟩,?_⟩,rfl,q _ (I1.cN.fresh (aak _))⟩;rintro h1 Ua ⟨o,g1,g2⟩ kk;exact⟨o,kk _ g1,g2⟩
theorem yC(hc:X.calm=true):ft X (.builtin "sum") (λxs H Q=>∃v d cs as ep,∃ns:aa,xs=[.ref v]/\H v=some (.ext (VW v d))/\H d=some (.ext (DO d cs as (ns.map V.int) ep))/\Q (.int ns.sum) H):=by
 intro pins s σ H xs us Q I r h;obtain⟨v,d,cs,as,ep,ns,rfl,hv,hd,q⟩:=h;obtain⟨u,rfl,ru⟩:=r.one;cases ru;obtain⟨es,AR,hz,wk,wa,hlen,x8⟩:=Mz I hd;obtain⟨hV,_⟩:=(show cu X.prog X.w H s.heap v (.ext (VW v d)) from I.cN v _ hv)
 refine JV (I.ok.hd hc) hV AR wa λh' tk t' hk=>⟨.int ns.sum,H,I.kept (t':=tk) hk,⟨t',rfl⟩,q⟩
theorem Mh{n:Nat}(hΦ:Φ n=Ky){sc:Scope}{bl:aq}{k:Nat}(L:PX X sc bl k){e:Expr}(he:wW sc bl e=some args)(hs:lJ X F Φ cs args):PE X e (tD X F Φ (.cF n cs))/\PT X e (gm X F Φ (.cF n cs)):=by
 obtain⟨q,pos,x,p,p1,p2,rfl,rfl,hl,g1,g2⟩:=BI he;cases cs with
 |nil=>exact hs.elim
 |cons c cs=>cases cs with
  |cons _ _=>exact hs.2.2.2.elim
  |nil =>
   have this:PE X (.Call (.Name ("sum" : Str) q) [.Call (.Attribute (.Name x p) ("values" : Str) p1) [] [] p2] [] pos) (tD X F Φ (.cF n [c])):=by
    refine PE.imp (dZ (yC L.calm) (L.gl g1) (L.bl _ g2) (by decide +kernel) (cv (Dy hs.1 hl) dI)) λσ H Q hq=>?_;obtain⟨R,τ,ρ,d,Si,ev,hq⟩:=hq;obtain⟨xs,cy,ev⟩:=aH ev;rw[hΦ]at ev;obtain⟨f,ks,ns,rfl,rfl⟩:=GW ev;obtain⟨y,ey,cy⟩:=aH cy;cases cy;refine tD.intro Si ey λu H1 e1 r1=>?_;obtain⟨τ1,f1,q1⟩:=r1;cases q1 with
    | @bS _ dd _ as ys ep _ _ nM hk hr =>
     cases hr.ofInts;have hd:=nM.dat;refine⟨dd,ks,as,_,ep,rfl,hd,λv hv=>⟨v,dd,ks,as,ep,ns,rfl,aV,?_,hq _ _ (e1.trans (aI.upd hv)) ⟨λ_=>none,λ_ _ h=>by simp at h,.int _⟩⟩⟩;exact aI.upd hv _ _ hd
   exact⟨this,cE this λ_=>rfl⟩
end DI
end
section
namespace DI
open PySem (Str)
structure O9(most:Nat)(qs:aU)(B:Nat):Prop where
 n1:1<=qs.length
 n2:qs.length<=most
 b1:1<=B
 b2:B<=9
 q0:∀q∈qs,0<=q
 q1:∀q∈qs,q<=1
 qd:∀q∈qs,q.den∣B
 su:∃s:Int,qs.sum=(s:Rat)
variable {B:Nat}{qs:aU}
theorem nh{α:Type}(f:aa->α)(k:aa):∀ks:aw,bK ks (ks.map f) k=if k∈ks then some (f k)else none
 |[]=>rfl
 |j::ks=>by
  show(if j=k then some (f j)else bK ks (ks.map f) k)=_;rw[nh f k ks];by_cases e:j=k
  ·subst e;simp
  ·rw[if_neg e];have:k∈j::ks ↔ k∈ks:=by rw[List.mem_cons];exact⟨λh=>h.resolve_left λz=>e z.symm,.inr⟩
   simp only[this]
variable {cs ks:aw}
theorem xQ{c k:aa}:k∈aS ks c ↔ k∈ks\/k=c:=by
 unfold aS;split
 ·rename_i h;exact⟨.inl,λz=>z.elim id λe=>e▸h⟩
 ·simp
theorem Az(h:ks.Nodup)(c:aa):(aS ks c).Nodup:=by
 unfold aS;split
 ·exact h
 ·rename_i hc;rw[List.nodup_append];exact⟨h,by simp,λa ha b hb=>by rw[List.mem_singleton.mp hb];exact λz=>hc (z▸ha)⟩
theorem xR(ks:aw)(c:aa):(aS ks c).length<=ks.length+1:=by
 unfold aS;split<;>simp
structure B8(Φ:a_):Prop where
 wt:Φ 1030=wK
 Bc:Φ 1032=yv
 Bb:Φ 1033=o4
 Gd:Φ 1035=kE
variable {Φ:a_}
theorem JX(P:B8 Φ)(hl:cs.length<1000)(ws:aa)(c:aa)(v:Int):Φ 1033 [.bS .ow cs (ai ws),.int v,.tup (ai c)]=ok (.bS .ow (aS cs c) (ai (bz cs ws c v))):=by
 rw[P.Bb];show(match intsOf (c.map D.int)with|some c=>if bR .ow=true/\aT anyF (.int v)=false/\cs.length<ck then ok (D.bS .ow (aS cs c) (bz cs (ai ws) c (.int v)))else none|none=>none)=_;rw[bM];show(if bR .ow=true/\aT anyF (.int v)=false/\cs.length<ck then ok (D.bS .ow (aS cs c) (bz cs (ai ws) c (.int v)))else none)=_;rw[if_pos ⟨rfl,rfl,by show _<1000000;left⟩,tH]
variable {gs ws:aa}
theorem OF(P:B8 Φ)(f:Fl)(hl:cs.length=ws.length){c:aa}(h:c∈cs):Φ 1032 [.bS f cs (ai ws),.tup (ai c)]=ok (.int (dN cs ws c)):=by
 obtain⟨w,e,_⟩:=lU hl h;rw[P.Bc];show(match intsOf (c.map D.int)with|some c=>(match bK cs (ai ws) c with|some v=>if aT anyF v=false then ok v else none|none=>none)|none=>none)=_;rw[bM];show(match bK cs (ai ws) c with|some v=>if aT anyF v=false then ok v else none|none=>none)=_;rw[oV,e];unfold dN;rw[e];rfl
theorem ze(P:B8 Φ)(f:Fl)(vs:ae)(h:ks.length<1000):Φ 1035 [.bS f ks vs]=ok (.lst .ow ((bq ks).map dH)):=by
 rw[P.Gd];show(if ks.length<1000 then ok (D.lst .ow ((bq ks).map dH))else none)=_;rw[if_pos h]
abbrev Dw:=Nat×ag
noncomputable def iC(a:Int)(l:aa):aa:=l.map λh=>a+h
def cg:Int->List Dw->List (ag)
 |_,[]=>[]
 |a,d::Ds=>(d.2.map λr=>(r.1,iC a r.2))::cg (a+d.1) Ds
noncomputable def bH(c rows:ag):ag:=c.flatMap λm=>rows.map λr=>(m.1*r.1,m.2++r.2)
def qx:ag->List (ag)->ag
 |c,[]=>c
 |c,rs::LL=>qx (bH c rs) LL
theorem kF{c rows:ag}{z:Row}:z∈bH c rows ↔ ∃m∈c,∃r∈rows,z=(m.1*r.1,m.2++r.2):=by
 unfold bH;rw[List.mem_flatMap];constructor
 ·rintro ⟨m,hm,h⟩;obtain⟨r,hr,rfl⟩:=List.mem_map.mp h;exact⟨m,hm,r,hr,rfl⟩
 ·rintro ⟨m,hm,r,hr,rfl⟩;exact⟨m,hm,aaA hr⟩
theorem kG(c rows:ag):(bH c rows).length=c.length*rows.length:=by
 unfold bH;induction c with
 |nil=>simp
 |cons m c ih=>rw[List.flatMap_cons,List.length_append,List.length_map,ih,List.length_cons,Nat.add_mul];left
def Kt(a:Int)(l:aa):Prop:=∀h∈l,0<=h/\h<a
def QF(a b:Int)(l:aa):Prop:=∀h∈l,a<=h/\h<b
theorem qV{a b:Int}:∀{l l' r r':aa},Kt a l->Kt a l'->QF a b r->QF a b r'->l++r=l'++r'->l=l'/\r=r'
 |[],[],_,_,_,_,_,_,e=>⟨rfl,e⟩
 |[],y::l',r,r',_,h2,h3,_,e=>by
  exfalso;have hm:y∈r:=by rw[show r=y::l'++r' from e];simp
  have:=h3 y hm;have:=h2 y aaf;left
 |x::l,[],r,r',h1,_,_,h4,e=>by
  exfalso;have hm:x∈r':=by rw[<- show x::l++r=r' from e];simp
  have:=h4 x hm;have:=h1 x aaf;left
 |x::l,y::l',r,r',h1,h2,h3,h4,e=>by
  obtain⟨e1,e2⟩:=abt (show x::(l++r)=y::(l'++r') from e);obtain⟨e3,e4⟩:=qV (λh hh=>h1 h (aae _ hh)) (λh hh=>h2 h (aae _ hh)) h3 h4 e2;exact⟨by rw[e1,e3],e4⟩
theorem BF{a b:Int}{c rows:ag}(hc:(c.map (·.2)).Nodup)(hr:(rows.map (·.2)).Nodup)(h1:∀m∈c,Kt a m.2)(h2:∀r∈rows,QF a b r.2):((bH c rows).map (·.2)).Nodup:=by
 induction c with
 |nil=>exact aaW
 |cons m c ih =>
  obtain⟨n1,n2⟩:=List.nodup_cons.mp hc;have ih:=ih n2 λx hx=>h1 x (aae _ hx);have e:(bH (m::c) rows).map (·.2)=(rows.map λr=>m.2++r.2)++(bH c rows).map (·.2):=by
   unfold bH;rw[List.flatMap_cons,List.map_append,List.map_map];rfl
  rw[e,List.nodup_append];refine⟨?_,ih,λx hx y hy=>?_⟩
  ·have:(rows.map λr=>m.2++r.2)=(rows.map (·.2)).map (m.2 ++ ·):=by rw[List.map_map];rfl
   rw[this];exact hr.map (f:=(m.2 ++ ·)) λx y (h:x≠y) e=>h (List.append_cancel_left e)
  ·rintro rfl;obtain⟨r,K5,rfl⟩:=List.mem_map.mp hx;obtain⟨z,hz,K3⟩:=List.mem_map.mp hy;obtain⟨m',IL,r',SM,rfl⟩:=kF.mp hz;have Tb:=h1 m aaf;obtain⟨e1,_⟩:=qV Tb (h1 m' (aae _ IL)) (h2 r K5) (h2 r' SM) K3.symm;exact n1 (by show m.2∈c.map (·.2);rw[e1];exact aaA IL)
inductive Lay:Int->Int->List (ag)->Prop
 |nil (a:Int):Lay a a []
 |cons {a b c:Int} {rs:ag} {LL:List (ag)} (tu:a<=b) (nd:(rs.map (·.2)).Nodup) (ab:∀r∈rs,QF a b r.2) (t:Lay b c LL):Lay a c (rs::LL)
theorem Kc{a b:Int}{LL:List (ag)}(L:Lay a b LL):∀{c:ag},0<=a->(c.map (·.2)).Nodup->(∀m∈c,Kt a m.2)->((qx c LL).map (·.2)).Nodup/\∀m∈qx c LL,Kt b m.2:=by
 induction L with
 |nil a=>intro c _ h1 h2;exact⟨h1,h2⟩
 | @cons a b d rs LL tu nd ab t ih =>
  intro c h0 h1 h2;refine ih (by left) (BF h1 nd h2 ab) λm hm=>?_;obtain⟨x,hx,r,hr,rfl⟩:=kF.mp hm;intro h hh;rcases List.mem_append.mp hh with hh|hh
  ·have:=h2 x hx h hh;left
  ·have:=ab r hr h hh;left
def DP:Nat->List (ag)->Prop
 |_,[]=>True
 |c,rs::LL=>c*rs.length<=1000/\DP (c*rs.length) LL
def ou(k l:Nat)(rs:ag):Prop:=∀r∈rs,Sm k r.1/\r.2.length<=l
theorem nB{k l i j:Nat}{c rows:ag}(hc:ou k l c)(hr:ou i j rows):ou (k+i) (l+j) (bH c rows):=λz hz=>by
 obtain⟨m,hm,r,K5,rfl⟩:=kF.mp hz;exact⟨(hc m hm).1.mul (hr r K5).1,by have:=(hc m hm).2;have:=(hr r K5).2;simp;left⟩
theorem Kb{i j:Nat}{LL:List (ag)}:∀{k l:Nat} {c:ag},ou k l c->(∀rs∈LL,ou i j rs)->ou (k+LL.length*i) (l+LL.length*j) (qx c LL):=by
 induction LL with
 |nil=>intro k l c h _;simpa [qx]using h
 |cons rs LL ih =>
  intro k l c h hL;have:=ih (nB h (hL rs aaf)) λx hx=>hL x (aae _ hx);rw[List.length_cons,show k+(LL.length+1)*i=k+i+LL.length*i by rw[Nat.add_mul];left,show l+(LL.length+1)*j=l+j+LL.length*j by rw[Nat.add_mul];left];exact this
theorem eu:∀(a:Int) (Ds:List Dw),(cg a Ds).length=Ds.length
 |_,[]=>rfl
 |a,d::Ds=>by rw[cg,List.length_cons,eu,List.length_cons]
theorem BS{a:Int}{Ds:List Dw}{rs:ag}(h:rs∈cg a Ds):∃d∈Ds,∃b,rs=d.2.map λr=>(r.1,iC b r.2):=by
 induction Ds generalizing a with
 |nil=>cases h
 |cons d Ds ih =>
  rcases List.mem_cons.mp h with rfl|h
  ·exact⟨d,aaf,a,rfl⟩
  ·obtain⟨e,he,b,hb⟩:=ih h;exact⟨e,aae _ he,b,hb⟩
noncomputable def cC(Ds:List Dw):Int:=(Ds.map λd=>(d.1:Int)).sum
theorem Dc{a:Int}{l m:aa}(h:iC a l=iC a m):l=m:=by
 unfold iC at h;exact List.map_inj_right (λx y e=>by left) |>.mp h
theorem w6:∀{a:Int} {Ds:List Dw},(∀d∈Ds,(d.2.map (·.2)).Nodup/\∀r∈d.2,Kt d.1 r.2)->Lay a (a+cC Ds) (cg a Ds)
 |a,[],_=>by rw[show a+cC []=a by simp[cC]];exact Lay.nil a
 |a,d::Ds,h=>by
  obtain⟨h1,h2⟩:=h d aaf;have ih:=w6 (a:=a+d.1) (Ds:=Ds) λe he=>h e (aae _ he);have e:a+cC (d::Ds)=a+d.1+cC Ds:=by simp[cC];left
  rw[e];refine .cons (b:=a+d.1) (by left) ?_ (λr hr=>?_) ih
  ·rw[List.map_map];have:((λx:Row=>x.2)∘λr:Row=>(r.1,iC a r.2))=iC a∘(·.2):=rfl;rw[this,<- List.map_map];exact h1.map (f:=iC a) λx y (hx:x≠y) e=>hx (Dc e)
  ·obtain⟨s,hs,rfl⟩:=List.mem_map.mp hr;intro x hx;obtain⟨y,hy,rfl⟩:=List.mem_map.mp hx;have:=h2 s hs y hy;left
variable {ρ:bh}
theorem LK{i:Nat}{op:Bool}{e:CE}{a b:Int}(h:bx Φ e ρ=ok (.int b))(hi:ρ[i]?=some (some (.int a))):oZ Φ (.aug i op e) ρ=ok (.nx,ρ.set i (some (.int (if op then a+b else a - b)))):=by
 show bd (bd (bx Φ e ρ) intD) _=_;rw[h];show(match ρ[i]? with|some (some (.int a))=>_|_=>none)=_;rw[hi]
def dy(f:Fl)(d:Dw):D:=.tup [.int d.1,.lst f (aN d.2)]
def aK(f:Fl)(Ds:List Dw):ae:=Ds.map (dy f)
theorem dU(g:Fl->Fl)(f:Fl)(d:Dw):aY g (dy f d)=dy (g f) d:=by
 show D.tup [.int d.1,.lst (g f) (aC g (aN d.2))]=_;rw[b_];rfl
theorem ba(g:Fl->Fl)(f:Fl):∀Ds:List Dw,aC g (aK f Ds)=aK (g f) Ds
 |[]=>rfl
 |d::Ds=>by
  show aY g (dy f d)::aC g (aK f Ds)=_;rw[dU,ba g f Ds];rfl
theorem lX(f:Fl)(Ds:List Dw):(aK f Ds).length=Ds.length:=aa1 ..
theorem lT(p:Fl->Bool)(f:Fl)(d:Dw):aT p (dy f d)=p f:=by
 show(false||((p f||aQ p (aN d.2))||false))=_;rw[fZ];simp
theorem dM{p:Fl->Bool}{f:Fl}(h:p f=false):∀Ds:List Dw,aQ p (aK f Ds)=false
 |[]=>rfl
 |d::Ds=>by
  show(aT p (dy f d)||aQ p (aK f Ds))=false;rw[lT,h,dM h Ds];rfl
noncomputable def CY:aj:=[.ex (.call 17 [(.v 1)])]
def Fb:aj:=[.ifs (.not (.jV (.v 0) .list)) [.rs 1] [],.fr (.nm 1) (.seq (.v 0)) CY,.ifs (.or [(.cmp .lt (.bf .len [(.v 0)]) (.int 1)),(.cmp .gt (.bf .len [(.v 0)]) (.glo "MOST_LAYERS" 4))]) [.rs 10] []]
def Pg(m:aG):Prop:=∀Ds:List Dw,1<=Ds.length->Ds.length<=4->(∀d∈Ds,∃k,Dr k d.1 d.2)->m [.lst .fz (aK .fz Ds)]=ok .bW
theorem wU(Φ:a_)(Ql:jq (Φ 17))(c0:aE):∀(Ds:List Dw) (c1:aE),(∀d∈Ds,∃k,Dr k d.1 d.2)->∃Kh,cR (λd ρ=>bV (.nm 1) d ρ) (λρ=>bX Φ CY ρ) (aK .fz Ds) [c0,c1]=ok (.nx,[c0,Kh])
 |[],c1,_=>⟨c1,rfl⟩
 |d::Ds,c1,h=>by
  obtain⟨k,hk⟩:=h d aaf;have e:=Ql k d.1 d.2 hk;have e':Φ 17 [dy .fz d]=ok .bW:=e;obtain⟨Kh,ih⟩:=wU Φ Ql c0 Ds (some (dy .fz d)) λx hx=>h x (aae _ hx);refine⟨Kh,b8 (ρ1:=[c0,some (dy .fz d)]) (by simp) (ρ2:=[c0,some (dy .fz d)]) ?_ ih⟩;simp[CY,dU,e']
theorem Rm(Φ:a_)(Ql:jq (Φ 17)):Pg (mk Φ 1 2 Fb):=by
 intro Ds h1 h4 hd;obtain⟨c1,el⟩:=wU Φ Ql (some (.lst .fz (aK .fz Ds))) Ds none hd;have hl:=lX .fz Ds;have hit:bO Φ (.seq (.v 0)) [some (.lst .fz (aK .fz Ds)),none]=ok (aK .fz Ds,[some (.lst .fz (aK .fz Ds)),none]):=by
  rw[jT (f:=.fz) (ds:=aK .fz Ds) (by simp[ba]),ba,dM (by rfl)];rfl
 have hf:=dz (Φ:=Φ) (t:=.nm 1) (b:=CY) hit el;have c1:¬ ((aK .fz Ds).length:Int)<1:=by rw[hl];left
 have c2:¬ (4:Int)<((aK .fz Ds).length:Int):=by rw[hl];left
 generalize aK .fz Ds=X at *;simp[mk_eq,Fb,cP,hf,c1,c2]
noncomputable def lE(Ds:List Dw):Int->aa->Int
 |c,[]=>c
 |c,g::gs=>lE Ds (c*((Ds.getD g.toNat (0,[])).2.length:Int)) gs
noncomputable def CZ:aj:=[.mut 1010 2 [(.bf .len [(.ix (.ix (.v 0) (.v 3)) (.int 1))])]]
def Fd:aj:=[.asg (.nm 2) (.int 1),.fr (.nm 3) (.seq (.v 1)) CZ,.ret (.v 2)]
def Ph(m:aG):Prop:=∀(Ds:List Dw) (gs:aa),(∀d∈Ds,d.2.length<=1000)->(∀g∈gs,0<=g/\g<(Ds.length:Int))->m [.lst .fz (aK .fz Ds),.tup (ai gs)]=ok (.int (lE Ds 1 gs))
theorem JS{Ds:List Dw}{g:Int}(h0:0<=g)(h1:g<(Ds.length:Int)):tx (aK .fz Ds) g=ok (dy .fz (Ds.getD g.toNat (0,[]))):=by
 have hl:g.toNat<Ds.length:=by left
 have:=at_of (ds:=aK .fz Ds) (i:=g) (d:=dy .fz (Ds.getD g.toNat (0,[]))) h0 (by
  unfold aK;rw[List.getElem?_map,List.getElem?_eq_getElem hl];simp[hl])
 rw[this,dU];rfl
theorem getD_mem{Ds:List Dw}{g:Int}(h0:0<=g)(h1:g<(Ds.length:Int)):Ds.getD g.toNat (0,[])∈Ds:=by
 have hl:g.toNat<Ds.length:=by left
 have:Ds.getD g.toNat (0,[])=Ds[g.toNat]:=by simp[hl]
 rw[this];exact aaH hl
theorem w4(Φ:a_)(hm:Φ 1010=oR){Ds:List Dw}(hD:∀d∈Ds,d.2.length<=1000)(c1:aE):∀(gs:aa) (c:Int) (c3:aE),(∀g∈gs,0<=g/\g<(Ds.length:Int)) ->
  ∃sQ,cR (λd ρ=>bV (.nm 3) d ρ) (λρ=>bX Φ CZ ρ) (ai gs) [some (.lst .fz (aK .fz Ds)),c1,some (.int c),c3]=ok (.nx,[some (.lst .fz (aK .fz Ds)),c1,some (.int (lE Ds c gs)),sQ])
 |[],c,c3,_=>⟨c3,rfl⟩
 |g::gs,c,c3,h=>by
  obtain⟨h0,h1⟩:=h g aaf;have ea:=JS h0 h1;have hl:=hD _ (getD_mem h0 h1);obtain⟨sQ,ih⟩:=w4 Φ hm hD c1 gs (c*((Ds.getD g.toNat (0,[])).2.length:Int)) (some (.int g)) λx hx=>h x (aae _ hx);have en:lE Ds c (g::gs)=lE Ds (c*((Ds.getD g.toNat (0,[])).2.length:Int)) gs:=rfl;rw[en,ug];generalize Ds.getD g.toNat (0,[])=d at *;have e1:oR [.int c,.int (d.2.length:Int)]=ok (.int (c*(d.2.length:Int))):=aaN (vO c (by rw[Int.natAbs_natCast];left));have ed:dy .fz d=.tup [.int d.1,.lst .fz (aN d.2)]:=rfl;have x1:=mi (Φ:=Φ) (p:=1010) (i:=2) (es:=[(.bf .len [(.ix (.ix (.v 0) (.v 3)) (.int 1))])]) (ρ:=[some (.lst .fz (aK .fz Ds)),c1,some (.int c),some (.int g)]) (xs:=[.int d.2.length]) (by simp[ba,ea,ed]) (by simp) rfl (by rw[hm];exact e1);simp only[List.set]at x1;refine⟨sQ,b8 (ρ1:=[some (.lst .fz (aK .fz Ds)),c1,some (.int c),some (.int g)]) (by simp) (ρ2:=[some (.lst .fz (aK .fz Ds)),c1,some (.int (c*(d.2.length:Int))),some (.int g)]) ?_ ih⟩;rw[CZ,eC,x1];rfl
theorem Ro(Φ:a_)(hm:Φ 1010=oR):Ph (mk Φ 2 4 Fd):=by
 intro Ds gs hD hg;obtain⟨c3,el⟩:=w4 Φ hm hD (some (.tup (ai gs))) gs 1 none hg;have hit:bO Φ (.seq (.v 1)) [some (.lst .fz (aK .fz Ds)),some (.tup (ai gs)),some (.int 1),none]=ok (ai gs,[some (.lst .fz (aK .fz Ds)),some (.tup (ai gs)),some (.int 1),none]):=by
  rw[Sg (ds:=ai gs) (by simp)];simp
 have hf:=dz (Φ:=Φ) (t:=.nm 3) (b:=CZ) hit el;generalize aK .fz Ds=X at *;simp[mk_eq,Fd,hf]
noncomputable def wJ:CE:=.comp 1 (.nm 0) [] .seq [(.v 1)] [] (.ix (.v 0) (.int 0))
noncomputable def Bw:CE:=.comp 2 (.tp [0,1]) [1] .seq [(.ix (.v 0) (.int 1))] [] (.call 99 [(.v 2),(.v 1)])
def Fe:aj:=[.ifs (.cmp .gt (.bf .jc [wJ]) (.glo "MOST_HOUSES" 12)) [.rs 10] [],.ifs (.cmp .gt (.bf .jc [Bw]) (.glo "MOST_CHOICES" 500)) [.rs 10] []]
def EM(Ds:List Dw)(gs:ag):Int:=(gs.map λr=>lE Ds 1 r.2).sum
def Zq(Ds:List Dw)(gs:ag):Prop:=∀r∈gs,∀g∈r.2,0<=g/\g<(Ds.length:Int)
theorem BO(Φ:a_){Ds:List Dw}(hl:Ds.length<=1000)(f:Fl)(c0:aE)(r:bh):bx Φ wJ (c0::some (.lst f (aK f Ds))::r)=ok (.lst .ow (ai (Ds.map λd=>(d.1:Int)))):=by
 unfold wJ;rw[cc (xs:=[.lst (bo f) (aK (bo f) Ds)]) (items:=Ds.map (dy (bp (bo f)))) (ds:=Ds.map λd=>.int d.1) (by simp[ba]) (by rw[cO,ba];rfl) (bJ λd hd=>⟨[some (dy (bp (bo f)) d)],by simp[bC],by simp,?_⟩) (by simp;exact bT (by left))]
 ·simp[bg,ai]
 ·rw[show dy (bp (bo f)) d=.tup [.int d.1,.lst (bp (bo f)) (aN d.2)] from rfl];simp
def Pj(m:aG):Prop:=∀(n:Nat) (gs:ag) (Ds:List Dw),gs.length<=1000->Ds.length<=1000->(∀d∈Ds,d.2.length<=1000)->Zq Ds gs->cC Ds<=12->EM Ds gs<=500->m [gg n gs,.lst .fz (aK .fz Ds)]=ok .bW
theorem Rp(Φ:a_)(YL:Ph (Φ 99)):Pj (mk Φ 2 2 Fe):=by
 intro n gs Ds hg hD TV G Jd YO;have e1:=BO Φ hD .fz (some (gg n gs)) [];have e2:bx Φ Bw [some (gg n gs),some (.lst .fz (aK .fz Ds))]=ok (.lst .ow (ai (gs.map λr=>lE Ds 1 r.2))):=by
  unfold Bw;have hx:cz Φ [(.ix (.v 0) (.int 1))] [some (gg n gs),some (.lst .fz (aK .fz Ds))]=ok [.lst .fz (aN gs)]:=by
   rw[show gg n gs=.tup [.int n,.lst .fz (aN gs)] from rfl];simp
  rw[cc (xs:=[.lst .fz (aN gs)]) (items:=aN gs) (ds:=gs.map λr=>.int (lE Ds 1 r.2)) hx (by rw[cO];simp) (bJ λr hr=>⟨[some (qD r.1),some (.tup (ai r.2)),some (.lst .fz (aK .fz Ds))],by simp[bC,rD,ba],by simp,?_⟩) (by simp;exact bT (by left))]
  ·simp[bg,ai]
  ·have e:=YL Ds r.2 TV (G r hr);simp[ba,e]
 have s1:qC .jc [.lst .ow (ai (Ds.map λd=>(d.1:Int)))]=ok (.int (cC Ds)):=Bm _ _;have s2:qC .jc [.lst .ow (ai (gs.map λr=>lE Ds 1 r.2))]=ok (.int (EM Ds gs)):=Bm _ _;have c1:¬ (12:Int)<cC Ds:=by left
 have c2:¬ (500:Int)<EM Ds gs:=by left
 generalize gg n gs=Y at *;generalize aK .fz Ds=X at *;simp[mk_eq,Fe,e1,e2,s1,s2,c1,c2]
noncomputable def yr:CE:=.comp 2 (.tp [0,1]) [1] .seq [(.ix (.v 3) (.int 1))] [] (.tup [(.v 0),(.bf .tuple1 [(.comp 1 (.nm 0) [2] .seq [(.v 1)] [] (.bin .add (.v 1) (.v 0)))])])
def CU:aj:=[.app 2 yr,.aug 1 true (.ix (.v 3) (.int 0))]
def EV:aj:=[.asg (.nm 1) (.int 0),.asg (.nm 2) (.lst []),.fr (.nm 3) (.seq (.v 0)) CU,.ret (.v 2)]
def bF(f:Fl)(LL:List (ag)):ae:=LL.map λrs=>.lst f (aN rs)
theorem dq(g:Fl->Fl)(f:Fl):∀LL:List (ag),aC g (bF f LL)=bF (g f) LL
 |[]=>rfl
 |rs::LL=>by
  show D.lst (g f) (aC g (aN rs))::aC g (bF f LL)=_;rw[b_,dq g f LL];rfl
theorem kB{p:Fl->Bool}{f:Fl}(h:p f=false):∀LL:List (ag),aQ p (bF f LL)=false
 |[]=>rfl
 |rs::LL=>by
  show((p f||aQ p (aN rs))||aQ p (bF f LL))=false;rw[h,fZ,kB h LL];rfl
theorem vy(f:Fl)(LL:List (ag)):(bF f LL).length=LL.length:=aa1 ..
theorem My(Φ:a_){d:Dw}(hl:d.2.length<=1000)(hh:∀r∈d.2,r.2.length<=1000)(a:Int)(c0 c2:aE):bx Φ yr [c0,some (.int a),c2,some (dy .fz d)]=ok (.lst .ow (aN (d.2.map λr=>(r.1,iC a r.2)))):=by
 unfold yr;have hx:cz Φ [(.ix (.v 3) (.int 1))] [c0,some (.int a),c2,some (dy .fz d)]=ok [.lst .fz (aN d.2)]:=by
  rw[show dy .fz d=.tup [.int d.1,.lst .fz (aN d.2)] from rfl];simp
 rw[cc (xs:=[.lst .fz (aN d.2)]) (items:=aN d.2) (ds:=aN (d.2.map λr=>(r.1,iC a r.2))) hx (by rw[cO];simp) ?_ (by rw[fB,List.length_map];exact bT (by left))]
 ·rw[b_]
 ·unfold aN;rw[List.map_map];refine bJ λr hr=>⟨[some (qD r.1),some (.tup (ai r.2)),some (.int a)],by simp[bC,rD],by simp,?_⟩
  have hc:bx Φ (.comp 1 (.nm 0) [2] .seq [(.v 1)] [] (.bin .add (.v 1) (.v 0))) [some (qD r.1),some (.tup (ai r.2)),some (.int a)]=ok (.lst .ow (ai (iC a r.2))):=by
   rw[cc (xs:=[.tup (ai r.2)]) (items:=r.2.map D.int) (ds:=r.2.map λh=>.int (a+h)) (by simp) (by rw[iG];simp;rfl) (bJ λh _=>⟨[some (.int h),some (.int a)],by simp[bC],by simp,by simp⟩) (by simp;exact bT (by have:=hh r hr;left))];simp[bg,ai,iC]
  simp[hc];rfl
theorem vB(Φ:a_)(c0:aE):∀(Ds:List Dw) (a:Int) (LL:List (ag)) (c3:aE),LL.length+Ds.length<=1000->(∀d∈Ds,d.2.length<=1000/\∀r∈d.2,r.2.length<=1000) ->
  ∃a' sQ,cR (λd ρ=>bV (.nm 3) d ρ) (λρ=>bX Φ CU ρ) (aK .fz Ds) [c0,some (.int a),some (.lst .ow (bF .ow LL)),c3]=ok (.nx,[c0,a',some (.lst .ow (bF .ow (LL++cg a Ds))),sQ])
 |[],a,LL,c3,_,_=>⟨some (.int a),c3,by simp[cg,aK,fG]⟩
 |d::Ds,a,LL,c3,hl,hd=>by
  rw[List.length_cons]at hl;obtain⟨h1,h2⟩:=hd d aaf;have e1:=My Φ h1 h2 a c0 (some (.lst .ow (bF .ow LL)));obtain⟨a',sQ,ih⟩:=vB Φ c0 Ds (a+d.1) (LL++[d.2.map λr=>(r.1,iC a r.2)]) (some (dy .fz d)) (by simp;left) λx hx=>hd x (aae _ hx);have ea:bF .ow (LL++[d.2.map λr=>(r.1,iC a r.2)])=bF .ow LL++[.lst .ow (aN (d.2.map λr=>(r.1,iC a r.2)))]:=by unfold bF;rw[List.map_append];rfl
  have eb:LL++cg a (d::Ds)=LL++[d.2.map λr=>(r.1,iC a r.2)]++cg (a+d.1) Ds:=by simp[cg]
  have hc:(bF .ow LL).length<ck:=by rw[vy];show _<1000000;left
  rw[eb];refine⟨a',sQ,b8 (ρ1:=[c0,some (.int a),some (.lst .ow (bF .ow LL)),some (dy .fz d)]) (by simp) (ρ2:=[c0,some (.int (a+d.1)),some (.lst .ow (bF .ow (LL++[d.2.map λr=>(r.1,iC a r.2)]))),some (dy .fz d)]) ?_ ih⟩;rw[ea];have ed:v5 (dy .fz d) (.int 0)=ok (.int d.1):=by rw[show dy .fz d=.tup [.int d.1,.lst .fz (aN d.2)] from rfl];simp
  have hR:aQ bL (aN (d.2.map λr=>(r.1,iC a r.2)))=false:=fZ _ _;generalize aN (d.2.map λr=>(r.1,iC a r.2))=R at *;generalize bF .ow LL=Y at *;have xa:=LK (Φ:=Φ) (i:=1) (op:=true) (e:=(.ix (.v 3) (.int 0))) (ρ:=[c0,some (.int a),some (.lst .ow (Y++[.lst .ow R])),some (dy .fz d)]) (a:=a) (b:=d.1) (by simp[dU,ed]) rfl;simp only[List.set,if_true]at xa;rw[CU,eC];have xb:oZ Φ (.app 2 yr) [c0,some (.int a),some (.lst .ow Y),some (dy .fz d)]=ok (.nx,[c0,some (.int a),some (.lst .ow (Y++[.lst .ow R])),some (dy .fz d)]):=by
   rw[LM,KY Φ yr _ rfl,e1];have:cJ yr [c0,some (.int a),some (.lst .ow Y),some (dy .fz d)] (ok (.lst .ow R))=ok (.lst .ow R,[c0,some (.int a),some (.lst .ow Y),some (dy .fz d)]):=by simp[hR]
   rw[this,Ff rfl hc];rfl
  rw[xb,mC,eC,xa];rfl
def O_(m:aG):Prop:=∀Ds:List Dw,Ds.length<=1000->(∀d∈Ds,d.2.length<=1000/\∀r∈d.2,r.2.length<=1000)->m [.lst .fz (aK .fz Ds)]=ok (.lst .ow (bF .ow (cg 0 Ds)))
theorem Rf(Φ:a_):O_ (mk Φ 1 4 EV):=by
 intro Ds hl hd;obtain⟨a',c3,el⟩:=vB Φ (some (.lst .fz (aK .fz Ds))) Ds 0 [] none (by simpa using hl) hd;rw[List.nil_append]at el;have hit:bO Φ (.seq (.v 0)) [some (.lst .fz (aK .fz Ds)),some (.int 0),some (.lst .ow (bF .ow [])),none]=ok (aK .fz Ds,[some (.lst .fz (aK .fz Ds)),some (.int 0),some (.lst .ow (bF .ow [])),none]):=by
  rw[jT (f:=.fz) (ds:=aK .fz Ds) (by simp[ba]),ba,dM (by rfl)];rfl
 have hf:=dz (Φ:=Φ) (t:=.nm 3) (b:=CU) hit el;have e0:bF .ow []=[]:=rfl;rw[e0]at hf;generalize aK .fz Ds=X at *;generalize bF .ow (cg 0 Ds)=Y at *;simp[mk_eq,EV,hf,bR]
theorem x5(a b:aa):ai a++ai b=ai (a++b):=by simp[ai]
theorem BW{a b:aa}(h:a.length+b.length<=1000000):cD .add (.tup (ai a)) (.tup (ai b))=ok (.tup (ai (a++b))):=by
 show(if (ai a).length+(ai b).length<=ck then ok (D.tup (aC bo (ai a++ai b)))else none)=_;rw[if_pos (by rw[oQ,oQ];exact h),x5,g9]
theorem F0(r:Row):v5 (rD r) (.int 0)=ok (qD r.1):=by unfold rD;simp
theorem AF(r:Row):v5 (rD r) (.int 1)=ok (.tup (ai r.2)):=by unfold rD;simp
noncomputable def sr:CE:=.comp 1 (.nm 0) [5] .seq [(.v 3)] [] (.tup [(.call 6 [(.ix (.v 1) (.int 0)),(.ix (.v 0) (.int 0))]),(.bin .add (.ix (.v 1) (.int 1)) (.ix (.v 0) (.int 1)))])
def vk:aj:=[.mut 1013 4 [sr]]
def vh:aj:=[.asg (.nm 4) (.lst []),.fr (.nm 5) (.seq (.v 2)) vk,.asg (.nm 2) (.v 4)]
def Fc:aj:=[.asg (.nm 2) (.lst [(.tup [(.v 0),(.tup [])])]),.fr (.nm 3) (.seq (.v 1)) vh,.ret (.v 2)]
noncomputable def k9(m:Row)(rows:ag):ag:=rows.map λr=>(m.1*r.1,m.2++r.2)
theorem Kd(Φ:a_)(h6:eT (Φ 6)){k i l j:Nat}{m:Row}{rows:ag}(hm:Sm k m.1/\m.2.length<=l)(hr:ou i j rows)(hk:k<=4000)(hi:i<=4000)(F8:l+j<=1000)(hl:rows.length<=1000)(c0 c1 c2 c4:aE):bx Φ sr [c0,c1,c2,some (.lst .fz (aN rows)),c4,some (rD m)]=ok (.lst .ow (aN (k9 m rows))):=by
 unfold sr;rw[cc (xs:=[.lst .fz (aN rows)]) (items:=aN rows) (ds:=aN (k9 m rows)) (by simp) (by rw[cO];simp) ?_ (by unfold k9;rw[fB,List.length_map];exact bT (by left))]
 ·rw[b_]
 ·unfold aN k9;rw[List.map_map];refine bJ λr K5=>⟨[some (rD r),some (rD m)],by simp[bC],by simp,?_⟩
  obtain⟨s1,s2⟩:=hr r K5;have e1:=h6 m.1 r.1 (hm.1.mono hk) (s1.mono hi);have e2:=BW (a:=m.2) (b:=r.2) (by left);simp[F0,AF,e1,e2];rfl
theorem sN(Φ:a_)(h6:eT (Φ 6))(nc:Φ 1013=yn){k i l j:Nat}{rows:ag}(hr:ou i j rows)(hk:k<=4000)(hi:i<=4000)(F8:l+j<=1000)(hl:rows.length<=1000)(c0 c1 c2:aE):∀(C acc:ag) (c5:aE),ou k l C->acc.length+C.length*rows.length<=1000000 ->
  ∃uQ,cR (λd ρ=>bV (.nm 5) d ρ) (λρ=>bX Φ vk ρ) (aN C) [c0,c1,c2,some (.lst .fz (aN rows)),some (.lst .ow (aN acc)),c5]=ok (.nx,[c0,c1,c2,some (.lst .fz (aN rows)),some (.lst .ow (aN (acc++bH C rows))),uQ])
 |[],acc,c5,_,_=>⟨c5,by simp[bH,aN,fG]⟩
 |m::C,acc,c5,hC,hn=>by
  rw[List.length_cons,Nat.add_mul]at hn;have e1:=Kd Φ h6 (hC m aaf) hr hk hi F8 hl c0 c1 c2 (some (.lst .ow (aN acc)));have lc:(k9 m rows).length=rows.length:=aa1 ..;obtain⟨uQ,ih⟩:=sN Φ h6 nc hr hk hi F8 hl c0 c1 c2 C (acc++k9 m rows) (some (rD m)) (λx hx=>hC x (aae _ hx)) (by rw[List.length_append,lc];left);have e2:acc++bH (m::C) rows=acc++k9 m rows++bH C rows:=by unfold bH k9;rw[List.flatMap_cons,List.append_assoc]
  have e3:Φ 1013 [.lst .ow (aN acc),.lst .ow (aN (k9 m rows))]=ok (.lst .ow (aN (acc++k9 m rows))):=by
   rw[nc];show(if aQ anyF (aN (k9 m rows))=false/\(aN acc).length+(aN (k9 m rows)).length<=ck then ok (D.lst .ow (aN acc++aN (k9 m rows)))else none)=_;rw[if_pos ⟨fZ _ _,by rw[fB,fB,lc];show _<=1000000;left⟩];unfold aN;rw[List.map_append]
  have x1:=mi (Φ:=Φ) (p:=1013) (i:=4) (es:=[sr]) (ρ:=[c0,c1,c2,some (.lst .fz (aN rows)),some (.lst .ow (aN acc)),some (rD m)]) (xs:=[.lst .ow (aN (k9 m rows))]) (by
   show bd (bx Φ sr _) _=_;rw[e1];rfl) (by simp) rfl e3
  simp only[List.set]at x1;rw[e2];refine⟨uQ,b8 (ρ1:=[c0,c1,c2,some (.lst .fz (aN rows)),some (.lst .ow (aN acc)),some (rD m)]) (by simp) (ρ2:=[c0,c1,c2,some (.lst .fz (aN rows)),some (.lst .ow (aN (acc++k9 m rows))),some (rD m)]) ?_ ih⟩;rw[vk,eC,x1];rfl
theorem sJ(Φ:a_)(h6:eT (Φ 6))(nc:Φ 1013=yn){i j:Nat}(hi:i<=4000)(c0 c1:aE):∀(LL:List (ag)) (k l:Nat) (C:ag) (c3 c4 c5:aE),ou k l C->(∀rs∈LL,ou i j rs/\rs.length<=1000)->k+LL.length*i<=4000->l+LL.length*j<=1000->DP C.length LL ->
  ∃sQ Kf uQ,cR (λd ρ=>bV (.nm 3) d ρ) (λρ=>bX Φ vh ρ) (bF .fz LL) [c0,c1,some (.lst .ow (aN C)),c3,c4,c5]=ok (.nx,[c0,c1,some (.lst .ow (aN (qx C LL))),sQ,Kf,uQ])
 |[],k,l,C,c3,c4,c5,_,_,_,_,_=>⟨c3,c4,c5,rfl⟩
 |rows::LL,k,l,C,c3,c4,c5,hC,hL,hk,hl,ho=>by
  rw[List.length_cons,Nat.add_mul,Nat.one_mul]at hk hl;obtain⟨g1,g2⟩:=hL rows aaf;obtain⟨o1,o2⟩:=ho;obtain⟨d5,e1⟩:=sN Φ h6 nc (k:=k) (l:=l) g1 (by left) hi (by left) g2 c0 c1 (some (.lst .fz (aN C))) C [] c5 hC (by simp;left);rw[List.nil_append]at e1;obtain⟨f3,f4,f5,ih⟩:=sJ Φ h6 nc hi c0 c1 LL (k+i) (l+j) (bH C rows) (some (.lst .fz (aN rows))) none d5 (nB hC g1) (λx hx=>hL x (aae _ hx)) (by left) (by left) (by rw[kG];exact o2);have hit:bO Φ (.seq (.v 2)) [c0,c1,some (.lst .ow (aN C)),some (.lst .fz (aN rows)),some (.lst .ow (aN [])),c5]=ok (aN C,[c0,c1,some (.lst .fz (aN C)),some (.lst .fz (aN rows)),some (.lst .ow (aN [])),c5]):=by
   rw[jT (f:=.al) (ds:=aN C) (by simp)];simp[kC,gQ]
  have hf:=dz (Φ:=Φ) (t:=.nm 5) (b:=vk) hit e1;refine⟨f3,f4,f5,?_⟩;show cR _ _ (.lst .fz (aN rows)::bF .fz LL) _=_;refine b8 (ρ1:=[c0,c1,some (.lst .ow (aN C)),some (.lst .fz (aN rows)),c4,c5]) (by simp) (ρ2:=[c0,c1,some (.lst .ow (aN (bH C rows))),some (.lst .fz (aN rows)),none,d5]) ?_ ih;have e0:aN []=[]:=rfl;rw[e0]at hf;generalize aN (bH C rows)=X at *;simp[vh,hf,bR]
def Kq(m:aG):Prop:=∀(q:Rat) (LL:List (ag)) (k i j:Nat),Sm k q->(∀rs∈LL,ou i j rs/\rs.length<=1000)->i<=4000->k+LL.length*i<=4000->LL.length*j<=1000->DP 1 LL->m [qD q,.lst .fz (bF .fz LL)]=ok (.lst .ow (aN (qx [(q,[])] LL)))
theorem Rn(Φ:a_)(h6:eT (Φ 6))(nc:Φ 1013=yn):Kq (mk Φ 2 6 Fc):=by
 intro q LL k i j hq hL hi hk hj ho;obtain⟨c3,c4,c5,el⟩:=sJ Φ h6 nc hi (some (qD q)) (some (.lst .fz (bF .fz LL))) LL k 0 [(q,[])] none none none (λr hr=>by rw[List.mem_singleton.mp hr];exact⟨hq,aak _⟩) hL hk (by left) ho;have hit:bO Φ (.seq (.v 1)) [some (qD q),some (.lst .fz (bF .fz LL)),some (.lst .ow (aN [(q,[])])),none,none,none]=ok (bF .fz LL,[some (qD q),some (.lst .fz (bF .fz LL)),some (.lst .ow (aN [(q,[])])),none,none,none]):=by
  rw[jT (f:=.fz) (ds:=bF .fz LL) (by simp[dq]),dq,kB (by rfl)];rfl
 have hf:=dz (Φ:=Φ) (t:=.nm 3) (b:=vh) hit el;have e0:aN [(q,[])]=[.tup [qD q,.tup []]]:=rfl;rw[e0]at hf;generalize bF .fz LL=X at *;generalize aN (qx [(q,[])] LL)=Y at *;simp[mk_eq,Fc,hf,bR]
theorem LI{p i:Nat}{k e:CE}{kd d x d':D}(h1:bx Φ k ρ=ok kd)(h2:bx Φ e (ρ.set i none)=ok d)(h3:ρ[i]?=some (some x))(h4:aT anyF kd=false)(h5:aT anyF d=false)(h6:Φ p [x,kd,d]=ok d'):oZ Φ (.mu2 p i k e) ρ=ok (.nx,ρ.set i (some d')):=by
 show bd (bx Φ k ρ) (λkd=>bd (bx Φ e (ρ.set i none)) λd=>Aj Φ p i ρ kd d)=_;rw[h1,cZ,h2,cZ];unfold Aj;rw[h3];show(if aT anyF kd=false/\aT anyF d=false then bd (Φ p [x,kd,d]) λd'=>ok (Fo.nx,ρ.set i (some d'))else none)=_;rw[if_pos ⟨h4,h5⟩,h6];rfl
noncomputable def iW(g:aa->aU)(c:aa)(q:Rat):aa->aU:=λk=>if k=c then g k++[q]else g k
theorem rl(g:aa->aU)(c:aa)(q:Rat)(hg:(g c).length<ck):∀ks:aw,ks.Nodup->(c∉ks->g c=[])->ko ks (ks.map λk=>.lst .ow (dY (g k))) c (qD q)=some ((aS ks c).map λk=>.lst .ow (dY (iW g c q k)))
 |[],_,h0=>by
  have e:aS [] c=[c]:=by unfold aS;rw[if_neg (by simp)];rfl
  have e2:iW g c q c=[q]:=by unfold iW;rw[if_pos rfl,h0 (by simp)];rfl
  rw[e,List.map_cons,e2];rfl
 |k::ks,hn,h0=>by
  obtain⟨h1,h2⟩:=List.nodup_cons.mp hn;show(if k=c then(match vN (.lst .ow (dY (g k)))with|some gs=>if gs.length<ck then some (.lst .ow (gs++[qD q])::ks.map λk=>.lst .ow (dY (g k)))else none|none=>none)else(ko ks (ks.map λk=>.lst .ow (dY (g k))) c (qD q)).map (D.lst .ow (dY (g k)) :: ·))=_;by_cases e:k=c
  ·subst e;rw[if_pos rfl];show(if (dY (g k)).length<ck then some (D.lst .ow (dY (g k)++[qD q])::ks.map λk=>.lst .ow (dY (g k)))else none)=_;rw[if_pos (by simpa using hg)];have ek:aS (k::ks) k=k::ks:=by unfold aS;rw[if_pos List.mem_cons_self]
   rw[ek,List.map_cons];congr 2
   ·unfold iW;rw[if_pos rfl];simp[dY]
   ·refine aaL λj hj=>?_;unfold iW;rw[if_neg λz:j=k=>h1 (z▸hj)]
  ·rw[if_neg e,rl g c q hg ks h2 λz=>h0 λm=>(List.mem_cons.mp m).elim (λw=>e w.symm) z];have ek:aS (k::ks) c=k::aS ks c:=by
    unfold aS;by_cases m:c∈ks
    ·rw[if_pos m,if_pos (List.mem_cons_of_mem _ m)]
    ·rw[if_neg m,if_neg λz=>(List.mem_cons.mp z).elim (λw=>e w.symm) m];rfl
   rw[ek,List.map_cons];have e2:iW g c q k=g k:=by unfold iW;rw[if_neg e]
   rw[e2];rfl
def GC(f:Fl)(ks:aw)(g:aa->aU):D:=.bS f ks (ks.map λk=>.lst f (dY (g k)))
theorem pW(m:Fl->Fl)(f:Fl)(ks:aw)(g:aa->aU):aY m (GC f ks g)=GC (m f) ks g:=by
 show D.bS (m f) ks (aC m (ks.map λk=>.lst f (dY (g k))))=_;rw[bg,List.map_map];congr 1;exact aaL λk _=>by show aY m (.lst f (dY (g k)))=_;simp
theorem Ei(m:Fl->Bool)(f:Fl)(ks:aw)(g:aa->aU)(h:m f=false):aT m (GC f ks g)=false:=by
 show(m f||aQ m (ks.map λk=>.lst f (dY (g k))))=_;rw[h,cQ m (λk=>by simp[h])];rfl
theorem lQ(lot:aa):keyOf (.tup (ai lot))=some lot:=bM lot
theorem LX(jY:Φ 1201=tQ)(hn:ks.Nodup)(hl:ks.length<1000)(g:aa->aU)(c:aa)(q:Rat)(hg:(g c).length<1000)(h0:c∉ks->g c=[]):Φ 1201 [GC .ow ks g,.tup (ai c),qD q]=ok (GC .ow (aS ks c) (iW g c q)):=by
 rw[jY];show(match keyOf (.tup (ai c))with|some c=>(match ko ks (ks.map λk=>.lst .ow (dY (g k))) c (qD q)with|some ws=>if bR .ow=true/\ks.length<ck then ok (D.bS .ow (aS ks c) ws)else none|none=>none)|none=>none)=_;rw[lQ];show(match ko ks (ks.map λk=>.lst .ow (dY (g k))) c (qD q)with|some ws=>if bR .ow=true/\ks.length<ck then ok (D.bS .ow (aS ks c) ws)else none|none=>none)=_;rw[rl g _ q (by show _<1000000;left) ks hn h0];exact aaN ⟨rfl,by show _<1000000;left⟩
theorem OD(se:Φ 1039=uC)(g:aa->aU)(c:aa)(hm:c∈ks):Φ 1039 [GC .fz ks g,.tup (ai c)]=ok (.lst .fz (dY (g c))):=by
 rw[se];show(match keyOf (.tup (ai c))with|some c=>(match bK ks (ks.map λk=>D.lst .fz (dY (g k))) c with|some v=>if aT mK v=false then ok v else none|none=>none)|none=>none)=_;rw[lQ];show(match bK ks (ks.map λk=>D.lst .fz (dY (g k))) c with|some v=>if aT mK v=false then ok v else none|none=>none)=_;rw[nh (λk=>D.lst .fz (dY (g k))),if_pos hm];exact aaN (by simp[mK])
def c_(rows:ag):aw:=rows.foldl (λks r=>aS ks r.2) []
noncomputable def cH(rows:ag)(l:aa):aU:=(rows.filter λr=>decide (r.2=l)).map (·.1)
theorem xS(rows:ag)(r:Row):c_ (rows++[r])=aS (c_ rows) r.2:=by unfold c_;rw[List.foldl_append];rfl
theorem xF(rows:ag)(r:Row):cH (rows++[r])=iW (cH rows) r.2 r.1:=by
 funext l;unfold cH iW;rw[List.filter_append,List.map_append];by_cases h:r.2=l
 ·rw[if_pos h.symm,List.filter_cons_of_pos (by simpa using h)];rfl
 ·rw[if_neg λz=>h z.symm,List.filter_cons_of_neg (by simpa using h)];simp
theorem lR:∀(rows:ag) (ks:aw),ks.Nodup->(rows.foldl (λks r=>aS ks r.2) ks).Nodup/\(∀l,l∈rows.foldl (λks r=>aS ks r.2) ks ↔ l∈ks\/l∈rows.map (·.2))/\(rows.foldl (λks r=>aS ks r.2) ks).length<=ks.length+rows.length
 |[],ks,h=>⟨h,by simp,by simp⟩
 |r::rows,ks,h=>by
  obtain⟨i1,i2,i3⟩:=lR rows (aS ks r.2) (Az h r.2);refine⟨i1,λl=>?_,?_⟩
  ·show l∈rows.foldl _ (aS ks r.2) ↔ _;rw[i2 l,xQ,List.map_cons,List.mem_cons,or_assoc]
  ·have:=xR ks r.2;rw[List.length_cons];exact aaz i3 (by left)
theorem D0(rows:ag):(c_ rows).Nodup:=(lR rows [] aaW).1
theorem AA(rows:ag)(l:aa):l∈c_ rows ↔ l∈rows.map (·.2):=by
 have:=(lR rows [] aaW).2.1 l;simpa [c_]using this
theorem m4(rows:ag):(c_ rows).length<=rows.length:=by simpa [c_]using (lR rows [] List.nodup_nil).2.2
theorem zQ{rows:ag}{l:aa}(h:l∉c_ rows):cH rows l=[]:=by
 unfold cH;rw[List.map_eq_nil_iff,List.filter_eq_nil_iff];intro r hr e;exact h ((AA rows l).mpr (by rw[<- of_decide_eq_true e];exact aaA hr))
theorem zR(rows:ag)(l:aa):(cH rows l).length<=rows.length:=by unfold cH;rw[List.length_map];exact List.length_filter_le ..
noncomputable def vb:aj:=[.mu2 1201 3 (.v 7) (.v 6)]
def iN(f:Fl)(rows:ag):D:=GC f (c_ rows) (cH rows)
theorem sv(Φ:a_)(jY:Φ 1201=tQ)(c0 c1 c2 c4 c5:aE):∀(rs pr:ag) (c6 c7:aE),pr.length+rs.length<1000 ->
  ∃uP BR,cR (λd ρ=>bV (.tp [6,7]) d ρ) (λρ=>bX Φ vb ρ) (aN rs) [c0,c1,c2,some (iN .ow pr),c4,c5,c6,c7]=ok (.nx,[c0,c1,c2,some (iN .ow (pr++rs)),c4,c5,uP,BR])
 |[],pr,c6,c7,_=>⟨c6,c7,by simp[aN,fG]⟩
 |r::rs,pr,c6,c7,hl=>by
  rw[List.length_cons]at hl;obtain⟨uP,BR,ih⟩:=sv Φ jY c0 c1 c2 c4 c5 rs (pr++[r]) (some (qD r.1)) (some (.tup (ai r.2))) (by simp;left);rw[List.append_assoc,List.singleton_append]at ih;have e1:=LX jY (D0 pr) (by have:=m4 pr;left) (cH pr) r.2 r.1 (by have:=zR pr r.2;left) λh=>zQ h;rw[<- xS,<- xF]at e1;have x1:=LI (Φ:=Φ) (p:=1201) (i:=3) (k:=.v 7) (e:=.v 6) (ρ:=[c0,c1,c2,some (iN .ow pr),c4,c5,some (qD r.1),some (.tup (ai r.2))]) (kd:=.tup (ai r.2)) (d:=qD r.1) (by simp) (by simp) rfl (by simp) (by simp) e1;simp only[List.set]at x1;refine⟨uP,BR,b8 (ρ1:=[c0,c1,c2,some (iN .ow pr),c4,c5,some (qD r.1),some (.tup (ai r.2))]) (by simp[rD]) (ρ2:=[c0,c1,c2,some (iN .ow (pr++[r])),c4,c5,some (qD r.1),some (.tup (ai r.2))]) ?_ ih⟩;rw[vb,eC,x1];rfl
noncomputable def k8:CE:=.comp 1 (.nm 0) [2] .seq [(.v 5)] [] (.ix (.v 1) (.v 0))
def vc:aj:=[.fr (.tp [6,7]) (.seq (.call 101 [(.v 4),k8])) vb]
noncomputable def cU(LL:List (ag))(gs:aa):List (ag):=gs.map λg=>LL.getD g.toNat []
theorem JT(Φ:a_){LL:List (ag)}(hg:∀g∈gs,0<=g/\g<(LL.length:Int))(hl:gs.length<=1000)(c0 c1 c3 c4:aE)(r:bh):bx Φ k8 (c0::c1::some (.lst .ow (bF .ow LL))::c3::c4::some (.tup (ai gs))::r)=ok (.lst .ow (bF .al (cU LL gs))):=by
 unfold k8;have ed:bF .fz (cU LL gs)=gs.map λg=>D.lst .fz (aN (LL.getD g.toNat [])):=by unfold bF cU;rw[List.map_map];rfl
 rw[cc (xs:=[.tup (ai gs)]) (items:=gs.map D.int) (ds:=bF .fz (cU LL gs)) (by simp) (by rw[iG];simp;rfl) ?_ (by unfold cU;rw[vy,List.length_map];exact bT (by left))]
 ·rw[dq];rfl
 ·rw[ed];refine bJ λg Ed=>⟨[some (.int g),some (.lst .fz (bF .fz LL))],by simp[bC,dq],by simp,?_⟩
  obtain⟨h0,h1⟩:=hg g Ed;have hl:g.toNat<LL.length:=by left
  have ea:=at_of (ds:=bF .fz LL) (i:=g) (d:=.lst .fz (aN (LL.getD g.toNat []))) h0 (by unfold bF;rw[List.getElem?_map,List.getElem?_eq_getElem hl];simp[hl]);generalize hX:bF .fz LL=X at *;have mX:aC bo X=X:=by rw[<- hX,dq];rfl
  simp[mX,ea]
def allR(LL:List (ag))(gs:ag):ag:=gs.flatMap λr=>qx [(r.1,[])] (cU LL r.2)
structure O8(LL:List (ag))(gs:ag):Prop where
 ix:∀r∈gs,∀g∈r.2,0<=g/\g<(LL.length:Int)
 sm:∀r∈gs,Sm 6 r.1/\r.2.length<=12
 oc:∀r∈gs,DP 1 (cU LL r.2)
 ly:∀rs∈LL,ou 6 12 rs/\rs.length<=1000
 ln:(allR LL gs).length<900
theorem O8.tail{LL:List (ag)}{r:Row}{gs:ag}(W:O8 LL (r::gs)):O8 LL gs:=⟨λx hx=>W.ix x (aae _ hx),λx hx=>W.sm x (aae _ hx),λx hx=>W.oc x (aae _ hx),W.ly,by
 have:=W.ln;unfold allR at *;rw[List.flatMap_cons,List.length_append]at this;left⟩
theorem zT{LL:List (ag)}(hg:∀g∈gs,0<=g/\g<(LL.length:Int)){rs:ag}(h:rs∈cU LL gs):rs∈LL:=by
 obtain⟨g,Ed,rfl⟩:=List.mem_map.mp h;obtain⟨h0,h1⟩:=hg g Ed;have hl:g.toNat<LL.length:=by left
 have:LL.getD g.toNat []=LL[g.toNat]:=by simp[hl]
 rw[this];exact aaH hl
theorem sx(Φ:a_)(En:Kq (Φ 101))(jY:Φ 1201=tQ){LL:List (ag)}(c0 c1:aE):∀(gs pr:ag) (c4 c5 c6 c7:aE),O8 LL gs->pr.length+(allR LL gs).length<1000 ->
  ∃Kf uQ uP BR,cR (λd ρ=>bV (.tp [4,5]) d ρ) (λρ=>bX Φ vc ρ) (aN gs) [c0,c1,some (.lst .ow (bF .ow LL)),some (iN .ow pr),c4,c5,c6,c7]=ok (.nx,[c0,c1,some (.lst .ow (bF .ow LL)),some (iN .ow (pr++allR LL gs)),Kf,uQ,uP,BR])
 |[],pr,c4,c5,c6,c7,_,_=>⟨c4,c5,c6,c7,by simp[aN,fG,allR]⟩
 |r::gs,pr,c4,c5,c6,c7,W,hl=>by
  have ea:allR LL (r::gs)=qx [(r.1,[])] (cU LL r.2)++allR LL gs:=by unfold allR;rw[List.flatMap_cons]
  rw[ea,List.length_append]at hl;have Ec:=W.ix r aaf;obtain⟨s1,s2⟩:=W.sm r aaf;have e3:=JT Φ Ec (by left) c0 c1 (some (iN .ow pr)) (some (qD r.1)) [c6,c7];have pl:(cU LL r.2).length=r.2.length:=aa1 ..;have e4:=En r.1 (cU LL r.2) 6 6 12 s1 (λrs wb=>W.ly rs (zT Ec wb)) (by decide) (by rw[pl];left) (by rw[pl];left) (W.oc r aaf);obtain⟨d6,d7,e5⟩:=sv Φ jY c0 c1 (some (.lst .ow (bF .ow LL))) (some (qD r.1)) (some (.tup (ai r.2))) (qx [(r.1,[])] (cU LL r.2)) pr c6 c7 (by left);obtain⟨f4,f5,f6,f7,ih⟩:=sx Φ En jY c0 c1 gs (pr++qx [(r.1,[])] (cU LL r.2)) (some (qD r.1)) (some (.tup (ai r.2))) d6 d7 W.tail (by rw[List.length_append];left);rw[ea,<- List.append_assoc];generalize qx [(r.1,[])] (cU LL r.2)=Z at *;have Yw:bx Φ (.call 101 [(.v 4),k8]) [c0,c1,some (.lst .ow (bF .ow LL)),some (iN .ow pr),some (qD r.1),some (.tup (ai r.2)),c6,c7]=ok (.lst .ow (aN Z)):=by
   show bd (cz Φ [(.v 4),k8] _) _=_;have:cz Φ [(.v 4),k8] [c0,c1,some (.lst .ow (bF .ow LL)),some (iN .ow pr),some (qD r.1),some (.tup (ai r.2)),c6,c7]=ok [qD r.1,.lst .ow (bF .al (cU LL r.2))]:=by
    show bd (bx Φ (.v 4) _) (λx=>bd (bd (bx Φ k8 _) λx=>bd (ok []) λxs=>ok (x::xs)) λxs=>ok (x::xs))=_;rw[e3];simp
   rw[this,cZ];have m1:aC bp [qD r.1,.lst .ow (bF .al (cU LL r.2))]=[qD r.1,.lst .fz (bF .fz (cU LL r.2))]:=by
    rw[eZ,eZ,Aq];show[qD r.1,D.lst .fz (aC bp (bF .al (cU LL r.2)))]=_;rw[dq];rfl
   rw[m1,e4]
   first|rfl|simp
  have hit:bO Φ (.seq (.call 101 [(.v 4),k8])) [c0,c1,some (.lst .ow (bF .ow LL)),some (iN .ow pr),some (qD r.1),some (.tup (ai r.2)),c6,c7]=ok (aN Z,[c0,c1,some (.lst .ow (bF .ow LL)),some (iN .ow pr),some (qD r.1),some (.tup (ai r.2)),c6,c7]):=by
   rw[jT Yw];simp
  have hf:=dz (Φ:=Φ) (t:=.tp [6,7]) (b:=vb) hit e5;refine⟨f4,f5,f6,f7,b8 (ρ1:=[c0,c1,some (.lst .ow (bF .ow LL)),some (iN .ow pr),some (qD r.1),some (.tup (ai r.2)),c6,c7]) (by simp[rD]) (ρ2:=[c0,c1,some (.lst .ow (bF .ow LL)),some (iN .ow (pr++Z)),some (qD r.1),some (.tup (ai r.2)),d6,d7]) ?_ ih⟩;rw[vc,eC,hf];rfl
noncomputable def Bu:CE:=.comp 1 (.nm 0) [3] .seq [(.cF 1035 [(.v 3)])] [] (.tup [(.call 42 [(.cF 1039 [(.v 1),(.v 0)])]),(.v 0)])
def EZ:aj:=[.asg (.nm 2) (.call 100 [(.v 1)]),.asg (.nm 3) (.cF 1030 []),.fr (.tp [4,5]) (.seq (.ix (.v 0) (.int 1))) vc,.ret (.tup [(.bf .jc [wJ]),Bu])]
def gM(rows:ag):ag:=(bq (c_ rows)).map λl=>((cH rows l).sum,l)
theorem JU(Φ:a_)(P:B8 Φ)(T5:gA (Φ 42))(se:Φ 1039=uC){rows:ag}(hl:rows.length<1000)(hs:∀l,∃k,xj k (cH rows l))(c0 c1 c2:aE)(r:bh):bx Φ Bu (c0::c1::c2::some (iN .ow rows)::r)=ok (.lst .ow (aN (gM rows))):=by
 have hp:(bq (c_ rows)).Perm (c_ rows):=aaE _ _;have hk:=m4 rows;unfold Bu;rw[cc (xs:=[.lst .ow ((bq (c_ rows)).map dH)]) (items:=(bq (c_ rows)).map dH) (ds:=aN (gM rows)) ?_ (by rw[cO,fD]) ?_ (by
  rw[fB];unfold gM;rw[List.length_map];exact bT (by have:=hp.length_eq;left))]
 ·rw[b_]
 ·have e1:∀f,Φ 1035 [iN f rows]=ok (.lst .ow ((bq (c_ rows)).map dH)):=λf=>ze P f _ (by left);have m1:aY bo (iN .ow rows)=iN .al rows:=pW _ _ _ _;generalize hX:iN .ow rows=X at *;simp[m1,e1]
 ·unfold aN gM;rw[List.map_map];refine bJ λl lS=>?_;have hm:l∈c_ rows:=hp.mem_iff.mp lS;have g1:=OD se (cH rows) l hm;obtain⟨k,Eb⟩:=hs l;have g2:=T5 .fz (cH rows l) k Eb;have m1:aY bo (dH l)=.tup (ai l):=by show D.tup (aC bo (l.map D.int))=_;rw[gu];rfl
  have m2:aY bp (iN .ow rows)=iN .fz rows:=pW _ _ _ _;have m3:aY bo (iN .fz rows)=iN .fz rows:=pW _ _ _ _;refine⟨[some (dH l),some (iN .fz rows)],by simp[bC,m2],by simp,?_⟩;have YX:Φ 1039 [iN .fz rows,.tup (ai l)]=ok (.lst .fz (dY (cH rows l))):=g1;simp[m1,m3,YX,g2];rfl
def Pd(m:aG):Prop:=∀(n:Nat) (gs:ag) (Ds:List Dw),O8 (cg 0 Ds) gs->Ds.length<=1000->(∀d∈Ds,d.2.length<=1000/\∀r∈d.2,r.2.length<=1000)->(∀l,∃k,xj k (cH (allR (cg 0 Ds) gs) l))->m [gg n gs,.lst .fz (aK .fz Ds)]=ok (.tup [.int (cC Ds),.lst .ow (aN (gM (allR (cg 0 Ds) gs)))])
theorem Rk(Φ:a_)(P:B8 Φ)(T5:gA (Φ 42))(Ud:O_ (Φ 100))(En:Kq (Φ 101))(se:Φ 1039=uC)(jY:Φ 1201=tQ):Pd (mk Φ 2 8 EZ):=by
 intro n gs Ds W hD TV hs;have e1:=Ud Ds hD TV;have hn:=W.ln;have e2:Φ 1030 []=ok (iN .ow []):=by rw[P.wt];rfl
 obtain⟨c4,c5,c6,c7,el⟩:=sx Φ En jY (LL:=cg 0 Ds) (some (gg n gs)) (some (.lst .fz (aK .fz Ds))) gs [] none none none none W (by simp;left);rw[List.nil_append]at el;have Ec:bx Φ (.ix (.v 0) (.int 1)) [some (gg n gs),some (.lst .fz (aK .fz Ds)),some (.lst .ow (bF .ow (cg 0 Ds))),some (iN .ow []),none,none,none,none]=ok (.lst .fz (aN gs)):=by
  rw[show gg n gs=.tup [.int n,.lst .fz (aN gs)] from rfl];simp
 have hit:bO Φ (.seq (.ix (.v 0) (.int 1))) [some (gg n gs),some (.lst .fz (aK .fz Ds)),some (.lst .ow (bF .ow (cg 0 Ds))),some (iN .ow []),none,none,none,none]=ok (aN gs,[some (gg n gs),some (.lst .fz (aK .fz Ds)),some (.lst .ow (bF .ow (cg 0 Ds))),some (iN .ow []),none,none,none,none]):=by
  rw[jT Ec];simp
 have hf:=dz (Φ:=Φ) (t:=.tp [4,5]) (b:=vc) hit el;have k1:=BO Φ hD .fz (some (gg n gs)) [some (.lst .ow (bF .ow (cg 0 Ds))),some (iN .ow (allR (cg 0 Ds) gs)),c4,c5,c6,c7];have k2:=JU Φ P T5 se (by left) hs (some (gg n gs)) (some (.lst .fz (aK .fz Ds))) (some (.lst .ow (bF .ow (cg 0 Ds)))) [c4,c5,c6,c7];have s1:qC .jc [.lst .ow (ai (Ds.map λd=>(d.1:Int)))]=ok (.int (cC Ds)):=Bm _ _;have o1:aT bL (iN .ow [])=false:=Ei _ _ _ _ rfl;have o2:aQ bL (bF .ow (cg 0 Ds))=false:=kB (by rfl) _;have mR:aC gv (bF .ow (cg 0 Ds))=bF .ow (cg 0 Ds):=by rw[dq];rfl
 have mX:aC bo (aK .fz Ds)=aK .fz Ds:=by rw[ba];rfl
 have RV:aC bp (aK .fz Ds)=aK .fz Ds:=by rw[ba];rfl
 generalize allR (cg 0 Ds) gs=A at *;generalize bF .ow (cg 0 Ds)=R at *;generalize aK .fz Ds=X at *;generalize ai (Ds.map λd=>(d.1:Int))=Y at *;generalize gg n gs=Z at *;generalize iN .ow []=W0 at *;generalize iN .ow A=W1 at *;simp[mk_eq,EZ,e1,e2,mX,RV,mR,o1,o2,hf,k1,k2,s1]
theorem DY(l:aa):HT.lexLt l l=false:=by
 cases q:HT.lexLt l l with
 |false=>rfl
 |true=>rw[kz _ _ q]at q;cases q
theorem zF{l:aw}(h:sX l):l.Nodup:=List.Pairwise.imp (λ{a b} x e=>by subst e;rw[DY]at x;cases x) h
noncomputable def iX:Int->List Dw->Int
 |c,[]=>c
 |c,d::Ds=>iX (c*(d.2.length:Int)) Ds
theorem wO:∀(Ds pre:List Dw) (c:Int),lE (pre++Ds) c ((List.range' pre.length Ds.length).map λ(k:Nat)=>(k:Int))=iX c Ds
 |[],pre,c=>rfl
 |d::Ds,pre,c=>by
  rw[List.length_cons,List.range'_succ,List.map_cons,lE,iX];have e:(pre++d::Ds).getD ((pre.length:Int)).toNat (0,[])=d:=by simp
  rw[e];have ih:=wO Ds (pre++[d]) (c*(d.2.length:Int));rw[List.append_assoc,List.singleton_append,List.length_append,List.length_singleton]at ih;exact ih
structure Fs(Ds:List Dw):Prop where
 l1:1<=Ds.length
 l4:Ds.length<=4
 dr:∀d∈Ds,Dr 6 d.1 d.2
 ux:∀d∈Ds,d.2.length<=5
 Xr:cC Ds<=12
 UL:iX 1 Ds<=500
theorem HM:∀{LL:List (ag)} {c:Nat},(∀rs∈LL,rs.length<=5)->c*5 ^ LL.length<=1000->DP c LL
 |[],_,_,_=>trivial
 |rs::LL,c,h,hc=>by
  rw[List.length_cons,Nat.pow_succ]at hc;have h5:=h rs aaf;have h1:1<=5 ^ LL.length:=Nat.one_le_pow _ _ (by decide);have h2:c*rs.length<=c*5:=ab8 _ h5;have h3:c*rs.length*5 ^ LL.length<=c*5*5 ^ LL.length:=Nat.mul_le_mul_right _ h2;have e:c*(5 ^ LL.length*5)=c*5*5 ^ LL.length:=by rw[Nat.mul_comm (5 ^ LL.length) 5,Nat.mul_assoc]
  refine⟨?_,HM (λx hx=>h x (aae _ hx)) (by left)⟩;have:c*5<=c*5*5 ^ LL.length:=Nat.le_mul_of_pos_right _ h1;left
theorem sM:∀{LL:List (ag)} {C:ag},(∀rs∈LL,rs.length<=5)->(qx C LL).length<=C.length*5 ^ LL.length
 |[],_,_=>by simp[qx]
 |rs::LL,C,h=>by
  have ih:=sM (LL:=LL) (C:=bH C rs) λx hx=>h x (aae _ hx);rw[kG]at ih;refine aaz ih ?_;rw[List.length_cons,Nat.pow_succ,Nat.mul_comm (5 ^ LL.length) 5,<- Nat.mul_assoc];exact Nat.mul_le_mul_right _ (ab8 _ (h rs aaf))
theorem rG(LL:List (ag)):cU LL (ki (LL.length:Int))=LL:=by
 unfold cU ki;rw[Int.toNat_natCast,List.map_map];refine abH λi=>?_;rw[List.getElem?_map];by_cases h:i<LL.length
 ·rw[List.getElem?_range h,List.getElem?_eq_getElem h];show some (LL.getD ((i:Int)).toNat [])=_;simp[h]
 ·rw[List.getElem?_eq_none (by simp;left),List.getElem?_eq_none (by left)];rfl
theorem rF{rows:ag}(h:(rows.map (·.2)).Nodup)(l:aa):(cH rows l).length<=1:=by
 induction rows with
 |nil=>simp[cH]
 |cons r rows ih =>
  obtain⟨h1,h2⟩:=List.nodup_cons.mp h;have ih:=ih h2;unfold cH at *;rw[List.filter_cons];split
  ·rename_i e;have e:=aac e;have:rows.filter (λr=>decide (r.2=l))=[]:=by
    rw[List.filter_eq_nil_iff];intro x hx z;exact h1 (by show r.2∈rows.map (·.2);rw[e,<- of_decide_eq_true z];exact aaA hx)
   rw[this];simp
  ·exact ih
def dW(Ds:List Dw):ag:=qx [(1,[])] (cg 0 Ds)
section
variable {Ds:List Dw}(K:Fs Ds)
include K
theorem Fs.Lx:∀rs∈cg 0 Ds,ou 6 12 rs/\rs.length<=5:=λrs wb=>by
 obtain⟨d,hd,b,rfl⟩:=BS wb;have I:=K.dr d hd;refine⟨λr hr=>?_,by rw[List.length_map];exact K.ux d hd⟩;obtain⟨s,hs,rfl⟩:=List.mem_map.mp hr;refine⟨I.sm s hs,?_⟩;have:=(I.lot s hs).len;have:=I.n2;show(iC b s.2).length<=12;unfold iC;rw[List.length_map];left
theorem Fs.nd:((dW Ds).map (·.2)).Nodup/\∀m∈dW Ds,Kt (cC Ds) m.2:=by
 have:=w6 (a:=0) (Ds:=Ds) λd hd=>⟨zF (K.dr d hd).rise,λr hr=>((K.dr d hd).lot r hr).2⟩
 rw[Int.zero_add]at this;exact Kc this (c:=[(1,[])]) (aa_ _) (by simp) λm hm=>by rw[List.mem_singleton.mp hm];exact λ_ h=>nomatch h
theorem Fs.len:(dW Ds).length<=625:=by
 have h:=sM (LL:=cg 0 Ds) (C:=[(1,[])]) λrs wb=>(K.Lx rs wb).2;rw[eu,List.length_singleton,Nat.one_mul]at h;exact aaz h (aay (by decide) K.l4)
theorem Fs.sm:ou 30 48 (dW Ds):=λr hr=>by
 have h:=Kb (k:=1) (l:=0) (i:=6) (j:=12) (c:=[((1:Rat),[])]) (LL:=cg 0 Ds) (λr hr=>by rw[List.mem_singleton.mp hr];exact⟨by constructor<;>decide,aak _⟩) (λrs wb=>(K.Lx rs wb).1) r hr;rw[eu]at h;have:=K.l4;exact⟨h.1.mono (by left),by left⟩
end
noncomputable def JO:CE:=.tup [(.bf .len [(.v 0)]),(.lst [(.tup [(.tup [(.int 1),(.int 1)]),(.cF 1046 [(.bf .len [(.v 0)])])])])]
def EW:aj:=[.ex (.call 96 [(.v 0)]),.asg (.nm 1) JO,.ex (.call 98 [(.v 1),(.v 0)]),.ret (.call 102 [(.v 1),(.v 0)])]
def Pa(m:aG):Prop:=∀Ds,Fs Ds->m [.lst .fz (aK .fz Ds)]=ok (.tup [.int (cC Ds),.lst .ow (aN (gM (dW Ds)))])
theorem Rg(Φ:a_)(YN:Pg (Φ 96))(YM:Pj (Φ 98))(Uc:Pd (Φ 102))(Og:Φ 1046=L3):Pa (mk Φ 1 2 EW):=by
 intro Ds K;have l1:=K.l1;have l4:=K.l4;have e1:=YN Ds l1 l4 λd hd=>⟨6,K.dr d hd⟩
 have X4:ki (Ds.length:Int)=(List.range' 0 Ds.length).map λ(k:Nat)=>(k:Int):=by unfold ki;rw[Int.toNat_natCast,List.range_eq_range']
 have NT:∀g∈ki (Ds.length:Int),0<=g/\g<(Ds.length:Int):=λg hg=>by
  obtain⟨k,hk,rfl⟩:=List.mem_map.mp hg;have:=List.mem_range.mp hk;left
 have hlen:(ki (Ds.length:Int)).length=Ds.length:=by unfold ki;simp
 have A9:allR (cg 0 Ds) [(1,ki (Ds.length:Int))]=dW Ds:=by
  unfold allR dW;rw[List.flatMap_cons,List.flatMap_nil,List.append_nil];have:=rG (cg 0 Ds);rw[eu]at this;show qx [(1,[])] (cU (cg 0 Ds) (ki (Ds.length:Int)))=_;rw[this]
 have SG:Sm 6 (1:Rat):=Sm.mono (k:=1) (by constructor<;>decide) (by decide);have e2:=YM Ds.length [(1,ki (Ds.length:Int))] Ds (by simp) (by left) (λd hd=>by have:=K.ux d hd;left) (λr hr g hg=>by rw[List.mem_singleton.mp hr]at hg;exact NT g hg) K.Xr (by
  unfold EM;rw[List.map_singleton,List.sum_singleton];show lE Ds 1 (ki (Ds.length:Int))<=500;rw[X4];have:=wO Ds [] 1;rw[List.nil_append,List.length_nil]at this;rw[this];exact K.UL)
 have K8:DP 1 (cg 0 Ds):=HM (λrs wb=>(K.Lx rs wb).2) (by
  rw[eu,Nat.one_mul];exact aaz (aay (by decide) l4) (by decide))
 have e3:=Uc Ds.length [(1,ki (Ds.length:Int))] Ds ⟨λr hr g hg=>by rw[List.mem_singleton.mp hr]at hg;rw[eu];exact NT g hg,λr hr=>by rw[List.mem_singleton.mp hr];exact⟨SG,by show(ki (Ds.length:Int)).length<=12;left⟩,λr hr=>by
   rw[List.mem_singleton.mp hr];have:=rG (cg 0 Ds);rw[eu]at this;show DP 1 (cU (cg 0 Ds) (ki (Ds.length:Int)));rw[this];exact K8,λrs wb=>⟨(K.Lx rs wb).1,by have:=(K.Lx rs wb).2;left⟩,by rw[A9];have:=K.len;left⟩ (by left) (λd hd=>⟨by have:=K.ux d hd;left,λr hr=>by have:=((K.dr d hd).lot r hr).len;have:=(K.dr d hd).n2;left⟩) (λl=>by
   rw[A9];have h1:=rF K.nd.1 l;refine⟨30,λq hq=>?_,by left,by left⟩;obtain⟨r,hr,rfl⟩:=List.mem_map.mp hq;exact(K.sm r (List.mem_filter.mp hr).1).1)
 rw[A9]at e3;have ed:gg Ds.length [(1,ki (Ds.length:Int))]=.tup [.int Ds.length,.lst .fz [.tup [qD 1,.tup (ai (ki (Ds.length:Int)))]]]:=rfl;rw[ed]at e2 e3;have et:Φ 1046 [.int (Ds.length:Int)]=ok (.tup (ai (ki (Ds.length:Int)))):=by
  rw[Og];show(if (Ds.length:Int)<=(ck:Int) /\ -(ck:Int)<=(Ds.length:Int)then ok (D.tup ((ki (Ds.length:Int)).map D.int))else none)=_;have:(ck:Int)=1000000:=rfl;rw[if_pos (by left)];rfl
 have oq:D.tup [.int 1,.int 1]=qD 1:=rfl;have hl:=lX .fz Ds;have mX:aC bo (aK .fz Ds)=aK .fz Ds:=by rw[ba];rfl
 have RV:aC bp (aK .fz Ds)=aK .fz Ds:=by rw[ba];rfl
 generalize aK .fz Ds=X at *;have mY:aC gv (aN (gM (dW Ds)))=aN (gM (dW Ds)):=b_ _ _;have oY:aQ bL (aN (gM (dW Ds)))=false:=fZ _ _;generalize aN (gM (dW Ds))=Y at *;generalize ki (Ds.length:Int)=U at *;simp[mk_eq,EW,KY Φ JO _ rfl,JO,mX,RV,mY,oY,e1,hl,et,oq,e2,e3]
structure Tn(P:aa->Prop)(j:Nat)(cs:aw)(ws:aa):Prop where
 nd:cs.Nodup
 ln:cs.length=ws.length
 ux:cs.length<=j
 lot:∀c∈cs,P c
 pos:∀w∈ws,1<=w/\w<=9
 ne:1<=j->cs≠[]
theorem rb{α:Type}{c:aa}{v:α}:∀{cs:aw} {ws:List α},cs.length=ws.length->(setC cs ws c v).length=ws.length
 |[],[],_=>rfl
 |[],_::_,h=>by simp at h
 |_::_,[],h=>by simp at h
 |c'::cs,w::ws,h=>by
  show((if c'=c then v else w)::setC cs ws c v).length=_;rw[List.length_cons,rb (by simpa using h),List.length_cons]
theorem Tn.put{P:aa->Prop}{j:Nat}(T:Tn P j cs ws){c:aa}(hc:P c){i:Int}(h1:1<=i)(h9:i<=9):Tn P (j+1) (aS cs c) (bz cs ws c i):=by
 have hf:=T.ux;by_cases h:c∈cs
 ·unfold aS bz;rw[if_pos h,if_pos h];refine⟨T.nd,by rw[rb T.ln];exact T.ln,by left,T.lot,λw hw=>?_,λ_ z=>by rw[z]at h;cases h⟩;rcases mG hw with hw|rfl
  ·exact T.pos w hw
  ·left
 ·unfold aS bz;rw[if_neg h,if_neg h];refine⟨?_,by rw[List.length_append,List.length_append,T.ln];rfl,by rw[List.length_append,List.length_singleton];left,λd hd=>?_,λw hw=>?_,λ_ z=>by simp at z⟩
  ·refine List.nodup_append.mpr ⟨T.nd,List.nodup_cons.mpr ⟨acm,aaW⟩,λa ha b hb e=>?_⟩;rw[List.mem_singleton.mp hb]at e;exact h (e▸ha)
  ·rcases List.mem_append.mp hd with hd|hd
   ·exact T.lot d hd
   ·rw[List.mem_singleton.mp hd];exact hc
  ·rcases List.mem_append.mp hw with hw|hw
   ·exact T.pos w hw
   ·rw[List.mem_singleton.mp hw];left
theorem Mj:∀{l:aa},(∀x∈l,1<=x/\x<=9)->0<=l.sum/\l.sum<=9*l.length/\∀x∈l,x<=l.sum
 |[],_=>⟨aa_ _,by simp,λ_ h=>nomatch h⟩
 |a::l,h=>by
  obtain⟨i1,i2,i3⟩:=Mj λx hx=>h x (aae _ hx);have ha:=h a aaf;rw[List.sum_cons,List.length_cons];refine⟨by left,by left,λx hx=>?_⟩;rcases List.mem_cons.mp hx with rfl|hx
  ·left
  ·have:=i3 x hx;left
theorem Tn.dr{P:aa->Prop}{n j:Nat}(T:Tn P j cs ws)(h1:1<=j)(h5:j<=5)(n1:1<=n)(n2:n<=12):Dp P 6 n (iO cs ws)/\(iO cs ws).length=cs.length/\1<=ws.sum/\ws.sum<=45:=by
 have hp:(bq cs).Perm cs:=aaE _ _;have hl:(iO cs ws).length=cs.length:=by unfold iO;rw[List.length_map];exact hp.length_eq
 have hf:=T.ux;have tq:=T.ln;obtain⟨s0,s1,s2⟩:=Mj T.pos;have val:∀c∈bq cs,1<=dN cs ws c/\dN cs ws c<=ws.sum:=λc hc=>by
  obtain⟨w,e,m⟩:=lU T.ln (hp.mem_iff.mp hc);unfold dN;rw[e];exact⟨(T.pos w m).1,s2 w m⟩
 have hW:1<=ws.sum:=by
  obtain⟨c,hc⟩:=List.exists_mem_of_ne_nil cs (T.ne h1);have:=val c (hp.mem_iff.mpr hc);left
 have T3:ws.sum<=45:=by left
 have Qe:∀r∈iO cs ws,Sm 6 r.1:=λr hr=>by
  obtain⟨c,hc,rfl⟩:=List.mem_map.mp hr;have:=val c hc;exact Mp (by left) (by show _<64;left) (by show _<64;left)
 refine⟨⟨n1,n2,⟨ws.sum.natAbs,by left,?_,λr hr=>?_⟩,by rw[hl];left,λr hr=>?_,λr hr=>?_,Qe,?_,?_,6,⟨λq hq=>?_,by unfold iR;rw[List.length_map,hl];left,by unfold iR;rw[List.length_map,hl];left⟩⟩,hl,hW,T3⟩
 ·have:(46:Nat)<2 ^ 250:=by decide
  left
 ·obtain⟨c,hc,rfl⟩:=List.mem_map.mp hr;exact uE (by left)
 ·obtain⟨c,hc,rfl⟩:=List.mem_map.mp hr;exact T.lot c (hp.mem_iff.mp hc)
 ·obtain⟨c,hc,rfl⟩:=List.mem_map.mp hr;exact uD (by have:=val c hc;left) (by left)
 ·have e:(iO cs ws).map (·.1)=(bq cs).map λc=>Rat.divInt (dN cs ws c) ws.sum:=by
   unfold iO;rw[List.map_map];rfl
  rw[e];have e2:((bq cs).map λc=>Rat.divInt (dN cs ws c) ws.sum).sum=(cs.map λc=>Rat.divInt (dN cs ws c) ws.sum).sum:=zY (hp.map _);have e3:(cs.map λc=>Rat.divInt (dN cs ws c) ws.sum)=(cs.map (dN cs ws)).map λx=>Rat.divInt x ws.sum:=by rw[List.map_map];rfl
  rw[e2,e3,rQ T.nd T.ln,vm _ (by left),Rat.divInt_eq_div];have z:((ws.sum:Int):Rat)≠0:=λz=>by rw[Rat.intCast_eq_zero_iff]at z;left
  grind
 ·have e:(iO cs ws).map (·.2)=bq cs:=by
   unfold iO;rw[List.map_map];exact(aaL λ_ _=>rfl).trans (List.map_id _)
  rw[e];exact jd T.nd
 ·obtain⟨r,hr,rfl⟩:=List.mem_map.mp hq;exact Qe r hr
noncomputable def wI:CE:=.comp 1 (.nm 0) [0] .lM [(.v 2)] [(.cmp .eq (.bin .mod (.bin .fdiv (.v 1) (.bin .shl (.int 1) (.v 0))) (.int 2)) (.int 1))] (.v 0)
def CW:aj:=[.asg (.nm 6) (.bf .tuple1 [wI]),.asg (.nm 0) (.bin .fdiv (.v 0) (.bin .shl (.int 1) (.v 2))),.mut 1033 4 [(.bin .add (.int 1) (.bin .mod (.v 0) (.int 9))),(.v 6)],.asg (.nm 0) (.bin .fdiv (.v 0) (.int 9))]
noncomputable def Bt:CE:=.comp 1 (.nm 0) [7,4] .seq [(.cF 1035 [(.v 4)])] [] (.tup [(.call 201 [(.cF 1032 [(.v 2),(.v 0)]),(.v 1)]),(.v 0)])
def EY:aj:=[.asg (.nm 2) (.bin .add (.int 1) (.bin .mod (.v 0) (.v 1))),.asg (.nm 3) (.bin .add (.int 1) (.bin .mod (.bin .fdiv (.v 0) (.v 1)) (.int 5))),.asg (.nm 0) (.bin .fdiv (.v 0) (.bin .mul (.int 5) (.v 1))),.asg (.nm 4) (.cF 1030 []),.fr (.nm 5) (.lM (.v 3)) CW,.asg (.nm 7) (.cF 1038 [(.v 4)]),.ret (.tup [(.v 2),Bt])]
theorem BU{k:Nat}(hk:k<=12):cD .shl (.int 1) (.int (k:Int))=ok (.int ((2 ^ k:Nat):Int)):=by
 rw[OV (by
  unfold jO;simp only[Bool.and_eq_true,decide_eq_true_eq];exact⟨⟨by left,by left⟩,by decide⟩),Int.toNat_natCast,Int.one_mul]
 simp
theorem Gq(N:Int){k:Nat}(hk:k<=12):cD .fdiv (.int N) (.int ((2 ^ k:Nat):Int))=ok (.int (N.fdiv ((2 ^ k:Nat):Int))):=by
 have h1:1<=2 ^ k:=Nat.one_le_two_pow;have h2:2 ^ k<=2 ^ 12:=aay (by decide) hk;refine jn (ff (by left) (mQ ?_));rw[Int.natAbs_natCast];have:(2:Nat) ^ 12<2 ^ 64:=by decide
 left
theorem Ic(Φ:a_){n:Nat}(hn:n<=12)(N:Int)(c1:aE)(r:bh):∃lot,tE n lot/\bx Φ wI (some (.int N)::c1::some (.int n)::r)=ok (.lst .ow (ai lot)):=by
 refine⟨_,RW n λ(k:Nat)=>decide ((N.fdiv ((2 ^ k:Nat):Int)).fmod 2=1),?_⟩;unfold wI;rw[cc (xs:=[.int n]) (ds:=((List.range n).filter λ(k:Nat)=>decide ((N.fdiv ((2 ^ k:Nat):Int)).fmod 2=1)).map λ(k:Nat)=>D.int (k:Int)) (by simp) (D2 Φ (by left) (by left)) ?_ ?_]
 ·simp[bg,ai]
 ·rw[Int.toNat_natCast];refine ie λk hk=>⟨[some (.int k),some (.int N)],by simp[bC],?_,λ_=>by simp⟩
  have Eb:=List.mem_range.mp hk;have e1:=BU (k:=k) (by left);have e2:=Gq N (k:=k) (by left);generalize (N.fdiv ((2 ^ k:Nat):Int))=M at *;generalize ((2 ^ k:Nat):Int)=W at *;simp[e1,e2]
 ·have:=List.length_filter_le (λ(k:Nat)=>decide ((N.fdiv ((2 ^ k:Nat):Int)).fmod 2=1)) (List.range n);simp only[List.length_map,List.length_range]at this ⊢;exact bT (by left)
theorem vU(Φ:a_)(P:B8 Φ){n:Nat}(hn:n<=12)(c1 c3 c7:aE):∀(ks:ae) (j:Nat) (N:Int) (cs:aw) (ws:aa) (c5 c6:aE),Tn (tE n) j cs ws->j+ks.length<=5 ->
  ∃Gk Po Zi uQ uP,cR (λd ρ=>bV (.nm 5) d ρ) (λρ=>bX Φ CW ρ) ks [some (.int N),c1,some (.int n),c3,some (.bS .ow cs (ai ws)),c5,c6,c7]=ok (.nx,[Zi,c1,some (.int n),c3,some (.bS .ow Gk (ai Po)),uQ,uP,c7])/\Tn (tE n) (j+ks.length) Gk Po
 |[],j,N,cs,ws,c5,c6,T,_=>⟨cs,ws,some (.int N),c5,c6,rfl,T⟩
 |k::ks,j,N,cs,ws,c5,c6,T,hj=>by
  rw[List.length_cons]at hj;obtain⟨lot,hl,e1⟩:=Ic Φ hn N c1 [c3,some (.bS .ow cs (ai ws)),some k,c6,c7];have e2:=BU hn;have e3:=Gq N hn;generalize N.fdiv ((2 ^ n:Nat):Int)=M at *;obtain⟨a1,a2⟩:=iI M (b:=9) (by decide);have hf:=T.ux;have e4:=JX P (cs:=cs) (by left) ws lot (1+M.fmod 9);have T':=T.put hl (i:=1+M.fmod 9) (by left) (by left);obtain⟨Gk,Po,d0,d5,d6,ih,Zn⟩:=vU Φ P hn c1 c3 c7 ks (j+1) (M.fdiv 9) _ _ (some k) (some (.tup (ai lot))) T' (by left);have x1:=mi (Φ:=Φ) (p:=1033) (i:=4) (es:=[(.bin .add (.int 1) (.bin .mod (.v 0) (.int 9))),(.v 6)]) (ρ:=[some (.int M),c1,some (.int n),c3,some (.bS .ow cs (ai ws)),some k,some (.tup (ai lot)),c7]) (xs:=[.int (1+M.fmod 9),.tup (ai lot)]) (by simp) (by simp) rfl e4;simp only[List.set]at x1;refine⟨Gk,Po,d0,d5,d6,b8 (ρ1:=[some (.int N),c1,some (.int n),c3,some (.bS .ow cs (ai ws)),some k,c6,c7]) (by simp) (ρ2:=[some (.int (M.fdiv 9)),c1,some (.int n),c3,some (.bS .ow (aS cs lot) (ai (bz cs ws lot (1+M.fmod 9)))),some k,some (.tup (ai lot)),c7]) ?_ ih,by rw[List.length_cons,show j+(ks.length+1)=j+1+ks.length by left];exact Zn⟩;generalize ((2 ^ n:Nat):Int)=W at *;simp[CW,KY Φ wI _ rfl,e1,e2,e3,x1]
theorem Ra(Ba:Φ 1038=Ky)(f:Fl)(cs:aw)(ws:aa):Φ 1038 [.bS f cs (ai ws)]=ok (.int ws.sum):=by
 rw[Ba];show(match intsOf (ws.map D.int)with|some ns=>ok (D.int ns.sum)|none=>none)=_;rw[bM]
def Ko(m:aG):Prop:=∀(N:Int) (p:Nat),1<=p->p<=12->∃d:Dw,m [.int N,.int p]=ok (dy .ow d)/\Dr 6 d.1 d.2/\d.2.length<=5/\1<=d.2.length/\d.1<=p
theorem Rj(Φ:a_)(P:B8 Φ)(T_:l_ (Φ 201))(Ba:Φ 1038=Ky):Ko (mk Φ 2 8 EY):=by
 intro N p p1 p2;obtain⟨f1,f2⟩:=iI N (b:=(p:Int)) (by left);obtain⟨n,hn⟩:∃n:Nat,1+N.fmod p=(n:Int):=⟨(1+N.fmod p).toNat,by left⟩
 obtain⟨g1,g2⟩:=iI (N.fdiv p) (b:=5) (by decide);obtain⟨k,hk⟩:∃k:Nat,1+(N.fdiv p).fmod 5=(k:Int):=⟨(1+(N.fdiv p).fmod 5).toNat,by left⟩
 have T0:Tn (tE n) 0 [] []:=⟨aaW,rfl,aak _,(λ_ h=>nomatch h),(λ_ h=>nomatch h),λh=>by left⟩
 obtain⟨cs,ws,c0,c5,c6,el,T⟩:=vU Φ P (n:=n) (by left) (some (.int p)) (some (.int k)) none ((List.range k).map λ(i:Nat)=>D.int (i:Int)) 0 (N.fdiv (5*p)) [] [] none none T0 (by simp;left);rw[List.length_map,List.length_range,Nat.zero_add]at T;obtain⟨D6,hl,w1,ZN⟩:=T.dr (n:=n) (by left) (by left) (by left) (by left);have x_:=T.ne (by left);have Lf:1<=cs.length:=List.length_pos_iff.mpr x_;have hfew:=T.ux;have hm:cD .mod (.int N) (.int p)=ok (.int (N.fmod p)):=OW (by left);have hd:cD .fdiv (.int N) (.int p)=ok (.int (N.fdiv p)):=jn (ff (by left) (mQ (by left)));have Yy:cD .fdiv (.int N) (.int (5*(p:Int)))=ok (.int (N.fdiv (5*p))):=jn (ff (by left) (mQ (by left)));have Yj:cD .mul (.int 5) (.int (p:Int))=ok (.int (5*(p:Int))):=w9 (by left);have D_:Φ 1030 []=ok (.bS .ow [] (ai [])):=by rw[P.wt];rfl
 have hit:bO Φ (.lM (.v 3)) [some (.int (N.fdiv (5*p))),some (.int p),some (.int n),some (.int k),some (.bS .ow [] (ai [])),none,none,none]=ok ((List.range k).map λ(i:Nat)=>D.int (i:Int),[some (.int (N.fdiv (5*p))),some (.int p),some (.int n),some (.int k),some (.bS .ow [] (ai [])),none,none,none]):=by
  rw[Nx (n:=k) (by simp) (by left) (by left),Int.toNat_natCast]
 have hf:=dz (Φ:=Φ) (t:=.nm 5) (b:=CW) hit el;have hp:(bq cs).Perm cs:=aaE _ _;have X9:=λf=>Ra Ba f cs ws;have er:bx Φ Bt [c0,some (.int p),some (.int n),some (.int k),some (.bS .ow cs (ai ws)),c5,c6,some (.int ws.sum)]=ok (.lst .ow (aN (iO cs ws))):=by
  unfold Bt;rw[cc (xs:=[.lst .ow ((bq cs).map dH)]) (items:=(bq cs).map dH) (ds:=aN (iO cs ws)) (by simp[ze P _ _ (show cs.length<1000 by left)]) (by rw[cO,fD]) ?_ (by rw[fB,hl];exact bT (by left))]
  ·rw[b_]
  ·unfold aN iO;rw[List.map_map];refine bJ λc hc=>?_;have yQ:c∈cs:=hp.mem_iff.mp hc;have d1:=λf=>OF P f T.ln yQ;have f1:=T_ (dN cs ws c) ws.sum (by left) (mQ (by left));have m1:aY bo (dH c)=.tup (ai c):=by show D.tup (aC bo (c.map D.int))=_;rw[gu];rfl
   refine⟨[some (dH c),some (.int ws.sum),some (.bS .fz cs (ai ws))],by simp[bC],by simp,?_⟩;simp[m1,d1,f1];rfl
 refine⟨(n,iO cs ws),?_,D6,by show(iO cs ws).length<=5;left,by show 1<=(iO cs ws).length;left,by show n<=p;left⟩;simp only[x3]at hf D_;generalize iO cs ws=R at *;show _=ok (D.tup [.int n,.lst .ow (aN R)]);simp[mk_eq,EY,hm,hn,hd,hk,Yj,Yy,D_,hf,X9,er]
def Gw(m:aG):Prop:=∀d:Dw,m [dy .fz d]=ok (dy .ow d)
noncomputable def xc:aj:=[.ret (.tup [(.ix (.v 0) (.int 0)),(.bf .list1 [(.ix (.v 0) (.int 1))])])]
theorem Mw(Φ:a_):Gw (mk Φ 1 1 xc):=by
 intro d;show _=ok (D.tup [.int d.1,.lst .ow (aN d.2)]);rw[show dy .fz d=.tup [.int d.1,.lst .fz (aN d.2)] from rfl];simp[mk_eq,xc]
noncomputable def Bs:CE:=.comp 1 (.nm 0) [] .seq [(.ix (.v 2) (.int 1))] [(.or [(.not (.jV (.v 0) .int)),(.jV (.v 0) .bool)])] (.v 0)
def CV:aj:=[.ifs (.or [(.not (.jV (.v 2) .tuple)),(.not (.call 204 [(.ix (.v 2) (.int 0))])),(.not (.jV (.ix (.v 2) (.int 1)) .tuple))]) [.ret (.bl false)] [],.ifs (.cmp .gt (.bf .len [Bs]) (.int 0)) [.ret (.bl false)] []]
def EX:aj:=[.ifs (.or [(.not (.jV (.v 0) .tuple)),(.cmp .ne (.v 0) (.v 1)),(.jV (.ix (.v 0) (.int 0)) .bool),(.not (.jV (.ix (.v 0) (.int 1)) .list))]) [.ret (.bl false)] [],.fr (.nm 2) (.seq (.ix (.v 0) (.int 1))) CV,.ret (.bl true)]
def Pc(m:aG):Prop:=∀(n:Int) (rs:ag),m [.tup [.int n,.lst .fz (aN rs)],.tup [.int n,.lst .fz (aN rs)]]=ok (.bl true)
theorem vT(Φ:a_)(Em:BZ (Φ 204))(c0 c1:aE):∀(rs:ag) (c2:aE),∃Kg,cR (λd ρ=>bV (.nm 2) d ρ) (λρ=>bX Φ CV ρ) (aN rs) [c0,c1,c2]=ok (.nx,[c0,c1,Kg])
 |[],c2=>⟨c2,rfl⟩
 |r::rs,c2=>by
  obtain⟨Kg,ih⟩:=vT Φ Em c0 c1 rs (some (rD r));have e1:=Em r.1;have e2:bx Φ Bs [c0,c1,some (rD r)]=ok (.lst .ow []):=by
   unfold Bs;rw[cc (xs:=[.tup (ai r.2)]) (items:=r.2.map D.int) (ds:=(r.2.filter λ_=>false).map D.int) (by simp[AF]) (by rw[iG];simp;rfl) (ie (t:=λ_=>false) λh _=>⟨[some (.int h)],by simp[bC],by simp[cP],λz=>by cases z⟩) (by rw[show(r.2.filter λ_=>false)=[] by simp];exact Nat.zero_le _)];simp
  have ty:cP .tuple (rD r)=true:=rfl;refine⟨Kg,b8 (ρ1:=[c0,c1,some (rD r)]) (by simp) (ρ2:=[c0,c1,some (rD r)]) ?_ ih⟩;have LW:∀ds,cP .tuple (.tup ds)=true:=λ_=>rfl;simp[CV,ty,LW,F0,AF,e1,e2]
theorem Ri(Φ:a_)(Em:BZ (Φ 204)):Pc (mk Φ 2 3 EX):=by
 intro n rs;obtain⟨c2,el⟩:=vT Φ Em (some (.tup [.int n,.lst .fz (aN rs)])) (some (.tup [.int n,.lst .fz (aN rs)])) rs none;have Ec:bx Φ (.ix (.v 0) (.int 1)) [some (.tup [.int n,.lst .fz (aN rs)]),some (.tup [.int n,.lst .fz (aN rs)]),none]=ok (.lst .fz (aN rs)):=by simp
 have hit:bO Φ (.seq (.ix (.v 0) (.int 1))) [some (.tup [.int n,.lst .fz (aN rs)]),some (.tup [.int n,.lst .fz (aN rs)]),none]=ok (aN rs,[some (.tup [.int n,.lst .fz (aN rs)]),some (.tup [.int n,.lst .fz (aN rs)]),none]):=by
  rw[jT Ec];simp
 have hf:=dz (Φ:=Φ) (t:=.nm 2) (b:=CV) hit el;have Vr:di 40 (.tup [.int n,.lst .fz (aN rs)])=true:=by
  have:(aN rs).all (di 38)=true:=jP (λr=>FT 36 r) rs;simp[this]
 have c1:gO .ne (.tup [.int n,.lst .fz (aN rs)]) (.tup [.int n,.lst .fz (aN rs)])=ok (.bl false):=by
  rw[Ke Vr Vr,wH,dO,dO,lW,wG];simp
 have LW:∀ds,cP .tuple (.tup ds)=true:=λ_=>rfl;have W2:∀f ds,cP .list (.lst f ds)=true:=λ_ _=>rfl;have WZ:∀i,cP .bool (.int i)=false:=λ_=>rfl;simp[mk_eq,EX,LW,W2,WZ,c1,hf]
noncomputable def Bv:CE:=.comp 1 (.nm 0) [2] .seq [(.v 9)] [] (.bin .add (.v 0) (.v 1))
def vd:aj:=[.app 5 (.tup [(.call 203 [(.v 6),(.v 8)]),(.bin .add (.v 7) (.bf .tuple1 [Bv]))])]
def vf:aj:=[.fr (.tp [8,9]) (.seq (.v 4)) vd]
def qS:aj:=[.asg (.nm 5) (.lst []),.fr (.tp [6,7]) (.seq (.v 1)) vf,.asg (.nm 1) (.v 5),.asg (.nm 2) (.bin .add (.v 2) (.v 3))]
noncomputable def vg:aj:=[.mut 1033 10 [(.v 6),(.v 7)]]
noncomputable def JP:CE:=.comp 1 (.nm 0) [10] .seq [(.cF 1035 [(.v 10)])] [] (.tup [(.cF 1032 [(.v 1),(.v 0)]),(.v 0)])
def E_:aj:=[.asg (.nm 1) (.lst [(.tup [(.tup [(.int 1),(.int 1)]),(.tup [])])]),.asg (.nm 2) (.int 0),.fr (.tp [3,4]) (.seq (.v 0)) qS,.asg (.nm 10) (.cF 1030 []),.fr (.tp [6,7]) (.seq (.v 1)) vg,.ret (.tup [(.v 2),JP])]
def pG(a:Int)(rs:ag):ag:=rs.map λr=>(r.1,iC a r.2)
theorem sy(Φ:a_)(oh:eT (Φ 203)){k i l j:Nat}(hk:k<=4000)(hi:i<=4000)(F8:l+j<=1000){m:Row}(hm:Sm k m.1/\m.2.length<=l)(a:Int)(c0 c1 c3 c4 k_:aE):∀(rs acc:ag) (c8 c9:aE),ou i j rs->acc.length+rs.length<=900000 ->
  ∃OS OR,cR (λd ρ=>bV (.tp [8,9]) d ρ) (λρ=>bX Φ vd ρ) (aN rs) [c0,c1,some (.int a),c3,c4,some (.lst .ow (aN acc)),some (qD m.1),some (.tup (ai m.2)),c8,c9,k_]=ok (.nx,[c0,c1,some (.int a),c3,c4,some (.lst .ow (aN (acc++k9 m (pG a rs)))),some (qD m.1),some (.tup (ai m.2)),OS,OR,k_])
 |[],acc,c8,c9,_,_=>⟨c8,c9,by simp[aN,fG,k9,pG]⟩
 |r::rs,acc,c8,c9,hr,hl=>by
  rw[List.length_cons]at hl;obtain⟨s1,s2⟩:=hr r aaf;have e1:=oh m.1 r.1 (hm.1.mono hk) (s1.mono hi);have e2:∀c5 k_,bx Φ Bv [c0,c1,some (.int a),c3,c4,c5,some (qD m.1),some (.tup (ai m.2)),some (qD r.1),some (.tup (ai r.2)),k_]=ok (.lst .ow (ai (iC a r.2))):=λc5 k_=>by
   unfold Bv;rw[cc (xs:=[.tup (ai r.2)]) (items:=r.2.map D.int) (ds:=r.2.map λh=>.int (h+a)) (by simp) (by rw[iG];simp;rfl) (bJ λh _=>⟨[some (.int h),some (.int a)],by simp[bC],by simp,by simp⟩) (by simp;exact bT (by left))];simp[bg,ai,iC,Int.add_comm]
  have e3:=BW (a:=m.2) (b:=iC a r.2) (by unfold iC;rw[List.length_map];left);obtain⟨d8,d9,ih⟩:=sy Φ oh hk hi F8 hm a c0 c1 c3 c4 k_ rs (acc++[(m.1*r.1,m.2++iC a r.2)]) (some (qD r.1)) (some (.tup (ai r.2))) (λx hx=>hr x (aae _ hx)) (by simp;left);have ea:acc++k9 m (pG a (r::rs))=acc++[(m.1*r.1,m.2++iC a r.2)]++k9 m (pG a rs):=by simp[k9,pG]
  rw[ea];have eb:aN (acc++[(m.1*r.1,m.2++iC a r.2)])=aN acc++[.tup [qD (m.1*r.1),.tup (ai (m.2++iC a r.2))]]:=by unfold aN;rw[List.map_append];rfl
  have hc:(aN acc).length<ck:=by rw[fB];show _<1000000;left
  refine⟨d8,d9,b8 (ρ1:=[c0,c1,some (.int a),c3,c4,some (.lst .ow (aN acc)),some (qD m.1),some (.tup (ai m.2)),some (qD r.1),some (.tup (ai r.2)),k_]) (by simp[rD]) (ρ2:=[c0,c1,some (.int a),c3,c4,some (.lst .ow (aN (acc++[(m.1*r.1,m.2++iC a r.2)]))),some (qD m.1),some (.tup (ai m.2)),some (qD r.1),some (.tup (ai r.2)),k_]) ?_ ih⟩;rw[eb];generalize aN acc=X at *;generalize iC a r.2=U at *;simp[vd,e1,e2,e3,hc]
theorem sA(Φ:a_)(oh:eT (Φ 203)){k i l j:Nat}(hk:k<=4000)(hi:i<=4000)(F8:l+j<=1000){rs:ag}(hr:ou i j rs)(hl:rs.length<=1000)(a:Int)(c0 c1 c3 k_:aE):∀(C acc:ag) (c6 c7 c8 c9:aE),ou k l C->acc.length+C.length*rs.length<=900000 ->
  ∃uP BR OS OR,cR (λd ρ=>bV (.tp [6,7]) d ρ) (λρ=>bX Φ vf ρ) (aN C) [c0,c1,some (.int a),c3,some (.lst .fz (aN rs)),some (.lst .ow (aN acc)),c6,c7,c8,c9,k_]=ok (.nx,[c0,c1,some (.int a),c3,some (.lst .fz (aN rs)),some (.lst .ow (aN (acc++bH C (pG a rs)))),uP,BR,OS,OR,k_])
 |[],acc,c6,c7,c8,c9,_,_=>⟨c6,c7,c8,c9,by simp[aN,fG,bH]⟩
 |m::C,acc,c6,c7,c8,c9,hC,hn=>by
  rw[List.length_cons,Nat.add_mul]at hn;obtain⟨d8,d9,e1⟩:=sy Φ oh hk hi F8 (hC m aaf) a c0 c1 c3 (some (.lst .fz (aN rs))) k_ rs acc c8 c9 hr (by left);have lc:(k9 m (pG a rs)).length=rs.length:=by unfold k9 pG;rw[List.length_map,List.length_map]
  obtain⟨f6,f7,f8,f9,ih⟩:=sA Φ oh hk hi F8 hr hl a c0 c1 c3 k_ C (acc++k9 m (pG a rs)) (some (qD m.1)) (some (.tup (ai m.2))) d8 d9 (λx hx=>hC x (aae _ hx)) (by rw[List.length_append,lc];left);have e2:acc++bH (m::C) (pG a rs)=acc++k9 m (pG a rs)++bH C (pG a rs):=by unfold bH k9;rw[List.flatMap_cons,List.append_assoc]
  rw[e2];have hit:bO Φ (.seq (.v 4)) [c0,c1,some (.int a),c3,some (.lst .fz (aN rs)),some (.lst .ow (aN acc)),some (qD m.1),some (.tup (ai m.2)),c8,c9,k_]=ok (aN rs,[c0,c1,some (.int a),c3,some (.lst .fz (aN rs)),some (.lst .ow (aN acc)),some (qD m.1),some (.tup (ai m.2)),c8,c9,k_]):=by
   rw[jT (f:=.fz) (ds:=aN rs) (by simp)];simp
  have hf:=dz (Φ:=Φ) (t:=.tp [8,9]) (b:=vd) hit e1;refine⟨f6,f7,f8,f9,b8 (ρ1:=[c0,c1,some (.int a),c3,some (.lst .fz (aN rs)),some (.lst .ow (aN acc)),some (qD m.1),some (.tup (ai m.2)),c8,c9,k_]) (by simp[rD]) (ρ2:=[c0,c1,some (.int a),c3,some (.lst .fz (aN rs)),some (.lst .ow (aN (acc++k9 m (pG a rs)))),some (qD m.1),some (.tup (ai m.2)),d8,d9,k_]) ?_ ih⟩;rw[vf,eC,hf];rfl
theorem sD(Φ:a_)(oh:eT (Φ 203)){i j:Nat}(hi:i<=4000)(c0 k_:aE):∀(Ds:List Dw) (a:Int) (k l:Nat) (C:ag) (c3 c4 c5 c6 c7 c8 c9:aE),ou k l C->(∀d∈Ds,ou i j d.2/\d.2.length<=1000)->k+Ds.length*i<=4000->l+Ds.length*j<=1000->DP C.length (cg a Ds) ->
  ∃sQ Kf uQ uP BR OS OR,cR (λd ρ=>bV (.tp [3,4]) d ρ) (λρ=>bX Φ qS ρ) (aK .fz Ds) [c0,some (.lst .ow (aN C)),some (.int a),c3,c4,c5,c6,c7,c8,c9,k_]=ok (.nx,[c0,some (.lst .ow (aN (qx C (cg a Ds)))),some (.int (a+cC Ds)),sQ,Kf,uQ,uP,BR,OS,OR,k_])
 |[],a,k,l,C,c3,c4,c5,c6,c7,c8,c9,_,_,_,_,_=>⟨c3,c4,c5,c6,c7,c8,c9,by simp[cC,cg,qx,aK,fG]⟩
 |d::Ds,a,k,l,C,c3,c4,c5,c6,c7,c8,c9,hC,hD,hk,hl,ho=>by
  rw[List.length_cons,Nat.add_mul,Nat.one_mul]at hk hl;obtain⟨g1,g2⟩:=hD d aaf;obtain⟨o1,o2⟩:=ho;rw[List.length_map]at o1 o2;obtain⟨d6,d7,d8,d9,e1⟩:=sA Φ oh (k:=k) (l:=l) (by left) hi (by left) g1 g2 a c0 (some (.lst .fz (aN C))) (some (.int d.1)) k_ C [] c6 c7 c8 c9 hC (by simp;left);rw[List.nil_append]at e1;have Lf:(bH C (pG a d.2)).length=C.length*d.2.length:=by rw[kG];unfold pG;rw[List.length_map]
  have Qe:ou i j (pG a d.2):=λr hr=>by
   obtain⟨s,hs,rfl⟩:=List.mem_map.mp hr;obtain⟨t1,t2⟩:=g1 s hs;exact⟨t1,by show(iC a s.2).length<=j;unfold iC;rw[List.length_map];exact t2⟩
  obtain⟨f3,f4,f5,f6,f7,f8,f9,ih⟩:=sD Φ oh hi c0 k_ Ds (a+d.1) (k+i) (l+j) (bH C (pG a d.2)) (some (.int d.1)) (some (.lst .fz (aN d.2))) none d6 d7 d8 d9 (nB hC Qe) (λx hx=>hD x (aae _ hx)) (by left) (by left) (by rw[Lf];exact o2);have es:a+cC (d::Ds)=a+d.1+cC Ds:=by simp[cC];left
  rw[es];have hit:bO Φ (.seq (.v 1)) [c0,some (.lst .ow (aN C)),some (.int a),some (.int d.1),some (.lst .fz (aN d.2)),some (.lst .ow (aN [])),c6,c7,c8,c9,k_]=ok (aN C,[c0,some (.lst .fz (aN C)),some (.int a),some (.int d.1),some (.lst .fz (aN d.2)),some (.lst .ow (aN [])),c6,c7,c8,c9,k_]):=by
   rw[jT (f:=.al) (ds:=aN C) (by simp)];simp[kC,gQ]
  have hf:=dz (Φ:=Φ) (t:=.tp [6,7]) (b:=vf) hit e1;refine⟨f3,f4,f5,f6,f7,f8,f9,?_⟩;show cR _ _ (.tup [.int d.1,.lst .fz (aN d.2)]::aK .fz Ds) _=_;refine b8 (ρ1:=[c0,some (.lst .ow (aN C)),some (.int a),some (.int d.1),some (.lst .fz (aN d.2)),c5,c6,c7,c8,c9,k_]) (by simp) (ρ2:=[c0,some (.lst .ow (aN (bH C (pG a d.2)))),some (.int (a+d.1)),some (.int d.1),some (.lst .fz (aN d.2)),none,d6,d7,d8,d9,k_]) ?_ ih;have e0:aN []=[]:=rfl;rw[e0]at hf;generalize aN (bH C (pG a d.2))=X at *;simp[qS,hf,bR]
noncomputable def nU(f:Fl)(ks:aw)(S:aa->Rat):D:=.bS f ks (ks.map λk=>qD (S k))
theorem pY(g:Fl->Fl)(f:Fl)(ks:aw)(S:aa->Rat):aY g (nU f ks S)=nU (g f) ks S:=by
 show D.bS (g f) ks (aC g (ks.map λk=>qD (S k)))=_;rw[dJ g λk=>by simp];rfl
theorem Ej(g:Fl->Bool)(f:Fl)(ks:aw)(S:aa->Rat):aT g (nU f ks S)=g f:=by
 show(g f||aQ g (ks.map λk=>qD (S k)))=_;rw[cQ g λk=>by simp,Bool.or_false]
theorem GP(P:B8 Φ)(hl:ks.length<1000)(S:aa->Rat){c:aa}(hc:c∉ks):Φ 1033 [nU .ow ks S,qD (S c),.tup (ai c)]=ok (nU .ow (ks++[c]) S):=by
 rw[P.Bb];show(match keyOf (.tup (ai c))with|some c'=>if bR .ow=true/\aT anyF (qD (S c))=false/\ks.length<ck then ok (D.bS .ow (aS ks c') (bz ks (ks.map λk=>qD (S k)) c' (qD (S c))))else none|none=>none)=_;rw[lQ];show(if bR .ow=true/\aT anyF (qD (S c))=false/\ks.length<ck then ok (D.bS .ow (aS ks c) (bz ks (ks.map λk=>qD (S k)) c (qD (S c))))else none)=_;rw[if_pos ⟨rfl,uv _ _,by show _<1000000;left⟩];unfold aS bz;rw[if_neg hc,if_neg hc];unfold nU;rw[List.map_append];rfl
theorem L4(P:B8 Φ)(f:Fl)(S:aa->Rat){c:aa}(hc:c∈ks):Φ 1032 [nU f ks S,.tup (ai c)]=ok (qD (S c)):=by
 rw[P.Bc];show(match keyOf (.tup (ai c))with|some c=>(match bK ks (ks.map λk=>qD (S k)) c with|some v=>if aT anyF v=false then ok v else none|none=>none)|none=>none)=_;rw[lQ];show(match bK ks (ks.map λk=>qD (S k)) c with|some v=>if aT anyF v=false then ok v else none|none=>none)=_;rw[nh (λk=>qD (S k)),if_pos hc];exact aaN (uv _ _)
theorem sC(Φ:a_)(P:B8 Φ)(S:aa->Rat)(c0 c1 c2 c3 c4 c5 c8 c9:aE):∀(rs pr:ag) (c6 c7:aE),(∀r∈rs,S r.2=r.1)->((pr++rs).map (·.2)).Nodup->pr.length+rs.length<1000 ->
  ∃uP BR,cR (λd ρ=>bV (.tp [6,7]) d ρ) (λρ=>bX Φ vg ρ) (aN rs) [c0,c1,c2,c3,c4,c5,c6,c7,c8,c9,some (nU .ow (pr.map (·.2)) S)]=ok (.nx,[c0,c1,c2,c3,c4,c5,uP,BR,c8,c9,some (nU .ow ((pr++rs).map (·.2)) S)])
 |[],pr,c6,c7,_,_,_=>⟨c6,c7,by simp[aN,fG]⟩
 |r::rs,pr,c6,c7,hS,hn,hl=>by
  rw[List.length_cons]at hl;obtain⟨d6,d7,ih⟩:=sC Φ P S c0 c1 c2 c3 c4 c5 c8 c9 rs (pr++[r]) (some (qD r.1)) (some (.tup (ai r.2))) (λx hx=>hS x (aae _ hx)) (by simpa using hn) (by simp;left);rw[List.append_assoc,List.singleton_append]at ih;have we:r.2∉pr.map (·.2):=λz=>by
   rw[List.map_append,List.map_cons,List.nodup_append]at hn;exact hn.2.2 _ z _ aaf rfl
  have e1:=GP P (ks:=pr.map (·.2)) (by simp;left) S we;rw[hS r List.mem_cons_self]at e1;have x1:=mi (Φ:=Φ) (p:=1033) (i:=10) (es:=[(.v 6),(.v 7)]) (ρ:=[c0,c1,c2,c3,c4,c5,some (qD r.1),some (.tup (ai r.2)),c8,c9,some (nU .ow (pr.map (·.2)) S)]) (xs:=[qD r.1,.tup (ai r.2)]) (by simp) (by simp) rfl e1;simp only[List.set]at x1;refine⟨d6,d7,b8 (ρ1:=[c0,c1,c2,c3,c4,c5,some (qD r.1),some (.tup (ai r.2)),c8,c9,some (nU .ow (pr.map (·.2)) S)]) (by simp[rD]) (ρ2:=[c0,c1,c2,c3,c4,c5,some (qD r.1),some (.tup (ai r.2)),c8,c9,some (nU .ow ((pr++[r]).map λx:Row=>x.2) S)]) ?_ ih⟩;rw[vg,eC,x1,List.map_append];rfl
theorem xT{rows:ag}(h:(rows.map (·.2)).Nodup):c_ rows=rows.map (·.2):=by
 have:∀(rs:ag) (ks:aw),(ks++rs.map (·.2)).Nodup->rs.foldl (λks r=>aS ks r.2) ks=ks++rs.map (·.2):=λrs=>by
  induction rs with
  |nil=>intro ks _;simp
  |cons r rs ih =>
   intro ks hn;have we:r.2∉ks:=λz=>by
    rw[List.map_cons,List.nodup_append]at hn;exact hn.2.2 _ z _ aaf rfl
   show rs.foldl _ (aS ks r.2)=_;have e:aS ks r.2=ks++[r.2]:=by unfold aS;rw[if_neg we]
   rw[e,ih (ks++[r.2]) (by simpa using hn)];simp
 have:=this rows [] (by simpa using h);simpa [c_]using this
theorem xG{rows:ag}(h:(rows.map (·.2)).Nodup):∀r∈rows,(cH rows r.2).sum=r.1:=λr hr=>by
 have h1:=rF h r.2;have hm:r.1∈cH rows r.2:=List.mem_map.mpr ⟨r,List.mem_filter.mpr ⟨hr,by simp⟩,rfl⟩;cases e:cH rows r.2 with
 |nil=>rw[e]at hm;cases hm
 |cons x xs =>
  rw[e]at hm h1;have:xs=[]:=List.length_eq_zero_iff.mp (by simpa using h1);subst this;rw[List.mem_singleton.mp hm];simp[Rat.add_zero]
def Pe(m:aG):Prop:=∀Ds,Fs Ds->m [.lst .fz (aK .fz Ds)]=ok (.tup [.int (cC Ds),.lst .ow (aN (gM (dW Ds)))])
theorem Rl(Φ:a_)(P:B8 Φ)(oh:eT (Φ 203)):Pe (mk Φ 1 11 E_):=by
 intro Ds K;have l4:=K.l4;have K8:DP 1 (cg 0 Ds):=HM (λrs wb=>(K.Lx rs wb).2) (by
  rw[eu,Nat.one_mul];exact aaz (aay (by decide) l4) (by decide))
 obtain⟨c3,c4,c5,c6,c7,c8,c9,el⟩:=sD Φ oh (i:=6) (j:=12) (by decide) (some (.lst .fz (aK .fz Ds))) none Ds 0 1 0 [(1,[])] none none none none none none none (λr hr=>by rw[List.mem_singleton.mp hr];exact⟨by constructor<;>decide,aak _⟩) (λd hd=>⟨λr hr=>⟨(K.dr d hd).sm r hr,by have:=((K.dr d hd).lot r hr).len;have:=(K.dr d hd).n2;left⟩,by have:=K.ux d hd;left⟩) (by left) (by left) K8;rw[Int.zero_add]at el;have Y4:cR (λd ρ=>bV (.tp [3,4]) d ρ) (λρ=>bX Φ qS ρ) (aK .fz Ds) [some (.lst .fz (aK .fz Ds)),some (.lst .ow (aN [(1,[])])),some (.int 0),none,none,none,none,none,none,none,none]=ok (.nx,[some (.lst .fz (aK .fz Ds)),some (.lst .ow (aN (dW Ds))),some (.int (cC Ds)),c3,c4,c5,c6,c7,c8,c9,none]):=el;have nd:=K.nd.1;have ln:=K.len;obtain⟨d6,d7,e2⟩:=sC Φ P (λl=>(cH (dW Ds) l).sum) (some (.lst .fz (aK .fz Ds))) (some (.lst .fz (aN (dW Ds)))) (some (.int (cC Ds))) c3 c4 c5 c8 c9 (dW Ds) [] c6 c7 (xG nd) (by simpa using nd) (by simp;left);rw[List.nil_append,<- xT nd,List.map_nil]at e2;have hp:(bq (c_ (dW Ds))).Perm (c_ (dW Ds)):=aaE _ _;have hk:=m4 (dW Ds);have e0:Φ 1030 []=ok (nU .ow [] λl=>(cH (dW Ds) l).sum):=by rw[P.wt];rfl
 have To:bO Φ (.seq (.v 0)) [some (.lst .fz (aK .fz Ds)),some (.lst .ow (aN [(1,[])])),some (.int 0),none,none,none,none,none,none,none,none]=ok (aK .fz Ds,[some (.lst .fz (aK .fz Ds)),some (.lst .ow (aN [(1,[])])),some (.int 0),none,none,none,none,none,none,none,none]):=by
  rw[jT (f:=.fz) (ds:=aK .fz Ds) (by simp[ba]),ba,dM (by rfl)];rfl
 have V6:=dz (Φ:=Φ) (t:=.tp [3,4]) (b:=qS) To Y4;have Tj:bO Φ (.seq (.v 1)) [some (.lst .fz (aK .fz Ds)),some (.lst .ow (aN (dW Ds))),some (.int (cC Ds)),c3,c4,c5,c6,c7,c8,c9,some (nU .ow [] λl=>(cH (dW Ds) l).sum)]=ok (aN (dW Ds),[some (.lst .fz (aK .fz Ds)),some (.lst .fz (aN (dW Ds))),some (.int (cC Ds)),c3,c4,c5,c6,c7,c8,c9,some (nU .ow [] λl=>(cH (dW Ds) l).sum)]):=by
  rw[jT (f:=.al) (ds:=aN (dW Ds)) (by simp)];simp[kC,gQ]
 have Yu:=dz (Φ:=Φ) (t:=.tp [6,7]) (b:=vg) Tj e2;have er:∀r,bx Φ JP (some (.lst .fz (aK .fz Ds))::some (.lst .fz (aN (dW Ds)))::some (.int (cC Ds))::c3::c4::c5::d6::d7::c8::c9::some (nU .ow (c_ (dW Ds)) λl=>(cH (dW Ds) l).sum)::r)=ok (.lst .ow (aN (gM (dW Ds)))):=λr=>by
  unfold JP;rw[cc (xs:=[.lst .ow ((bq (c_ (dW Ds))).map dH)]) (items:=(bq (c_ (dW Ds))).map dH) (ds:=aN (gM (dW Ds))) ?_ (by rw[cO,fD]) ?_ (by
   rw[fB];unfold gM;rw[List.length_map];exact bT (by have:=hp.length_eq;left))]
  ·rw[b_]
  ·have t1:∀f,Φ 1035 [nU f (c_ (dW Ds)) λl=>(cH (dW Ds) l).sum]=ok (.lst .ow ((bq (c_ (dW Ds))).map dH)):=λf=>ze P f _ (by left);have m1:=pY bo .ow (c_ (dW Ds)) λl=>(cH (dW Ds) l).sum;simp[m1,t1]
  ·unfold aN gM;rw[List.map_map];refine bJ λl hl=>?_;have hm:l∈c_ (dW Ds):=hp.mem_iff.mp hl;have g1:=λf=>L4 P f (λl=>(cH (dW Ds) l).sum) hm;have m1:aY bo (dH l)=.tup (ai l):=by show D.tup (aC bo (l.map D.int))=_;rw[gu];rfl
   have m2:=pY bp .ow (c_ (dW Ds)) λl=>(cH (dW Ds) l).sum;have m3:=pY bo .fz (c_ (dW Ds)) λl=>(cH (dW Ds) l).sum;refine⟨[some (dH l),some (nU .fz (c_ (dW Ds)) λl=>(cH (dW Ds) l).sum)],by simp[bC,m2],by simp,?_⟩;simp[m1,m3,g1];rfl
 have o1:aT bL (nU .ow [] λl=>(cH (dW Ds) l).sum)=false:=Ej _ _ _ _;have oq:D.tup [.int 1,.int 1]=qD 1:=rfl;have Ze:aN [(1,[])]=[.tup [qD 1,.tup []]]:=rfl;rw[Ze]at V6;generalize gM (dW Ds)=OUT at *;generalize hT0:nU .ow [] (λl=>(cH (dW Ds) l).sum)=T0 at *;generalize Z_:nU .ow (c_ (dW Ds)) (λl=>(cH (dW Ds) l).sum)=T1 at *;generalize aN (dW Ds)=RR at *;generalize aK .fz Ds=X at *;simp[mk_eq,E_,oq,V6,e0,o1,Yu,er]
noncomputable def zi:aj:=[.asg (.nm 6) (.call 212 [(.call 200 [(.v 0),(.bin .add (.bin .add (.v 1) (.int 1)) (.v 5))]),(.int 3)]),.asg (.nm 4) (.bin .mul (.v 4) (.bf .len [(.ix (.v 6) (.int 1))])),.ifs (.cmp .le (.v 4) (.int 500)) [.app 3 (.v 6)] []]
def BV:aj:=[.asg (.nm 2) (.call 200 [(.v 0),(.v 1)]),.ifs (.cmp .eq (.bin .mod (.v 2) (.int 4)) (.int 0)) [.ret (.lst [(.call 212 [(.bin .fdiv (.v 2) (.int 4)),(.int 7)])])] [],.asg (.nm 3) (.lst []),.asg (.nm 4) (.int 1),.fr (.nm 5) (.lM (.bin .add (.int 1) (.bin .mod (.v 2) (.int 4)))) zi,.ret (.v 3)]
structure Lm(j:Nat)(Ds:List Dw)(c:Int):Prop where
 le:Ds.length<=j
 ge:1<=j->1<=Ds.length
 dr:∀d∈Ds,Dr 6 d.1 d.2/\d.2.length<=5/\1<=d.2.length/\d.1<=3
 p5:iX 1 Ds<=500
 c1:1<=c
 ce:c<=500->c=iX 1 Ds
 j1:j=0->c=1
theorem jf:∀(Ds:List Dw) (c:Int) (d:Dw),iX c (Ds++[d])=iX c Ds*(d.2.length:Int)
 |[],c,d=>rfl
 |e::Ds,c,d=>by rw[List.cons_append,iX,iX,jf Ds]
theorem p8(Φ:a_)(yi:uT (Φ 200))(yh:Ko (Φ 212))(ns:aa){a:Int}(ha:0<=a)(c2:aE):∀(k j:Nat) (Ds:List Dw) (c:Int) (c5 c6:aE),Lm j Ds c->j+k<=4 ->
  ∃LC c' uQ uP,cR (λd ρ=>bV (.nm 5) d ρ) (λρ=>bX Φ zi ρ) ((List.range' j k).map λ(i:Nat)=>D.int (i:Int)) [some (.lst .sc (ai ns)),some (.int a),c2,some (.lst .ow (aK .ow Ds)),some (.int c),c5,c6]=ok (.nx,[some (.lst .sc (ai ns)),some (.int a),c2,some (.lst .ow (aK .ow LC)),some (.int c'),uQ,uP])/\Lm (j+k) LC c'
 |0,j,Ds,c,c5,c6,L,_=>⟨Ds,c,c5,c6,rfl,L⟩
 |k+1,j,Ds,c,c5,c6,L,hj=>by
  have e1:=yi ns (a+1+j) (by left);obtain⟨d,e2,g1,g2,g3,g4⟩:=yh (nE ns (a+1+j)) 3 (by decide) (by decide);have Lp:Φ 212 [.int (nE ns (a+1+j)),.int 3]=ok (dy .ow d):=e2;generalize nE ns (a+1+j)=N at *;have hle:=L.le;have Z7:=L.c1;have Ym:1<=(d.2.length:Int):=by left
  have TB:c<=c*(d.2.length:Int):=by
   have:=Int.mul_le_mul_of_nonneg_left Ym (show 0<=c by left)
   rwa [Int.mul_one]at this
  have em:cD .mul (.int c) (.int (d.2.length:Int))=ok (.int (c*(d.2.length:Int))):=w9 (by rw[Int.natAbs_natCast];left);have VJ:∀f,v5 (dy f d) (.int 1)=ok (.lst (bo f) (aN d.2)):=λf=>by rw[show dy f d=.tup [.int d.1,.lst f (aN d.2)] from rfl];simp
  have ow:aT bR (dy .ow d)=true:=lT _ _ _;have al:aT bL (dy .ow d)=false:=lT _ _ _;have P_:aY gv (dy .ow d)=dy .ow d:=dU _ _ _;have Vv:aY bo (dy .ow d)=dy .al d:=dU _ _ _;have jX:(aK .ow Ds).length<ck:=by rw[lX];show _<1000000;left
  rw[List.range'_succ,List.map_cons];by_cases h:c*(d.2.length:Int)<=500
  ·have L':Lm (j+1) (Ds++[d]) (c*(d.2.length:Int)):=⟨by simp;left,λ_=>by simp,λx hx=>by
     rcases List.mem_append.mp hx with hx|hx
     ·exact L.dr x hx
     ·rw[List.mem_singleton.mp hx];exact⟨g1,g2,g3,g4⟩,by rw[jf,<- L.ce (Int.le_trans TB h)];exact h,Int.le_trans Z7 TB,λ_=>by rw[jf,<- L.ce (Int.le_trans TB h)],λz=>absurd z (Nat.succ_ne_zero _)⟩
   obtain⟨LC,c',d5,d6,ih,U1⟩:=p8 Φ yi yh ns ha c2 k (j+1) (Ds++[d]) (c*(d.2.length:Int)) (some (.int j)) none L' (by left);refine⟨LC,c',d5,d6,b8 (ρ1:=[some (.lst .sc (ai ns)),some (.int a),c2,some (.lst .ow (aK .ow Ds)),some (.int c),some (.int j),c6]) (by simp) (ρ2:=[some (.lst .sc (ai ns)),some (.int a),c2,some (.lst .ow (aK .ow (Ds++[d]))),some (.int (c*(d.2.length:Int))),some (.int j),none]) ?_ ih,by rw[show j+(k+1)=j+1+k by left];exact U1⟩;have ea:aK .ow (Ds++[d])=aK .ow Ds++[dy .ow d]:=by unfold aK;rw[List.map_append];rfl
   rw[ea];generalize aK .ow Ds=X at *;generalize Lf:c*(d.2.length:Int)=cl at *;simp[zi,e1,Lp,P_,al,Vv,VJ,em,h,ow,jX]
  ·have Z4:j≠0:=λz=>by
    rw[L.j1 z,Int.one_mul]at h;left
   have L':Lm (j+1) Ds (c*(d.2.length:Int)):=⟨by left,λ_=>L.ge (by left),L.dr,L.p5,Int.le_trans Z7 TB,λz=>absurd z h,λz=>absurd z (Nat.succ_ne_zero _)⟩
   obtain⟨LC,c',d5,d6,ih,U1⟩:=p8 Φ yi yh ns ha c2 k (j+1) Ds (c*(d.2.length:Int)) (some (.int j)) (some (dy .ow d)) L' (by left);refine⟨LC,c',d5,d6,b8 (ρ1:=[some (.lst .sc (ai ns)),some (.int a),c2,some (.lst .ow (aK .ow Ds)),some (.int c),some (.int j),c6]) (by simp) (ρ2:=[some (.lst .sc (ai ns)),some (.int a),c2,some (.lst .ow (aK .ow Ds)),some (.int (c*(d.2.length:Int))),some (.int j),some (dy .ow d)]) ?_ ih,by rw[show j+(k+1)=j+1+k by left];exact U1⟩;generalize aK .ow Ds=X at *;generalize Lf:c*(d.2.length:Int)=cl at *;simp[zi,e1,Lp,P_,al,Vv,VJ,em,h]
theorem vn{p:Nat}:∀{Ds:List Dw},(∀d∈Ds,d.1<=p)->cC Ds<=(p:Int)*Ds.length
 |[],_=>by simp[cC]
 |d::Ds,h=>by
  have ih:=vn λx hx=>h x (aae _ hx);have hd:=h d aaf;have e:cC (d::Ds)=d.1+cC Ds:=by simp[cC]
  rw[e,List.length_cons,Int.natCast_add,Int.mul_add];left
def Pb(m:aG):Prop:=∀(ns:aa) (a:Int),0<=a->∃Ds,m [.lst .sc (ai ns),.int a]=ok (.lst .ow (aK .ow Ds))/\Fs Ds
theorem Rh(Φ:a_)(yi:uT (Φ 200))(yh:Ko (Φ 212)):Pb (mk Φ 2 7 BV):=by
 intro ns a ha;have e1:=yi ns a ha;generalize nE ns a=N at *;obtain⟨f1,f2⟩:=iI N (b:=4) (by decide);by_cases h0:N.fmod 4=0
 ·obtain⟨d,e2,g1,g2,g3,g4⟩:=yh (N.fdiv 4) 7 (by decide) (by decide);have Lp:Φ 212 [.int (N.fdiv 4),.int 7]=ok (dy .ow d):=e2;refine⟨[d],?_,⟨aak _,by simp,λx hx=>by rw[List.mem_singleton.mp hx];exact g1,λx hx=>by rw[List.mem_singleton.mp hx];exact g2,by simp[cC];left,by show 1*(d.2.length:Int)<=500;left⟩⟩;have P_:aY gv (dy .ow d)=dy .ow d:=dU _ _ _;have al:aT bL (dy .ow d)=false:=lT _ _ _;show _=ok (D.lst .ow [dy .ow d]);generalize dy .ow d=X at *;simp[mk_eq,BV,e1,h0,Lp,P_,al]
 ·obtain⟨k,hk⟩:∃k:Nat,1+N.fmod 4=(k:Int):=⟨(1+N.fmod 4).toNat,by left⟩
  have L0:Lm 0 [] 1:=⟨aak _,λh=>by left,(λ_ h=>nomatch h),by show(1:Int)<=500;decide,by decide,λ_=>rfl,λ_=>rfl⟩
  obtain⟨Ds,c,c5,c6,el,L⟩:=p8 Φ yi yh ns ha (some (.int N)) k 0 [] 1 none none L0 (by left);rw[Nat.zero_add]at L;have hit:bO Φ (.lM (.bin .add (.int 1) (.bin .mod (.v 2) (.int 4)))) [some (.lst .sc (ai ns)),some (.int a),some (.int N),some (.lst .ow (aK .ow [])),some (.int 1),none,none]=ok ((List.range' 0 k).map λ(i:Nat)=>D.int (i:Int),[some (.lst .sc (ai ns)),some (.int a),some (.int N),some (.lst .ow (aK .ow [])),some (.int 1),none,none]):=by
   rw[Nx (n:=k) (by simp[hk]) (by left) (by left),Int.toNat_natCast,List.range_eq_range']
  have hf:=dz (Φ:=Φ) (t:=.nm 5) (b:=zi) hit el;have hle:=L.le;have hs:=vn (p:=3) (Ds:=Ds) λd hd=>(L.dr d hd).2.2.2;refine⟨Ds,?_,⟨L.ge (by left),by left,λd hd=>(L.dr d hd).1,λd hd=>(L.dr d hd).2.1,by left,L.p5⟩⟩;have e0:aK .ow []=[]:=rfl;rw[e0]at hf;generalize aK .ow Ds=X at *;simp[mk_eq,BV,e1,h0,hf,bR]
theorem Bo(f g:Fl):∀Ds:List Dw,dD (aK f Ds) (aK g Ds)=true
 |[]=>rfl
 |d::Ds=>by
  show(kD (dy f d) (dy g d)&&dD (aK f Ds) (aK g Ds))=true;rw[Bo f g Ds];show(dD [.int d.1,.lst f (aN d.2)] [.int d.1,.lst g (aN d.2)]&&true)=true;rw[dO,dO,lW,wG];simp
theorem Ac(f g:Fl)(Ds:List Dw):di 40 (.lst f (aK g Ds))=true:=by
 rw[DN];refine jP (λd=>?_) Ds;show di 39 (.tup [.int d.1,.lst g (aN d.2)])=true;have:(aN d.2).all (di 37)=true:=jP (λr=>FT 35 r) d.2;simp[this]
noncomputable def Ez:CE:=.comp 1 (.nm 0) [] .seq [(.ix (.v 1) (.v 2))] [] (.call 215 [(.v 0)])
def C0:aj:=[.asg (.nm 3) Ez,.asg (.nm 4) (.call 209 [(.ix (.v 1) (.v 2))]),.asg (.nm 5) (.call 103 [(.v 3)]),.ifs (.or [(.not (.call 219 [(.v 5),(.v 4)])),(.cmp .ne (.v 3) (.ix (.v 1) (.v 2)))]) [.ret (.bl false)] [],.mut 1014 5 [(.int 1)],.ifs (.not (.call 219 [(.call 103 [(.v 3)]),(.v 4)])) [.ret (.bl false)] []]
def l8:aj:=[.asg (.nm 1) (.lst [(.call 230 [(.v 0),(.int 0)]),(.call 230 [(.v 0),(.int 5)])]),.fr (.nm 2) (.seq (.lst [(.int 0),(.int 1),(.int 0)])) C0,.ret (.bl true)]
structure LD(Φ:a_):Prop where
 Ub:Pa (Φ 103)
 T9:Pe (Φ 209)
 T8:Gw (Φ 215)
 T7:Pc (Φ 219)
 Lf:Φ 1014=EO
theorem tP(Φ:a_)(Q:LD Φ)(c0:aE){LS:D}{k:Int}{Ds:List Dw}(K:Fs Ds)(Ec:v5 (aY bo LS) (.int k)=ok (.lst .al (aK .al Ds)))(c3 c4 c5:aE):∃sQ Kf uQ,bX Φ C0 [c0,some LS,some (.int k),c3,c4,c5]=ok (.nx,[c0,some LS,some (.int k),sQ,Kf,uQ]):=by
 have l4:=K.l4;have e1:∀r,bx Φ Ez (c0::some LS::some (.int k)::r)=ok (.lst .ow (aK .ow Ds)):=λr=>by
  unfold Ez;rw[cc (xs:=[.lst .al (aK .al Ds)]) (items:=aK .fz Ds) (ds:=aK .ow Ds) (by simp[Ec]) (by rw[cO,ba];rfl) (bJ λd hd=>⟨[some (dy .fz d)],by simp[bC],by simp,?_⟩) (by rw[lX];exact bT (by left))]
  ·rw[ba];rfl
  ·have m1:aY bo (dy .fz d)=dy .fz d:=dU _ _ _;have m2:aY bp (dy .fz d)=dy .fz d:=dU _ _ _;have m3:aY gv (dy .ow d)=dy .ow d:=dU _ _ _;simp[m1,m2,m3,Q.T8 d]
 have e2:=Q.T9 Ds K;have e3:=Q.Ub Ds K;have e4:=Q.T7 (cC Ds) (gM (dW Ds));have al:aQ bL (aK .ow Ds)=false:=dM (by rfl) _;have m1:aC bo (aK .ow Ds)=aK .al Ds:=by rw[ba];rfl
 have m2:aC bp (aK .al Ds)=aK .fz Ds:=by rw[ba];rfl
 have ne:gO .ne (.lst .al (aK .al Ds)) (.lst .al (aK .al Ds))=ok (.bl false):=by
  rw[Ke (Ac _ _ _) (Ac _ _ _),lW,Bo];rfl
 generalize hR:aN (gM (dW Ds))=R at *;have r1:aC gv R=R:=by rw[<- hR];exact b_ _ _
 have r2:aC bo R=R:=by rw[<- hR];exact b_ _ _
 have r3:aC bp R=R:=by rw[<- hR];exact b_ _ _
 have r4:aQ bL R=false:=by rw[<- hR];exact fZ _ _
 have x1:=mi (Φ:=Φ) (p:=1014) (i:=5) (es:=[(.int 1)]) (ρ:=[c0,some LS,some (.int k),some (.lst .ow (aK .ow Ds)),some (.tup [.int (cC Ds),.lst .ow R]),some (.tup [.int (cC Ds),.lst .ow R])]) (xs:=[.int 1]) (d':=.tup [.int (cC Ds),.lst .ow []]) rfl rfl rfl (by rw[Q.Lf];rfl);simp only[List.set]at x1;generalize hX:aK .ow Ds=X at *;generalize hY:aK .al Ds=Y at *;generalize aK .fz Ds=Z at *;refine⟨some (.lst .ow X),some (.tup [.int (cC Ds),.lst .ow R]),some (.tup [.int (cC Ds),.lst .ow []]),?_⟩;simp[C0,KY Φ Ez _ rfl,e1,al,Ec,m1,m2,e2,e3,r1,r2,r3,r4,e4,ne,x1]
theorem Np(Φ:a_)(Q:LD Φ)(Of:Pb (Φ 230))(ns:aa):mk Φ 1 6 l8 [.lst .sc (ai ns)]=ok (.bl true):=by
 obtain⟨A,eA,KA⟩:=Of ns 0 (by decide);obtain⟨B,eB,KB⟩:=Of ns 5 (by decide);have i0:v5 (aY bo (.lst .ow [.lst .ow (aK .ow A),.lst .ow (aK .ow B)])) (.int 0)=ok (.lst .al (aK .al A)):=by
  show tx (aC bo [.lst .ow (aK .ow A),.lst .ow (aK .ow B)]) 0=_;rw[eZ,UO];show ok (D.lst .al (aC bo (aC bo (aK .ow A))))=_;rw[ba,ba];rfl
 have i1:v5 (aY bo (.lst .ow [.lst .ow (aK .ow A),.lst .ow (aK .ow B)])) (.int 1)=ok (.lst .al (aK .al B)):=by
  show tx (aC bo [.lst .ow (aK .ow A),.lst .ow (aK .ow B)]) 1=_;rw[eZ,eZ,UN];show ok (D.lst .al (aC bo (aC bo (aK .ow B))))=_;rw[ba,ba];rfl
 have Zm:aQ bL (aK .ow A)=false:=dM (by rfl) _;have Zk:aQ bL (aK .ow B)=false:=dM (by rfl) _;have mA:aC gv (aK .ow A)=aK .ow A:=by rw[ba];rfl
 have mB:aC gv (aK .ow B)=aK .ow B:=by rw[ba];rfl
 generalize aK .ow A=X at *;generalize aK .ow B=Y at *;obtain⟨a3,a4,a5,t1⟩:=tP Φ Q (some (.lst .sc (ai ns))) KA i0 none none none;obtain⟨b3,b4,b5,t2⟩:=tP Φ Q (some (.lst .sc (ai ns))) KB i1 a3 a4 a5;obtain⟨c3,c4,c5,t3⟩:=tP Φ Q (some (.lst .sc (ai ns))) KA i0 b3 b4 b5;have hit:bO Φ (.seq (.lst [(.int 0),(.int 1),(.int 0)])) [some (.lst .sc (ai ns)),some (.lst .ow [.lst .ow X,.lst .ow Y]),none,none,none,none]=ok ([.int 0,.int 1,.int 0],[some (.lst .sc (ai ns)),some (.lst .ow [.lst .ow X,.lst .ow Y]),none,none,none,none]):=by
  rw[jT (f:=.ow) (ds:=[.int 0,.int 1,.int 0]) (by simp)];simp
 have hf:=dz (Φ:=Φ) (t:=.nm 2) (b:=C0) hit (r:=ok (.nx,[some (.lst .sc (ai ns)),some (.lst .ow [.lst .ow X,.lst .ow Y]),some (.int 0),c3,c4,c5])) (by
  refine b8 (by simp) t1 (b8 (by simp) t2 (b8 (by simp) t3 rfl)))
 simp[mk_eq,l8,eA,eB,Zm,Zk,mA,mB,hf]
end DI
end
namespace PySem.W.Fast
def tw18164609391434651583:=0
def tw7410975099425443174:=0
def tw5166712038556100575:=0
def tw3748396930396676587:=0
def tw3432092505624392486:=0
def tw11975920934486075252:=0
def tw14680000425464178409:=0
def tw18245131250634544800:=0
def tw11221223208558180812:=0
def tw5801592725916265593:=0
def tw15153427565529873900:=0
def tw13688790880308516883:=0
def tw14224756131287512417:=0
def tw13756091567919365618:=0
def tw3856369225283433712:=0
def tw6315624592818363353:=0
def tw15071224562343975527:=0
def tw5321899860210680207:=0
def tw11426288529993760632:=0
def tw1470341178984230618:=0
def tw14718897127223497896:=0
def tw16315612035811841668:=0
def tw3582562514168946669:=0
def tw8488198655654187983:=0
def tw14375167945239653158:=0
def tw3851278559757513307:=0
def tw6232525834362759909:=0
def tw12443147091549367561:=0
def tw9313464139275134173:=0
def tw16071112433604350019:=0
def tw7970785905294343547:=0
def tw8430751353334273218:=0
def tw12929843703313146503:=0
def tw14482546992857335952:=0
def tw9349550445923147111:=0
def tw3505875480096563248:=0
def tw18272316356918835035:=0
def tw13676686386976161351:=0
def tw4631309226739688839:=0
def tw11665314266819354523:=0
def tw8057963637863114679:=0
def tw2782611101327783379:=0
def tw11317046983555392353:=0
def tw4223573347624736662:=0
def tw16549535054311284737:=0
def tw10899835177644626785:=0
def tw1515115575952282732:=0
def tw5979970813387402746:=0
def tw16358781027754139533:=0
def tw5653449773430791641:=0
def tw18018745526799608573:=0
def tw5559624220717262344:=0
def tw9972571798801678632:=0
def tw7695691341666184917:=0
def tw12460087284187925457:=0
def tw12984593439583809608:=0
def tw8454716047875698442:=0
def tw15002215007215884557:=0
def tw1986695243400690131:=0
def tw5904109650899390925:=0
def tw6968441408552799625:=0
def tw11193299458543290641:=0
def tw8891442840239150611:=0
def tw9938688289598333922:=0
def tw13878971259045213181:=0
def tw5828479362577078230:=0
def tw2992733082742793526:=0
def tw1449459755039341753:=0
def tw16256093355365842583:=0
def tw16141031306978584260:=0
def tw11309567628649767167:=0
def tw15952423855776907642:=0
def tw2934618080307560192:=0
def tw3525934653043581711:=0
def tw15736404623623695491:=0
def tw5025049108323401294:=0
def tw6581284086641810280:=0
def tw9010187781735729983:=0
def tw5621765265843455225:=0
def tw17678090516913310094:=0
def tw464749655209147995:=0
def tw174971811374019498:=0
def tw13616502075566237970:=0
def tw10381391018650371869:=0
def tw14058910209680761447:=0
def tw18329013633676786066:=0
def tw6802281372375560001:=0
def tw10490031553455159595:=0
def tw12077008381142756548:=0
def tw8151733589533057368:=0
def tw1499980020745735425:=0
def tw9283618308255820833:=0
def tw16396555873323870994:=0
def tw11349707587168611153:=0
def tw15890752356885454066:=0
def tw3745888660111964726:=0
def tw1277014961878350071:=0
def tw2319914937512291754:=0
def tw17033270058120730445:=0
def tw13191444601877695117:=0
def tw13662389241634239230:=0
def tw7729544623217280659:=0
def tw14331432912425353494:=0
def tw2624644208289739856:=0
def tw13771741688383215762:=0
def tw18446002589343438682:=0
def tw17839642305459526271:=0
def tw9486286761222111307:=0
def tw16460736863253567293:=0
def tw16651157794900458285:=0
def tw6508643333125974093:=0
def tw3519295749334947454:=0
def tw15977699063462063850:=0
def tw16273146050800547534:=0
def tw12320136796318346286:=0
def tw4058580785845709956:=0
def tw3805023519184249509:=0
def tw7946040426119996252:=0
def tw15165331450732058281:=0
def tw4875899266973618684:=0
def tw6714841537296323989:=0
def tw5048595996697071817:=0
def tw13772704921259377181:=0
def tw4486703775883248563:=0
def tw8818012910222666779:=0
def tw15173455799341579862:=0
def tw16723546128032672009:=0
def tw12209258286725222437:=0
def tw8594646520078373287:=0
def tw936245479743658393:=0
end PySem.W.Fast
namespace Asm
open PySem PySem.Spec PyProof.Rows L2 DI
noncomputable def top(i:Nat):Stmt:=PySem.Challenge.pw_sharesample_k45_layers.main.body.getD i (.Pass ⟨0,0,0,0⟩)
def px:Px:=⟨λn sc bl e=>if n=1020 then qt true sc bl e else if n=1022 then wZ sc bl e else if n=1030 then qr sc bl e else if n=1032 then kK sc bl e else if n=1035 then fM "sorted" sc bl e else if n=1038 then wW sc bl e else if n=1039 then kK sc bl e else if n=1040 then wY sc bl e else if n=1046 then wV sc bl e else none,λn sc bl e=>if n=1000 then ig sc bl e else none,λn sc bl e=>if n=1010 then l5 sc bl e else if n=1013 then uL sc bl e else if n=1014 then qv sc bl e else if n=1033 then l6 sc bl e else none,λn sc bl e=>if n=1201 then qq sc bl e else none⟩
noncomputable def PT:a_
 |1000=>Co
 |1010=>oR
 |1013=>yn
 |1014=>EO
 |1020=>(cutD true)
 |1022=>Li
 |1030=>wK
 |1032=>yv
 |1033=>o4
 |1035=>kE
 |1038=>Ky
 |1039=>uC
 |1040=>Nj
 |1046=>L3
 |1201=>tQ
 |_=>λ_=>none
theorem pr(F:a_)(i:Nat)(m:aG):uU px (xm PT F i m)/\Kr px (xm PT F i m):=⟨⟨(λX sc bl k L p e args he F cs hs=>D8 he (λhe=>J7 rfl L he hs) λhe=>D8 he (λhe=>Ol rfl L he hs) λhe=>D8 he (λhe=>EF rfl L he hs) λhe=>D8 he (λhe=>J6 rfl L he hs) λhe=>D8 he (λhe=>Bz rfl L he hs) λhe=>D8 he (λhe=>Mh rfl L he hs) λhe=>D8 he (λhe=>JR rfl L he hs) λhe=>D8 he (λhe=>Ni rfl L he hs) λhe=>D8 he (λhe=>L1 rfl L he hs) λhe=>nomatch he),(λX sc bl k L p e args he F cs tg ht hs pins s σ H R τ ρ xs d items I Si cy ed ei Rr hR=>by
  dsimp only[px]at he;by_cases hp:p=1000
  ·subst hp;rw[if_pos rfl]at he;exact Gz rfl L he ht hs I Si cy ed ei Rr hR
  rw[if_neg hp]at he;clear hp;cases he)⟩,⟨(λX sc bl k L hN oT p st x pos args he i hi hl pe F cs hs=>Qc he (λhe=>D7 rfl L hN oT he hi hl pe hs) λhe=>Qc he (λhe=>JI rfl L hN oT he hi hl pe hs) λhe=>Qc he (λhe=>J_ rfl L hN oT he hi hl pe hs) λhe=>Qc he (λhe=>EE rfl L hN oT he hi hl pe hs) λhe=>nomatch he),(λX sc bl k L hN oT p st x pos args he i hi hl pe F c1 c2 hs=>Sn he (λhe=>GN rfl L hN oT he hi hl pe hs) λhe=>nomatch he)⟩⟩
noncomputable def xt(F:a_)(i a b:Nat)(c:aj):a_:=xm PT F i (mk F a b c)
noncomputable def BL:aq:=["abs","all","bool","int","isinstance","len","list","range","set","sorted","sum","tuple","zip"]
noncomputable def CC:List (Str×GK):=[("MOST_CHOICES",GK.i 500),("MOST_HOUSES",GK.i 12),("MOST_LAYERS",GK.i 4)]
noncomputable def gD:a_:=xm PT PT 0 λ_=>none
noncomputable def jv:a_:=xt gD 215 1 1 (xc)
noncomputable def kR:a_:=xt jv 201 2 4 (j6)
noncomputable def kS:a_:=xt kR 203 2 2 (iK 201)
noncomputable def nJ:a_:=xt kS 209 1 11 (E_)
noncomputable def ju:a_:=xt nJ 204 1 1 (w_)
noncomputable def jw:a_:=xt ju 219 2 3 (EX)
noncomputable def fR:a_:=xt jw 200 2 4 (eG)
noncomputable def jt:a_:=xt fR 212 2 8 (EY)
noncomputable def eI:a_:=xt jt 230 2 7 (BV)
noncomputable def fq:a_:=xt eI 99 2 4 (Fd)
noncomputable def jx:a_:=xt fq 98 2 2 (Fe)
noncomputable def gH:a_:=xt jx 0 1 1 (gy)
noncomputable def dR:a_:=xt gH 43 2 2 (cT)
noncomputable def fS:a_:=xt dR 1 2 3 (cS)
noncomputable def nK:a_:=xt fS 3 1 1 (bQ)
noncomputable def iu:a_:=xt nK 12 2 2 (j7)
noncomputable def eJ:a_:=xt iu 44 1 3 (fJ)
noncomputable def ir:a_:=xt eJ 9 1 3 (cA)
noncomputable def fi:a_:=xt ir 10 2 2 (fI)
noncomputable def fP:a_:=xt fi 14 1 4 (iJ)
noncomputable def jy:a_:=xt fP 15 1 2 (dX)
noncomputable def nL:a_:=xt jy 45 1 4 (gz)
noncomputable def gE:a_:=xt nL 11 2 2 (gf)
noncomputable def eK:a_:=xt gE 16 1 1 (eQ)
noncomputable def fm:a_:=xt eK 17 1 1 (dg)
noncomputable def fT:a_:=xt fm 96 1 2 (Fb)
noncomputable def gG:a_:=xt fT 2 2 3 (cB)
noncomputable def fU:a_:=xt gG 6 2 2 (iK 2)
noncomputable def js:a_:=xt fU 101 2 6 (Fc)
noncomputable def gF:a_:=xt js 41 1 2 (gx)
noncomputable def fQ:a_:=xt gF 42 1 2 (eR)
noncomputable def fj:a_:=xt fQ 100 1 4 (EV)
noncomputable def kQ:a_:=xt fj 102 2 8 (EZ)
noncomputable def B7:a_:=xt kQ 103 1 2 (EW)
def Q0:=Mw gD
def Mg:=Dh jv
def Q4:=vx kR (f:=201) Mg
def Q2:=Rl kS ⟨rfl,rfl,rfl,rfl⟩ Q4
def Q3:=Mv nJ
def QZ:=Ri ju Q3
def Q5:=Hc jw
def Q1:=Rj fR ⟨rfl,rfl,rfl,rfl⟩ Mg rfl
def QY:=Rh jt Q5 Q1
def Xd:=Ro eI rfl
def Xe:=Rp fq Xd
def t0:=tZ jx
def Vh:=pL gH t0
def t1:=kr dR
def t3:=n4 fS t0 t1
def Xo:=zC nK t3 Vh
def Xh:=rn iu rfl rfl rfl
def t9:=lq eJ t1
def Vi:=rm ir
def Xn:=xD fi t9 Vi rfl
def Xm:=nZ fP Xn
def Xg:=t4 jy t0 Xo Xm Xh
def Xp:=zD nL Vh
def Xl:=pJ gE Xp Xg
def Xk:=lr eK Xl
def Xf:=Rm fm Xk
def t2:=n5 fT t1
def t6:=vx gG (f:=2) t2.1
def Q8:=Rn fU t6 rfl
def Xj:=tY js t9 Vi
def Xi:=pK gF t2 Xj
def Q9:=Rf fQ
def Q7:=Rk fj ⟨rfl,rfl,rfl,rfl⟩ Xi Q9 Q8 rfl rfl
def Q6:=Rg kQ Xf Xe Q7 rfl
theorem xP:∀ns:aa,(mk B7 1 6 (l8)) [.lst .sc (ai ns)]=ok (.bl true):=Np B7 ⟨Q6,Q2,Q0,QZ,rfl⟩ QY
theorem Ka:Qw (top 47) ["_law_script","_law_lists","_law_k","_law_handed","_law_due_here","_law_found"] ["_law_script"] [(103,"layered"),(209,"_law_due"),(215,"_law_copied"),(219,"_law_good"),(230,"_law_list")] BL CC px (l8)=true:=by decide +kernel
theorem all_mk{l:PySem.W.OpenLaw}{w:World}{K:av}{h:Heap}{mg:aX}{fa:Addr}{Vc Vb Va:Value}(X:K.In h)(G:h.Ns mainGlobals mg)(Yt:mg "law" = some (.ref fa))
  (a0:Df K "_law_copied" (top 44))
  (a1:Df K "_law_frac" (top 38))
  (a2:Df K "_law_mul" (top 40))
  (a3:Df K "_law_due" (top 46))
  (a4:Df K "_law_is" (top 41))
  (a5:Df K "_law_good" (top 43))
  (a6:Df K "_law_cell" (top 37))
  (a7:Df K "_law_drawing" (top 42))
  (a8:Df K "_law_list" (top 45))
  (a9:Df K "count_choices" (top 31))
  (a10:Df K "check_bounds" (top 30))
  (a11:Df K "is_whole" (top 6))
  (a12:Df K "are_houses" (top 17))
  (a13:Df K "common_divisor" (top 7))
  (a14:Df K "is_fraction" (top 9))
  (a15:Df K "is_row" (top 19))
  (a16:Df K "rows_rise" (top 20))
  (a17:Df K "common_bottom" (top 11))
  (a18:Df K "tops_over" (top 12))
  (a19:Df K "weighed_lots" (top 21))
  (a20:Df K "sums_to_one" (top 22))
  (a21:Df K "is_drawn" (top 23))
  (a22:Df K "is_lot" (top 18))
  (a23:Df K "is_drawing" (top 24))
  (a24:Df K "check_drawing" (top 25))
  (a25:Df K "check_layers" (top 29))
  (a26:Df K "fraction_of" (top 8))
  (a27:Df K "frac_times" (top 10))
  (a28:Df K "chosen_rows" (top 33))
  (a29:Df K "over_one" (top 13))
  (a30:Df K "frac_total" (top 14))
  (a31:Df K "rows_behind" (top 32))
  (a32:Df K "drawn_within" (top 34))
  (a33:Df K "layered" (top 35))
  (a34:Df K "law" (top 47))
  (z:dk (λy=>PySem.W.nsIn K mainGlobals y=some none) BL)
  (q0:PySem.W.nsIn K mainGlobals "MOST_CHOICES" = some (some Vc)) (r0:RelV (.int 500) Vc)
  (q1:PySem.W.nsIn K mainGlobals "MOST_HOUSES" = some (some Vb)) (r1:RelV (.int 12) Vb)
  (q2:PySem.W.nsIn K mainGlobals "MOST_LAYERS" = some (some Va)) (r2:RelV (.int 4) Va) :
  ∃fd:FuncData,(∀(s:Shared) (v:Value),BindsTo s fd ⟨[v],[]⟩ [("_law_script",v)])/\∀base:Heap,K.In base->base.Ns mainGlobals mg->iT l.prog w K mg base yW 36 fa fd ["_law_script"] (C9 K 1 p6):=by
 obtain⟨f,fd,Fu,a⟩:=a34;have e:=Yt.symm.trans (abO X G a);cases e;obtain⟨oc,od,kV,dc,pm,an,cd,ct,sl,rfl,_,_⟩:=id Fu.ex;have Y:=dk.nn X G z;have x0:∃u,mg "MOST_CHOICES" = some u/\B6 K (GK.i 500) u:=⟨_,abO X G q0,r0⟩
 have x1:∃u,mg "MOST_HOUSES" = some u/\B6 K (GK.i 12) u:=⟨_,abO X G q1,r1⟩
 have x2:∃u,mg "MOST_LAYERS" = some u/\B6 K (GK.i 4) u:=⟨_,abO X G q2,r2⟩
 refine⟨PySem.W.fnOf "law" "law" (fH (top 47)) (df (top 47)) (bG (top 47)) .none kV dc pm an cd ct,λs v=>.of_eq rfl,λbase _ _=>?_⟩;have N:=@Y3 l.prog w K h base mg BL CC px PT X G pr Y ⟨x0,x1,x2,gK⟩;have E0:=N 1 gD a0 ["_law_drawing_here"] 1 [] (xc) gK;have E1:=N 2 jv a1 ["_law_top","_law_bottom","_law_one","_law_other"] 2 [] (j6) gK;have E2:=N 3 kR a2 ["_law_one","_law_other"] 2 [(201,"_law_frac")] (iK 201) ⟨E1.u,gK⟩;have E3:=N 4 kS a3 ["_law_drawings","_law_rows","_law_ahead","_law_many","_law_more","_law_longer","_law_chance","_law_lot","_law_other","_law_houses","_law_chances"] 1 [(203,"_law_mul")] (E_) ⟨E2.u,gK⟩;have E4:=N 5 nJ a4 ["_law_found"] 1 [] (w_) gK;have E5:=N 6 ju a5 ["_law_found","_law_due_here","_law_row"] 2 [(204,"_law_is")] (EX) ⟨E4.u,gK⟩;have E6:=N 7 jw a6 ["_law_script","_law_k","_law_cell_here","_law_number"] 2 [] (eG) gK;have E7:=N 8 fR a7 ["_law_number","_law_most","_law_many","_law_count","_law_weights","_law_k","_law_lot","_law_whole"] 2 [(201,"_law_frac")] (EY) ⟨E1.u,gK⟩;have E8:=N 9 jt a8 ["_law_script","_law_at","_law_number","_law_found","_law_choices","_law_k","_law_drawing_here"] 2 [(200,"_law_cell"),(212,"_law_drawing")] (BV) ⟨E6.u,E7.u,gK⟩;have E9:=N 10 eI a9 ["inner","groups","count","group"] 2 [] (Fd) gK;have ZJ:=N 11 fq a10 ["drawing","inner"] 2 [(99,"count_choices")] (Fe) ⟨E9.u,gK⟩;have U8:=N 12 jx a11 ["thing"] 1 [] (gy) gK;have WR:=N 13 gH a12 ["thing","many"] 2 [(0,"is_whole")] (cT) ⟨U8.u,gK⟩;have U7:=N 14 dR a13 ["one","other","rest"] 2 [] (cS) gK;have ZI:=N 15 fS a14 ["thing"] 1 [(0,"is_whole"),(1,"common_divisor")] (bQ) ⟨U8.u,U7.u,gK⟩;have ZH:=N 16 nK a15 ["thing","many"] 2 [(3,"is_fraction"),(43,"are_houses")] (j7) ⟨ZI.u,WR.u,gK⟩;have ZG:=N 17 iu a16 ["rows","ahead","behind"] 1 [] (fJ) gK;have WQ:=N 18 eJ a17 ["some","bottom","part"] 1 [(1,"common_divisor")] (cA) ⟨U7.u,gK⟩;have WO:=N 19 ir a18 ["some","bottom"] 2 [] (fI) gK;have ZF:=N 20 fi a19 ["rows","chances","lots","bottom"] 1 [(9,"common_bottom"),(10,"tops_over")] (iJ) ⟨WQ.u,WO.u,gK⟩;have ZE:=N 21 fP a20 ["rows","weighed"] 1 [(14,"weighed_lots")] (dX) ⟨ZF.u,gK⟩;have ZD:=N 22 jy a21 ["thing","many","rows","row"] 1 [(0,"is_whole"),(12,"is_row"),(15,"sums_to_one"),(44,"rows_rise")] (gz) ⟨U8.u,ZH.u,ZE.u,ZG.u,gK⟩;have ZC:=N 23 nL a22 ["thing","many"] 2 [(43,"are_houses")] (gf) ⟨WR.u,gK⟩;have ZA:=N 24 gE a23 ["thing"] 1 [(11,"is_lot"),(45,"is_drawn")] (eQ) ⟨ZC.u,ZD.u,gK⟩;have Zz:=N 25 eK a24 ["thing"] 1 [(16,"is_drawing")] (dg) ⟨ZA.u,gK⟩;have Zy:=N 26 fm a25 ["thing","drawing"] 1 [(17,"check_drawing")] (Fb) ⟨Zz.u,gK⟩;have WN:=N 27 fT a26 ["top","bottom","divisor"] 2 [(1,"common_divisor")] (cB) ⟨U7.u,gK⟩;have Zx:=N 28 gG a27 ["one","other"] 2 [(2,"fraction_of")] (iK 2) ⟨WN.u,gK⟩;have Zw:=N 29 fU a28 ["chance","layers","chosen","rows","longer","made"] 2 [(6,"frac_times")] (Fc) ⟨Zx.u,gK⟩;have Zv:=N 30 js a29 ["some","bottom"] 1 [(9,"common_bottom"),(10,"tops_over")] (gx) ⟨WQ.u,WO.u,gK⟩;have Zu:=N 31 gF a30 ["some","tops"] 1 [(2,"fraction_of"),(41,"over_one")] (eR) ⟨WN.u,Zv.u,gK⟩;have Zt:=N 32 fQ a31 ["inner","ahead","told","drawing"] 1 [] (EV) gK;have Zs:=N 33 fj a32 ["drawing","inner","layers","ways","chance","groups","part","lot"] 2 [(42,"frac_total"),(100,"rows_behind"),(101,"chosen_rows")] (EZ) ⟨Zu.u,Zt.u,Zw.u,gK⟩;have Zr:=N 34 kQ a33 ["drawings","everyone"] 1 [(96,"check_layers"),(98,"check_bounds"),(102,"drawn_within")] (EW) ⟨Zy.u,ZJ.u,Zs.u,gK⟩;exact Y2 35 B7 p6 Fu Ka (pr _ _ _) Y ⟨x0,x1,x2,gK⟩ ⟨Zr.u,E3.u,E0.u,E5.u,E8.u,gK⟩ (As λns _=>(t_ _ _ (xP ns)).2)
theorem walk{l:PySem.W.OpenLaw}{q:aB}{loose:aq}{XP:(aX)->Heap->Prop}{YP:World->Heap->Prop}{d:DefRec}{K:Params->av}(hn:l.most=some 63)(NZ:d.params.defaults=[])
  (hY:∀(w:World) (h:Heap),YP w h->(K w.params).In h)
  (F:∀(w:World) (mg:aX) (fa:Addr) (h:Heap),(K w.params).In h->h.Ns mainGlobals mg->mg d.name=some (.ref fa) ->
   ∃fd:FuncData,(∀(s:Shared) (u:Value),BindsTo s fd ⟨[u],[]⟩ [("_law_script",u)])/\∀base:Heap,(K w.params).In base->base.Ns mainGlobals mg->iT l.prog w (K w.params) mg base yW 36 fa fd ["_law_script"] (C9 (K w.params) 1 p6)) :
  PySem.W.WalkO q loose XP YP l.row.toRowW d [] (λf vs=>PySem.call f vs) :=
 L2.Cw (n:=63) (k:=36) (x:="_law_script") (CX:=λ_=>yW) (sp:=λw=>C9 (K w.params) 1 p6) hn (by decide) NZ ⟨rfl,by decide,by decide⟩ hY F (λw H a ns hl hO hS=>Ig (K w.params) H a ns p6 (DV hl) hO hS) λ_ _ _ _ _ z=>z
end Asm
end
open PySem PySem.W PyProof.Rows
set_option maxRecDepth 100000 in
set_option maxHeartbeats 0 in
theorem PySem.Challenge.cw_sharesample_k45_layers_holds : PySem.Challenge.rw_sharesample_k45_layers.Holds := by
 w_on;o_law;k_head;(case hw=>w_witness2)
 k_fill
 refine Asm.walk (l:=PySem.Challenge.rw_sharesample_k45_layers) rfl rfl (fun w h Y=>PySem.W.kIn_of Y) ?F
 case F =>
  intro w mg fa h KX G hmg
  refine' Asm.all_mk KX G hmg ?a0 ?a1 ?a2 ?a3 ?a4 ?a5 ?a6 ?a7 ?a8 ?a9 ?a10 ?a11 ?a12 ?a13 ?a14 ?a15 ?a16 ?a17 ?a18 ?a19 ?a20 ?a21 ?a22 ?a23 ?a24 ?a25 ?a26 ?a27 ?a28 ?a29 ?a30 ?a31 ?a32 ?a33 ?a34 ?zz ?q0 ?r0 ?q1 ?r1 ?q2 ?r2
  case a0 | a1 | a2 | a3 | a4 | a5 | a6 | a7 | a8 | a9 | a10 | a11 | a12 | a13 | a14 | a15 | a16 | a17 | a18 | a19 | a20 | a21 | a22 | a23 | a24 | a25 | a26 | a27 | a28 | a29 | a30 | a31 | a32 | a33 | a34 =>
   refine' DI.dmk ?x ?y ?z ?w
   case x | y | z | w=>k_is
  (case zz=>refine' ⟨?_,?_,?_,?_,?_,?_,?_,?_,?_,?_,?_,?_,?_,trivial⟩ <;> show PySem.W.nsIn _ _ _ = some none <;> k_is)
  (case q0=>k_is);(case r0=>exact ⟨_,rfl⟩)
  (case q1=>k_is);(case r1=>exact ⟨_,rfl⟩)
  (case q2=>k_is);(case r2=>exact ⟨_,rfl⟩)
