import PyProof.Rows.All
import Wide.All
import OpenK.AllK
import Wide.FinOn
import Lean
import PyProof.EqAt
import PyProof.EqKinds
import PyProof.TupleCall
import PyProof.NeKinds
import KE.BitLaws
import PyProof.SumWalkG
import PyProof.ConsumeWalk
import PyProof.WalksMore
import KE.KSortedM
import PyProof.Rows.SetFrom
import PyProof.CompUse
import PyProof.ZipIter
import PyProof.EnumMake
import KE.KSortTup
import PyProof.Draws
import PyProof.ListRange
import PyProof.SliceList
import PyProof.DictIter
import PyProof.Rows.DictUnroll
import KE.KDictSum
import PyProof.DictRoadsH
import PyProof.DictKinds
import PyProof.DictItems
import PyProof.DictItemsLoops
import PyProof.Rows.TupDisplay
import KE.KDictList
import PySem.Challenge.RW_sharesample_k33_order_forgotten
set_option bootstrap.genMatcherCode false
set_option genSizeOf false
set_option genSizeOfSpec false
set_option Elab.async false
set_option linter.all false
set_option maxRecDepth 100000
local macro_rules | `(tactic| left) => `(tactic| first | assumption | exact Nat.zero_le _ | exact Int.natCast_nonneg _ | exact Int.ofNat_lt.mpr (by assumption) | exact Nat.le_of_lt (by assumption) | exact Nat.le_trans (by assumption) (by assumption) | exact Nat.lt_of_lt_of_le (by assumption) (by assumption) | lia | omega)
noncomputable section
abbrev aaa:=@PySem.wpAny_bind
abbrev aab:=@PySem.wpAny_pure
abbrev aac:=@of_decide_eq_true
abbrev aad:=@List.mem_cons_of_mem
abbrev aae:=@Bool.false_ne_true
abbrev aaf:=@List.mem_cons_self
abbrev aag:=@PySem.Heap.get?_push_of_some
abbrev aah:=@PySem.Heap.lt_size
abbrev aai:=@Nat.le_refl
abbrev aaj:=@Nat.lt_of_lt_of_le
abbrev aak:=@List.map_congr_left
abbrev aal:=@List.getElem?_eq_getElem
abbrev aam:=@Nat.ne_of_lt
abbrev aan:=@PySem.Heap.get?_push_size
abbrev aao:=@List.mem_append_right
abbrev aap:=@Option.some.inj
abbrev aaq:=@List.mem_of_getElem?
abbrev aar:=@Nat.pow_le_pow_right
abbrev aas:=@Nat.ne_of_gt
abbrev aat:=@Nat.lt_irrefl
abbrev aau:=@PyProof.Rows.callWith_type1
abbrev aav:=@List.mem_map_of_mem
abbrev aaw:=@PySem.wpAny_mono
abbrev aax:=@Nat.le_trans
abbrev aay:=@List.mergeSort_perm
abbrev aaz:=@Nat.lt_of_le_of_lt
abbrev aaA:=@List.mem_append_left
abbrev aaB:=@PySem.wpAny_field
abbrev aaC:=@Ne.symm
abbrev aaD:=@PySem.wpAny_call_entry
abbrev aaE:=@Nat.mul_le_mul_left
abbrev aaF:=@Nat.zero_le
abbrev aaG:=@PySem.wpAny_holding
abbrev aaH:=@PySem.wpAny_seqItems
abbrev aaI:=@Nat.lt_succ_of_lt
abbrev aaJ:=@congrArg
abbrev aaK:=@PySem.wpAny_callSpecial?_slot
abbrev aaL:=@PySem.Heap.get?_update_other
abbrev aaM:=@PySem.Heap.SameBut.update
abbrev aaN:=@if_pos
abbrev aaO:=@PySem.Heap.get?_update_self
abbrev aaP:=@PySem.sizeLine_eq
abbrev aaQ:=@List.nodup_nil
abbrev aaR:=@PySem.wpAny_truthy_bool
abbrev aaS:=@PySem.F.slot_dict_keyiterator_next
abbrev aaT:=@Nat.lt_succ_self
abbrev aaU:=@PySem.wpAny_Call_Name_kw
abbrev aaV:=@decide_eq_false
abbrev aaW:=@List.length_map
abbrev aaX:=@PySem.wpAny_newObj_type
abbrev aaY:=@PySem.wpAny_typeNameOfWhole_keyiter
abbrev aaZ:=@PySem.F.plainAttrs_list
abbrev aa0:=@PySem.mem_of_lookup
abbrev aa1:=@PySem.Calls.callWith_builtin
abbrev aa2:=@PySem.wpAny_setField_rec
abbrev aa3:=@PySem.wpAny_passesOwn
abbrev aa4:=@PySem.W.kia_one
abbrev aa5:=@PySem.wpAny_rule
abbrev aa6:=@Array.getElem?_eq_getElem
abbrev aa7:=@decide_eq_true
abbrev aa8:=@PySem.F.slot_list_append
abbrev aa9:=@PySem.wpAny_isInstance
abbrev aa_:=@PySem.wpAny_typeNameOf_keyiter
abbrev aba:=@Int.mul_fdiv_cancel_left
abbrev abb:=@List.cons.inj
abbrev abc:=@Nat.le_of_dvd
abbrev abd:=@List.of_mem_zip
abbrev abe:=@PySem.wpAny_specialOf
abbrev abf:=@Int.mul_le_mul_of_nonneg_right
abbrev abg:=@PyProof.Rows.subscriptTail_builtinR
abbrev abh:=@Array.getElem?_eq_none
abbrev abi:=@PySem.F.slot_zip_next
abbrev abj:=@Nat.lt_trans
abbrev abk:=@PySem.F.slot_dict_get
abbrev abl:=@PySem.Calls.evalArgs_plain
abbrev abm:=@PySem.call_meets
abbrev abn:=@PySem.wpAny_pyIter_zip
abbrev abo:=@PySem.wpAny_attempt
abbrev abp:=@PySem.SeqAt.EqAt.same
abbrev abq:=@PySem.codeAny_builtin
abbrev abr:=@Int.mul_ne_zero
abbrev abt:=@List.exists_mem_of_ne_nil
abbrev abu:=@PySem.Calls.spliced_cons
abbrev abv:=@PySem.SeqAt.EqAt.int_int
abbrev abw:=@PySem.F.args_tuple_add_2
abbrev abx:=@PySem.F.type_list_append
abbrev aby:=@PySem.F.entry_tuple_add
abbrev abz:=@PySem.F.plainAttrs_dict
abbrev abA:=@PySem.Calls.spliced_nil
abbrev abB:=@PySem.wpAny_dictEntries
abbrev abC:=@PySem.F.slot_tuple_add
abbrev abD:=@PySem.wpAny_nextOf_list_item
abbrev abE:=@Int.fmod_nonneg_of_pos
abbrev abF:=@Rat.intCast_lt_intCast
abbrev abG:=@beq_self_eq_true
abbrev abH:=@List.getElem_mem
abbrev abI:=@List.ext_getElem
abbrev abJ:=@PySem.wpAny_forIn_list
abbrev abK:=@PySem.F.slot_tuple_lt
abbrev abL:=@PySem.wpAny_nextOf_list_end
abbrev abM:=@Eq.symm
abbrev abN:=@List.length_filter_le
abbrev abO:=@PySem.isSubtype_tuple_tuple
abbrev abP:=@PySem.codeAny_mono
abbrev abQ:=@PySem.SeqAt.EqAt.none_bool
abbrev abR:=@PySem.SeqAt.EqAt.bool_none
abbrev abS:=@PySem.SeqAt.EqAt.bool_bool
abbrev abT:=@if_neg
abbrev abU:=@PySem.wpAny_updateSeq_pair
abbrev abV:=@PySem.F.slot_zip_next
abbrev abW:=@PySem.wpAny_updateSeq
abbrev abX:=@Nat.div_le_self
abbrev abY:=@Nat.mul_le_mul_right
abbrev abZ:=@Rat.le_of_lt
abbrev ab0:=@PySem.SeqAt.EqAt.none_int
abbrev ab1:=@PySem.SeqAt.EqAt.bool_int
abbrev ab2:=@PySem.SeqAt.EqAt.int_none
abbrev ab3:=@PySem.SeqAt.EqAt.int_bool
abbrev ab4:=@Nat.add_le_add_left
abbrev ab5:=@PySem.wpAny_setField
abbrev ab6:=@Nat.mul_le_mul
abbrev ab7:=@Int.mul_le_mul
abbrev ab8:=@Nat.le_succ
abbrev ab9:=@PySem.tupleKind_room_in1
abbrev ab_:=@Int.fmod_lt_of_pos
abbrev aca:=@PySem.wpAny_tupleItemsOf
abbrev acb:=@PySem.wpAny_standAt
abbrev acd:=@PySem.wpAny_newList
abbrev ace:=@PySem.wpAny_onRaise
abbrev acf:=@Nat.le_succ_of_le
abbrev acg:=@PySem.wpAny_Call_method
abbrev ach:=@List.getElem_inj
abbrev aci:=@Nat.le_add_right
abbrev ag:=List (List Int)
abbrev aa:=List Int
abbrev aQ:=List Nat
abbrev ak:=List PySem.Str
abbrev ao:=List PySem.Value
abbrev au:=List PySem.Expr
abbrev aO:=List PySem.Addr
abbrev bu:=List PySem.Stmt
abbrev av:=List Rat
abbrev aP:=Array PySem.Value
abbrev aq:=PySem.W.Frag
abbrev aw:=PySem.Value->PySem.Shared->Prop
abbrev aj:=List (PySem.Addr×PySem.Obj)
abbrev ai:=PySem.Addr->Prop
abbrev aX:=PySem.Str->Option PySem.Value
abbrev aF:=PySem.Program
abbrev aE:=PySem.Around
namespace L2
open PySem PySem.Spec PyProof.Rows
noncomputable abbrev Key:=Sum Int Str
def GL:Key->Value->Bool
 |.inl k,v=>Value.isInt k v
 |.inr x,v=>Value.isStrOf x v
def Th(w:World):Key->Int
 |.inl k=>hashInt k
 |.inr x=>hashStr w x
theorem cu:∀{k:Key} {v:Value},GL k v=true->(∃i t,k=Sum.inl i/\v=Value.int i t)\/(∃x t,k=Sum.inr x/\v=Value.str x t)
 |.inl i,v,h=>by
  obtain⟨t,e⟩:=Value.isInt_shape (k:=i) (v:=v) h;exact .inl ⟨i,t,rfl,e⟩
 |.inr x,v,h=>by
  obtain⟨t,e⟩:=Value.isStrOf_shape (x:=x) (v:=v) h;exact .inr ⟨x,t,rfl,e⟩
theorem Jx(a b:Int):decide ((Sum.inl a:Key)=Sum.inl b)=(a==b):=by
 by_cases e:a=b
 ·subst e;simp
 ·have h:¬ (Sum.inl a:Key)=Sum.inl b:=λq=>e (Sum.inl.inj q);rw[decide_eq_false h];exact(beq_eq_false_iff_ne.mpr e).symm
theorem Ju(a b:Str):decide ((Sum.inr a:Key)=Sum.inr b)=decide (a=b):=by
 by_cases e:a=b
 ·subst e;simp
 ·have h:¬ (Sum.inr a:Key)=Sum.inr b:=λq=>e (Sum.inr.inj q);rw[decide_eq_false h,decide_eq_false e]
theorem Jw(a:Int)(b:Str):decide ((Sum.inl a:Key)=Sum.inr b)=false:=aaV (λq=>nomatch q)
theorem Jv(a:Str)(b:Int):decide ((Sum.inr a:Key)=Sum.inl b)=false:=aaV (λq=>nomatch q)
def wN(prog:aF)(w:World):PySem.KeyKind prog w Key where
 is:=GL
 hash:=Th w
 inj:=λv a b ha hb=>by
  rcases cu ha with ⟨i,t,rfl,rfl⟩|⟨x,t,rfl,rfl⟩
  ·rcases cu hb with ⟨j,u,rfl,e⟩|⟨y,u,rfl,e⟩
   ·injection e with e1 _;rw[e1]
   ·exact nomatch e
  ·rcases cu hb with ⟨j,u,rfl,e⟩|⟨y,u,rfl,e⟩
   ·exact nomatch e
   ·injection e with e1 _;rw[e1]
 byValue:=λk v h=>by
  rcases cu h with ⟨i,t,rfl,rfl⟩|⟨x,t,rfl,rfl⟩<;>rfl
 pyHash:=λhv h=>by
  rcases cu hv with ⟨i,t,rfl,rfl⟩|⟨x,t,rfl,rfl⟩
  ·exact wpAny_pyHash_int h
  ·exact wpAny_pyHash_str h
 eqBool:=λhu hv h=>by
  rcases cu hu with ⟨i,t,rfl,rfl⟩|⟨x,t,rfl,rfl⟩
  ·rcases cu hv with ⟨j,u,rfl,rfl⟩|⟨y,u,rfl,rfl⟩
   ·rw[Jx]at h;exact wpAny_eqBool_int h
   ·rw[Jw]at h;exact SeqAt.EqAt.int_str i t y u _ _ _ _ h
  ·rcases cu hv with ⟨j,u,rfl,rfl⟩|⟨y,u,rfl,rfl⟩
   ·rw[Jv]at h;exact SeqAt.EqAt.str_int x t j u _ _ _ _ h
   ·rw[Ju]at h;exact wpAny_eqBool_str h
 «strs»:=λk x t v h=>by
  rcases cu h with ⟨i,u,rfl,e⟩|⟨y,u,rfl,e⟩
  ·exact nomatch e
  ·injection e with e1 _
   subst e1;cases v<;>rfl
end L2
namespace L2
open PySem PySem.Spec PyProof.Rows
inductive V where
 |cw|bl (b:Bool)|int (i:Int)|str (x:Str)|Vv (b:Array UInt8)|Pn (b:UInt64)|ref (a:Addr)|ty (n:String)
 deriving DecidableEq
abbrev ae:=List V
noncomputable def RelV:V->Value->Prop
 |.cw,u=>u=Value.none
 |.bl b,u=>u=Value.bool b
 |.int i,u=>∃t,u=Value.int i t
 |.str x,u=>∃t,u=Value.str x t
 |.Vv b,u=>∃t,u=Value.bytes b t
 |.Pn b,u=>∃t,u=Value.float b t
 |.ref a,u=>u=Value.ref a
 |.ty n,u=>u=Value.type n
abbrev Vals:ae->ao->Prop:=Paired RelV
theorem Vals.length{xs:ae}{us:ao}(r:Vals xs us):xs.length=us.length:=Paired.length r
theorem Vals.get:∀{xs:ae} {us:ao} {i:Nat} {x:V},Vals xs us->xs[i]?=some x->∃u,us[i]?=some u/\RelV x u
 |_,_,_,_,.nil,e=>by simp at e
 |_,_,0,_,.cons r _,e=>by simp at e;subst e;exact⟨_,rfl,r⟩
 |_,_,i+1,x,.cons _ t,e=>by
  obtain⟨u,h1,h2⟩:=Vals.get (i:=i) (x:=x) t (by simpa using e);exact⟨u,by simpa using h1,h2⟩
theorem Vals.append:∀{xs ys:ae} {us ws:ao},Vals xs us->Vals ys ws->Vals (xs++ys) (us++ws)
 |_,_,_,_,.nil,s=>s
 |_,_,_,_,.cons r t,s=>.cons r (Vals.append t s)
theorem Vals.take:∀{xs:ae} {us:ao} (n:Nat),Vals xs us->Vals (xs.take n) (us.take n)
 |_,_,0,_=>.nil
 |_,_,_+1,.nil=>.nil
 |_,_,n+1,.cons r t=>.cons r (Vals.take n t)
theorem Vals.drop:∀{xs:ae} {us:ao} (n:Nat),Vals xs us->Vals (xs.drop n) (us.drop n)
 |_,_,0,r=>r
 |_,_,_+1,.nil=>.nil
 |_,_,n+1,.cons _ t=>Vals.drop n t
def kf:Option V->Option Value->Prop
 |some v,some u=>RelV v u
 |none,none=>True
 |_,_=>False
def KV{κ:Type}:List (κ×V)->List (κ×Value)->Prop:=Paired λ(p:κ×V) (q:κ×Value)=>p.1=q.1/\RelV p.2 q.2
def kV:Key->V
 |.inl i=>.int i
 |.inr x=>.str x
inductive HO where
 |lst (xs:ae)
 |tup (xs:ae)
 |dK (mV:List (Key×V))|dT (mV:List (List Key×V))
 |set (S:Int->Bool) (n:Nat)
 |ins (C dx:Addr) (fs:List (Str×V))
 |own (x:Addr)
 |xd (fs:List (Str×V))
 |met (f x:Addr)
 |kn (lo hi:Int)
 |gY (o:Obj) (u:HO)
 |Gg (ps:aP)
 |ext (φ:Heap->Prop)
noncomputable abbrev Hp:=Addr->Option HO
noncomputable def upd(H:Hp)(a:Addr)(o:HO):Hp:=λb=>if b=a then some o else H b
variable {H:Hp}
theorem aS{a:Addr}{o:HO}:upd H a o a=some o:=by unfold upd;rw[if_pos rfl]
theorem aW{a b:Addr}{o:HO}(h:b≠a):upd H a o b=H b:=by unfold upd;rw[if_neg h]
theorem cx{a b:Addr}{o:HO}(h:H a=some o)(h':H b=none):a≠b:=by
 intro e;subst e;rw[h]at h';cases h'
section
variable (P:aF)(w:World)
def cD(H:Hp)(h:Heap)(a:Addr):HO->Prop
 |.lst xs=>xs.length<=sizeLine/\∃(aK:ao) (n:Nat),Vals xs aK/\h.get? a=some { cls:=.type "list",data:=.seq aK.toArray n }
 |.tup xs=>xs.length<=sizeLine/\∃aK:ao,Vals xs aK/\IsTup h a aK.toArray
 |.dK mV=>mV.length<=sizeLine/\(a==sysModules)=false/\∃vs,KV mV vs/\h.DictOf (wN P w) a vs
 |.dT mV=>mV.length<=sizeLine/\(a==sysModules)=false/\∃xs:List (List Key×Addr×Value),
   Paired (λ(p:List Key×V) (q:List Key×Addr×Value)=>p.1=q.1/\H q.2.1=some (.tup (p.1.map kV))/\RelV p.2 q.2.2) mV xs /\
   ∃o es ep,h.get? a=some o/\o.ExactDict/\o.data=.dict es ep/\es.toList=xs.map (entryOfKey (tupleKind (wN P w)))/\(xs.map (·.1)).Nodup
 |.set S n=>h.SetOf (intKind P w) a S n
 |.ins C dx fs=>H dx=some (.own a)/\fs.length<=1000/\dx≠a/\h.get? a=some (PySem.W.instObj C dx) /\
   ∃mA,h.Ns1 dx mA/\(∀f,kf (fs.lookup f) (mA f))/\PySem.Within mA (fs.map (·.1))
 |.own _=>∃o,h.get? a=some o
 |.xd fs=>∃mA,h.Ns1 a mA/\∀f,kf (fs.lookup f) (mA f)
 |.kn lo hi=>∃t u v,h.get? a=some { cls:=.type "range",data:=.fields #[.int lo t,.int hi u,.int 1 v] }
 |.gY o u=>h.get? a=some o/\cD H h a u
 |.Gg ps=>h.get? a=some { cls:=.none,data:=.fields ps }
 |.met f x=>h.get? a=some (PySem.W.methodObj (.ref f) (.ref x))
 |.ext φ=>φ h/\(∃o,h.get? a=some o)/\∀h1 h2:Heap,φ h1->(∀o,h1.get? a=some o->h2.get? a=some o)->φ h2
def kZ(H:Hp)(h:Heap):Prop:=∀a o,H a=some o->cD P w H h a o
end
section
variable {P:aF}{w:World}{H H':Hp}{h h':Heap}{a:Addr}{o:HO}
theorem cD.lt(x:cD P w H h a o):a<h.objs.size:=by
 cases o with
 |lst xs=>obtain⟨_,_,_,_,e⟩:=x;exact aah e
 |tup xs=>obtain⟨_,_,_,p⟩:=x;exact p.lt
 |dK mV=>obtain⟨_,_,_,_,o,_,_,e,_⟩:=x;exact aah e
 |dT mV=>obtain⟨_,_,_,_,o,_,_,e,_⟩:=x;exact aah e
 |set S n=>obtain⟨o,_,_,_,e,_⟩:=x;exact aah e
 |ins C dx fs=>obtain⟨_,_,_,e,_⟩:=x;exact aah e
 |own y=>obtain⟨_,e⟩:=x;exact aah e
 |xd fs=>obtain⟨_,⟨_,_,_,e,_⟩,_⟩:=x;exact aah e
 |kn lo hi=>obtain⟨_,_,_,e⟩:=x;exact aah e
 |gY ob u=>obtain⟨e,_⟩:=x;exact aah e
 |Gg ps=>exact aah (show h.get? a=some _ from x)
 |met f y=>exact aah (show h.get? a=some _ from x)
 |ext φ=>obtain⟨_,⟨_,e⟩,_⟩:=x;exact aah e
theorem Paired.NR{α β:Type}{F G:α->β->Prop}:∀{l₁:List α} {l₂:List β},Paired F l₁ l₂->(∀a b,F a b->G a b)->Paired G l₁ l₂
 |_,_,.nil,_=>.nil
 |_,_,.cons r t,f=>.cons (f _ _ r) (Paired.NR t f)
theorem cD.jJ(x:cD P w H h a o)(k:∀b u,(b=a\/H b=some (.own a))->h.get? b=some u->h'.get? b=some u)
  (ho:∀b,H b=some (.own a)->H' b=some (.own a)) (ht:∀b xs,H b=some (.tup xs)->H' b=some (.tup xs)):cD P w H' h' a o:=by
 induction o with
 |lst xs=>obtain⟨z,aK,n,r,e⟩:=x;exact⟨z,aK,n,r,k _ _ (.inl rfl) e⟩
 |tup xs=>obtain⟨z,aK,r,ob,e,c⟩:=x;exact⟨z,aK,r,ob,k _ _ (.inl rfl) e,c⟩
 |dK mV=>obtain⟨z,y,vs,r,ob,es,ep,e,c⟩:=x;exact⟨z,y,vs,r,ob,es,ep,k _ _ (.inl rfl) e,c⟩
 |dT mV =>
  obtain⟨z,y,xs,r,ob,es,ep,e,c⟩:=x;exact⟨z,y,xs,Paired.NR r λp q z=>⟨z.1,ht _ _ z.2.1,z.2.2⟩,ob,es,ep,k _ _ (.inl rfl) e,c⟩
 |set S n=>obtain⟨ob,es,ep,t,e,c⟩:=x;exact⟨ob,es,ep,t,k _ _ (.inl rfl) e,c⟩
 |ins C dx fs =>
  obtain⟨d,z,ne,e,mA,⟨od,es,ep,e2,c⟩,r⟩:=x;exact⟨ho _ d,z,ne,k _ _ (.inl rfl) e,mA,⟨od,es,ep,k _ _ (.inr d) e2,c⟩,r⟩
 |own y=>obtain⟨ob,e⟩:=x;exact⟨ob,k _ _ (.inl rfl) e⟩
 |xd fs=>obtain⟨mA,⟨od,es,ep,e,c⟩,r⟩:=x;exact⟨mA,⟨od,es,ep,k _ _ (.inl rfl) e,c⟩,r⟩
 |kn lo hi=>obtain⟨t,u,v,e⟩:=x;exact⟨t,u,v,k _ _ (.inl rfl) e⟩
 |gY ob u ih=>obtain⟨e,q⟩:=x;exact⟨k _ _ (.inl rfl) e,ih q⟩
 |Gg ps =>
  have e:h.get? a=some { cls:=.none,data:=.fields ps }:=x;show h'.get? a=some { cls:=.none,data:=.fields ps };exact k a _ (.inl rfl) e
 |met f y =>
  have e:h.get? a=some (PySem.W.methodObj (.ref f) (.ref y)):=x;show h'.get? a=some (PySem.W.methodObj (.ref f) (.ref y));exact k a _ (.inl rfl) e
 |ext φ=>obtain⟨p,⟨o,e⟩,st⟩:=x;exact⟨st _ _ p λo q=>k _ _ (.inl rfl) q,⟨o,k _ _ (.inl rfl) e⟩,st⟩
theorem kZ.lt(x:kZ P w H h)(e:H a=some o):a<h.objs.size:=(x a o e).lt
theorem kZ.fresh(x:kZ P w H h)(e:h.objs.size<=a):H a=none:=by
 cases q:H a with
 |none=>rfl
 |some u=>exact absurd (aaj (x.lt q) e) (aat _)
theorem kZ.kept(x:kZ P w H h)(k:∀b u,h.get? b=some u->h'.get? b=some u):kZ P w H h':=λa o e =>
 (x a o e).jJ (λb u _ q=>k b u q) (λ_ q=>q) λ_ _ q=>q
theorem kZ.laid(x:kZ P w H h)(k:∀b u,h.get? b=some u->h'.get? b=some u)(hp:h.objs.size<=a)(new:cD P w (upd H a o) h' a o):kZ P w (upd H a o) h':=λb u e=>by
 have hn:=x.fresh hp;by_cases hb:b=a
 ·subst hb;rw[aS]at e;cases e;exact new
 ·rw[aW hb]at e;exact(x b u e).jJ (λc v _ q=>k c v q) (λc q=>by rw[aW (cx q hn)];exact q) λc xs q=>by rw[aW (cx q hn)];exact q
end
def Rd(H:Hp)(a:Addr)(u:HO):Prop:=H a=some u\/∃o,H a=some (.gY o u)
theorem Rd.ok{P:aF}{w:World}{h:Heap}{a:Addr}{u:HO}(r:Rd H a u)(x:kZ P w H h):cD P w H h a u:=by
 rcases r with r|⟨o,r⟩
 ·exact x a u r
 ·obtain⟨_,q⟩:=x a _ r;exact q
noncomputable def Ry:Option HO->Prop
 |some (.lst _)=>True
 |some (.dK _)=>True
 |some (.dT _)=>True
 |some (.set _ _)=>True
 |some (.ins _ _ _)=>True
 |some (.ext _)=>True
 |_=>False
section
variable {P:aF}{w:World}{H:Hp}{h h':Heap}{x e:Addr}{o':HO}
theorem kZ.write(ok:kZ P w H h)(mu:Ry (H x))(he:e=x\/H e=some (.own x))(k:∀b u,b≠e->h.get? b=some u->h'.get? b=some u)(LO:∃u,h'.get? e=some u)
  (new:cD P w (upd H x o') h' x o'):kZ P w (upd H x o') h':=λb u q=>by
 have NI:∀c y,H c=some (.own y)->c≠x:=λc y r z=>by subst z;rw[r]at mu;exact mu
 have S7:∀c xs,H c=some (.tup xs)->c≠x:=λc xs r z=>by subst z;rw[r]at mu;exact mu
 by_cases hb:b=x
 ·subst hb;rw[aS]at q;cases q;exact new
 ·rw[aW hb]at q;by_cases JZ:b=e
  ·have q':H b=some (.own x):=by
    rcases he with z|z
    ·exact absurd (JZ.trans z) hb
    ·rw[JZ];exact z
   rw[q]at q';cases q';obtain⟨v,hv⟩:=LO;exact⟨v,by rw[JZ];exact hv⟩
  ·refine(ok b u q).jJ (λc v hc r=>k c v ?_ r) (λc r=>by rw[aW (NI c b r)];exact r) λc xs r=>by rw[aW (S7 c xs r)];exact r
   rcases hc with rfl|hc
   ·exact JZ
   ·rintro rfl;rcases he with z|z
    ·exact NI c b hc z
    ·rw[hc]at z;cases z;exact hb rfl
end
structure Un(fs ex:aO)(H H':Hp)(h h':Heap):Prop where
 keep:∀b o,h.get? b=some o->H b=none->b∉fs->b∉ex->h'.get? b=some o
 slot:∀b o,h.get? b=some o->H b=none->b∈fs->b∉ex->∃sl,h'.get? b=some { o with slots:=sl }
 free:∀b o,h.get? b=some o->H b=none->b∉ex->H' b=none
 there:∀b o,h.get? b=some o->b∉ex->∃o',h'.get? b=some o'
 pQ:∀b xs,H b=some (.tup xs)->H' b=some (.tup xs)
 oy:∀b o u,H b=some (.gY o u)->H' b=some (.gY o u)
 pS:∀b ps,H b=some (.Gg ps)->∃more,H' b=some (.Gg (ps++more))
section
variable {fs ZC ex Vd:aO}{H H1 H2:Hp}{h h1 h2 h':Heap}{a x e:Addr}{o:HO}
theorem Un.any(u:Un fs ex H H1 h h1){b:Addr}{ob:Obj}(q:h.get? b=some ob)(n:H b=none)(hx:b∉ex):∃sl,h1.get? b=some { ob with slots:=sl }:=by
 by_cases hb:b∈fs
 ·exact u.slot b ob q n hb hx
 ·exact⟨ob.slots,u.keep b ob q n hb hx⟩
theorem Un.kept(k:∀b u,h.get? b=some u->h'.get? b=some u):Un fs ex H H h h' :=
 ⟨λb ob q _ _ _=>k b ob q,λb ob q _ _ _=>⟨ob.slots,k b ob q⟩,λ_ _ _ n _=>n,λb ob q _=>⟨ob,k b ob q⟩,λ_ _ q=>q,λ_ _ _ q=>q,λ_ ps q=>⟨#[],by rw[q];simp⟩⟩
theorem Un.refl:Un fs ex H H h h:=Un.kept λ_ _ q=>q
theorem Un.laid(k:∀b u,h.get? b=some u->h'.get? b=some u)(hp:h.objs.size<=a)(hn:H a=none):Un fs ex H (upd H a o) h h' where
 keep:=λb u q _ _ _=>k b u q
 slot:=λb u q _ _ _=>⟨u.slots,k b u q⟩
 free:=λb u q n _=>by rw[aW (Nat.ne_of_lt (Nat.lt_of_lt_of_le (Heap.lt_size q) hp))];exact n
 there:=λb u q _=>⟨u,k b u q⟩
 pQ:=λb xs q=>by rw[aW (cx q hn)];exact q
 oy:=λb u xs q=>by rw[aW (cx q hn)];exact q
 pS:=λb ps q=>⟨#[],by rw[aW (cx q hn),q];simp⟩
theorem Un.write(mu:Ry (H x))(he:e=x\/H e=some (.own x))(k:∀b u,b≠e->h.get? b=some u->h'.get? b=some u)(LO:∃u,h'.get? e=some u):Un fs ex H (upd H x o) h h':=by
 have hx:∀b,H b=none->b≠x:=λb n z=>by subst z;rw[n]at mu;exact mu
 have hb:∀b,H b=none->b≠e:=λb n z=>by
  subst z;rcases he with r|r
  ·exact hx b n r
  ·rw[n]at r;cases r
 have hm:∀b u,H b=some u->¬ Ry (some u)->b≠x:=λb u q nm z=>by subst z;rw[q]at mu;exact nm mu
 refine⟨λb u q n _ _=>k b u (hb b n) q,λb u q n _ _=>⟨u.slots,k b u (hb b n) q⟩,λb u q n _=>by rw[aW (hx b n)];exact n,λb u q _=>?_,
  λb xs q=>by rw[aW (hm b _ q λz=>z)];exact q,λb u xs q=>by rw[aW (hm b _ q λz=>z)];exact q,λb ps q=>⟨#[],by rw[aW (hm b _ q λz=>z),q];simp⟩⟩
 by_cases JZ:b=e
 ·subst JZ;exact LO
 ·exact⟨u,k b u JZ q⟩
end
noncomputable def Qm(h:Heap)(H:Hp):aO:=(List.range h.objs.size).filter λa=>(H a).isSome
def qH(h:Heap)(H:Hp):Heap:=PySem.W.hideAll h (Qm h H)
theorem yG(h:Heap)(H:Hp):(qH h H).objs.size=h.objs.size:=PySem.W.hideAll_size _ _
variable {o:Obj}
theorem BB{h:Heap}{b:Addr}(e:h.get? b=some o)(n:H b=none):(qH h H).get? b=some o :=
 PySem.W.hideAll_get _ e λhm=>by
  have q:(H b).isSome=true:=(List.mem_filter.mp hm).2;rw[n]at q;simp at q
theorem Em{h:Heap}{b:Addr}(e:(qH h H).get? b=some o):h.get? b=some o/\H b=none:=by
 have e':h.get? b=some o:=PySem.W.of_hideAll (Qm h H) e;refine⟨e',?_⟩;cases q:H b with
 |none=>rfl
 |some x =>
  have hm:b∈Qm h H:=List.mem_filter.mpr ⟨List.mem_range.mpr (aah e'),by simp[q]⟩;have z:(qH h H).get? b=none:=PySem.W.hideAll_none (Qm h H) hm;rw[z]at e;cases e
noncomputable def FW(g h:Heap)(L:Addr):aj:=(List.range h.objs.size).filterMap λa=>if a=L\/(g.get? a).isSome=true then none else(h.get? a).map λo=>(a,o)
def rest(g h:Heap)(L d:Addr):aj:=(FW g h L).filter λp=>decide (p.1≠d)
end L2
namespace L2
open PySem PySem.Spec PyProof.Rows
structure Mod(K:aq)(mg:aX)(base:Heap):Prop where
 Tf:K.In base
 glob:base.Ns mainGlobals mg
 blt:∃mb,base.Ns builtinsNs mb/\∀x:Str,x ≠ "__name__" -> mb x=bootBuiltins x
 nolimit:base.NoLimit
structure Cx where
 prog:aF
 w:World
 K:aq
 mg:aX
 base:Heap
 A:aE
 N:ak
 s₀:Shared
 H₀:Hp
 env:Env
 outer:List Env
 stack:List Env
 ex:aO
 fn:Str->Bool
 calm:Bool
 pn:aj
 xe:aw
noncomputable def zm(l:List Env):aO:=l.filterMap (·.frame)
abbrev Cx.fs(X:Cx):aO:=zm X.outer
def Hj(sc:Scope)(x:Str):Prop:=sc.names.lookup x=some .local\/sc.names.lookup x=some .cell\/sc.names.lookup x=some .free
def Loc(sc:Scope)(x:Str):Prop:=sc.names.lookup x=some .local\/sc.names.lookup x=some .cell
noncomputable def Look(env:Env)(h:Heap)(m:aX)(x:Str)(u:Value):Prop :=
 (env.kindOf x=some .local/\m x=some u)\/((env.kindOf x=some .cell\/env.kindOf x=some .free)/\∃c,env.cells.lookup x=some c/\h.IsCell c (some u))
structure Cx.Ok(X:Cx):Prop where
 mod:Mod X.K X.mg X.base
 kind:X.env.scope.kind=.function
 glob:X.env.globals=mainGlobals
 blt:X.env.builtins=builtinsNs
 above:X.s₀.heap.objs.size<=X.env.locals
 inj:∀x y c,X.env.cells.lookup x=some c->X.env.cells.lookup y=some c->x=y
 has:∀x,(X.env.kindOf x=some .cell\/X.env.kindOf x=some .free)->∃c,X.env.cells.lookup x=some c
 PY:∀x c,X.fn x=true->X.env.cells.lookup x=some c->X.s₀.heap.objs.size<=c
 hd:X.calm=true->X.A.handled=none
 frames:X.A.frames=some X.stack
 Qs:X.stack=X.outer\/(X.stack=X.env::X.outer/\X.env.frame=some X.env.locals)
 W6:∀b∈X.ex,b≠X.env.locals/\∀x c,X.env.cells.lookup x=some c->c≠b
 bs:∀b o,X.base.get? b=some o->X.s₀.heap.get? b=some o/\X.H₀ b=none
 Hc:X.base.objs.size<=X.s₀.heap.objs.size
 AQ:∀b o,X.base.get? b=some o->b∉X.ex
 Fj:∀b∈X.ex,b∉X.fs
 lS:X.s₀.heap.FunFrames X.base X.outer
 LV:∀b∈X.fs,X.H₀ b=none
structure Inv(X:Cx)(pins:aj)(σ:List (Option V))(H:Hp)(s:Shared):Prop where
 ok:X.Ok
 os:s.os=X.s₀.os
 bare:AllBare s.gens
 base:Un X.fs X.ex X.H₀ H X.s₀.heap s.heap
 loc:∃m,s.heap.Ns X.env.locals m/\∀(i:Nat) (x:Str) (v:V),X.N[i]?=some x->σ[i]?=some (some v)->Hj X.env.scope x->∃u,RelV v u/\Look X.env s.heap m x u
 cell:∀x c,X.env.cells.lookup x=some c->∃v,s.heap.IsCell c v
 free:H X.env.locals=none
 i7:∀x c,X.env.cells.lookup x=some c->H c=none
 pin:∀p∈X.pn++pins,s.heap.get? p.1=some p.2/\H p.1=none/\p.1≠X.env.locals/\p.1∉X.fs/\∀v,p.2.data≠.cell v
 cQ:kZ X.prog X.w H s.heap
 len:σ.length=X.N.length
variable {A:aE}{E:Value->Shared->Prop}{Q:Unit->Shared->Prop}{ch:aO}{t':Nat}
section
variable {X:Cx}{pins:aj}{σ:List (Option V)}{H H':Hp}{s:Shared}{h':Heap}
theorem Cx.Ok.S8(ok:X.Ok){b:Addr}{o:Obj}(e:X.base.get? b=some o):b∉X.fs:=λhb=>by
 have:=(ok.lS.mem hb).1;rw[e]at this;cases this
theorem Inv.bs(I:Inv X pins σ H s):∀b o,X.base.get? b=some o->s.heap.get? b=some o/\H b=none:=λb o e =>
 ⟨I.base.keep b o (I.ok.bs b o e).1 (I.ok.bs b o e).2 (I.ok.S8 e) (I.ok.AQ b o e),I.base.free b o (I.ok.bs b o e).1 (I.ok.bs b o e).2 (I.ok.AQ b o e)⟩
theorem Inv.bk(I:Inv X pins σ H s):∀b o,X.base.get? b=some o->s.heap.get? b=some o:=λb o e=>(I.bs b o e).1
theorem Inv.mod(I:Inv X pins σ H s):Mod X.K X.mg X.base:=I.ok.mod
theorem Inv.yu(I:Inv X pins σ H s):X.K.In s.heap:=I.ok.mod.Tf.keeps I.bk
theorem Inv.lt(I:Inv X pins σ H s):X.env.locals<s.heap.objs.size:=let ⟨_,hn,_⟩:=I.loc;hn.lt
theorem Inv.sz(I:Inv X pins σ H s):X.s₀.heap.objs.size<=s.heap.objs.size:=aax I.ok.above (Nat.le_of_lt I.lt)
theorem Inv.Jd(I:Inv X pins σ H s){a:Addr}(h:s.heap.objs.size<=a):a∉X.fs:=λhb=>by
 obtain⟨_,o,ho,_⟩:=I.ok.lS.mem hb;exact absurd (aaj (aah ho) (aax I.sz h)) (aat _)
theorem Inv.K2(I:Inv X pins σ H s):∀x c,X.env.cells.lookup x=some c->c≠X.env.locals:=λx c e z=>by
 obtain⟨v,o,ho,hd⟩:=I.cell x c e;obtain⟨m,⟨o',es,ep,eH,CT,_⟩,_⟩:=I.loc;rw[z,eH]at ho;cases ho;rw[CT]at hd;cases hd
theorem Inv.lS(I:Inv X pins σ H s):s.heap.FunFrames X.base X.outer:=by
 have all:∀(l:List Env),(∀b∈zm l,b∈X.fs)->X.s₀.heap.FunFrames X.base l->s.heap.FunFrames X.base l:=by
  intro l;induction l with
  |nil=>intro _ _;trivial
  |cons env r ih =>
   intro hs hl;obtain⟨hk,⟨L,o,hf,hn,ho,hd⟩,hr⟩:=hl;have hL:L∈X.fs:=hs L (by unfold zm;rw[List.filterMap_cons,hf];exact aaf);obtain⟨sl,e⟩:=I.base.slot L o ho (I.ok.LV L hL) hL λz=>I.ok.Fj L z hL;exact⟨hk,⟨L,_,hf,hn,e,hd⟩,ih (λb hb=>hs b (by unfold zm;rw[List.filterMap_cons,hf];exact aad _ hb)) hr⟩
 exact all X.outer (λ_ hb=>hb) I.ok.lS
theorem Inv.stack(I:Inv X pins σ H s):s.heap.FunFrames X.base X.stack:=by
 rcases I.ok.Qs with e|⟨e,hf⟩
 ·rw[e];exact I.lS
 ·rw[e];obtain⟨m,hn,_⟩:=I.loc;refine .cons (by rw[I.ok.kind];decide) hf hn ?_ I.lS;exact Heap.get?_none_of_le (aax I.ok.Hc I.ok.above)
theorem Inv.kD(I:Inv X pins σ H s):∀b∈zm X.stack,b∈X.env.locals::X.fs:=λb hb=>by
 rcases I.ok.Qs with e|⟨e,hf⟩
 ·rw[e]at hb;exact aad _ hb
 ·rw[e]at hb;unfold zm at hb;rw[List.filterMap_cons,hf]at hb;exact hb
theorem Inv.vY(I:Inv X pins σ H s):∀b∈zm X.stack,H b=none:=λb hb=>by
 rcases List.mem_cons.mp (I.kD b hb)with e|hb
 ·rw[e];exact I.free
 ·obtain⟨_,o,ho,_⟩:=I.ok.lS.mem hb;exact I.base.free b o ho (I.ok.LV b hb) λz=>I.ok.Fj b z hb
theorem Inv.step{g':Array GenState}{d':Drawn}(I:Inv X pins σ H s)
  (CU:∀b∈ch,(b∈X.ex\/X.s₀.heap.objs.size<=b)/\b≠X.env.locals/\(∀x c,X.env.cells.lookup x=some c->c≠b)/\∀p∈X.pn++pins,p.1≠b)
  (keep:∀b o,b≠X.env.locals->b∉X.fs->b∉ch->s.heap.get? b=some o->H b=none->h'.get? b=some o)
  (slot:∀b o,b≠X.env.locals->b∈X.fs->b∉ch->s.heap.get? b=some o->H b=none->∃sl,h'.get? b=some { o with slots:=sl }) (free:∀b o,b∉ch->s.heap.get? b=some o->H b=none->H' b=none)
  (there:∀b o,b∉ch->s.heap.get? b=some o->∃o',h'.get? b=some o')
  (pQ:∀b xs,H b=some (.tup xs)->H' b=some (.tup xs)) (oy:∀b o u,H b=some (.gY o u)->H' b=some (.gY o u)) (pS:∀b ps,H b=some (.Gg ps)->∃more,H' b=some (.Gg (ps++more)))
  (ns:∀m,s.heap.Ns X.env.locals m->h'.Ns X.env.locals m) (cQ:kZ X.prog X.w H' h') (hg:AllBare g') :
  Inv X pins σ H' { s with heap:=h',gens:=g',drawn:=d',toks:=t' }:=by
 have V8:∀b o,X.s₀.heap.get? b=some o->b≠X.env.locals:=λb o e=>aam (aaj (aah e) I.ok.above);have GJ:∀b o,X.s₀.heap.get? b=some o->b∉X.ex->b∉ch:=λb o e hx hb=>by
  rcases(CU b hb).1 with z|z
  ·exact hx z
  ·exact absurd (aaj (aah e) z) (aat _)
 have cellK:∀x c,X.env.cells.lookup x=some c->∀v,s.heap.IsCell c v->h'.IsCell c v:=λx c e v bL=>by
  obtain⟨o,ho,hd⟩:=bL;have NO:c∉ch:=λz=>(CU c z).2.2.1 x c e rfl;by_cases hc:c∈X.fs
  ·obtain⟨sl,q⟩:=slot c o (I.K2 x c e) hc NO ho (I.i7 x c e);exact⟨_,q,hd⟩
  ·exact⟨o,keep c o (I.K2 x c e) hc NO ho (I.i7 x c e),hd⟩
 refine⟨I.ok,I.os,hg,⟨λb o e n hb hx=>?_,λb o e n hb hx=>?_,λb o e n hx=>?_,λb o e hx=>?_,λb xs e=>pQ b xs (I.base.pQ b xs e),λb o xs e=>oy b o xs (I.base.oy b o xs e),λb ps e=>?_⟩,?_,λx c e=>?_,?_,λx c e=>?_,λp hp=>?_,cQ,I.len⟩
 ·exact keep b o (V8 b o e) hb (GJ b o e hx) (I.base.keep b o e n hb hx) (I.base.free b o e n hx)
 ·obtain⟨sl,e1⟩:=I.base.slot b o e n hb hx;obtain⟨X8,e2⟩:=slot b _ (V8 b o e) hb (GJ b o e hx) e1 (I.base.free b o e n hx);exact⟨X8,e2⟩
 ·obtain⟨o',e1⟩:=I.base.there b o e hx;exact free b o' (GJ b o e hx) e1 (I.base.free b o e n hx)
 ·obtain⟨o',e1⟩:=I.base.there b o e hx;exact there b o' (GJ b o e hx) e1
 ·obtain⟨m1,e1⟩:=I.base.pS b ps e;obtain⟨m2,e2⟩:=pS b _ e1;exact⟨m1++m2,by rw[e2,Array.append_assoc]⟩
 ·obtain⟨m,hn,hl⟩:=I.loc;refine⟨m,ns m hn,λi x v e1 e2 e3=>?_⟩;obtain⟨u,r,l⟩:=hl i x v e1 e2 e3;refine⟨u,r,?_⟩;rcases l with l|⟨k,c,e,z⟩
  ·exact .inl l
  ·exact .inr ⟨k,c,e,cellK x c e _ z⟩
 ·obtain⟨v,z⟩:=I.cell x c e;exact⟨v,cellK x c e v z⟩
 ·obtain⟨m,⟨o,_,_,ho,_⟩,_⟩:=I.loc;exact free _ o (λz=>(CU _ z).2.1 rfl) ho I.free
 ·obtain⟨v,o,ho,hd⟩:=I.cell x c e;exact free c o (λz=>(CU c z).2.2.1 x c e rfl) ho (I.i7 x c e)
 ·obtain⟨e,n,ne,nf,d⟩:=I.pin p hp;have NO:p.1∉ch:=λz=>(CU p.1 z).2.2.2 p hp rfl;exact⟨keep p.1 p.2 ne nf NO e n,free p.1 p.2 NO e n,ne,nf,d⟩
theorem Inv.un(I:Inv X pins σ H s)(u:Un X.fs [] H H' s.heap h')(cQ:kZ X.prog X.w H' h'):Inv X pins σ H' { s with heap:=h',toks:=t' }:=by
 obtain⟨m,⟨o,es,ep,ho,r⟩,_⟩:=id I.loc;obtain⟨sl,hL⟩:=u.any ho I.free (by simp);exact I.step (g':=s.gens) (d':=s.drawn) (ch:=[]) (λ_ z=>nomatch z) (λb o _ hb _ e n=>u.keep b o e n hb (by simp)) (λb o _ hb _ e n=>u.slot b o e n hb (by simp)) (λb o _ e n=>u.free b o e n (by simp)) (λb o _ e=>u.there b o e (by simp)) u.pQ u.oy u.pS (λm' hm=>by
  obtain⟨o',CZ,gu,eH,r'⟩:=hm;rw[ho]at eH;cases eH;exact⟨_,CZ,gu,hL,r'⟩) cQ I.bare
theorem Inv.call{g':Array GenState}{d':Drawn}(I:Inv X pins σ H s)(u:Un (zm X.stack) ch H H' s.heap h')(cQ:kZ X.prog X.w H' h')(hg:AllBare g')
  (CU:∀b∈ch,(b∈X.ex\/X.s₀.heap.objs.size<=b)/\b≠X.env.locals/\(∀x c,X.env.cells.lookup x=some c->c≠b)/\∀p∈X.pn++pins,p.1≠b) :
  Inv X pins σ H' { s with heap:=h',gens:=g',drawn:=d',toks:=t' }:=by
 obtain⟨m,⟨o,es,ep,ho,r⟩,_⟩:=id I.loc;obtain⟨sl,hL⟩:=u.any ho I.free λz=>(CU _ z).2.1 rfl;exact I.step (ch:=ch) CU (λb o hL hb hc e n=>u.keep b o e n (λz=>(List.mem_cons.mp (I.kD b z)).elim hL hb) hc) (λb o _ _ hc e n=>u.any e n hc) (λb o hc e n=>u.free b o e n hc) (λb o hc e=>u.there b o e hc) u.pQ u.oy u.pS (λm' hm=>by
  obtain⟨o',CZ,gu,eH,r'⟩:=hm;rw[ho]at eH;cases eH;exact⟨_,CZ,gu,hL,r'⟩) cQ hg
theorem Inv.turned{it:Addr}(I:Inv X pins σ H s)(k:∀b o,b≠it->s.heap.get? b=some o->h'.get? b=some o)(hn:H it=none)(hL:it≠X.env.locals)
  (h1:it∈X.ex\/X.s₀.heap.objs.size<=it) (h2:∀x c,X.env.cells.lookup x=some c->c≠it) (h3:∀p∈X.pn++pins,p.1≠it):Inv X pins σ H { s with heap:=h',toks:=t' }:=by
 have GI:∀b u,H b=some u->b≠it:=λb u e z=>by rw[z,hn]at e;cases e
 refine I.step (g':=s.gens) (d':=s.drawn) (ch:=[it]) (λb hb=>?_) (λb o _ _ hc e _=>k b o (λz=>hc (by simp[z])) e) (λb o _ _ hc e _=>⟨o.slots,k b o (λz=>hc (by simp[z])) e⟩) (λ_ _ _ _ n=>n)
  (λb o hc e=>⟨o,k b o (λz=>hc (by simp[z])) e⟩) (λ_ _ e=>e) (λ_ _ _ e=>e) (λb ps e=>⟨#[],by rw[e];simp⟩) (λm hm=>?_) (λb u e=>?_) I.bare
 ·have e:b=it:=by simpa using hb
  subst e;exact⟨h1,hL,h2,h3⟩
 ·obtain⟨o,es,ep,ho,r⟩:=hm;exact⟨o,es,ep,k _ o (aaC hL) ho,r⟩
 ·refine(I.cQ b u e).jJ (λc v hc q=>k c v ?_ q) (λ_ q=>q) λ_ _ q=>q;rcases hc with z|z
  ·rw[z];exact GI b u e
  ·exact GI c _ z
theorem Inv.tok(I:Inv X pins σ H s)(t:Nat):Inv X pins σ H { s with toks:=t }:=I.un (h':=s.heap) (t':=t) Un.refl I.cQ
theorem Inv.kept{t':Nat}(I:Inv X pins σ H s)(k:∀b u,s.heap.get? b=some u->h'.get? b=some u):Inv X pins σ H { s with heap:=h',toks:=t' }:=I.un (Un.kept k) (I.cQ.kept k)
theorem Inv.laid{a:Addr}{o:HO}{t':Nat}(I:Inv X pins σ H s)(k:∀b u,s.heap.get? b=some u->h'.get? b=some u)(hp:s.heap.objs.size<=a)(new:cD X.prog X.w (upd H a o) h' a o):
  Inv X pins σ (upd H a o) { s with heap:=h',toks:=t' }:=I.un (Un.laid k hp (I.cQ.fresh hp)) (I.cQ.laid k hp new)
theorem Inv.write{x e:Addr}{o:HO}{t':Nat}(I:Inv X pins σ H s)(mu:Ry (H x))(he:e=x\/H e=some (.own x))(k:∀b u,b≠e->s.heap.get? b=some u->h'.get? b=some u)(LO:∃u,h'.get? e=some u)
  (new:cD X.prog X.w (upd H x o) h' x o):Inv X pins σ (upd H x o) { s with heap:=h',toks:=t' }:=I.un (Un.write mu he k LO) (I.cQ.write mu he k LO new)
theorem Inv.iJ{GC:aj}(I:Inv X pins σ H s)(h:∀p∈GC,s.heap.get? p.1=some p.2/\H p.1=none/\p.1≠X.env.locals/\p.1∉X.fs/\∀v,p.2.data≠.cell v):Inv X GC σ H s :=
 ⟨I.ok,I.os,I.bare,I.base,I.loc,I.cell,I.free,I.i7,λp hp=>(List.mem_append.mp hp).elim (λz=>I.pin p (aaA _ z)) (h p),I.cQ,I.len⟩
theorem sU{N:ak}(hN:N.Nodup){i j:Nat}{x:Str}(a:N[i]?=some x)(b:N[j]?=some x):i=j:=by
 obtain⟨h1,e1⟩:=List.getElem?_eq_some_iff.mp a;obtain⟨h2,e2⟩:=List.getElem?_eq_some_iff.mp b;exact(ach hN).mp (e1.trans e2.symm)
theorem ye{M:Model}{i:Nat}{x:Str}{v:V}{u:Value}(I:Inv X pins σ H s)(hN:X.N.Nodup)(hi:X.N[i]?=some x)(hx:Loc X.env.scope x)(r:RelV v u)
  (h:∀s',Inv X pins (σ.set i (some v)) H s'->(∃a,Heap.SameBut a s.heap s'.heap/\(a=X.env.locals\/X.env.cells.lookup x=some a))->Q () s') (hf:X.fn x=true\/X.env.scope.names.lookup x=some .local:=by first|exact .inl rfl|exact .inr rfl|assumption):wpAny M A (storeName X.env x u) Q E s:=by
 obtain⟨m,hn,hl⟩:=id I.loc;have UG:(X.env.scope.kind==.class||(X.env.scope.kind==.module&&X.env.locals != X.env.globals))=false:=by rw[I.ok.kind];rfl
 have OK:i<σ.length:=by rw[I.len];exact(List.getElem?_eq_some_iff.mp hi).1
 have K2:=I.K2;have tracked:∀{a:Addr} {h':Heap},(∃o,s.heap.get? a=some o/\H a=none)->Heap.SameBut a s.heap h'->kZ X.prog X.w H h':=λ{a h'} ha hs b ob e=>by
  obtain⟨_,_,GY⟩:=ha;refine(I.cQ b ob e).jJ (λc w' hc q=>(hs.2 c ?_).trans q) (λ_ q=>q) λ_ _ q=>q;rintro rfl;rcases hc with rfl|hc
  ·rw[GY]at e;cases e
  ·rw[GY]at hc;cases hc
 rcases hx with hk|hk
 ·refine wpAny_storeName_local hk hn (λh' tq hs=>?_) UG;obtain⟨oL,_,_,OE,_⟩:=id hn;refine h _ ⟨I.ok,I.os,I.bare,⟨λb o e n hb hx=>?_,λb o e n hb hx=>?_,I.base.free,λb o e hx=>?_,I.base.pQ,I.base.oy,I.base.pS⟩,⟨_,tq,λj y v' e1 e2 e3=>?_⟩,λy c e=>?_,I.free,I.i7,λp hp=>?_,tracked ⟨oL,OE,I.free⟩ hs,by simpa using I.len⟩ ⟨_,hs,.inl rfl⟩
  ·exact(hs.2 b (aam (aaj (aah e) I.ok.above))).trans (I.base.keep b o e n hb hx)
  ·obtain⟨sl,e1⟩:=I.base.slot b o e n hb hx;exact⟨sl,(hs.2 b (aam (aaj (aah e) I.ok.above))).trans e1⟩
  ·obtain⟨o',e1⟩:=I.base.there b o e hx;exact⟨o',(hs.2 b (aam (aaj (aah e) I.ok.above))).trans e1⟩
  ·by_cases hj:j=i
   ·subst hj;rw[hi]at e1;cases e1;rw[List.getElem?_set_self OK]at e2;cases e2;exact⟨u,r,.inl ⟨hk,by simp⟩⟩
   ·rw[List.getElem?_set_ne (Ne.symm hj)]at e2;obtain⟨u',r',q⟩:=hl j y v' e1 e2 e3;refine⟨u',r',?_⟩;rcases q with ⟨k,e⟩|⟨k,c,e,z⟩
    ·refine .inl ⟨k,?_⟩;have:y≠x:=λe=>hj (sU hN e1 (e▸hi));simp[this,e]
    ·exact .inr ⟨k,c,e,z.sameBut hs (K2 y c e)⟩
  ·obtain⟨w',z⟩:=I.cell y c e;exact⟨w',z.sameBut hs (K2 y c e)⟩
  ·obtain⟨e,n,ne,nf,d⟩:=I.pin p hp;exact⟨(hs.2 p.1 ne).trans e,n,ne,nf,d⟩
 ·have qI:X.fn x=true:=by
   rcases hf with z|z
   ·exact z
   ·rw[z]at hk;cases hk
  obtain⟨c,hc⟩:=I.ok.has x (.inl hk);obtain⟨w',z⟩:=I.cell x c hc;refine wpAny_storeName_cell I.ok.kind hk hc z (λh' ph hs=>?_);obtain⟨oc,WG,Ug⟩:=id z;refine h { s with heap:=h' } ⟨I.ok,I.os,I.bare,⟨λb o e n hb hx=>?_,λb o e n hb hx=>?_,I.base.free,λb o e hx=>?_,I.base.pQ,I.base.oy,I.base.pS⟩,⟨m,hn.sameBut hs (aaC (K2 x c hc)),λj y v' e1 e2 e3=>?_⟩,λy c' e=>?_,I.free,I.i7,λp hp=>?_,tracked ⟨oc,WG,I.i7 x c hc⟩ hs,by simpa using I.len⟩ ⟨c,hs,.inr hc⟩
  ·exact(hs.2 b (aam (aaj (aah e) (I.ok.PY x c qI hc)))).trans (I.base.keep b o e n hb hx)
  ·obtain⟨sl,e1⟩:=I.base.slot b o e n hb hx;exact⟨sl,(hs.2 b (aam (aaj (aah e) (I.ok.PY x c qI hc)))).trans e1⟩
  ·obtain⟨o',e1⟩:=I.base.there b o e hx;exact⟨o',(hs.2 b (aam (aaj (aah e) (I.ok.PY x c qI hc)))).trans e1⟩
  ·by_cases hj:j=i
   ·subst hj;rw[hi]at e1;cases e1;rw[List.getElem?_set_self OK]at e2;cases e2;exact⟨u,r,.inr ⟨.inl hk,c,hc,ph⟩⟩
   ·rw[List.getElem?_set_ne (Ne.symm hj)]at e2;obtain⟨u',r',q⟩:=hl j y v' e1 e2 e3;refine⟨u',r',?_⟩;rcases q with q|⟨k,c',e,z'⟩
    ·exact .inl q
    ·refine .inr ⟨k,c',e,z'.sameBut hs ?_⟩;rintro rfl;exact hj (sU hN e1 (I.ok.inj _ _ _ e hc▸hi))
  ·by_cases WR:c'=c
   ·subst WR;exact⟨_,ph⟩
   ·obtain⟨w2,z2⟩:=I.cell y c' e;exact⟨w2,z2.sameBut hs WR⟩
  ·obtain⟨e,n,ne,nf,d⟩:=I.pin p hp;refine⟨(hs.2 p.1 ?_).trans e,n,ne,nf,d⟩;intro q;rw[q,WG]at e;have q':oc=p.2:=aap e;exact d w' (by rw[<- q'];exact Ug)
theorem jI{M:Model}{i:Nat}{x:Str}{v:V}{u:Value}(I:Inv X pins σ H s)(hN:X.N.Nodup)(hi:X.N[i]?=some x)(hx:Loc X.env.scope x)(r:RelV v u)
  (h:∀s',Inv X pins (σ.set i (some v)) H s'->Q () s') (hf:X.fn x=true\/X.env.scope.names.lookup x=some .local:=by first|exact .inl rfl|exact .inr rfl|assumption):wpAny M A (storeName X.env x u) Q E s :=
 ye I hN hi hx r (λs' I' _=>h s' I') hf
theorem Inv.PV{s':Shared}(I:Inv X pins σ H s)(ho:s'.os=s.os)(u:Un (zm X.stack) ch H H' s.heap s'.heap)(cQ:kZ X.prog X.w H' s'.heap)(hg:AllBare s'.gens)
  (CU:∀b∈ch,(b∈X.ex\/X.s₀.heap.objs.size<=b)/\b≠X.env.locals/\(∀x c,X.env.cells.lookup x=some c->c≠b)/\∀p∈X.pn++pins,p.1≠b):Inv X pins σ H' s':=by
 obtain⟨h',g',d',t',o'⟩:=s';have e:o'=s.os:=ho;subst e;exact I.call (g':=g') (t':=t') (d':=d') u cQ hg CU
end
noncomputable abbrev XK:=Value->Option Addr->Hp->Prop
noncomputable abbrev St:=List (Option V)
noncomputable abbrev VK:=V->Hp->Prop
noncomputable abbrev TE:=St->Hp->VK->Prop
noncomputable abbrev TT:=St->Hp->(Bool->Hp->Prop)->Prop
noncomputable abbrev TA:=St->Hp->(ae->Hp->Prop)->Prop
structure Ends where
 nx:St->Hp->Prop
 rt:VK
 bk:St->Hp->Prop:=λ_ _=>False
 ct:St->Hp->Prop:=λ_ _=>False
noncomputable abbrev TS:=Ends->St->Hp->Prop
def EP(X:Cx)(pins:aj)(σ:St)(Q:VK)(u:Value)(s':Shared):Prop:=∃v H',Inv X pins σ H' s'/\RelV v u/\Q v H'
def TP(X:Cx)(pins:aj)(σ:St)(Q:Bool->Hp->Prop)(b:Bool)(s':Shared):Prop:=∃H',Inv X pins σ H' s'/\Q b H'
def AP(X:Cx)(pins:aj)(σ:St)(Q:ae->Hp->Prop)(us:ao)(s':Shared):Prop:=∃vs H',Inv X pins σ H' s'/\Vals vs us/\Q vs H'
def SP(X:Cx)(pins:aj)(D:Ends)(f:Flow)(s':Shared):Prop :=
 match f with
 |.next=>∃σ' H',Inv X pins σ' H' s'/\D.nx σ' H'
 |.brk=>∃σ' H',Inv X pins σ' H' s'/\D.bk σ' H'
 |.cont=>∃σ' H',Inv X pins σ' H' s'/\D.ct σ' H'
 |.ret u=>∃v σ' H',Inv X pins σ' H' s'/\RelV v u/\D.rt v H'
noncomputable def PE(X:Cx)(e:Expr)(t:TE):Prop :=
 ∀(pins:aj) (s:Shared) (σ:St) (H:Hp) (Q:VK),Inv X pins σ H s->t σ H Q->wpAny (model X.prog X.w) X.A (eval e X.env) (EP X pins σ Q) X.xe s
noncomputable def PT(X:Cx)(e:Expr)(t:TT):Prop :=
 ∀(pins:aj) (s:Shared) (σ:St) (H:Hp) (Q:Bool->Hp->Prop),Inv X pins σ H s->t σ H Q->wpAny (model X.prog X.w) X.A (isTrue e X.env (eval e X.env)) (TP X pins σ Q) X.xe s
noncomputable def PW(X:Cx)(e:Expr)(t:TT):Prop :=
 ∀(whole:Sem Value) (pins:aj) (s:Shared) (σ:St) (H:Hp) (Q:Bool->Hp->Prop),Inv X pins σ H s->t σ H Q->wpAny (model X.prog X.w) X.A (isTrue e X.env whole) (TP X pins σ Q) X.xe s
theorem PW.pt{X:Cx}{e:Expr}{t:TT}(h:PW X e t):PT X e t:=h _
noncomputable def PA(X:Cx)(es:au)(t:TA):Prop :=
 ∀(pos:Pos) (pins:aj) (s:Shared) (σ:St) (H:Hp) (Q:ae->Hp->Prop),Inv X pins σ H s->t σ H Q->wpAny (model X.prog X.w) X.A (spliced (backTo pos (starEach es X.env))) (AP X pins σ Q) X.xe s
noncomputable def PS(X:Cx)(st:Stmt)(t:TS):Prop :=
 ∀(pins:aj) (s:Shared) (σ:St) (H:Hp) (D:Ends),Inv X pins σ H s->t D σ H->wpAny (model X.prog X.w) X.A (exec st X.env) (SP X pins D) X.xe s
noncomputable def mx(X:Cx)(st:bu)(t:TS):Prop :=
 ∀(pins:aj) (s:Shared) (σ:St) (H:Hp) (D:Ends),Inv X pins σ H s->t D σ H->wpAny (model X.prog X.w) X.A (execs st X.env) (SP X pins D) X.xe s
theorem cJ{α:Type}{t:Sem α}{Q Q':α->Shared->Prop}{M:Model}{s:Shared}(h:wpAny M A t Q E s)(hQ:∀a s,Q a s->Q' a s):wpAny M A t Q' E s:=aaw h hQ λ_ _ x=>x
end L2
namespace L2
open PySem PySem.Spec PyProof.Rows
variable {E Q:Value->Shared->Prop}{H:Hp}{pos:Pos}{σ:L2.St}
section
variable {X:Cx}
theorem bin{a b:Expr}{ta tb:TE}(ha:PE X a ta)(hb:PE X b tb){pins:aj}{s:Shared}{R:V->V->Hp->Prop}(I:Inv X pins σ H s)(h:ta σ H λx H1=>tb σ H1 λy H2=>R x y H2)
  {α:Type} {Q:α->Shared->Prop} {f:Value->Value->Sem α}
  (hf:∀v u s2 x y H2,Inv X pins σ H2 s2->RelV x v->RelV y u->R x y H2->wpAny (model X.prog X.w) X.A (f v u) Q X.xe s2) :
  wpAny (model X.prog X.w) X.A (eval a X.env) (λv s₁=>wpAny (model X.prog X.w) X.A (eval b X.env) (λu s₂=>wpAny (model X.prog X.w) X.A (f v u) Q X.xe s₂) X.xe s₁) X.xe s:=by
 refine cJ (ha pins s σ H _ I h) λv s1 bL=>?_;obtain⟨x,H1,I1,r1,q1⟩:=bL;refine cJ (hb pins s1 σ H1 _ I1 q1) λu s2 bL=>?_;obtain⟨y,H2,I2,r2,q2⟩:=bL;exact hf v u s2 x y H2 I2 r1 r2 q2
noncomputable def n9(i:Nat):TE:=λσ H Q=>∃v,σ[i]?=some (some v)/\Q v H
noncomputable def tC(v:V):TE:=λ_ H Q=>Q v H
theorem qe{i:Nat}{x:Str}(hN:X.N[i]?=some x)(hv:Hj X.env.scope x)(hd:(x==("__debug__" : Str))=false:=by decide)(yK:(x==("__classdict__" : Str))=false:=by decide):PE X (.Name x pos) (n9 i):=by
 intro pins s σ H Q I h;obtain⟨v,e,h⟩:=h;obtain⟨m,hn,hl⟩:=I.loc;obtain⟨u,r,l⟩:=hl i x v hN e hv;have fin:EP X pins σ Q u s:=⟨v,H,I,r,h⟩
 rcases l with ⟨hk,hm⟩|⟨hk,c,hc,hcell⟩
 ·exact wpAny_Name (wpAny_loadName_local I.ok.kind hk hn hm fin) hd
 ·rcases hk with hk|hk
  ·exact wpAny_Name (wpAny_loadName_cell I.ok.kind hk hc hcell fin) hd
  ·exact wpAny_Name (wpAny_loadName_free I.ok.kind hk hc hcell fin yK) hd
theorem II{i j pos}:PE X (.Constant (.int i) j pos) (tC (.int i)):=λ_ _ _ H _ I h=>wpAny_Constant_int ⟨.int i,H,I.tok _,⟨_,rfl⟩,h⟩
theorem Nu{b j pos}:PE X (.Constant (.bool b) j pos) (tC (.bl b)):=λ_ _ _ H _ I h=>Constant_bool ⟨.bl b,H,I,rfl,h⟩
theorem IH{j pos}:PE X (.Constant .none j pos) (tC .cw):=λ_ _ _ H _ I h=>Constant_none ⟨.cw,H,I,rfl,h⟩
def Gl(X:Cx)(x:Str):Prop:=X.env.kindOf x=some .globalImplicit
theorem wW{pins:aj}{s:Shared}{x:Str}{u:Value}(I:Inv X pins σ H s)(hg:Gl X x)(hm:X.mg x=some u)(h:Q u s)
  (hd:(x==("__debug__" : Str))=false:=by decide):wpAny (model X.prog X.w) X.A (eval (.Name x pos) X.env) Q E s :=
 Calls.Name_function_global I.ok.kind hg (Calls.loadGlobal_global (by rw[I.ok.glob];exact I.mod.glob.keeps I.bk) hm h) hd
theorem dS{pins:aj}{s:Shared}{x:Str}{u:Value}(I:Inv X pins σ H s)(hg:Gl X x)(hm:X.mg x=none)(hv:bootBuiltins x=some u)(h:Q u s)
  (hn:x ≠ "__name__":=by decide) (hd:(x==("__debug__" : Str))=false:=by decide):wpAny (model X.prog X.w) X.A (eval (.Name x pos) X.env) Q E s:=by
 obtain⟨mb,h1,h2⟩:=I.mod.blt;exact Calls.Name_function_global I.ok.kind hg (Calls.loadGlobal_builtin (by rw[I.ok.glob];exact I.mod.glob.keeps I.bk) hm (by rw[I.ok.blt];exact h1.keeps I.bk) ((h2 x hn).trans hv) h) hd
theorem wG{x:Str}{v:V}{u:Value}(hg:Gl X x)(hm:X.mg x=some u)(r:RelV v u)(hd:(x==("__debug__" : Str))=false:=by decide):PE X (.Name x pos) (tC v) :=
 λ_ _ _ H _ I h=>wW I hg hm ⟨v,H,I,r,h⟩ hd
theorem Ee{x:Str}{v:V}{u:Value}(hg:Gl X x)(hm:X.mg x=none)(hv:bootBuiltins x=some u)(r:RelV v u)(hn:x ≠ "__name__":=by decide)(hd:(x==("__debug__" : Str))=false:=by decide):PE X (.Name x pos) (tC v) :=
 λ_ _ _ H _ I h=>dS I hg hm hv ⟨v,H,I,r,h⟩ hn hd
variable {a b:Expr}{ta tb:TE}{pos:Pos}
noncomputable def tB(t:TE):TT:=λσ H Q=>t σ H λx H1=>∃c,x=.bl c/\Q c H1
theorem Iv{e:Expr}{t:TE}(h:PE X e t)(he:∀whole,isTrue e X.env whole=(do let v <- whole;standAt e.pos;holding [v] (truthy v)):=by intro _;rfl):PT X e (tB t):=by
 intro pins s σ H Q I hw;refine isTrue_plain (cJ (h pins s σ H _ I hw) λv s1 bL=>?_) (he _);obtain⟨x,H1,I1,r1,q1⟩:=bL;obtain⟨d,rfl,q⟩:=q1;cases r1;exact aaR ⟨H1,I1,q⟩
variable {tA Qq:TT}{rest:au}
noncomputable def MD(t u:TT):TT:=λσ H Q=>t σ H λc H1=>if c=true then u σ H1 Q else Q false H1
noncomputable def VW(t u:TT):TT:=λσ H Q=>t σ H λc H1=>if c=true then Q true H1 else u σ H1 Q
noncomputable def RQ(t:TT):TT:=λσ H Q=>t σ H λc H1=>Q (!c) H1
theorem DX(ha:PT X a tA):PW X (.BoolOp .And [a] pos) tA:=by
 intro wh pins s σ H Q I h;refine isTrue_and (cJ (ha pins s σ H Q I h) λc s1 e=>?_);cases c with
 |true=>exact isTrue_and_nil e
 |false=>exact e
theorem Iq(ha:PT X a tA):PW X (.BoolOp .Or [a] pos) tA:=by
 intro wh pins s σ H Q I h;refine isTrue_or (cJ (ha pins s σ H Q I h) λc s1 e=>?_);cases c with
 |false=>exact isTrue_or_nil e
 |true=>exact e
theorem Ir(ha:PT X a tA)(hb:PW X (.BoolOp .And (b::rest) pos) Qq):PW X (.BoolOp .And (a::b::rest) pos) (MD tA Qq):=by
 intro wh pins s σ H Q I h;refine isTrue_and (cJ (ha pins s σ H _ I h) λc s1 ⟨H1,I1,q1⟩=>?_);cases c with
 |true=>exact hb wh pins s1 σ H1 Q I1 q1
 |false=>exact⟨H1,I1,q1⟩
theorem Nb(ha:PT X a tA)(hb:PW X (.BoolOp .Or (b::rest) pos) Qq):PW X (.BoolOp .Or (a::b::rest) pos) (VW tA Qq):=by
 intro wh pins s σ H Q I h;refine isTrue_or (cJ (ha pins s σ H _ I h) λc s1 ⟨H1,I1,q1⟩=>?_);cases c with
 |true=>exact⟨H1,I1,q1⟩
 |false=>exact hb wh pins s1 σ H1 Q I1 q1
theorem Iw(ha:PT X a tA):PT X (.UnaryOp .Not a pos) (RQ tA):=by
 intro pins s σ H Q I h;exact isTrue_not (ha pins s σ H (λc H1=>Q (!c) H1) I h)
noncomputable def Gm(ta tb:TE):TE:=λσ H Q=>ta σ H λx H1=>∃c,x=.bl c/\if c=true then tb σ H1 Q else Q (.bl false) H1
noncomputable def Mx(ta tb:TE):TE:=λσ H Q=>ta σ H λx H1=>∃c,x=.bl c/\if c=true then Q (.bl true) H1 else tb σ H1 Q
noncomputable def My(ta:TE):TE:=λσ H Q=>ta σ H λx H1=>∃c,x=.bl c/\Q (.bl (!c)) H1
theorem AB{op}{t:TE}(h:PE X a t):PE X (.BoolOp op [a] pos) t:=λpins s σ H Q I hw=>BoolOp_one (h pins s σ H Q I hw)
theorem IL(ha:PE X a ta)(hb:PE X (.BoolOp .And (b::rest) pos) tb):PE X (.BoolOp .And (a::b::rest) pos) (Gm ta tb):=by
 intro pins s σ H Q I h;refine BoolOp_and (cJ (ha pins s σ H _ I h) λv s1 bL=>?_);obtain⟨x,H1,I1,r1,q1⟩:=bL;obtain⟨c,rfl,q1⟩:=q1;cases r1;refine aaR ?_;cases c with
 |true=>exact hb pins s1 σ H1 Q I1 q1
 |false=>exact⟨.bl false,H1,I1,rfl,q1⟩
theorem Nr(ha:PE X a ta)(hb:PE X (.BoolOp .Or (b::rest) pos) tb):PE X (.BoolOp .Or (a::b::rest) pos) (Mx ta tb):=by
 intro pins s σ H Q I h;refine BoolOp_or (cJ (ha pins s σ H _ I h) λv s1 bL=>?_);obtain⟨x,H1,I1,r1,q1⟩:=bL;obtain⟨c,rfl,q1⟩:=q1;cases r1;refine aaR ?_;cases c with
 |false=>exact hb pins s1 σ H1 Q I1 q1
 |true=>exact⟨.bl true,H1,I1,rfl,q1⟩
theorem IG(ha:PE X a ta):PE X (.UnaryOp .Not a pos) (My ta):=by
 intro pins s σ H Q I h;refine UnaryOp_ (cJ (ha pins s σ H _ I h) λv s1 bL=>?_);obtain⟨x,H1,I1,r1,q1⟩:=bL;obtain⟨c,rfl,q1⟩:=q1;cases r1;exact not_of (aaR ⟨.bl (!c),H1,I1,rfl,q1⟩)
end
end L2
namespace L2
open PySem PySem.Spec PyProof.Rows
def cX(K:aq)(H:Hp)(a:Addr)(xs:ae):Prop :=
 Rd H a (.lst xs) \/
  ∃(o:Obj) (aK:aP) (n:Nat),K.lookup a=some o/\o.cls=.type "list" /\ o.dict=none/\o.data=.seq aK n/\aK.size<=sizeLine/\Vals xs aK.toList
def aR(K:aq)(H:Hp)(a:Addr)(xs:ae):Prop :=
 Rd H a (.tup xs) \/
  ∃(o:Obj) (aK:aP) (n:Nat),K.lookup a=some o/\o.cls=.type "tuple" /\ o.data=.seq aK n/\aK.size<=sizeLine/\Vals xs aK.toList
noncomputable def VE:Value->Option V
 |.none=>some .cw
 |.bool b=>some (.bl b)
 |.int i _=>some (.int i)
 |.str x _=>some (.str x)
 |.bytes b _=>some (.Vv b)
 |.float b _=>some (.Pn b)
 |.ref a=>some (.ref a)
 |.type n=>some (.ty n)
 |_=>none
theorem RelV.abs{x:V}{u:Value}(r:RelV x u):VE u=some x:=by
 cases x with
 |cw=>cases r;rfl
 |bl _=>cases r;rfl
 |int _=>obtain⟨t,rfl⟩:=r;rfl
 |str _=>obtain⟨t,rfl⟩:=r;rfl
 |Vv _=>obtain⟨t,rfl⟩:=r;rfl
 |Pn _=>obtain⟨t,rfl⟩:=r;rfl
 |ref _=>cases r;rfl
 |ty _=>cases r;rfl
theorem RelV.inj{x y:V}{u:Value}(r:RelV x u)(q:RelV y u):x=y:=aap (r.abs.symm.trans q.abs)
theorem Vals.inj:∀{xs ys:ae} {us:ao},Vals xs us->Vals ys us->xs=ys
 |_,_,_,.nil,.nil=>rfl
 |_,_,_,.cons r t,.cons r' t'=>by rw[r.inj r',Vals.inj t t']
variable {K:aq}
section
variable {X:Cx}{pins:aj}{σ:St}{H:Hp}{s:Shared}{a:Addr}{xs ys:ae}
theorem cX.of(h:H a=some (.lst xs)):cX K H a xs:=.inl (.inl h)
theorem aR.of(h:H a=some (.tup xs)):aR K H a xs:=.inl (.inl h)
theorem Inv.list(I:Inv X pins σ H s)(h:cX X.K H a xs):∃aK:ao,Vals xs aK/\PlainL s.heap a aK.toArray/\xs.length<=sizeLine:=by
 rcases h with h|⟨o,aK,n,hk,hc,hd,hs,hz,r⟩
 ·obtain⟨z,aK,n,r,e⟩:=h.ok I.cQ;exact⟨aK,r,⟨_,n,e,rfl,rfl,rfl⟩,z⟩
 ·refine⟨aK.toList,r,⟨o,n,I.yu a o hk,hc,hd,by simpa using hs⟩,?_⟩;have e:=r.length;simp only[Array.length_toList]at e;left
theorem Inv.tuple(I:Inv X pins σ H s)(h:aR X.K H a xs):∃aK:ao,Vals xs aK/\IsTup s.heap a aK.toArray/\xs.length<=sizeLine:=by
 rcases h with h|⟨o,aK,n,hk,hc,hs,hz,r⟩
 ·obtain⟨z,aK,r,p⟩:=h.ok I.cQ;exact⟨aK,r,p,z⟩
 ·refine⟨aK.toList,r,⟨o,I.yu a o hk,hc,n,by simpa using hs⟩,?_⟩;have e:=r.length;simp only[Array.length_toList]at e;left
theorem Inv.ip(I:Inv X pins σ H s)(h:cX X.K H a xs)(h':cX X.K H a ys):xs=ys:=by
 obtain⟨aK,r,⟨o,n,e,_,_,d⟩,_⟩:=I.list h;obtain⟨its',r',⟨o',n',e',_,_,d'⟩,_⟩:=I.list h';rw[e]at e';cases e';rw[d]at d';injection d' with d1 _;have:aK=its':=by simpa using congrArg Array.toList d1
 subst this;exact r.inj r'
theorem Inv.kC(I:Inv X pins σ H s)(h:aR X.K H a xs)(h':aR X.K H a ys):xs=ys:=by
 obtain⟨aK,r,⟨o,e,_,n,d⟩,_⟩:=I.tuple h;obtain⟨its',r',⟨o',e',_,n',d'⟩,_⟩:=I.tuple h';rw[e]at e';cases e';rw[d]at d';injection d' with d1 _;have:aK=its':=by simpa using congrArg Array.toList d1
 subst this;exact r.inj r'
end
noncomputable abbrev Cx.n5(X:Cx)(E:aw):Cx:={ X with xe:=E }
abbrev Cx.NH(X:Cx):Cx:=X.n5 λ_ _=>False
theorem Cx.Ok.n5{X:Cx}(ok:X.Ok)(E:aw):(X.n5 E).Ok :=
 ⟨ok.mod,ok.kind,ok.glob,ok.blt,ok.above,ok.inj,ok.has,ok.PY,ok.hd,ok.frames,ok.Qs,ok.W6,ok.bs,ok.Hc,ok.AQ,ok.Fj,ok.lS,ok.LV⟩
variable {E:Value->Shared->Prop}{X:Cx}
theorem Cx.Ok.g9(ok:(X.n5 E).Ok):X.Ok :=
 ⟨ok.mod,ok.kind,ok.glob,ok.blt,ok.above,ok.inj,ok.has,ok.PY,ok.hd,ok.frames,ok.Qs,ok.W6,ok.bs,ok.Hc,ok.AQ,ok.Fj,ok.lS,ok.LV⟩
section
variable {X:Cx}{pins:aj}{σ:St}{H:Hp}{s:Shared}{E:aw}
theorem Inv.n5(I:Inv X pins σ H s)(E:aw):Inv (X.n5 E) pins σ H s:=⟨I.ok.n5 E,I.os,I.bare,I.base,I.loc,I.cell,I.free,I.i7,I.pin,I.cQ,I.len⟩
theorem Inv.g9(I:Inv (X.n5 E) pins σ H s):Inv X pins σ H s:=⟨I.ok.g9,I.os,I.bare,I.base,I.loc,I.cell,I.free,I.i7,I.pin,I.cQ,I.len⟩
theorem SP.g9{D:Ends}{f:Flow}{s':Shared}(h:SP (X.n5 E) pins D f s'):SP X pins D f s':=by
 cases f with
 |next=>obtain⟨σ',H',I,q⟩:=h;exact⟨σ',H',I.g9,q⟩
 |brk=>obtain⟨σ',H',I,q⟩:=h;exact⟨σ',H',I.g9,q⟩
 |cont=>obtain⟨σ',H',I,q⟩:=h;exact⟨σ',H',I.g9,q⟩
 |ret u=>obtain⟨v,σ',H',I,r,q⟩:=h;exact⟨v,σ',H',I.g9,r,q⟩
theorem mx.NH{st:bu}{t:TS}(h:mx X.NH st t):mx X st t:=λpins s σ H D I hw =>
 aaw (h pins s σ H D (I.n5 _) hw) (λ_ _ q=>q.g9) λ_ _ z=>False.elim z
end
variable {H:Hp}{σ:L2.St}
section
variable {X:Cx}{st:Stmt}{rest:bu}{t u:TS}{e:Expr}{te:TE}{pos:Pos}
noncomputable def Gk:TS:=λD σ H=>D.nx σ H
noncomputable def RN(t u:TS):TS:=λD σ H=>t { D with nx:=u D } σ H
theorem DY:mx X [] Gk:=λ_ _ σ H _ I h=>wpAny_execs_nil ⟨σ,H,I,h⟩
theorem Ap(h1:PS X st t)(h2:mx X rest u):mx X (st::rest) (RN t u):=by
 intro pins s σ H D I h;refine wpAny_execs_cons (cJ (h1 pins s σ H { D with nx:=u D } I h) λf s1 q=>?_);cases f with
 |next =>
  obtain⟨σ',H',I',q⟩:=q;exact h2 pins s1 σ' H' D I' q
 |ret v=>exact q
 |brk=>exact q
 |cont=>exact q
theorem Inv.quiet{pins:aj}{s:Shared}(I:Inv X pins σ H s):interactive X.env=false:=by simp[interactive,I.ok.kind]
noncomputable def Mz(te:TE):TS:=λD σ H=>te σ H λ_ H1=>D.nx σ H1
theorem jM(he:PE X e te)(hs:swapsWith e none pos.line X.env=pure false:=by rfl):PS X (.Expr e pos) (Mz te):=by
 intro pins s σ H D I h;exact wpAny_Expr_any (cJ (he pins s σ H _ I h) λv s1 ⟨x,H1,I1,r1,q1⟩=>⟨σ,H1,I1,q1⟩) I.quiet hs
noncomputable def RO(te:TE):TS:=λD σ H=>te σ H D.rt
theorem Iz(he:PE X e te):PS X (.Return (some e) pos) (RO te):=by
 intro pins s σ H D I h;exact wpAny_Return_some (cJ (he pins s σ H _ I h) λv s1 ⟨x,H1,I1,r1,q1⟩=>⟨x,σ,H1,I1,r1,q1⟩)
noncomputable def RS(c:TT)(t u:TS):TS:=λD σ H=>c σ H λb H1=>if b=true then t D σ H1 else u D σ H1
theorem Nh{c:Expr}{a b:bu}{tc:TT}(hc:PT X c tc)(ha:mx X a t)(hb:mx X b u):PS X (.If c a b pos) (RS tc t u):=by
 intro pins s σ H D I h;refine wpAny_If (cJ (hc pins s σ H _ I h) λd s1 ⟨H1,I1,q1⟩=>?_);cases d with
 |true=>exact ha pins s1 σ H1 D I1 q1
 |false=>exact hb pins s1 σ H1 D I1 q1
end
noncomputable abbrev TG:=V->St->Hp->(St->Hp->Prop)->Prop
noncomputable abbrev FZ:=ae->St->Hp->(St->Hp->Prop)->Prop
def PG(X:Cx)(target:Expr)(t:TG):Prop :=
 ∀(pins:aj) (s:Shared) (σ:St) (H:Hp) (v:V) (u:Value) (Q:St->Hp->Prop),Inv X pins σ H s->RelV v u->t v σ H Q ->
  wpAny (model X.prog X.w) X.A (assign target X.env u) (λ_ s'=>∃σ' H',Inv X pins σ' H' s'/\Q σ' H') X.xe s
def L5(X:Cx)(ts:au)(t:FZ):Prop :=
 ∀(pins:aj) (s:Shared) (σ:St) (H:Hp) (vs:ae) (us:ao) (Q:St->Hp->Prop),Inv X pins σ H s->Vals vs us->t vs σ H Q ->
  wpAny (model X.prog X.w) X.A (assignInOrder ((assignEach ts X.env).map (·.2)) us) (λ_ s'=>∃σ' H',Inv X pins σ' H' s'/\Q σ' H') X.xe s
variable {es:au}{te:TE}{tg:Expr}
section
variable {X:Cx}{pos:Pos}
noncomputable def pk(i:Nat):TG:=λv σ H Q=>Q (σ.set i (some v)) H
theorem qc{i:Nat}{x:Str}(hN:X.N.Nodup)(hi:X.N[i]?=some x)(hx:Loc X.env.scope x)(hf:X.fn x=true\/X.env.scope.names.lookup x=some .local:=by first|exact .inl rfl|exact .inr rfl|assumption):PG X (.Name x pos) (pk i):=by
 intro pins s σ H v u Q I r h;exact wpAny_assign_Name (jI I hN hi hx r (λs' I'=>⟨_,H,I',h⟩) hf)
noncomputable def Kc:FZ:=λvs σ H Q=>vs=[]/\Q σ H
noncomputable def BR(t:TG)(u:FZ):FZ:=λvs σ H Q=>∃v r,vs=v::r/\t v σ H λσ' H'=>u r σ' H' Q
theorem wB:L5 X [] Kc:=by
 intro pins s σ H vs us Q I r h;obtain⟨e,h⟩:=h;subst e;cases r;exact assignInOrder_nil ⟨σ,H,I,h⟩
theorem sQ{e:Expr}{t:TG}{u:FZ}(h1:PG X e t)(h2:L5 X es u)
  (hs:(assignEach (e::es) X.env).map (·.2)=assign e X.env::(assignEach es X.env).map (·.2):=by rfl):L5 X (e::es) (BR t u):=by
 intro pins s σ H vs us Q I r h;obtain⟨v,vr,e1,h⟩:=h;subst e1;cases r with
 |cons r rr =>
  rw[hs];refine assignInOrder_cons (cJ (h1 pins s σ H _ _ _ I r h) λ_ s1 bL=>?_);obtain⟨σ1,H1,I1,q1⟩:=bL;exact h2 pins s1 σ1 H1 _ _ Q I1 rr q1
def U3(K:aq)(n:Nat)(t:FZ):TG:=λv σ H Q=>∃a xs,v=.ref a/\aR K H a xs/\xs.length=n/\t xs σ H Q
theorem Aw{k:Nat}{t:FZ}{n:Nat}(hc:X.calm=true)(h:L5 X es t)
  (hn:(assignEach es X.env).length=n:=by rfl) (pd:(assignEach es X.env).findIdx? (·.1)=none:=by rfl):PG X (.Tuple es k pos) (U3 X.K n t):=by
 intro pins s σ H v u Q I r hw;obtain⟨a,xs,e1,hq,hl,hw⟩:=hw;subst e1;cases r;obtain⟨aK,rv,ht,hz⟩:=I.tuple hq;refine assign_Tuple_tuple (I.ok.hd hc) ht (by simp[hn,<- hl,rv.length]) pd λh' hx=>?_;have I1:Inv X pins σ H { s with heap:=h' }:=I.kept (t':=s.toks) λb o e=>hx b o (aam (aah e)) e;exact h pins _ σ H xs _ Q I1 (by simpa using rv) hw
noncomputable def RW(te:TE)(g:TG):TS:=λD σ H=>te σ H λx H1=>g x σ H1 D.nx
theorem As{e:Expr}{g:TG}(he:PE X e te)(hg:PG X tg g)(hs:swapsWithSole [tg] e pos.line X.env=pure false:=by rfl)(hw:swappedStores [tg] e X.env=pure none:=by rfl)
  (h1:(assignEach [tg] X.env).map (·.2)=[assign tg X.env]:=by rfl):PS X (.Assign [tg] e pos) (RW te g):=by
 intro pins s σ H D I h;refine wpAny_Assign_stores (cJ (he pins s σ H _ I h) λv s1 bL=>?_) hs hw;obtain⟨x,H1,I1,r1,q1⟩:=bL;rw[h1];exact cJ (hg pins s1 σ H1 x v _ I1 r1 q1) λ_ s2 q=>q
noncomputable def RP(i j:Nat)(ta:TA):TS:=λD σ H=>ta σ H λvs H1=>∃v w,vs=[v,w]/\D.nx ((σ.set i (some v)).set j (some w)) H1
theorem IA{i j:Nat}{x y:Str}{a b:Expr}{ta:TA}{px py pt:Pos}{kt k2 Lr}(hc:X.calm=true)(hN:X.N.Nodup)(hi:X.N[i]?=some x)(hj:X.N[j]?=some y)(gQ:i≠j)
  (hx:X.env.scope.names.lookup x=some .local) (hy:X.env.scope.names.lookup y=some .local) (ha:PA X [a,b] ta)
  (hw:swappedStores [.Tuple [.Name x px,.Name y py] kt pt] (.Tuple [a,b] k2 Lr) X.env=pure (some [x,y]))
  (hs:swapsWithSole [.Tuple [.Name x px,.Name y py] kt pt] (.Tuple [a,b] k2 Lr) pos.line X.env=pure false:=by rfl) :
  PS X (.Assign [.Tuple [.Name x px,.Name y py] kt pt] (.Tuple [a,b] k2 Lr) pos) (RP i j ta):=by
 intro pins s σ H D I h;rw[exec_Assign_arm];refine aaa (acb ?_);rw[hs];refine aaa (aab ?_);rw[if_neg (by decide)];refine aaa (Tuple_ (cJ (ha _ pins s σ H _ I h) λus s1 bL=>?_));obtain⟨vs,H1,I1,r1,q1⟩:=bL;obtain⟨v,w,e1,q1⟩:=q1;subst e1;obtain⟨u1,u2,rfl,rv,gy⟩:∃u1 u2,us=[u1,u2]/\RelV v u1/\RelV w u2:=by
  cases r1 with
  |cons p q =>
   cases q with
   |cons p' q' =>
    cases q';exact⟨_,_,rfl,p,p'⟩
 refine aaX ?_ (by show 2<=sizeLine;decide);have I2:Inv X pins σ H1 { s1 with heap:=s1.heap.push { cls:=.type "tuple",data:=.seq [u1,u2].toArray } }:=I1.kept (t':=s1.toks) λb o e=>aag _ e;rw[hw];refine aaa (aab ?_);show wpAny (model X.prog X.w) X.A (do rule "assign.swapped-stores";let items <- unpackItems (.ref s1.heap.objs.size) 2 none;assignInOrder [λv=>bindName X.env y v,λv=>bindName X.env x v] items.reverse;pure Flow.next) _ _ _;refine aaa (aa5 (aaa (unpackItems_tuple (items:=#[u1,u2]) (I.ok.hd hc) (IsTup.new s1.heap _) λh' Br=>?_)));have I3:=I2.kept (h':=h') (t':=s1.toks) λb o e=>Br b o (aam (aah e)) e;show wpAny _ _ (assignInOrder [λv=>bindName X.env y v,λv=>bindName X.env x v] [u2,u1] >>= λ_=>pure Flow.next) _ _ _;refine aaa (assignInOrder_cons (wpAny_bindName (jI I3 hN hj (.inl hy) gy (λs2 I4=>?_) (.inr hy))));refine assignInOrder_cons (wpAny_bindName (jI I4 hN hi (.inl hx) rv (λs3 I5=>assignInOrder_nil (aab ?_)) (.inr hx)));rw[List.set_comm _ _ (Ne.symm gQ)]at I5;exact⟨_,H1,I5,q1⟩
end
section
variable {X:Cx}{pos:Pos}
noncomputable def HG(c:TT)(tb:TS):TS:=λD σ H=>∃W:Nat->St->Hp->Prop,(∃m,W m σ H)/\∀m σ H,W m σ H ->
 c σ H λb H1=>if b=true then ∃N:St->Hp->Prop,(∀σ' H',N σ' H'->∃m',m'<m/\W m' σ' H')/\tb { D with nx:=N,ct:=N,bk:=D.nx } σ H1 else D.nx σ H1
theorem Aq{c:Expr}{body:bu}{tc:TT}{tb:TS}(hp:PassesOwn (model X.prog X.w) X.A X.env X.xe)(hc:PT X c tc)(hb:mx X body tb):PS X (.While c body [] pos) (HG tc tb):=by
 intro pins s σ H D I h;obtain⟨W,⟨m0,w0⟩,turn⟩:=h;refine wpAny_While (codeAny_whileLoop (λn s'=>∃σ' H',Inv X pins σ' H' s'/\W n σ' H') ?_ m0 ⟨σ,H,I,w0⟩);rintro n s1 ⟨σ1,H1,I1,w1⟩;refine aa3 hp (cJ (hc pins s1 σ1 H1 _ I1 (turn n σ1 H1 w1)) λb s2 ⟨H2,I2,q2⟩=>?_);cases b with
 |true =>
  obtain⟨N,hN,q2⟩:=q2;rw[if_pos rfl];refine aa3 hp (cJ (hb pins s2 σ1 H2 _ I2 q2) λf s3 q3=>?_);cases f with
  |next =>
   obtain⟨σ3,H3,I3,n3⟩:=q3;obtain⟨m',hm,w3⟩:=hN σ3 H3 n3;exact⟨m',hm,σ3,H3,I3,w3⟩
  |cont =>
   obtain⟨σ3,H3,I3,n3⟩:=q3;obtain⟨m',hm,w3⟩:=hN σ3 H3 n3;exact⟨m',hm,σ3,H3,I3,w3⟩
  |brk=>exact q3
  |ret v=>exact q3
 |false =>
  rw[if_neg Bool.false_ne_true];exact wpAny_execs_nil ⟨σ1,H2,I2,q2⟩
end
structure It where
 go:Nat->Hp->Prop
 ui:Nat->Hp->V->Hp->Prop
 stop:Nat->Hp->Prop
noncomputable def nV(X:Cx)(pins:aj)(H:Hp)(b:Addr):Prop :=
 H b=none/\b≠X.env.locals/\b∉X.fs/\(b∈X.ex\/X.s₀.heap.objs.size<=b)/\(∀x c,X.env.cells.lookup x=some c->c≠b)/\∀p∈X.pn++pins,p.1≠b
theorem Inv.yQ{pins:aj}{H':Hp}{s:Shared}{b:Addr}(I:Inv X pins σ H s)(hb:s.heap.objs.size<=b)(hn:H' b=none):nV X pins H' b:=by
 refine⟨hn,aas (aaj I.lt hb),I.Jd hb,.inr (aax I.sz hb),λx c e z=>?_,λp hp z=>?_⟩
 ·obtain⟨v,q⟩:=I.cell x c e;exact absurd (aaj q.lt (by rw[z];exact hb)) (aat _)
 ·exact absurd (aaj (aah (I.pin p hp).1) (by rw[z];exact hb)) (aat _)
structure Turn(P:aF)(w:World)(K:aq)(tg:Expr)(J:It)(fp:aO)(it:Addr)(tn:Nat->Heap->Prop):Prop where
 mem:it∈fp
 obj:∀i h,tn i h->∀b∈fp,∃o,h.get? b=some o/\∀v,o.data≠.cell v
 keep:∀i h h',tn i h->(∀b∈fp,∀o,h.get? b=some o->h'.get? b=some o)->tn i h'
 item:∀(X:Cx),X.prog=P->X.w=w->X.K=K->X.calm=true->∀(i:Nat) (pins:aj) (s:Shared) (σ:St) (H:Hp) (E:aw),Inv X pins σ H s->(∀b∈fp,nV X pins H b)->tn i s.heap->J.go i H ->
  wpAny (model P w) X.A (pyNext (.ref it)) (λr s1=>∃u,r=some u /\
   wpAny (model P w) X.A (letOwnedTupleGo tg (.ref it) u) (λ_ s2=>∃x H',Inv X pins σ H' s2/\RelV x u/\J.ui i H x H'/\tn (i+1) s2.heap/\∀b∈fp,H' b=none) E s1) E s
 done:∀(X:Cx),X.prog=P->X.w=w->X.K=K->X.calm=true->∀(i:Nat) (pins:aj) (s:Shared) (σ:St) (H:Hp) (E:aw),Inv X pins σ H s->(∀b∈fp,nV X pins H b)->tn i s.heap->J.stop i H ->
  wpAny (model P w) X.A (pyNext (.ref it)) (λr s1=>r=none/\Inv X pins σ H s1) E s
 self:∀(A:aE) (i:Nat) (s:Shared) (Q:aw) (E:aw),tn i s.heap->Q (.ref it) s->wpAny (model P w) A (pyIter (.ref it)) Q E s
noncomputable abbrev TI:=St->Hp->(It->Hp->Prop)->Prop
def zp(X:Cx)(pins:aj)(σ:St)(tg:Expr)(R:It->Hp->Prop)(Ts:Value)(s2:Shared):Prop :=
 ∃(it:Addr) (fp:aO) (tn:Nat->Heap->Prop) (J:It) (H':Hp),Ts=.ref it/\Inv X pins σ H' s2/\Turn X.prog X.w X.K tg J fp it tn/\tn 0 s2.heap/\(∀b∈fp,nV X pins H' b)/\R J H'
def PI(X:Cx)(tg iter:Expr)(wi:TI):Prop :=
 ∀(pins:aj) (s:Shared) (σ:St) (H:Hp) (R:It->Hp->Prop),Inv X pins σ H s->wi σ H R ->
  wpAny (model X.prog X.w) X.A (eval iter X.env) (λv s1=>wpAny (model X.prog X.w) X.A (pyIter v) (zp X pins σ tg R) X.xe s1) X.xe s
theorem xh{M:Model}{A:aE}{s:Shared}{it:Addr}{u:Value}{o:Obj}{n:String}{vs:aP}{Q:Unit->Shared->Prop}(ho:s.heap.get? it=some o)(hc:o.cls=.type n)(hd:o.data=.fields vs)
    (hn:["enumerate","zip","dict_itemiterator","dict_reverseitemiterator","odict_iterator","itertools.zip_longest","itertools.pairwise"].contains n=false) (hQ:Q () s):wpAny M A (letOwnedTupleGo tg (.ref it) u) Q E s:=by
  unfold letOwnedTupleGo;cases tg<;>first
    |exact aab hQ
    | (cases u<;>first
        |exact aab hQ
        | (refine aaa (wpAny_load ho ?_)
           rw[hc,hd];show wpAny M A (if (["enumerate","zip","dict_itemiterator","dict_reverseitemiterator","odict_iterator","itertools.zip_longest","itertools.pairwise"].contains n&&vs[0]?==some (rawInt _))=true then _ else _) Q E s;rw[if_neg (by intro h;rw[hn,Bool.false_and]at h;cases h)];exact aab hQ))
def L7(K:aq)(a:Addr):It :=
 ⟨λi H=>∃xs x,cX K H a xs/\xs[i]?=some x,λi H x H'=>H'=H/\∀xs,cX K H a xs->xs[i]?=some x,λi H=>∃xs,cX K H a xs/\xs.length<=i⟩
def L6(K:aq)(a:Addr):It :=
 ⟨λi H=>∃xs x,aR K H a xs/\xs[i]?=some x,λi H x H'=>H'=H/\∀xs,aR K H a xs->xs[i]?=some x,λi H=>∃xs,aR K H a xs/\xs.length<=i⟩
noncomputable def zi(lo:Int)(n:Nat):It:=⟨λi _=>i<n,λi H x H'=>H'=H/\x=.int (lo+i),λi _=>n<=i⟩
variable {P:aF}{w:World}
theorem yb(a it:Addr):Turn P w K tg (L7 K a) [it] it (λi h=>h.IsListIter it a i) where
 mem:=by simp
 obj:=λi h st b hb=>by
  have e:b=it:=by simpa using hb
  subst e;obtain⟨o,e,c,d⟩:=st;exact⟨o,e,λv z=>by rw[d]at z;cases z⟩
 keep:=λi h h' st k=>st.at λo e=>k it (by simp) o e
 item:=by
  intro X hP hw hK hc i pins s σ H E I hf st hg;subst hP hw hK;obtain⟨xs,x,hq,hx⟩:=hg;obtain⟨aK,rv,p,hz⟩:=I.list hq;obtain⟨u,hu,ru⟩:=rv.get hx;obtain⟨f0,f1,f2,f3,f4,f5⟩:=hf it (by simp);refine wpAny_pyNext_list_item st p.isList (x:=u) (by simpa using hu) λh' lH sb=>?_;have I1:Inv X pins σ H { s with heap:=h' }:=I.turned (t':=s.toks) (λb o hb e=>(sb.2 b hb).trans e) f0 f1 f3 f4 f5;obtain⟨o,e,c,d⟩:=id lH;exact⟨u,rfl,xh (s:={ s with heap:=h' }) e c d (by decide) ⟨x,H,I1,ru,⟨rfl,λys hy=>by rw[I.ip hy hq];exact hx⟩,lH,λb hb=>(hf b hb).1⟩⟩
 done:=by
  intro X hP hw hK hc i pins s σ H E I hf st hg;subst hP hw hK;obtain⟨xs,hq,hx⟩:=hg;obtain⟨aK,rv,p,hz⟩:=I.list hq;obtain⟨f0,f1,f2,f3,f4,f5⟩:=hf it (by simp);have hl:=rv.length;exact wpAny_pyNext_list_end (I.ok.hd hc) st p.isList (by simp;left) λh' eb=>⟨rfl,I.turned (t':=s.toks) (λb o hb e=>eb b o hb e) f0 f1 f3 f4 f5⟩
 self:=λ_ _ _ _ _ st h=>wpAny_pyIter_listiter st h
theorem uB(a it:Addr):Turn P w K tg (L6 K a) [it] it (λi h=>h.IsTupleIter it a i) where
 mem:=by simp
 obj:=λi h st b hb=>by
  have e:b=it:=by simpa using hb
  subst e;obtain⟨o,e,c,d⟩:=st;exact⟨o,e,λv z=>by rw[d]at z;cases z⟩
 keep:=λi h h' st k=>st.at λo e=>k it (by simp) o e
 item:=by
  intro X hP hw hK hc i pins s σ H E I hf st hg;subst hP hw hK;obtain⟨xs,x,hq,hx⟩:=hg;obtain⟨aK,rv,p,hz⟩:=I.tuple hq;obtain⟨u,hu,ru⟩:=rv.get hx;obtain⟨f0,f1,f2,f3,f4,f5⟩:=hf it (by simp);refine wpAny_pyNext_tuple_item st (show s.heap.IsTuple a aK.toArray from p) (x:=u) (by simpa using hu) λh' lH sb=>?_;have I1:Inv X pins σ H { s with heap:=h' }:=I.turned (t':=s.toks) (λb o hb e=>(sb.2 b hb).trans e) f0 f1 f3 f4 f5;obtain⟨o,e,c,d⟩:=id lH;exact⟨u,rfl,xh (s:={ s with heap:=h' }) e c d (by decide) ⟨x,H,I1,ru,⟨rfl,λys hy=>by rw[I.kC hy hq];exact hx⟩,lH,λb hb=>(hf b hb).1⟩⟩
 done:=by
  intro X hP hw hK hc i pins s σ H E I hf st hg;subst hP hw hK;obtain⟨xs,hq,hx⟩:=hg;obtain⟨aK,rv,p,hz⟩:=I.tuple hq;obtain⟨f0,f1,f2,f3,f4,f5⟩:=hf it (by simp);have hl:=rv.length;exact wpAny_pyNext_tuple_end (I.ok.hd hc) st (show s.heap.IsTuple a aK.toArray from p) (by simp;left) λh' eb=>⟨rfl,I.turned (t':=s.toks) (λb o hb e=>eb b o hb e) f0 f1 f3 f4 f5⟩
 self:=λ_ _ _ _ _ st h=>wpAny_pyIter_tupleiter st h
theorem uC(it:Addr)(lo:Int)(n:Nat):Turn P w K tg (zi lo n) [it] it (λi h=>IsRangeIter h it (lo+(i:Nat)*1) ((n:Int) - (i:Nat)) 1) where
 mem:=by simp
 obj:=λi h st b hb=>by
  have e:b=it:=by simpa using hb
  subst e;exact⟨_,st,λv z=>by
   have z':Data.fields _=Data.cell v:=z;cases z'⟩
 keep:=λi h h' st k=>k it (by simp) _ st
 item:=by
  intro X hP hw hK hc i pins s σ H E I hf st hg;subst hP hw hK;obtain⟨f0,f1,f2,f3,f4,f5⟩:=hf it (by simp);have W:=Walks.range (prog:=X.prog) (w:=X.w) (I.ok.hd hc) it lo 1 n;refine W.item i s _ _ hg st λv h' tk hv lH kk=>?_;obtain⟨t,rfl⟩:=hv;have I1:Inv X pins σ H { s with heap:=h',toks:=tk }:=I.turned (λb o hb e=>kk b o (by simpa using hb) e) f0 f1 f3 f4 f5;refine⟨_,rfl,xh (s:={ s with heap:=h',toks:=tk }) (n:="range_iterator") lH rfl rfl (by decide) ⟨.int (lo+i),H,I1,⟨t,?_⟩,⟨rfl,rfl⟩,lH,λb hb=>(hf b hb).1⟩⟩;rw[Int.mul_one]
 done:=by
  intro X hP hw hK hc i pins s σ H E I hf st hg;subst hP hw hK;obtain⟨f0,f1,f2,f3,f4,f5⟩:=hf it (by simp);exact wpAny_pyNext_range_end (I.ok.hd hc) st (by have:n<=i:=hg;left) λh' eb=>⟨rfl,I.turned (t':=s.toks) (λb o hb e=>eb b o hb e) f0 f1 f3 f4 f5⟩
 self:=λ_ _ _ _ _ st h=>wpAny_pyIter_rangeiter st h
end L2
namespace L2
open PySem PySem.Spec PyProof.Rows
variable {H:Hp}{fp:aO}{lo:Int}{pos:Pos}{ta:TA}{tl:TE}{σ:L2.St}
section
variable {X:Cx}{tg:Expr}
def Oh(K:aq)(tl:TE):TI:=λσ H R=>tl σ H λx H1=>∃a,x=.ref a/\(∃xs,cX K H1 a xs)/\R (L7 K a) H1
def TN(K:aq)(tl:TE):TI:=λσ H R=>tl σ H λx H1=>∃a,x=.ref a/\(∃xs,aR K H1 a xs)/\R (L6 K a) H1
theorem wA{l:Expr}(hl:PE X l tl):PI X tg l (Oh X.K tl):=by
 intro pins s σ H R I h;refine cJ (hl pins s σ H _ I h) λv s1 bL=>?_;obtain⟨x,H1,I1,r1,q1⟩:=bL;obtain⟨a,e,⟨xs,hq⟩,q⟩:=q1;subst e;cases r1;obtain⟨aK,rv,p,hz⟩:=I1.list hq;refine wpAny_pyIter_list p.isList ?_;refine⟨s1.heap.objs.size,[s1.heap.objs.size],_,_,H1,rfl,I1.kept (t':=s1.toks) λb o e=>aag _ e,yb a _,⟨_,aan _ rfl,rfl,rfl⟩,λb hb=>?_,q⟩;have e:b=s1.heap.objs.size:=by simpa using hb
 subst e;exact I1.yQ (aai _) (I1.cQ.fresh (aai _))
theorem Au{l:Expr}(hl:PE X l tl):PI X tg l (TN X.K tl):=by
 intro pins s σ H R I h;refine cJ (hl pins s σ H _ I h) λv s1 bL=>?_;obtain⟨x,H1,I1,r1,q1⟩:=bL;obtain⟨a,e,⟨xs,hq⟩,q⟩:=q1;subst e;cases r1;obtain⟨aK,rv,p,hz⟩:=I1.tuple hq;refine wpAny_pyIter_tuple (show s1.heap.IsTuple a aK.toArray from p) ?_;refine⟨s1.heap.objs.size,[s1.heap.objs.size],_,_,H1,rfl,I1.kept (t':=s1.toks) λb o e=>aag _ e,uB a _,⟨_,aan _ rfl,rfl,rfl⟩,λb hb=>?_,q⟩;have e:b=s1.heap.objs.size:=by simpa using hb
 subst e;exact I1.yQ (aai _) (I1.cQ.fresh (aai _))
theorem sL{pins:aj}{s:Shared}{R:It->Hp->Prop}{E:aw}{hi:Int}{t u v:Tok}{tk:Nat}(I:Inv X pins σ H s)(h1:-(2 ^ 62)<=lo)(h2:lo<2 ^ 62)(h3:-(2 ^ 62)<=hi)(h4:hi<2 ^ 62)
  (q:R (zi lo (hi - lo).toNat) H):wpAny (model X.prog X.w) X.A (pyIter (.ref s.heap.objs.size)) (zp X pins σ tg R) E { s with heap:=s.heap.push { cls:=.type "range",data:=.fields #[.int lo t,.int hi u,.int 1 v] },toks:=tk }:=by
 refine wpAny_pyIter_range (IsRange.new ..) (small_one h1 h2 h3 h4) ?_;have I1:Inv X pins σ H { s with heap:=s.heap.push { cls:=.type "range",data:=.fields #[.int lo t,.int hi u,.int 1 v] },toks:=tk }:=I.kept λb o e=>aag _ e;refine⟨(s.heap.push { cls:=.type "range",data:=.fields #[.int lo t,.int hi u,.int 1 v] }).objs.size,[(s.heap.push { cls:=.type "range",data:=.fields #[.int lo t,.int hi u,.int 1 v] }).objs.size],_,_,H,rfl,
  I1.kept (t':=tk) λb o e=>aag _ e,uC _ lo (hi - lo).toNat,?_,λb hb=>?_,q⟩
 ·have e1:lo+((0:Nat):Int)*1=lo:=by simp
  have e2:(((hi - lo).toNat:Nat):Int) - ((0:Nat):Int)=Builtin.Range.rangeSize lo hi 1:=by rw[rangeSize_one];split<;>left
  show IsRangeIter _ _ (lo+((0:Nat):Int)*1) ((((hi - lo).toNat:Nat):Int) - ((0:Nat):Int)) 1;rw[e1,e2];exact aan _ rfl
 ·have e:b=(s.heap.push { cls:=.type "range",data:=.fields #[.int lo t,.int hi u,.int 1 v] }).objs.size:=by simpa using hb
  subst e;exact I1.yQ (aai _) (I1.cQ.fresh (aai _))
def Og(ta:TA):TI:=λσ H R=>ta σ H λvs H1=>∃j:Int,vs=[.int j] /\ -(2 ^ 62)<=j/\j<2 ^ 62/\R (zi 0 j.toNat) H1
theorem oX{a:Expr}{p:Pos}(hg:Gl X "range")(hm:X.mg "range" = none)(ha:PA X [a] ta)(hs:starEach [a] X.env=[(false,eval a X.env)]:=by rfl):PI X tg (.Call (.Name "range" p) [a] [] pos) (Og ta):=by
 intro pins s σ H R I h;refine Call_ (dS I hg hm boot_range (aau (cJ (ha pos pins s σ H _ I h) λus s1 bL=>?_) hs rfl));obtain⟨vs,H1,I1,r1,q1⟩:=bL;obtain⟨j,e,q1,q2,q⟩:=q1;subst e;cases r1 with
 |cons r rr =>
  cases rr;obtain⟨t,rfl⟩:=r;exact call_range_1 (sL I1 (by left) (by left) q1 q2 (by simpa using q))
noncomputable def RT(wi:TI)(g:TG)(tb:TS):TS:=λD σ H=>wi σ H λJ H1=>∃W:Nat->Nat->St->Hp->Prop,(∃m,W 0 m σ H1)/\∀i m σ H,W i m σ H ->
 (J.stop i H/\D.nx σ H)\/(J.go i H/\∃N:St->Hp->Prop,(∀σ' H',N σ' H'->∃m',m'<m/\W (i+1) m' σ' H')/\∀x H',J.ui i H x H'->g x σ H' λσ2 H2=>tb { D with nx:=N,ct:=N,bk:=D.nx } σ2 H2)
noncomputable def ia(fp:aO)(h:Heap):aj:=fp.filterMap λb=>(h.get? b).map λo=>(b,o)
theorem gA{h:Heap}{b:Addr}{o:Obj}(hb:b∈fp)(e:h.get? b=some o):(b,o)∈ia fp h:=List.mem_filterMap.mpr ⟨b,hb,by rw[e];rfl⟩
theorem o6{h:Heap}{p:Addr×Obj}(hp:p∈ia fp h):p.1∈fp/\h.get? p.1=some p.2:=by
 obtain⟨b,hb,e⟩:=List.mem_filterMap.mp hp;cases q:h.get? b with
 |none=>rw[q]at e;cases e
 |some o =>
  rw[q]at e;have e':(b,o)=p:=aap e;subst e';exact⟨hb,q⟩
theorem Inv.pinned{pins:aj}{s:Shared}(I:Inv X pins σ H s)(hf:∀b∈fp,nV X pins H b)(ho:∀b∈fp,∃o,s.heap.get? b=some o/\∀v,o.data≠.cell v):Inv X (pins++ia fp s.heap) σ H s :=
 I.iJ λp hp=>(List.mem_append.mp hp).elim (λz=>I.pin p (aao _ z)) λz=>by
  obtain⟨hb,e⟩:=o6 z;obtain⟨f0,f1,f2,_⟩:=hf p.1 hb;obtain⟨o,e',d⟩:=ho p.1 hb;rw[e]at e';cases e';exact⟨e,f0,f1,f2,d⟩
theorem Inv.jF{pins pl:aj}{s:Shared}(I:Inv X (pins++pl) σ H s):Inv X pins σ H s:=I.iJ λp hp=>I.pin p (aao _ (aaA _ hp))
theorem p_{iter:Expr}{body:bu}{wi:TI}{g:TG}{tb:TS}(hp:PassesOwn (model X.prog X.w) X.A X.env X.xe)(hc:X.calm=true)(hi:PI X tg iter wi)(hg:PG X tg g)(hb:mx X body tb)
  (hs:∀x,foldedSetIterable iter X.env x=pure x:=by intro _;rfl):PS X (.For tg iter body [] pos) (RT wi g tb):=by
 intro pins s σ H D I h;refine wpAny_For (cJ (hi pins s σ H _ I h) λv s1 h1=>cJ h1 λTs s2 h2=>?_) hs;obtain⟨it,fp,tn,J,H2,e,I2,T,DC,f2,W,⟨m0,w0⟩,turn⟩:=h2;subst e;have HM:∀{H':Hp},(∀b∈fp,H' b=none)->∀b∈fp,nV X pins H' b:=λhn b hb=>⟨hn b hb,(f2 b hb).2⟩
 refine codeAny_forLoop_any (λn s'=>∃i σ' H',Inv X pins σ' H' s'/\tn i s'.heap/\(∀b∈fp,H' b=none)/\W i n σ' H') ?_ m0 ⟨0,σ,H2,I2,DC,λb hb=>(f2 b hb).1,w0⟩;rintro n s3 ⟨i,σ3,H3,I3,st3,fr3,w3⟩;rcases turn i n σ3 H3 w3 with ⟨stop,qn⟩|⟨go,N,hN,step⟩
 ·refine aa3 hp (cJ (T.done X rfl rfl rfl hc i pins s3 σ3 H3 X.xe I3 (HM fr3) st3 stop) λr s4 bL=>?_);obtain⟨hr,I4⟩:=bL;subst hr;exact wpAny_execs_nil ⟨σ3,H3,I4,qn⟩
 ·refine aa3 hp (cJ (T.item X rfl rfl rfl hc i pins s3 σ3 H3 X.xe I3 (HM fr3) st3 go) λr s4 bL=>?_);obtain⟨u,hr,h4⟩:=bL;subst hr;refine aa3 hp (cJ h4 λ_ s5 bL=>?_);obtain⟨x,H5,I5,r5,y5,HP,U8⟩:=bL;have VN:=I5.pinned (HM U8) (T.obj _ _ HP);refine aa3 hp (cJ (hg _ s5 σ3 H5 x u _ VN r5 (step x H5 y5)) λ_ s6 bL=>?_);obtain⟨σ6,H6,I6,q6⟩:=bL;refine aa3 hp (cJ (hb _ s6 σ6 H6 _ I6 q6) λf s7 q7=>?_);have again:∀{σ7:St} {H7:Hp},Inv X (pins++ia fp s5.heap) σ7 H7 s7->N σ7 H7->∃m,m<n/\∃i σ' H',Inv X pins σ' H' s7/\tn i s7.heap/\(∀b∈fp,H' b=none)/\W i m σ' H':=λ{σ7 H7} I7 n7=>by
   obtain⟨m',hm,w7⟩:=hN σ7 H7 n7;refine⟨m',hm,i+1,σ7,H7,I7.jF,T.keep _ _ _ HP λb hb o e=>(I7.pin (b,o) (aao _ (aao _ (gA hb e)))).1,λb hb=>?_,w7⟩;obtain⟨o,e,d⟩:=T.obj _ _ HP b hb;exact(I7.pin (b,o) (aao _ (aao _ (gA hb e)))).2.1
  cases f with
  |next=>obtain⟨σ7,H7,I7,n7⟩:=q7;exact again I7 n7
  |cont=>obtain⟨σ7,H7,I7,n7⟩:=q7;exact again I7 n7
  |brk=>obtain⟨σ7,H7,I7,q7⟩:=q7;exact⟨σ7,H7,I7.jF,q7⟩
  |ret v=>obtain⟨x7,σ7,H7,I7,r7,q7⟩:=q7;exact⟨x7,σ7,H7,I7.jF,r7,q7⟩
end
variable {K:aq}{xs:ae}
theorem BV{a:Addr}{g:TG}{tb:TS}{D:Ends}(Pv:Nat->St->Hp->Prop)(h0:Pv 0 σ H)(hl:∀i σ H,i<=xs.length->Pv i σ H->cX K H a xs)
  (hs:∀i x σ H,xs[i]?=some x->Pv i σ H->g x σ H λσ2 H2=>tb { D with nx:=Pv (i+1),ct:=Pv (i+1),bk:=D.nx } σ2 H2) (hd:∀σ H,Pv xs.length σ H->D.nx σ H) :
  ∃W:Nat->Nat->St->Hp->Prop,(∃m,W 0 m σ H)/\∀i m σ H,W i m σ H ->
   ((L7 K a).stop i H/\D.nx σ H)\/((L7 K a).go i H/\∃N:St->Hp->Prop,(∀σ' H',N σ' H'->∃m',m'<m/\W (i+1) m' σ' H')/\∀x H',(L7 K a).ui i H x H'->g x σ H' λσ2 H2=>tb { D with nx:=N,ct:=N,bk:=D.nx } σ2 H2):=by
 refine⟨λi m σ H=>m=xs.length - i/\i<=xs.length/\Pv i σ H,⟨xs.length,by simp,aaF _,h0⟩,?_⟩;rintro i m σ H ⟨rfl,hi,p⟩;have q:=hl i σ H hi p;by_cases fu:i<xs.length
 ·refine .inr ⟨⟨xs,xs[i],q,by simp[fu]⟩,Pv (i+1),λσ' H' p'=>⟨xs.length - (i+1),by left,rfl,fu,p'⟩,λx H' y=>?_⟩;obtain⟨e,y⟩:=y;subst e;exact hs i x σ _ (y xs q) p
 ·have e:i=xs.length:=by left
  subst e;exact .inl ⟨⟨xs,q,aai _⟩,hd σ H p⟩
theorem Ff{a:Addr}{g:TG}{tb:TS}{D:Ends}(Pv:Nat->St->Hp->Prop)(h0:Pv 0 σ H)(hl:∀i σ H,i<=xs.length->Pv i σ H->aR K H a xs)
  (hs:∀i x σ H,xs[i]?=some x->Pv i σ H->g x σ H λσ2 H2=>tb { D with nx:=Pv (i+1),ct:=Pv (i+1),bk:=D.nx } σ2 H2) (hd:∀σ H,Pv xs.length σ H->D.nx σ H) :
  ∃W:Nat->Nat->St->Hp->Prop,(∃m,W 0 m σ H)/\∀i m σ H,W i m σ H ->
   ((L6 K a).stop i H/\D.nx σ H)\/((L6 K a).go i H/\∃N:St->Hp->Prop,(∀σ' H',N σ' H'->∃m',m'<m/\W (i+1) m' σ' H')/\∀x H',(L6 K a).ui i H x H'->g x σ H' λσ2 H2=>tb { D with nx:=N,ct:=N,bk:=D.nx } σ2 H2):=by
 refine⟨λi m σ H=>m=xs.length - i/\i<=xs.length/\Pv i σ H,⟨xs.length,by simp,aaF _,h0⟩,?_⟩;rintro i m σ H ⟨rfl,hi,p⟩;have q:=hl i σ H hi p;by_cases fu:i<xs.length
 ·refine .inr ⟨⟨xs,xs[i],q,by simp[fu]⟩,Pv (i+1),λσ' H' p'=>⟨xs.length - (i+1),by left,rfl,fu,p'⟩,λx H' y=>?_⟩;obtain⟨e,y⟩:=y;subst e;exact hs i x σ _ (y xs q) p
 ·have e:i=xs.length:=by left
  subst e;exact .inl ⟨⟨xs,q,aai _⟩,hd σ H p⟩
theorem yR{n:Nat}{g:TG}{tb:TS}{D:Ends}(Pv:Nat->St->Hp->Prop)(h0:Pv 0 σ H)
  (hs:∀i σ H,i<n->Pv i σ H->g (.int (lo+i)) σ H λσ2 H2=>tb { D with nx:=Pv (i+1),ct:=Pv (i+1),bk:=D.nx } σ2 H2) (hd:∀σ H,Pv n σ H->D.nx σ H) :
  ∃W:Nat->Nat->St->Hp->Prop,(∃m,W 0 m σ H)/\∀i m σ H,W i m σ H ->
   ((zi lo n).stop i H/\D.nx σ H)\/((zi lo n).go i H/\∃N:St->Hp->Prop,(∀σ' H',N σ' H'->∃m',m'<m/\W (i+1) m' σ' H')/\∀x H',(zi lo n).ui i H x H'->g x σ H' λσ2 H2=>tb { D with nx:=N,ct:=N,bk:=D.nx } σ2 H2):=by
 refine⟨λi m σ H=>m=n - i/\i<=n/\Pv i σ H,⟨n,by simp,aaF _,h0⟩,?_⟩;rintro i m σ H ⟨rfl,hi,p⟩;by_cases fu:i<n
 ·refine .inr ⟨fu,Pv (i+1),λσ' H' p'=>⟨n - (i+1),by left,rfl,fu,p'⟩,λx H' y=>?_⟩;obtain⟨e,y⟩:=y;subst e y;exact hs i σ _ fu p
 ·have e:i=n:=by left
  subst e;exact .inl ⟨aai _,hd σ H p⟩
end L2
namespace L2
open PySem PySem.Spec PyProof.Rows
noncomputable abbrev R2:=V->V->Hp->VK->Prop
def js(X:Cx)(f:Value->Value->Sem Value)(r:R2):Prop :=
 ∀(pins:aj) (s:Shared) (σ:St) (H:Hp) (x y:V) (v u:Value) (Q:VK),Inv X pins σ H s->RelV x v->RelV y u->r x y H Q ->
  wpAny (model X.prog X.w) X.A (f v u) (EP X pins σ Q) X.xe s
def VF(X:Cx)(f:Value->Sem Value)(r:V->Hp->VK->Prop):Prop :=
 ∀(pins:aj) (s:Shared) (σ:St) (H:Hp) (x:V) (v:Value) (Q:VK),Inv X pins σ H s->RelV x v->r x H Q ->
  wpAny (model X.prog X.w) X.A (f v) (EP X pins σ Q) X.xe s
def fN(X:Cx)(f:Value)(r:ae->Hp->VK->Prop):Prop :=
 ∀(pins:aj) (s:Shared) (σ:St) (H:Hp) (xs:ae) (us:ao) (Q:VK),Inv X pins σ H s->Vals xs us->r xs H Q ->
  wpAny (model X.prog X.w) X.A (call f us) (EP X pins σ Q) X.xe s
noncomputable def Gj(r:R2)(ta tb:TE):TE:=λσ H Q=>ta σ H λx H1=>tb σ H1 λy H2=>r x y H2 Q
noncomputable def XN(r:V->Hp->VK->Prop)(ta:TE):TE:=λσ H Q=>ta σ H λx H1=>r x H1 Q
noncomputable def rI(C:Int->Int->Prop)(g:Int->Int->V):R2:=λx y H Q=>∃i j,x=.int i/\y=.int j/\C i j/\Q (g i j) H
noncomputable def Ak(g:Int->Int->V):R2:=λx y H Q=>∃i j,x=.int i/\y=.int j/\Q (g i j) H
noncomputable def rU(g:Int->V):V->Hp->VK->Prop:=λx H Q=>∃i,x=.int i/\Q (g i) H
variable {H:Hp}{σ:L2.St}
section
variable {X:Cx}{a b c:Expr}{ta tb tc:TE}{pos:Pos}
theorem K7(ha:PE X a ta)(hb:PE X b tb){pins:aj}{s:Shared}{R:V->V->Hp->Prop}(I:Inv X pins σ H s)
  (h:ta σ H λx H1=>tb σ H1 λy H2=>R x y H2) {Q:aw} {f:Value->Value->Sem Value}
  (hf:∀v u s2 x y H2,Inv X pins σ H2 s2->RelV x v->RelV y u->R x y H2->wpAny (model X.prog X.w) X.A (f v u) Q X.xe s2) :
  wpAny (model X.prog X.w) X.A (eval a X.env) (λv s₁=>wpAny (model X.prog X.w) X.A (eval b X.env) (λu s₂=>wpAny (model X.prog X.w) X.A (f v u) Q X.xe s₂) X.xe s₁) X.xe s:=by
 refine cJ (ha pins s σ H _ I h) λv s1 bL=>?_;obtain⟨x,H1,I1,r1,q1⟩:=bL;refine cJ (hb pins s1 σ H1 _ I1 q1) λu s2 bL=>?_;obtain⟨y,H2,I2,r2,q2⟩:=bL;exact hf v u s2 x y H2 I2 r1 r2 q2
theorem wF{op:Operator}{r:R2}(ho:js X (binaryOp op) r)(ha:PE X a ta)(hb:PE X b tb):PE X (.BinOp a op b pos) (Gj r ta tb):=by
 intro pins s σ H Q I h;exact wpAny_BinOp (K7 ha hb I h λv u s2 x y H2 I2 rx ry q=>ho pins s2 σ H2 x y v u Q I2 rx ry q)
theorem Nq{op:UnaryOp}{r:V->Hp->VK->Prop}(ho:VF X (unaryOp op) r)(ha:PE X a ta):PE X (.UnaryOp op a pos) (XN r ta):=by
 intro pins s σ H Q I h;exact UnaryOp_ (cJ (ha pins s σ H _ I h) λv s1 ⟨x,H1,I1,r1,q1⟩=>ho pins s1 σ H1 x v Q I1 r1 q1)
theorem I9{f:Value->Value->Sem Value}{C:Int->Int->Prop}{g:Int->Int->Int}
  (rule:∀(i j:Int) (t u:Tok) (s:Shared) (Q:aw) (E:aw),C i j->Q (.int (g i j) s.toks) { s with toks:=s.toks+1 }->wpAny (model X.prog X.w) X.A (f (.int i t) (.int j u)) Q E s) :
  js X f (rI C λi j=>.int (g i j)):=by
 intro pins s σ H x y v u Q I rx ry h;obtain⟨i,j,rfl,rfl,hc,q⟩:=h;obtain⟨t,rfl⟩:=rx;obtain⟨t',rfl⟩:=ry;exact rule i j t t' s _ _ hc ⟨.int (g i j),H,I.tok _,⟨_,rfl⟩,q⟩
theorem SX{f:Value->Value->Sem Value}{g:Int->Int->Int}
  (rule:∀(i j:Int) (t u:Tok) (s:Shared) (Q:aw) (E:aw),Q (.int (g i j) s.toks) { s with toks:=s.toks+1 }->wpAny (model X.prog X.w) X.A (f (.int i t) (.int j u)) Q E s) :
  js X f (Ak λi j=>.int (g i j)):=by
 intro pins s σ H x y v u Q I rx ry h;obtain⟨i,j,rfl,rfl,q⟩:=h;obtain⟨t,rfl⟩:=rx;obtain⟨t',rfl⟩:=ry;exact rule i j t t' s _ _ ⟨.int (g i j),H,I.tok _,⟨_,rfl⟩,q⟩
theorem El{f:Value->Value->Sem Value}{g:Int->Int->Bool}
  (rule:∀(i j:Int) (t u:Tok) (s:Shared) (Q:aw) (E:aw),Q (.bool (g i j)) s->wpAny (model X.prog X.w) X.A (f (.int i t) (.int j u)) Q E s) :
  js X f (Ak λi j=>.bl (g i j)):=by
 intro pins s σ H x y v u Q I rx ry h;obtain⟨i,j,rfl,rfl,q⟩:=h;obtain⟨t,rfl⟩:=rx;obtain⟨t',rfl⟩:=ry;exact rule i j t t' s _ _ ⟨.bl (g i j),H,I,rfl,q⟩
theorem uA(k:Nat):(0:Int)<=2 ^ k:=by
 rw[two_pow_cast];exact Int.natCast_nonneg _
theorem I0:js X (binaryOp .Add) (Ak λi j=>.int (i+j)):=SX λ_ _ _ _ _ _ _ q=>add_int q
theorem Ej:js X (binaryOp .Mod) (rI (λ_ j=>j≠0) λi j=>.int (i.fmod j)):=I9 λ_ _ _ _ _ _ _ hc q=>mod_int' hc q
theorem IU:js X (binaryOp .RShift) (rI (λ_ j=>0<=j) λi j=>.int (i / 2 ^ j.toNat)):=I9 λi j _ _ _ _ _ hc q =>
 rshift_int hc (by rw[Int.fdiv_eq_ediv_of_nonneg i (uA _)];exact q)
theorem XI{f:Value->Sem Value}{g:Int->Int}
  (rule:∀(i:Int) (t:Tok) (s:Shared) (Q:aw) (E:aw),Q (.int (g i) s.toks) { s with toks:=s.toks+1 }->wpAny (model X.prog X.w) X.A (f (.int i t)) Q E s) :
  VF X f (rU λi=>.int (g i)):=by
 intro pins s σ H x v Q I rx h;obtain⟨i,rfl,q⟩:=h;obtain⟨t,rfl⟩:=rx;exact rule i t s _ _ ⟨.int (g i),H,I.tok _,⟨_,rfl⟩,q⟩
theorem HE:VF X (unaryOp .USub) (rU λi=>.int (-i)):=XI λ_ _ _ _ _ q=>neg_int q
end
variable {us:ao}
section
variable {X:Cx}{a b c:Expr}{ta tb tc:TE}{pos:Pos}
theorem NA:js X (compareOp .Lt) (Ak λi j=>.bl (decide (i<j))):=El λ_ _ _ _ _ _ _ q=>lt_int q
theorem NB:js X (compareOp .LtE) (Ak λi j=>.bl (decide (i<=j))):=El λ_ _ _ _ _ _ _ q=>le_int q
theorem NC:js X (compareOp .Gt) (Ak λi j=>.bl (decide (j<i))):=El λ_ _ _ _ _ _ _ q=>gt_int q
theorem ND:js X (compareOp .GtE) (Ak λi j=>.bl (decide (j<=i))):=El λ_ _ _ _ _ _ _ q=>ge_int q
theorem js.or{f:Value->Value->Sem Value}{r r':R2}(h:js X f r)(h':js X f r'):js X f (λx y H Q=>r x y H Q\/r' x y H Q):=by
 intro pins s σ H x y v u Q I rx ry q;rcases q with q|q
 ·exact h pins s σ H x y v u Q I rx ry q
 ·exact h' pins s σ H x y v u Q I rx ry q
theorem AO(b:Expr){op:CmpOp}(h:op≠.In:=by decide)(h2:op≠.NotIn:=by decide):behindInMarks op b=false:=by
 have e1:(op==CmpOp.In)=false:=by cases op<;>first|rfl|exact absurd rfl h
 have e2:(op==CmpOp.NotIn)=false:=by cases op<;>first|rfl|exact absurd rfl h2
 cases b<;>simp[behindInMarks,e1,e2]
theorem wH{op:CmpOp}{r:R2}(ho:js X (compareOp op) r)(ha:PE X a ta)(hb:PE X b tb)(hm:behindInMarks op b=false):PE X (.Compare a [op] [b] pos) (Gj r ta tb):=by
 intro pins s σ H Q I h;exact wpAny_Compare1 (K7 ha hb I h λv u s2 x y H2 I2 rx ry q=>ho pins s2 σ H2 x y v u Q I2 rx ry q) hm
noncomputable def Gi(t:TE):TT:=λσ H Q=>t σ H λx H'=>∃k,x=.bl k/\Q k H'
theorem wo{op:CmpOp}{r:R2}(ho:js X (compareOp op) r)(ha:PE X a ta)(hb:PE X b tb)(hm:behindInMarks op b=false):PT X (.Compare a [op] [b] pos) (Gi (Gj r ta tb)):=by
 intro pins s σ H Q I h;refine wpAny_isTrue_Compare1 (cJ (ha pins s σ H _ I h) λv s1 ⟨x,H1,I1,r1,q1⟩=>cJ (hb pins s1 σ H1 _ I1 q1) λu s2 ⟨y,H2,I2,r2,q2⟩ =>
  cJ (ho pins s2 σ H2 x y v u _ I2 r1 r2 q2) λc s3 ⟨z,H3,I3,r3,k,e,q3⟩=>?_) hm
 subst e;cases r3;exact aaR ⟨H3,I3,q3⟩
theorem qt:(sizeLine:Nat)<2 ^ 63:=by rw[sizeLine_eq];decide
theorem vals1{x:V}(r:Vals [x] us):∃u,us=[u]/\RelV x u:=by
 cases r with
 |cons r1 r2=>cases r2;exact⟨_,rfl,r1⟩
theorem vals2{x y:V}(r:Vals [x,y] us):∃u w',us=[u,w']/\RelV x u/\RelV y w':=by
 cases r with
 |cons r1 r2 =>
  cases r2 with
  |cons r3 r4=>cases r4;exact⟨_,_,rfl,r1,r3⟩
theorem Co:fN X (.builtin "abs") (λxs H Q=>∃i,xs=[.int i]/\Q (.int (if i<0 then -i else i)) H):=by
 intro pins s σ H xs us Q I r h;obtain⟨i,rfl,q⟩:=h;obtain⟨u,rfl,t,rfl⟩:=vals1 r;exact call_abs_int λu tk=>⟨.int (if i<0 then -i else i),H,I.tok _,⟨_,rfl⟩,q⟩
theorem y9:fN X (.type "int") (λxs H Q=>(∃i,xs=[.int i]/\Q (.int i) H)\/∃k,xs=[.bl k]/\Q (.int (if k then 1 else 0)) H):=by
 intro pins s σ H xs us Q I r h;rcases h with ⟨i,rfl,q⟩|⟨k,rfl,q⟩
 ·obtain⟨u,rfl,t,rfl⟩:=vals1 r;exact call_int_int ⟨.int i,H,I,⟨_,rfl⟩,q⟩
 ·obtain⟨u,rfl,r1⟩:=vals1 r;cases r1;exact call_int_bool ⟨.int (if k then 1 else 0),H,I.tok _,⟨_,rfl⟩,q⟩
end
end L2
namespace L2
open PySem PySem.Spec PyProof.Rows
structure Z6(h:Heap)(x dx C:Addr)(mA:aX):Prop where
 obj:h.get? x=some (PySem.W.instObj C dx)
 ns:h.Ns1 dx mA
 ne:dx≠x
section
variable {prog:aF}{w:World}{A:aE}{E:aw}{s:Shared}{K:aq}{x dx C f:Addr}{mA:aX}{name:Str}{v:Value}
end
theorem kf.some_of{v:V}{o:Option Value}(r:kf (some v) o):∃u,o=some u/\RelV v u:=by
 cases o with
 |none=>exact(show False from r).elim
 |some u=>exact⟨u,rfl,r⟩
theorem kf.none_of{o:Option Value}(r:kf none o):o=none:=by
 cases o with
 |none=>rfl
 |some u=>exact(show False from r).elim
section
variable {P:aF}{w:World}{H H':Hp}{h h':Heap}{a C dx:Addr}{fs ZC:List (Str×V)}
end
structure Cls(K:aq)(C:Addr):Prop where
 pg:PySem.W.plainGet K C Str.empty=true
 hd:PySem.W.hasDictIn K C=true
 po:PySem.W.plainOver K C=true
 sa:PySem.W.findIn K (.ref C) "__setattr__" = some (some (.builtin "object.__setattr__"))
structure Con(K:aq)(C:Addr)(f:Str)(v:V)(u:Value):Prop where
 at_:PySem.W.findIn K (.ref C) f=some (some u)
 rel:RelV v u
 get:PySem.W.specialIn K u "__get__" = some none
 cp:PySem.W.copiedNames.contains f=false
structure Meth(K:aq)(C:Addr)(m:Str)(f:Addr):Prop where
 at_:PySem.W.findIn K (.ref C) m=some (some (.ref f))
 fn:PySem.W.isFn K (.ref f)=true
 kp:PySem.W.keepIn K (.ref f)=true
section
variable {X:Cx}{pins:aj}{σ:St}{H:Hp}{s:Shared}{a C dx:Addr}{fs:List (Str×V)}{f:Str}{v:V}{A:aE}{E:aw}
end
section
variable {X:Cx}{o e value:Expr}{f:Str}{pos pos' XM:Pos}{ta tv:TE}
end
section
variable {X:Cx}{pins:aj}{σ:St}{H:Hp}{s:Shared}{A:aE}{E:aw}{Q:aw}{c:Value}{b:Bool}
inductive nN(K:aq)(H:Hp):V->Value->Prop where
 |cw:nN K H .cw (.type "NoneType")
 |bl (x:Bool):nN K H (.bl x) (.type "bool")
 |int (i:Int):nN K H (.int i) (.type "int")
 |str (x:Str):nN K H (.str x) (.type "str")
 |Pn (x:UInt64):nN K H (.Pn x) (.type "float")
 |lst {a:Addr} {xs:ae} (e:H a=some (.lst xs)):nN K H (.ref a) (.type "list")
 |gY {a:Addr} {o:Obj} {xs:ae} (e:H a=some (.gY o (.lst xs))):nN K H (.ref a) (.type "list")
 |tup {a:Addr} {xs:ae} (e:H a=some (.tup xs)):nN K H (.ref a) (.type "tuple")
 |dK {a:Addr} {mV:List (Key×V)} (e:H a=some (.dK mV)):nN K H (.ref a) (.type "dict")
 |dT {a:Addr} {mV:List (List Key×V)} (e:H a=some (.dT mV)):nN K H (.ref a) (.type "dict")
 |ins {a C dx:Addr} {fs:List (Str×V)} (e:H a=some (.ins C dx fs)) (cl:Cls K C) (ha:PySem.W.findIn K (.ref C) "__class__" = some (some (.builtin "object.__class__")))
   (hn:PySem.W.specialIn K (.builtin "object.__class__") "__get__" = some (some (.builtin "getset_descriptor.__get__"))) (htk:PySem.W.takesIn K (.builtin "object.__class__")=some true)
   (hm:PySem.W.mroIn K C (.type "object")=some true):nN K H (.ref a) (.ref C)
end
end L2
namespace L2
open PySem PySem.Spec PyProof.Rows
structure fT(k:Nat)(A:aE):Prop where
 hd:A.handled=none
 dp:A.depth+3*k+5<recursionLimit
 un:A.units+16*k+200<cLine
variable {A:aE}
theorem fT.mono{j k:Nat}(r:fT k A)(h:j<=k):fT j A:=⟨r.hd,by have:=r.dp;left,by have:=r.un;left⟩
theorem fT.deeper{k:Nat}{A:aE}(r:fT (k+1) A)(env:Env):fT k (A.deeper env) :=
 ⟨r.hd,by have:=r.dp;show A.depth+1+3*k+5<_;left,by have:=r.un;show A.units+3+16*k+200<_;left⟩
theorem fT.depth{k:Nat}{A:aE}(r:fT k A):A.depth<recursionLimit:=by have:=r.dp;left
theorem fT.units{k:Nat}{A:aE}(r:fT k A):A.units+64<cLine:=by have:=r.un;left
noncomputable def HH:TA:=λ_ H Q=>Q [] H
noncomputable def zU(ta:TE)(tr:TA):TA:=λσ H Q=>ta σ H λx H1=>tr σ H1 λxs H2=>Q (x::xs) H2
section
variable {X:Cx}{e:Expr}{es:au}{te:TE}{t:TA}{pos:Pos}
theorem dF:PA X [] HH:=λ_ _ _ _ H Q I h=>abA ⟨[],H,I,.nil,h⟩
theorem cA(ha:PE X e te)(hr:PA X es t)(hs:starEach (e::es) X.env=(false,eval e X.env)::starEach es X.env:=by rfl):PA X (e::es) (zU te t):=by
 intro pos pins s σ H Q I h;rw[hs];show wpAny _ _ (spliced ((false,eval e X.env)::backTo pos (starEach es X.env))) _ _ s;refine abu (cJ (ha pins s σ H _ I h) λu s1 bL=>?_);obtain⟨x,H1,I1,r1,q1⟩:=bL;exact cJ (hr pos pins s1 σ H1 _ I1 q1) λus s2 ⟨xs,H2,I2,r2,q2⟩=>⟨x::xs,H2,I2,.cons r1 r2,q2⟩
def RM(t:TA):TE:=λσ H Q=>t σ H λxs H1=>xs.length<=sizeLine/\∀p,H1 p=none->Q (.ref p) (upd H1 p (.tup xs))
def RR(t:TA):TE:=λσ H Q=>t σ H λxs H1=>xs.length<=sizeLine/\∀p,H1 p=none->Q (.ref p) (upd H1 p (.lst xs))
theorem Az{x1}(h:PA X es t):PE X (.Tuple es x1 pos) (RM t):=by
 intro pins s σ H Q I hq;refine wpAny_Tuple_spliced (cJ (h pos pins s σ H _ I hq) λus s1 ⟨xs,H1,I1,r,z,q⟩=>⟨by rw[<- r.length];exact z,?_⟩);have hf:H1 s1.heap.objs.size=none:=I1.cQ.fresh (aai _);refine⟨.ref s1.heap.objs.size,upd H1 s1.heap.objs.size (.tup xs),I1.laid (t':=s1.toks) (λb u e=>aag _ e) (aai _) ?_,rfl,q _ hf⟩;exact⟨z,us,r,⟨_,aan _ rfl,rfl,_,rfl⟩⟩
theorem AD(h:PA X es t):PE X (.List es pos) (RR t):=by
 intro pins s σ H Q I hq;refine wpAny_List_spliced (cJ (h pos pins s σ H _ I hq) λus s1 ⟨xs,H1,I1,r,z,q⟩=>⟨by rw[<- r.length];exact z,?_⟩);have hf:H1 s1.heap.objs.size=none:=I1.cQ.fresh (aai _);refine⟨.ref s1.heap.objs.size,upd H1 s1.heap.objs.size (.lst xs),I1.laid (t':=s1.toks) (λb u e=>aag _ e) (aai _) ?_,rfl,q _ hf⟩;exact⟨z,us,0,r,aan _ rfl⟩
end
noncomputable abbrev Sp:=ae->Hp->VK->XK->Prop
noncomputable abbrev zq:=List Env->Hp->Shared->XK->aw
structure F7(P:aF)(w:World)(K:aq)(mg:aX)(base:Heap)(A:aE)(outer:List Env)(s:Shared)(H:Hp):Prop where
 frames:A.frames=some outer
 mod:Mod K mg base
 bs:∀b o,base.get? b=some o->s.heap.get? b=some o/\H b=none
 Hc:base.objs.size<=s.heap.objs.size
 lS:s.heap.FunFrames base outer
 LV:∀b∈zm outer,H b=none
 cQ:kZ P w H s.heap
 bare:AllBare s.gens
def CE(outer:List Env)(P:aF)(w:World)(H:Hp)(s:Shared)(Q:VK)(u:Value)(s':Shared):Prop :=
 ∃v H',s'.os=s.os/\AllBare s'.gens/\Un (zm outer) [] H H' s.heap s'.heap/\kZ P w H' s'.heap/\RelV v u/\Q v H'
noncomputable def CR(CX:zq)(outer:List Env)(P:aF)(w:World)(H:Hp)(s:Shared)(Q:VK)(E:XK)(r:Result)(s':Shared):Prop :=
 match r with
 |.ok (.ret u)=>CE outer P w H s Q u s'
 |.ok _=>False
 |.error e=>CX outer H s E e s'
structure iZ(P:aF)(w:World)(K:aq)(mg:aX)(base:Heap)(CX:zq)(k:Nat)(f:Addr)(fd:FuncData)(ps:ak)(sp:Sp):Prop where
 len:∀vs H Q E,sp vs H Q E->vs.length=ps.length
 run:∀(A:aE) (outer:List Env) (s:Shared) (H:Hp) (args:Args) (us:ao) (vs:ae) (Q:VK) (E:XK),fT k A->F7 P w K mg base A outer s H->BindsTo s fd args (ps.zip us)->Vals vs us->sp vs H Q E ->
  codeAny (model P w) A (.call (.ref f) args) (CR CX outer P w H s Q E) s
theorem iZ.mono{P:aF}{w:World}{K:aq}{mg:aX}{base:Heap}{CX:zq}{j k:Nat}{f:Addr}{fd:FuncData}{ps:ak}{sp:Sp}(F:iZ P w K mg base CX j f fd ps sp)(h:j<=k):
  iZ P w K mg base CX k f fd ps sp:=⟨F.len,λA outer s H args us vs Q E hr=>F.run A outer s H args us vs Q E (hr.mono h)⟩
variable {Q:VK}
section
variable {X:Cx}{pins:aj}{σ:St}{H:Hp}{s s':Shared}
theorem Inv.Vh(I:Inv X pins σ H s):F7 X.prog X.w X.K X.mg X.base X.A X.stack s H :=
 ⟨I.ok.frames,I.ok.mod,I.bs,aax I.ok.Hc I.sz,I.stack,I.vY,I.cQ,I.bare⟩
theorem Inv.after{u:Value}(I:Inv X pins σ H s)(h:CE X.stack X.prog X.w H s Q u s'):EP X pins σ Q u s':=by
 obtain⟨v,H',os,bare,un,cQ,r,q⟩:=h;obtain⟨hh,g,d,t,SV⟩:=s';obtain rfl:SV=s.os:=os;exact⟨v,H',I.call (h':=hh) (g':=g) (d':=d) (t':=t) (ch:=[]) un cQ bare (λb z=>absurd z (by simp)),r,q⟩
end
noncomputable def MB(sp:Sp)(fD:ae)(E:XK)(t:TA):TE:=λσ H Q=>t σ H λvs H1=>sp (vs++fD) H1 Q E
noncomputable def Binds(K:aq)(fd:FuncData)(ps:ak)(ds:ao):Prop :=
 ∀(s:Shared) (us:ao),K.In s.heap->(us++ds).length=ps.length->BindsTo s fd ⟨us,[]⟩ (ps.zip (us++ds))
variable {K:aq}{N ps:ak}
theorem Binds.all{fd:FuncData}(h:∀us:ao,us.length=ps.length->bindArgs fd ⟨us,[]⟩=pure (ps.zip us)):Binds K fd ps []:=λs us _ hl=>by
 rw[List.append_nil]at hl ⊢;exact .of_eq (h us hl)
def Passes(CX:zq)(X:Cx)(E:XK):Prop:=∀(pins:aj) (σ:St) (H:Hp) (s:Shared) (e:Value) (s':Shared),Inv X pins σ H s->CX X.stack H s E e s'->X.xe e s'
variable {H:Hp}{us:ao}{vs:ae}
section
variable {X:Cx}{CX:zq}{k:Nat}{f C:Addr}{fd:FuncData}{ps:ak}{sp:Sp}{fD:ae}{ds:ao}{E:XK}{x m:Str}{p pos apos:Pos}{e o:Expr}{es:au}{ta:TE}{t:TA}
theorem Ii{pins:aj}{σ:St}{s:Shared}(F:iZ X.prog X.w X.K X.mg X.base CX k f fd ps sp)(hr:fT k X.A)(hb:Binds X.K fd ps ds)(hd:Vals fD ds)(hx:Passes CX X E)
  (I:Inv X pins σ H s) (r:Vals vs us) (h:sp (vs++fD) H Q E):wpAny (model X.prog X.w) X.A (call (.ref f) us) (EP X pins σ Q) X.xe s:=by
 have r2:Vals (vs++fD) (us++ds):=r.append hd;have hl:(us++ds).length=ps.length:=by rw[<- r2.length];exact F.len _ _ _ _ h
 refine wpAny_call (abP (F.run X.A X.stack s H ⟨us,[]⟩ (us++ds) (vs++fD) Q E hr I.Vh (hb s us I.yu hl) r2 h) λr s' hq=>?_);cases r with
 |error e=>exact hx pins σ H s e s' I hq
 |ok fl =>
  cases fl with
  |ret u=>exact I.after hq
  |next=>exact False.elim hq
  |brk=>exact False.elim hq
  |cont=>exact False.elim hq
theorem Ed(F:iZ X.prog X.w X.K X.mg X.base CX k f fd ps sp)(hr:fT k X.A)(hg:Gl X x)(hm:X.mg x=some (.ref f))(hk:PySem.W.keepIn X.K (.ref f)=true)(hb:Binds X.K fd ps ds)(hd:Vals fD ds)(hx:Passes CX X E)
  (ha:PA X (e::es) t) (JV:(x==("__debug__" : Str))=false:=by decide) (he:starEach (e::es) X.env=(false,eval e X.env)::starEach es X.env:=by rfl) (hpl:(backTo pos (starEach es X.env)).any (·.1)=false:=by rfl) :
  PE X (.Call (.Name x p) (e::es) [] pos) (MB sp fD E t):=by
 intro pins s σ H Q I h;refine aaU (wW I hg hm ?_ JV);refine PySem.W.callWith_K (h₀:=X.base) I.ok.mod.Tf hk (cJ (ha pos pins s σ H _ I h) λus s1 ⟨vs,H1,I1,r,q⟩=>⟨I1.yu,?_⟩) he hpl;exact Ii F hr hb hd hx I1 r q
structure Mk(K:aq)(C f:Addr):Prop where
 makes:PySem.W.makesIn K C=true
 init:PySem.W.findIn K (.ref C) "__init__" = some (some (.ref f))
 fn:PySem.W.isFn K (.ref f)=true
 kp:PySem.W.keepIn K (.ref C)=true
end
section
variable {X:Cx}{CX:zq}{k:Nat}{f C:Addr}{fd:FuncData}{ps ks:ak}{sp:Sp}{E:XK}{x m:Str}{p pos apos Yr:Pos}{e o:Expr}{es:au}{kws:List Keyword}{te ta:TE}{t tk:TA}{nm:Option Str}
structure VJ(K:aq)(fd:FuncData)(ps ks:ak)(g:ao->ao->ao)(gV:ae->ae->ae):Prop where
 to:∀(s:Shared) (us ws:ao),K.In s.heap->(g us ws).length=ps.length->BindsTo s fd ⟨us,ks.zip ws⟩ (ps.zip (g us ws))
 rel:∀{vs:ae} {us:ao} {zs:ae} {ws:ao},Vals vs us->Vals zs ws->Vals (gV vs zs) (g us ws)
variable {g:ao->ao->ao}{gV:ae->ae->ae}
end
structure iU(N P:ak)(sc:Scope):Prop where
 kind:sc.kind=.function
 co:sc.isCoroutine=false
 gen:sc.isGenerator=false
 nd:N.Nodup
 pre:N.take P.length=P
 par:∀x∈P,sc.names.lookup x=some .local\/sc.names.lookup x=some .cell
 Je:∀y∈sc.names,y.2≠.free
theorem pI{kindOf:Str->Option NameKind}{x:Str}:∀{binds:List (Str×Value)} {m:aX},(∀v,(x,v)∉binds)->bindL kindOf binds m x=m x
 |[],_,_=>rfl
 | (n,v)::r,m,h=>by
  unfold bindL;rw[pI λw hw=>h w (List.mem_cons_of_mem _ hw)];split
  ·have:x≠n:=by rintro rfl;exact h v aaf
   simp[this]
  ·rfl
theorem pK{kindOf:Str->Option NameKind}{x:Str}:∀{binds:List (Str×Value)} {m:aX},(∀v,(x,v)∉binds)->bindC kindOf binds m x=m x
 |[],_,_=>rfl
 | (n,v)::r,m,h=>by
  unfold bindC;rw[pK λw hw=>h w (List.mem_cons_of_mem _ hw)];split
  ·rfl
  ·have:x≠n:=by rintro rfl;exact h v aaf
   simp[this]
theorem pJ{kindOf:Str->Option NameKind}{x:Str}{v:Value}:∀{P:ak} {vs:ao} {i:Nat} {m:aX},P.Nodup->P[i]?=some x->vs[i]?=some v->kindOf x=some .local ->
  bindL kindOf (P.zip vs) m x=some v
 |[],_,_,_,_,h,_,_=>by simp at h
 |_::_,[],_,_,_,_,h,_=>by simp at h
 |p::P,w::vs,0,m,nd,h1,h2,hk=>by
  simp at h1 h2;subst h1;subst h2;show bindL kindOf ((p,w)::P.zip vs) m p=_;unfold bindL;rw[pI λv hv=>(List.nodup_cons.mp nd).1 (List.of_mem_zip hv).1,if_pos hk];simp
 |p::P,w::vs,i+1,m,nd,h1,h2,hk=>by
  show bindL kindOf ((p,w)::P.zip vs) m x=_;unfold bindL;exact pJ (i:=i) (List.nodup_cons.mp nd).2 (by simpa using h1) (by simpa using h2) hk
theorem pL{kindOf:Str->Option NameKind}{x:Str}{v:Value}:∀{P:ak} {vs:ao} {i:Nat} {m:aX},P.Nodup->P[i]?=some x->vs[i]?=some v->kindOf x≠some .local ->
  bindC kindOf (P.zip vs) m x=some v
 |[],_,_,_,_,h,_,_=>by simp at h
 |_::_,[],_,_,_,_,h,_=>by simp at h
 |p::P,w::vs,0,m,nd,h1,h2,hk=>by
  simp at h1 h2;subst h1;subst h2;show bindC kindOf ((p,w)::P.zip vs) m p=_;unfold bindC;rw[pK λv hv=>(List.nodup_cons.mp nd).1 (List.of_mem_zip hv).1,if_neg hk];simp
 |p::P,w::vs,i+1,m,nd,h1,h2,hk=>by
  show bindC kindOf ((p,w)::P.zip vs) m x=_;unfold bindC;exact pL (i:=i) (List.nodup_cons.mp nd).2 (by simpa using h1) (by simpa using h2) hk
noncomputable def start(N:ak)(vs:ae):St:=vs.map some++List.replicate (N.length - vs.length) none
noncomputable def vE(CX:zq)(P:aF)(w:World)(K:aq)(mg:aX)(base:Heap)(N:ak)(qual:Str)(scope:Scope)(f:Addr)(cd:Value)(A:aE)(outer:List Env)(s:Shared)(H:Hp)(E:XK):Cx where
 prog:=P
 w:=w
 K:=K
 mg:=mg
 base:=base
 A:=A.deeper (envOfC qual scope s.heap.objs.size f cd)
 N:=N
 s₀:=s
 H₀:=H
 env:=envOfC qual scope s.heap.objs.size f cd
 outer:=outer
 stack:=envOfC qual scope s.heap.objs.size f cd::outer
 ex:=[]
 calm:=true
 fn:=λ_=>true
 pn:=[]
 xe:=λe s'=>wpAny (model P w) (A.deeper (envOfC qual scope s.heap.objs.size f cd)) (leaving (envOfC qual scope s.heap.objs.size f cd) e) (λ_ Sj=>CX outer H s E e Sj) (λe' Sj=>CX outer H s E e' Sj) s'
theorem uc{sc:Scope}{n:Nat}{x:Str}(h:sc.names.lookup x=some .cell):∃c,(cellsFrom n sc.names []).lookup x=some c:=by
 have q:=PySem.W.cellsFrom_some sc.names n [] (.inl h);exact Option.isSome_iff_exists.mp q
variable {P:aF}{base:Heap}{mg:Str->Option Value}{qual:Str}{scope:Scope}{w:World}
theorem yB{CX:zq}{f:Addr}{cd:Value}{outer:List Env}{s s1:Shared}{E:XK}  
  (S:iU N ps scope) (hd:A.handled=none) (e0:F7 P w K mg base A outer s H) (hl:vs.length=ps.length) (r:Vals vs us)
  (x:InCallC s s.heap.objs.size (bindL (envOfC qual scope s.heap.objs.size f cd).kindOf (ps.zip us) λ_=>none) (cellsFrom (s.heap.objs.size+1) scope.names []) (bindC (envOfC qual scope s.heap.objs.size f cd).kindOf (ps.zip us) λ_=>none) s1) :
  Inv (vE CX P w K mg base N qual scope f cd A outer s H E) [] (start N vs) H s1:=by
 have hpl:ps.length<=N.length:=by have:=aaJ List.length S.pre;rw[List.length_take]at this;left
 obtain⟨h1,tk,rfl,hk⟩:=x.done;have NK:∀b:Addr,b∉(vE CX P w K mg base N qual scope f cd A outer s H E).ex:=λb z=>absurd (show b∈([]:aO) from z) (by simp);refine⟨⟨e0.mod,S.kind,rfl,rfl,aai _,λy z c h1 h2=>?_,λy hy=>?_,λy c _ h=>?_,λ_=>hd,Around.frames_deeper e0.frames,.inr ⟨rfl,rfl⟩,λb z=>absurd z (NK b),e0.bs,e0.Hc,λb _ _=>NK b,λb z=>absurd z (NK b),e0.lS,e0.LV⟩,
  rfl,e0.bare,Un.kept hk,⟨_,x.toInCall.ns,λi y v h1 h2 h3=>?_⟩,λy c h=>⟨_,x.cell y c h⟩,e0.cQ.fresh (aai _),λy c h=>?_,λp hp=>absurd (show p∈([]:aj) from hp) (by simp),e0.cQ.kept hk,?_⟩
 ·exact name_of_addr x.apart (aa0 h1) (aa0 h2)
 ·have hy:scope.names.lookup y=some .cell\/scope.names.lookup y=some .free:=hy;rcases hy with hy|hy
  ·exact uc hy
  ·exact absurd rfl (S.Je _ (aa0 hy))
 ·exact Nat.le_of_lt (x.above y c (aa0 h))
 ·have hi:i<vs.length:=by
   unfold start at h2;by_cases hi:i<vs.length
   ·exact hi
   ·rw[List.getElem?_append_right (by simpa using hi)]at h2;rw[List.getElem?_replicate]at h2;split at h2<;>cases h2
  have ha:vs[i]?=some v:=by
   unfold start at h2;rw[List.getElem?_append_left (by simpa using hi),List.getElem?_map]at h2;cases e:vs[i]? with
   |none=>rw[e]at h2;cases h2
   |some a=>rw[e]at h2;cases h2;rfl
  obtain⟨u,hu,rv⟩:=r.get ha;have hp:ps[i]?=some y:=by
   rw[<- S.pre,List.getElem?_take_of_lt (by left)];exact h1
  have V9:ps.Nodup:=by rw[<- S.pre];exact S.nd.sublist (List.take_sublist _ _)
  refine⟨u,rv,?_⟩;rcases S.par y (aaq hp)with k|k
  ·exact .inl ⟨k,pJ V9 hp hu k⟩
  ·obtain⟨c,e⟩:=uc (n:=s.heap.objs.size+1) k;refine .inr ⟨.inl k,c,e,?_⟩;have q:=x.cell y c e;rw[pL V9 hp hu (by show scope.names.lookup y≠_;rw[k];decide)]at q;exact q
 ·exact e0.cQ.fresh (Nat.le_of_lt (x.above y c (aa0 h)))
 ·unfold start;show _=N.length;rw[List.length_append,List.length_map,List.length_replicate];left
theorem Pl{CX:zq}{k:Nat}{f:Addr}{name:Str}{params:Arguments}{body:bu}{dV kV doc pm i8 ct oc:Value}{an od:Option Addr}
  {CL:Array (Option Value)} {sp:Sp} (lk:K.lookup f=some ⟨oc,od,.func (PySem.W.fnOf name qual params body scope dV kV doc pm an i8 ct),CL⟩) (yK:PySem.W.codeIn K i8 qual=true) (S:iU N ps scope)
  (len:∀vs H Q E,sp vs H Q E->vs.length=ps.length)
  (BD:∀(A:aE) (outer:List Env) (s:Shared) (H:Hp) (vs:ae) (Q:VK) (E:XK),fT k (A.deeper (envOfC qual scope s.heap.objs.size f i8))->sp vs H Q E ->
   ∃t,mx (vE CX P w K mg base N qual scope f i8 A outer s H E) body t/\t { nx:=λ_ H'=>Q .cw H',rt:=Q } (start N vs) H) :
  iZ P w K mg base CX (k+1) f (PySem.W.fnOf name qual params body scope dV kV doc pm an i8 ct) ps sp:=by
 refine⟨len,λA outer s H args us vs Q E hr e0 hb r CO=>?_⟩;have hl:=len _ _ _ _ CO;have KX:K.In s.heap:=e0.mod.Tf.keeps λb o e=>(e0.bs b o e).1;have lim:s.heap.NoLimit:=e0.mod.nolimit.keeps λb o e=>(e0.bs b o e).1;have OJ:∀y∈ps.zip us,scope.names.lookup y.1=some .local\/(scope.names.lookup y.1=some .cell/\((cellsFrom (s.heap.objs.size+1) scope.names []).lookup y.1).isSome=true):=λ⟨n,v⟩ hy=>by
  rcases S.par n (abd hy).1 with q|q
  ·exact .inl q
  ·exact .inr ⟨q,PySem.W.cellsFrom_some _ _ _ (.inl q)⟩
 refine codeAny_call_function hr.depth (KX _ _ lk) rfl S.co S.gen rfl (PySem.W.codeRec_of KX yK) (hb _ _ _ _ ?_);refine wpAny_newFunctionEnv_cells S.kind OJ λenv he s1 x=>?_;subst he;refine⟨lim.keeps x.toInCall.keep,codeAny_func ?_⟩;obtain⟨t,ht,hq⟩:=BD A outer s H vs Q E (hr.deeper _) CO;have I:Inv (vE CX P w K mg base N qual scope f i8 A outer s H E) [] (start N vs) H s1:=yB S hr.hd e0 hl r x;refine aaw (ht [] s1 (start N vs) H _ I hq) (λfl s' hs=>?_) λe s' hs=>hs;have fin:∀{σ':St} {H':Hp} {v:V} {u:Value},Inv (vE CX P w K mg base N qual scope f i8 A outer s H E) [] σ' H' s'->RelV v u->Q v H'->CE outer P w H s Q u s' :=
  λ{σ' H' v u} J rv q=>⟨v,H',J.os,J.bare,J.base,J.cQ,rv,q⟩
 cases fl with
 |ret u =>
  obtain⟨v,σ',H',J,rv,q⟩:=hs;exact fin J rv q
 |next =>
  obtain⟨σ',H',J,q⟩:=hs;exact fin (v:=V.cw) (u:=Value.none) J rfl q
 |brk =>
  obtain⟨_,_,_,q⟩:=hs;exact False.elim q
 |cont =>
  obtain⟨_,_,_,q⟩:=hs;exact False.elim q
end L2
namespace L2
open PySem PySem.Spec PyProof.Rows
section
variable {X:Cx}{x:Str}{p pos:Pos}{e:Expr}{es:au}{t:TA}{id T:String}{r:ae->Hp->VK->Prop}
noncomputable def MC(r:ae->Hp->VK->Prop)(t:TA):TE:=λσ H Q=>t σ H λvs H1=>r vs H1 Q
theorem fi(hc:fN X (.builtin id) r)(hg:Gl X x)(hm:X.mg x=none)(hv:bootBuiltins x=some (.builtin id))(ha:PA X (e::es) t)(hn:x ≠ "__name__":=by decide)(JV:(x==("__debug__" : Str))=false:=by decide)
  (he:starEach (e::es) X.env=(false,eval e X.env)::starEach es X.env:=by rfl) (hpl:(backTo pos (starEach es X.env)).any (·.1)=false:=by rfl):PE X (.Call (.Name x p) (e::es) [] pos) (MC r t):=by
 intro pins s σ H Q I h;refine aaU (dS I hg hm hv ?_ hn JV);exact PyProof.Rows.callWith_builtin1 (cJ (ha pos pins s σ H _ I h) λus s1 ⟨vs,H1,I1,r1,q1⟩=>hc pins s1 σ H1 vs us Q I1 r1 q1) he hpl
theorem kJ(hc:fN X (.type T) r)(hg:Gl X x)(hm:X.mg x=none)(hv:bootBuiltins x=some (.type T))(ha:PA X (e::es) t)(hn:x ≠ "__name__":=by decide)(JV:(x==("__debug__" : Str))=false:=by decide)
  (he:starEach (e::es) X.env=(false,eval e X.env)::starEach es X.env:=by rfl) (hpl:(backTo pos (starEach es X.env)).any (·.1)=false:=by rfl):PE X (.Call (.Name x p) (e::es) [] pos) (MC r t):=by
 intro pins s σ H Q I h;refine aaU (dS I hg hm hv ?_ hn JV);exact aau (cJ (ha pos pins s σ H _ I h) λus s1 ⟨vs,H1,I1,r1,q1⟩=>hc pins s1 σ H1 vs us Q I1 r1 q1) he hpl
end
end L2
namespace HT
open PySem PyProof.Rows
noncomputable def lexLt:aa->aa->Bool
 |[],[]=>false
 |[],_::_=>true
 |_::_,[]=>false
 |x::xs,y::ys=>if x=y then lexLt xs ys else decide (x<y)
theorem dt(x y:Int)(xs ys:aa):lexLt (x::xs) (y::ys)=if x=y then lexLt xs ys else decide (x<y):=rfl
theorem i6:lexLt [] []=false:=rfl
theorem mU(y:Int)(ys:aa):lexLt [] (y::ys)=true:=rfl
theorem cU(x:Int)(xs:aa):lexLt (x::xs) []=false:=rfl
theorem tO(A:aE)(s:Shared)(a:Int)(t:Tok)(c:Int)(u:Tok):∃e,SeqAt.EqAt A s (.int a t) (.int c u) e/\(e=true ↔ a=c) :=
 ⟨(a==c),abv a t c u,by simp⟩
theorem Ai(A:aE)(s:Shared)(a:Int)(t:Tok)(c:Int)(u:Tok)(prog:aF)(w:World)(E:aw)(Q:aw)(h:Q (.bool (decide (a<c))) s):
  wpAny (model prog w) A (richCompare .Lt (.int a t) (.int c u)) Q E s :=
 (PyProof.Rows.lt_int h:wpAny (model prog w) A (compareOp .Lt (.int a t) (.int c u)) Q E s)
section
open PySem.SeqAt
open PySem.AutoSeq1 (wpAny_loadPart')
open PySem.MeetsSeq PySem.MeetsSeq2 PySem.MeetsSeq3
theorem i5(l b:Addr)(items di:aP)(n n2:Nat)(dd xE:Option Addr)(sl wb:Array (Option Value))(ns ms:aa)(hi:IntsAre items.toList ns)(hj:IntsAre di.toList ms):
  Meets (Builtin.«tuple.__lt__» ⟨[.ref l,.ref b],[]⟩)
   (λ_ R s=>s.heap.get? l=some { cls:=.type "tuple",dict:=dd,data:=.seq items n,slots:=sl }/\s.heap.get? b=some { cls:=.type "tuple",dict:=xE,data:=.seq di n2,slots:=wb } /\
    R (.ok (.ret (.bool (lexLt ns ms)))) s) :=
 .of_wp λprog w A R s h=>by
  obtain⟨hp,g,d,tk,os⟩:=s;obtain⟨hl,hb,h⟩:=h;have f2:=AutoSeq1.sub_tuple_tuple;have z1:items.size=ns.length:=by rw[<- hi.length];simp
  have z2:di.size=ms.length:=by rw[<- hj.length];simp
  wp_walk using wpAny_loadPart' hl,wpAny_loadPart' hb,wpAny_forIn_list _ (λrest b s'=>b.1=none/\s'=⟨hp,g,d,tk,os⟩/\∃(vs ws:ao) (ko zj:aa),rest=vs.zip ws /\
   IntsAre vs ko/\IntsAre ws zj/\ko.length+di.size=zj.length+items.size/\R (.ok (.ret (.bool (lexLt ko zj)))) ⟨hp,g,d,tk,os⟩) _
  case turn =>
   rintro ⟨y,x⟩ rest b s' ⟨m7,rfl,vs,ws,ko,zj,hz,JI,GU,hlen,hR⟩;cases JI with
   |nil=>rw[List.zip_nil_left]at hz;cases hz
   |cons a t hvi' =>
    cases GU with
    |nil=>rw[List.zip_nil_right]at hz;cases hz
    |cons c u hwi' =>
     rw[List.zip_cons_cons]at hz;injection hz with TQ Bu
     injection TQ with hy hx
     subst hy hx;rw[dt]at hR;simp only[List.length_cons]at hlen;obtain⟨e,he,BA⟩:=tO A.in1 ⟨hp,g,d,tk,os⟩ a t c u;refine aaa (he prog w _ _ ?_);cases e with
     |true =>
      rw[if_pos (BA.mp rfl)]at hR
      wp_walk
      exact⟨rfl,rfl,_,_,_,_,Bu,hvi',hwi',by left,hR⟩
     |false =>
      rw[if_neg (λq=>absurd (BA.mpr q) Bool.false_ne_true)]at hR;have T6:=Ai A.in1 ⟨hp,g,d,tk,os⟩ a t c u prog w
      wp_walk using T6
      exact⟨_,rfl,by simpa using hR⟩
  case fin =>
   rintro ⟨b1,b2⟩ s' ⟨m7,rfl,vs,ws,ko,zj,hz,JI,GU,hlen,hR⟩;simp only at m7;subst m7;have hv:lexLt ko zj=decide (items.size<di.size):=by
    cases JI with
    |nil =>
     cases GU with
     |nil =>
      simp only[List.length_nil]at hlen;rw[i6];exact(aaV (by left)).symm
     |cons c u hw =>
      simp only[List.length_nil,List.length_cons]at hlen;rw[mU];exact(aa7 (by left)).symm
    |cons a t hv =>
     cases GU with
     |nil =>
      simp only[List.length_nil,List.length_cons]at hlen;rw[cU];exact(aaV (by left)).symm
     |cons c u hw =>
      rw[List.zip_cons_cons]at hz;cases hz
   rw[hv]at hR
   wp_walk
   exact⟨_,rfl,by simpa [Builtin.Tuple.tupleCompareSizes]using hR⟩
  case h =>
   exact⟨rfl,rfl,items.toList,di.toList,ns,ms,rfl,hi,hj,by left,h⟩
end
variable {Q:Value->Shared->Prop}
section
variable {prog:aF}{w:World}{A:aE}{E:aw}{s:Shared}
theorem u_{l b:Addr}{items di:aP}{ns ms:aa}(hl:IsTup s.heap l items)(hb:IsTup s.heap b di)(hi:IntsAre items.toList ns)(hj:IntsAre di.toList ms)
  (hu:A.units<cLine) (h:Q (.bool (lexLt ns ms)) s):wpAny (model prog w) A (compareOp .Lt (.ref l) (.ref b)) Q E s:=by
 obtain⟨⟨cls,dd,data,sl⟩,ho,hc,n,hd⟩:=id hl;obtain⟨⟨FI,xE,data2,wb⟩,qE,hc2,n2,hd2⟩:=id hb;simp only at hc hd hc2 hd2;subst hc hd hc2 hd2;exact richCompare_meets_room (op:=.Lt) ⟨_,ho,rfl⟩ ⟨_,qE,rfl⟩ abK PySem.F.entry_tuple_lt (PySem.F.args_tuple_lt_2 _ _) (i5 l b items di n n2 dd xE sl wb ns ms hi hj)
  ⟨ho,qE,show Value.bool (lexLt ns ms)≠Value.notImplemented/\Q (.bool (lexLt ns ms)) s from⟨(λx=>nomatch x),h⟩⟩ hu
theorem FK{t b:Addr}{vs ws:ao}(ht:IsTup s.heap t vs.toArray)(hb:IsTup s.heap b ws.toArray)(hv:vs≠[])
  (h1:ws=[]->Q (.ref t) s) (h2:ws≠[]->Q (.ref s.heap.objs.size) { s with heap:=s.heap.push { cls:=.type "tuple",data:=.seq (vs++ws).toArray } })
  (hsz:vs.length+ws.length<=sizeLine):wpAny (model prog w) A (binaryOp .Add (.ref t) (.ref b)) Q E s:=by
 obtain⟨⟨cls,dd,data,sl⟩,ho,hc,n,hd⟩:=id ht;obtain⟨⟨FI,xE,data2,wb⟩,qE,hc2,n2,hd2⟩:=id hb;simp only at hc hd hc2 hd2;subst hc hd hc2 hd2;have e:vs.toArray++ws.toArray=(vs++ws).toArray:=by simp
 by_cases hw:ws=[]
 ·exact concat_meets ⟨_,ho,rfl⟩ ⟨_,qE,rfl⟩ noFill_tuple_add seq_tuple_add abC aby (abw _ _)
   (tuple_addW1 t b vs.toArray ws.toArray n n2 dd xE sl wb (by simpa using hv) (by simp[hw])) ⟨ho,qE,h1 hw⟩
 ·refine concat_meets ⟨_,ho,rfl⟩ ⟨_,qE,rfl⟩ noFill_tuple_add seq_tuple_add abC aby (abw _ _)
   (tuple_addW2 t b vs.toArray ws.toArray n n2 dd xE sl wb (by simpa using hv) (by simpa using hw) (by rw[List.size_toArray,List.size_toArray];exact hsz)) ⟨ho,qE,?_⟩
  rw[e];exact h2 hw
noncomputable def uP(n d:Nat):Option Int->Nat
 |none=>d
 |some v=>if v<0 then(v+(n:Int)).toNat else min v.toNat n
end
end HT
namespace L2
open PySem PySem.Spec PyProof.Rows
noncomputable abbrev TO:=St->Hp->(Option Int->Hp->Prop)->Prop
noncomputable def PO(X:Cx)(e:Option Expr)(t:TO):Prop :=
 ∀(pins:aj) (s:Shared) (σ:St) (H:Hp) (Q:Option Int->Hp->Prop),Inv X pins σ H s->t σ H Q ->
  wpAny (model X.prog X.w) X.A (evalPart e X.env) (λu s'=>∃o H',Inv X pins σ H' s'/\IsPart u o/\Q o H') X.xe s
noncomputable def DB:TO:=λ_ H Q=>Q none H
noncomputable def Mw(t:TE):TO:=λσ H Q=>t σ H λx H1=>∃i,x=.int i/\Q (some i) H1
theorem intsAre_of{ns:aa}:∀{us:ao},Vals (ns.map V.int) us->IntsAre us ns:=by
 induction ns with
 |nil=>intro us r;rw[List.map_nil]at r;cases r;exact .nil
 |cons n ns ih =>
  intro us r;rw[List.map_cons]at r;cases r with
  |cons r1 r2 =>
   obtain⟨t,e⟩:=r1;subst e;exact .cons n t (ih r2)
section
variable {X:Cx}{e:Expr}{te:TE}{lo hi:Option Expr}{tl th:TO}{pos p2:Pos}
theorem wu:PO X none DB:=by
 intro pins s σ H Q I h;rw[evalPart_none];exact aab ⟨none,H,I,.none,h⟩
theorem wt(h:PE X e te):PO X (some e) (Mw te):=by
 intro pins s σ H Q I hw;rw[evalPart_some];refine cJ (h pins s σ H _ I hw) λu s1 bL=>?_;obtain⟨x,H1,I1,r1,q1⟩:=bL;obtain⟨i,rfl,q⟩:=q1;obtain⟨t,rfl⟩:=r1;exact⟨some i,H1,I1,.int i t,q⟩
def VG(X:Cx)(r:V->Option Int->Option Int->Hp->VK->Prop):Prop :=
 ∀(pins:aj) (s:Shared) (σ:St) (H:Hp) (x:V) (v vl vu:Value) (lo hi:Option Int) (sl:Addr) (Q:VK),Inv X pins σ H s->RelV x v->s.heap.IsSliceOf sl vl vu .none->IsPart vl lo->IsPart vu hi->r x lo hi H Q ->
  ∃T id,typeLookup (.type T) "__getitem__" = pure (some (.builtin id))/\s.TypeIs v T/\wpAny (model X.prog X.w) X.A (getItem v (.ref sl)) (EP X pins σ Q) X.xe s
noncomputable def XO(r:V->Option Int->Option Int->Hp->VK->Prop)(te:TE)(tl th:TO):TE:=λσ H Q=>te σ H λx H1=>tl σ H1 λl H2=>th σ H2 λu H3=>r x l u H3 Q
theorem AA{r:V->Option Int->Option Int->Hp->VK->Prop}(hr:VG X r)(he:PE X e te)(hl:PO X lo tl)(hu:PO X hi th):PE X (.Subscript e (.Slice lo hi none p2) pos) (XO r te tl th):=by
 intro pins s σ H Q I h;refine Subscript_ (cJ (he pins s σ H _ I h) λv s1 bL=>?_);obtain⟨x,H1,I1,r1,q1⟩:=bL;refine wpAny_Slice (cJ (hl pins s1 σ H1 _ I1 q1) λvl s2 ⟨l,H2,I2,pl,q2⟩=>cJ (hu pins s2 σ H2 _ I2 q2) λvu s3 bL=>?_);obtain⟨u,H3,I3,pu,q3⟩:=bL;rw[evalPart_none];refine aab ?_;have I4:Inv X pins σ H3 { s3 with heap:=s3.heap.push { cls:=.type "slice",data:=.fields #[vl,vu,.none] } }:=I3.kept (t':=s3.toks) λb ob q=>aag _ q;obtain⟨T,id,hT,ht,hg⟩:=hr pins { s3 with heap:=s3.heap.push { cls:=.type "slice",data:=.fields #[vl,vu,.none] } } σ H3 x v vl vu l u s3.heap.objs.size Q I4 r1 (Heap.IsSliceOf.new ..) pl pu q3;show wpAny (model X.prog X.w) X.A (subscriptTail e (.Slice lo hi none p2) v (.ref s3.heap.objs.size)) (EP X pins σ Q) X.xe { s3 with heap:=s3.heap.push { cls:=.type "slice",data:=.fields #[vl,vu,.none] } };exact tail_any (ops:=[.ref s3.heap.objs.size,v]) ht hT hg (by with_unfolding_all rfl)
def FF(xs:ae)(lo hi:Option Int):ae:=(xs.drop (HT.uP xs.length 0 lo)).take (HT.uP xs.length xs.length hi - HT.uP xs.length 0 lo)
theorem tV(xs:ae)(lo hi:Option Int):(FF xs lo hi).length<=xs.length:=by
 unfold FF;rw[List.length_take,List.length_drop];left
def M5(K:aq):R2:=λx y H Q=>∃a b xs ys,x=.ref a/\y=.ref b/\aR K H a xs/\aR K H b ys/\xs≠[]/\xs.length+ys.length<=sizeLine /\
 (ys=[]->Q (.ref a) H)/\(ys≠[]->∀p,H p=none->Q (.ref p) (upd H p (.tup (xs++ys))))
theorem Vals.qg{xs:ae}{us:ao}(r:Vals xs us):us=[] ↔ xs=[]:=by
 cases r with
 |nil=>simp
 |cons _ _=>simp
theorem Ek:js X (binaryOp .Add) (M5 X.K):=by
 intro pins s σ H x y v u Q I rx ry h;obtain⟨a,b,xs,ys,rfl,rfl,ha,hb,hx,hz,q1,q2⟩:=h;cases rx;cases ry;obtain⟨aK,r1,p1,_⟩:=I.tuple ha;obtain⟨vg,r2,p2,_⟩:=I.tuple hb;refine HT.FK p1 p2 (λz=>hx (r1.qg.mp z)) (λz=>⟨.ref a,H,I,rfl,q1 (r2.qg.mp z)⟩) (λz=>?_) (by rw[<- r1.length,<- r2.length];exact hz);refine⟨.ref s.heap.objs.size,_,I.laid (t':=s.toks) (o:=.tup (xs++ys)) (λb ob q=>aag _ q) (aai _) ?_,rfl,q2 (λw=>z (r2.qg.mpr w)) _ (I.cQ.fresh (aai _))⟩;exact⟨by rw[List.length_append];exact hz,_,r1.append r2,IsTup.new _ _⟩
end
end L2
namespace L2
open PySem PySem.Spec PyProof.Rows
noncomputable def qz(n:Nat)(i:Int):Option Nat:=if 0<=i then(if i<n then some i.toNat else none)else if -(n:Int)<=i then some (i+n).toNat else none
def C2{α:Type}(xs:List α)(i:Int):Option α:=(qz xs.length i).bind λj=>xs[j]?
theorem qy{n:Nat}{i:Int}{j:Nat}(h:qz n i=some j):seqIndex? i n=some j/\j<n /\ -(n:Int)<=i/\i<n:=by
 unfold qz at h;by_cases h0:0<=i
 ·rw[if_pos h0]at h;by_cases h1:i<n
  ·rw[if_pos h1]at h;have e:i.toNat=j:=aap h;exact⟨by rw[seqIndex_of h0 h1,e],by left,by left,h1⟩
  ·rw[if_neg h1]at h;cases h
 ·rw[if_neg h0]at h;by_cases h1:-(n:Int)<=i
  ·rw[if_pos h1]at h;have e:(i+n).toNat=j:=aap h;exact⟨by rw[seqIndex_neg (by left) h1,e],by left,h1,by left⟩
  ·rw[if_neg h1]at h;cases h
theorem xU{α:Type}{xs:List α}{i:Int}{v:α}(h:C2 xs i=some v):∃j,seqIndex? i xs.length=some j/\xs[j]?=some v/\j<xs.length /\ -(xs.length:Int)<=i/\i<xs.length:=by
 unfold C2 at h;cases e:qz xs.length i with
 |none=>rw[e]at h;cases h
 |some j =>
  rw[e]at h;obtain⟨h1,h2,h3,h4⟩:=qy e;exact⟨j,h1,h,h2,h3,h4⟩
def mw(b:Expr):Prop:=∀o i,subscripted b false o i=operate [o,i] (getItem o i)
def F4(X:Cx)(r:R2):Prop :=
 ∀(value slice:Expr) (pins:aj) (s:Shared) (σ:St) (H:Hp) (x y:V) (v u:Value) (Q:VK),Inv X pins σ H s->RelV x v->RelV y u->r x y H Q ->
  subscripted slice false v u=operate [v,u] (getItem v u)->wpAny (model X.prog X.w) X.A (subscriptTail value slice v u) (EP X pins σ Q) X.xe s
def VI(X:Cx)(id:String)(r:V->ae->Hp->VK->Prop):Prop :=
 ∀(pins:aj) (s:Shared) (σ:St) (H:Hp) (x:V) (xs:ae) (v:Value) (us:ao) (Q:VK),Inv X pins σ H s->RelV x v->Vals xs us->r x xs H Q ->
  wpAny (model X.prog X.w) X.A (call (.builtin id) (v::us)) (EP X pins σ Q) X.xe s
variable {H:Hp}{σ:L2.St}
section
variable {X:Cx}{a b:Expr}{ta tb:TE}{pos:Pos}
theorem F4.or{r r':R2}(h:F4 X r)(h':F4 X r'):F4 X (λx y H Q=>r x y H Q\/r' x y H Q):=by
 intro value slice pins s σ H x y v u Q I rx ry q hs;rcases q with q|q
 ·exact h value slice pins s σ H x y v u Q I rx ry q hs
 ·exact h' value slice pins s σ H x y v u Q I rx ry q hs
theorem sR{r:R2}(hr:F4 X r)(ha:PE X a ta)(hb:PE X b tb)(hs:mw b):PE X (.Subscript a b pos) (Gj r ta tb):=by
 intro pins s σ H Q I h;exact Subscript_ (K7 ha hb I h λv u s2 x y H2 I2 rx ry q=>hr a b pins s2 σ H2 x y v u Q I2 rx ry q (hs _ _))
def Sz(K:aq):R2:=λx y H Q=>∃p xs i v,x=.ref p/\y=.int i/\cX K H p xs/\C2 xs i=some v/\Q v H
def Sw(K:aq):R2:=λx y H Q=>∃p xs i v,x=.ref p/\y=.int i/\aR K H p xs/\C2 xs i=some v/\Q v H
theorem qx:F4 X (Sz X.K):=by
 intro value slice pins s σ H x y v u Q I rx ry h hs;obtain⟨p,xs,i,z,rfl,rfl,hq,he,q⟩:=h;cases rx;obtain⟨t,rfl⟩:=ry;obtain⟨aK,r,pl,hz⟩:=I.list hq;obtain⟨j,h1,h2,h3,h4,h5⟩:=xU he;obtain⟨w,ew,gy⟩:=r.get h2;have hl:=r.length;have hn:=qt;have fin:EP X pins σ Q w s:=⟨z,H,I,gy,q⟩
 by_cases h0:0<=i
 ·have hj:i.toNat=j:=by
   rw[seqIndex_of h0 h5]at h1;exact aap h1
  exact item_listR pl.isList h0 (by left) (by rw[hj];simpa using ew) fin hs
 ·have hj:(i+(aK.toArray.size:Int)).toNat=j:=by
   rw[seqIndex_neg (by left) h4]at h1;rw[List.size_toArray,<- hl];exact aap h1
  exact abg (x:=w) pl.isList.typeIs slot_list_getitem.lookup
   (wpAny_getItem_list_neg (Q:=λr s'=>r=w/\EP X pins σ Q r s') pl.isList (by left) (by rw[List.size_toArray]<;>omega) (by left) (by rw[hj];simpa using ew) ⟨rfl,fin⟩) hs
theorem Bc:F4 X (Sw X.K):=by
 intro value slice pins s σ H x y v u Q I rx ry h hs;obtain⟨p,xs,i,z,rfl,rfl,hq,he,q⟩:=h;cases rx;obtain⟨t,rfl⟩:=ry;obtain⟨aK,r,pl,hz⟩:=I.tuple hq;obtain⟨j,h1,h2,h3,h4,h5⟩:=xU he;obtain⟨w,ew,gy⟩:=r.get h2;have hl:=r.length;have hn:=qt;have fin:EP X pins σ Q w s:=⟨z,H,I,gy,q⟩
 exact abg (x:=w) pl.typeIs slot_tuple_getitem.lookup
  (getItem_tuple (j:=j) (Q:=λr s'=>r=w/\EP X pins σ Q r s') pl (by left) (by left) (by rw[List.size_toArray,<- hl];exact h1) (by simpa using ew) ⟨rfl,fin⟩) hs
theorem pV(lo hi:Option Int)(n:Nat):(sliceBounds lo hi none n).1=((HT.uP n 0 lo:Nat):Int)/\(sliceBounds lo hi none n).2.1=((HT.uP n n hi:Nat):Int)/\(sliceBounds lo hi none n).2.2=1:=by
 refine⟨?_,?_,rfl⟩
 ·cases lo with
  |none=>simp[sliceBounds,HT.uP]
  |some i =>
   simp only[sliceBounds,HT.uP,Option.getD_none,show(1:Int)>0 by decide,if_true];by_cases h:i<0
   ·simp only[h,if_true]<;>left
   ·simp only[h,if_false]<;>left
 ·cases hi with
  |none=>simp[sliceBounds,HT.uP]
  |some i =>
   simp only[sliceBounds,HT.uP,Option.getD_none,show(1:Int)>0 by decide,if_true];by_cases h:i<0
   ·simp only[h,if_true]<;>left
   ·simp only[h,if_false]<;>left
theorem og(aK:ao)(lo hi:Option Int):slicePick aK.toArray lo hi none=((aK.drop (HT.uP aK.length 0 lo)).take (HT.uP aK.length aK.length hi - HT.uP aK.length 0 lo)).toArray:=by
 obtain⟨h1,h2,h3⟩:=pV lo hi aK.toArray.size;unfold slicePick;rw[h1,h2,h3];simp only[sliceRange_one,pick_run,List.size_toArray]<;>rfl
def Ss(K:aq):V->Option Int->Option Int->Hp->VK->Prop:=λx lo hi H Q=>∃a xs,x=.ref a/\cX K H a xs/\∀p,H p=none->Q (.ref p) (upd H p (.lst (FF xs lo hi)))
theorem wa:VG X (Ss X.K):=by
 intro pins s σ H x v vl vu lo hi sl Q I rx hs pl pu h;obtain⟨a,xs,rfl,hx,q⟩:=h;cases rx;obtain⟨aK,r,ht,hz⟩:=I.list hx;have hlen:=r.length;refine⟨"list",_,slot_list_getitem.lookup,ht.isList.typeIs,?_⟩;refine wpAny_getItem_list_slice ht.isList hs pl pu .none (by simp) ?_ (by rw[List.size_toArray]<;>omega);rw[og,<- hlen];refine⟨.ref s.heap.objs.size,_,I.laid (t':=s.toks) (o:=.lst (FF xs lo hi)) (λb ob q=>aag _ q) (aai _) ?_,rfl,q _ (I.cQ.fresh (aai _))⟩;exact⟨aax (tV xs lo hi) hz,_,0,(r.drop (HT.uP xs.length 0 lo)).take (HT.uP xs.length xs.length hi - HT.uP xs.length 0 lo),aan _ rfl⟩
noncomputable def iw:V->Bool
 |.cw=>true
 |.bl _=>true
 |.int _=>true
 |.str _=>true
 |_=>false
noncomputable def C1:V->V->Bool
 |.cw,.cw=>true
 |.bl a,.bl b=>a==b
 |.bl a,.int b=>(if a then 1 else 0)==b
 |.int a,.bl b=>a==(if b then 1 else 0)
 |.int a,.int b=>a==b
 |.str a,.str b=>a==b
 |_,_=>false
theorem KI{A:aE}{s:Shared}{y x:V}{u v:Value}(ry:RelV y u)(rx:RelV x v)(fy:iw y=true)(fx:iw x=true):SeqAt.EqAt A s u v (C1 y x):=by
 cases y with
 |cw =>
  cases ry;cases x with
  |cw=>cases rx;exact abp _
  |bl b=>cases rx;exact abQ b
  |int b=>obtain⟨t,rfl⟩:=rx;exact ab0 b t
  |str b=>obtain⟨t,rfl⟩:=rx;exact SeqAt.EqAt.none_str b t
  |_=>exact absurd (show false=true from fx) aae
 |bl a =>
  cases ry;cases x with
  |cw=>cases rx;exact abR a
  |bl b=>cases rx;exact abS a b
  |int b=>obtain⟨t,rfl⟩:=rx;exact ab1 a b t
  |str b=>obtain⟨t,rfl⟩:=rx;exact SeqAt.EqAt.bool_str a b t
  |_=>exact absurd (show false=true from fx) aae
 |int a =>
  obtain⟨t',rfl⟩:=ry;cases x with
  |cw=>cases rx;exact ab2 a t'
  |bl b=>cases rx;exact ab3 a t' b
  |int b=>obtain⟨t,rfl⟩:=rx;exact abv a t' b t
  |str b=>obtain⟨t,rfl⟩:=rx;exact SeqAt.EqAt.int_str a t' b t
  |_=>exact absurd (show false=true from fx) aae
 |str a =>
  obtain⟨t',rfl⟩:=ry;cases x with
  |cw=>cases rx;exact SeqAt.EqAt.str_none a t'
  |bl b=>cases rx;exact SeqAt.EqAt.str_bool a t' b
  |int b=>obtain⟨t,rfl⟩:=rx;exact SeqAt.EqAt.str_int a t' b t
  |str b=>obtain⟨t,rfl⟩:=rx;exact SeqAt.EqAt.str_str a t' b t
  |_=>exact absurd (show false=true from fx) aae
 |_=>exact absurd (show false=true from fy) aae
def vw(x:V)(u:Value):Bool:=match u with
 |.none=>C1 .cw x
 |.bool b=>C1 (.bl b) x
 |.int i _=>C1 (.int i) x
 |.str z _=>C1 (.str z) x
 |_=>false
theorem BZ{x y:V}{u:Value}(r:RelV y u)(f:iw y=true):vw x u=C1 y x:=by
 cases y with
 |cw=>cases r;rfl
 |bl b=>cases r;rfl
 |int i=>obtain⟨t,rfl⟩:=r;rfl
 |str z=>obtain⟨t,rfl⟩:=r;rfl
 |_=>exact absurd (show false=true from f) aae
theorem j_{x:V}:∀{xs:ae} {us:ao},Vals xs us->xs.all iw=true->us.any (vw x)=xs.any λy=>C1 y x
 |_,_,.nil,_=>rfl
 |y::xs,u::us,.cons r t,f=>by
  rw[List.all_cons,Bool.and_eq_true]at f;rw[List.any_cons,List.any_cons,BZ r f.1,j_ t f.2]
theorem ie{A:aE}{s:Shared}{x:V}{v:Value}(rx:RelV x v)(fx:iw x=true):∀{xs:ae} {us:ao},Vals xs us->xs.all iw=true->∀u∈us,SeqAt.EqAt A s u v (vw x u)
 |_,_,.nil,_=>λu hu=>by cases hu
 |y::xs,u::us,.cons r t,f=>λu' hu=>by
  rw[List.all_cons,Bool.and_eq_true]at f;rcases List.mem_cons.mp hu with rfl|hu
  ·rw[BZ r f.1];exact KI r rx f.1 fx
  ·exact ie rx fx t f.2 u' hu
def QQ(x:V)(xs:ae):Bool:=xs.any λy=>C1 y x
def SD(K:aq)(neg:Bool):R2:=λx y H Q=>∃p xs,y=.ref p/\(cX K H p xs\/aR K H p xs)/\iw x=true/\xs.all iw=true/\Q (.bl (if neg then !QQ x xs else QQ x xs)) H
theorem yq:js X (compareOp .In) (SD X.K false):=by
 intro pins s σ H x y v u Q I rx ry h;obtain⟨p,xs,rfl,hq,fx,fs,q⟩:=h;cases ry;rcases hq with hq|hq
 ·obtain⟨aK,r,pl,hz⟩:=I.list hq;refine SeqAt.in_listAt (vw x) pl.isList (λw hw=>ie rx fx r fs w (by simpa using hw)) ⟨.bl _,H,I,rfl,?_⟩;rw[show aK.toArray.any (vw x)=aK.any (vw x) by simp,j_ r fs];exact q
 ·obtain⟨aK,r,pl,hz⟩:=I.tuple hq;refine SeqAt.in_tupleAt (vw x) pl (λw hw=>ie rx fx r fs w (by simpa using hw)) ⟨.bl _,H,I,rfl,?_⟩;rw[show aK.toArray.any (vw x)=aK.any (vw x) by simp,j_ r fs];exact q
theorem rl:fN X (.builtin "len") (λxs H Q=>∃p ys,xs=[.ref p]/\(cX X.K H p ys\/aR X.K H p ys)/\Q (.int ys.length) H):=by
 intro pins s σ H xs us Q I r h;obtain⟨p,ys,rfl,hq,q⟩:=h;obtain⟨u,rfl,rx⟩:=vals1 r;cases rx;have hn:=qt;rcases hq with hq|hq
 ·obtain⟨aK,r',pl,hz⟩:=I.list hq;have hlen:=r'.length;exact Calls.call_len_list pl.isList (by simp only[List.size_toArray]<;>omega) ⟨.int ys.length,H,I.tok _,⟨s.toks+1,by rw[List.size_toArray,hlen]⟩,q⟩
 ·obtain⟨aK,r',pl,hz⟩:=I.tuple hq;have hlen:=r'.length;exact len_tuple pl (by simp only[List.size_toArray]<;>omega) ⟨.int ys.length,H,I.tok _,⟨s.toks+1,by rw[List.size_toArray,hlen]⟩,q⟩
theorem rg:fN X (.type "list") (λxs H Q=>∃p ys,xs=[.ref p]/\(cX X.K H p ys\/aR X.K H p ys)/\∀l,H l=none->Q (.ref l) (upd H l (.lst ys))):=by
 intro pins s σ H xs us Q I r h;obtain⟨p,ys,rfl,hq,q⟩:=h;obtain⟨u,rfl,rx⟩:=vals1 r;cases rx;have fin:∀(aK:ao),Vals ys aK->ys.length<=sizeLine->∀(h':Heap) (c':Nat),(∀b o',s.heap.get? b=some o'->h'.get? b=some o') ->
   h'.get? s.heap.objs.size=some { cls:=.type "list",dict:=none,data:=.seq aK.toArray c',slots:=#[] }->EP X pins σ Q (.ref s.heap.objs.size) { s with heap:=h' }:=λaK r' hz h' c' kp e =>
  ⟨.ref s.heap.objs.size,_,I.laid (t':=s.toks) kp (aai _) (show cD X.prog X.w _ h' _ (.lst ys) from⟨hz,aK,c',r',e⟩),rfl,q _ (I.cQ.fresh (aai _))⟩
 rcases hq with hq|hq
 ·obtain⟨aK,r',pl,hz⟩:=I.list hq;have hlen:=r'.length;obtain⟨o,ho,hc,n,hd⟩:=pl.isList;exact call_list_seq p (.inl rfl) ho hc hd (λh' c' kp e=>fin aK r' hz h' c' kp e) (by simp only[List.size_toArray]<;>omega)
 ·obtain⟨aK,r',pl,hz⟩:=I.tuple hq;have hlen:=r'.length;obtain⟨o,ho,hc,n,hd⟩:=pl;exact call_list_seq p (.inr rfl) ho hc hd (λh' c' kp e=>fin aK r' hz h' c' kp e) (by simp only[List.size_toArray]<;>omega)
theorem oA:fN X (.type "tuple") (λxs H Q=>∃p ys,xs=[.ref p]/\((cX X.K H p ys/\∀l,H l=none->Q (.ref l) (upd H l (.tup ys)))\/(aR X.K H p ys/\Q (.ref p) H))):=by
 intro pins s σ H xs us Q I r h;obtain⟨p,ys,rfl,h⟩:=h;obtain⟨u,rfl,rx⟩:=vals1 r;cases rx;rcases h with ⟨hq,q⟩|⟨hq,q⟩
 ·obtain⟨aK,r',pl,hz⟩:=I.list hq;have hlen:=r'.length;refine call_tuple_list pl.isList (λh' kp=>?_) (by simp only[List.size_toArray]<;>omega);have I1:Inv X pins σ H { s with heap:=h' }:=I.kept (t':=s.toks) kp;have I2:Inv X pins σ (upd H h'.objs.size (.tup ys)) { s with heap:=h'.push { cls:=.type "tuple",data:=.seq aK.toArray } } :=
   I1.laid (t':=s.toks) (λb o e=>aag _ e) (aai _) (show cD X.prog X.w _ _ _ (.tup ys) from⟨hz,aK,r',IsTup.new _ _⟩)
  exact⟨.ref h'.objs.size,_,I2,rfl,q _ (I1.cQ.fresh (aai _))⟩
 ·obtain⟨aK,r',pl,hz⟩:=I.tuple hq;exact call_tuple_same pl ⟨.ref p,H,I,rfl,q⟩
def Qk(K:aq)(T:String)(x:V)(H:Hp):Prop:=match x with
 |.str _=>T = "str"
 |.int _=>T = "int"
 |.ref p=>(T = "list" /\ ∃xs,cX K H p xs)\/(T = "tuple" /\ ∃o,K.lookup p=some o/\o.cls=.type "tuple" /\ o.dict=none) \/
   (T = "dict" /\ ((∃mV,H p=some (.dK mV))\/∃mV,H p=some (.dT mV)))\/(T = "set" /\ ∃S n,H p=some (.set S n))
 |_=>False
theorem zI{pins:aj}{s:Shared}{T:String}{x:V}{v:Value}(I:Inv X pins σ H s)(r:RelV x v)(ty:Qk X.K T x H):
  s.TypeIs v T/\∀a,v=.ref a->∃ob,s.heap.get? a=some ob/\ob.dict=none:=by
 cases x with
 |str z =>
  obtain⟨t,rfl⟩:=r;cases (show T = "str" from ty);exact⟨typeIs_str s z t,λ_ e=>nomatch e⟩
 |int i =>
  obtain⟨t,rfl⟩:=r;cases (show T = "int" from ty);exact⟨typeIs_int s i t,λ_ e=>nomatch e⟩
 |ref p =>
  cases r;rcases ty with ⟨rfl,xs,hq⟩|⟨rfl,o,hk,hc,hd⟩|⟨rfl,hk⟩|⟨rfl,S,n,hk⟩
  ·obtain⟨aK,_,pl,_⟩:=I.list hq;refine⟨pl.isList.typeIs,λa e=>?_⟩;cases e;obtain⟨o,n,e,c,hd,_⟩:=pl;exact⟨o,e,hd⟩
  ·refine⟨⟨o,I.yu p o hk,hc⟩,λa e=>?_⟩;cases e;exact⟨o,I.yu _ o hk,hd⟩
  ·have z:∃o,s.heap.get? p=some o/\o.ExactDict:=by
    rcases hk with ⟨mV,hk⟩|⟨mV,hk⟩
    ·obtain⟨_,_,_,_,o,_,_,e,ex,_⟩:=I.cQ p _ hk;exact⟨o,e,ex⟩
    ·obtain⟨_,_,_,_,o,_,_,e,ex,_⟩:=I.cQ p _ hk;exact⟨o,e,ex⟩
   obtain⟨o,e,ex⟩:=z;refine⟨⟨o,e,ex.1⟩,λa e2=>?_⟩;cases e2;exact⟨o,e,ex.2.1⟩
  ·obtain⟨o,_,_,_,e,ex,_⟩:=I.cQ p _ hk;refine⟨⟨o,e,ex.1⟩,λa e2=>?_⟩;cases e2;exact⟨o,e,ex.2.1⟩
 |_=>exact False.elim ty
def RU(K:aq)(T:String)(r:V->ae->Hp->VK->Prop)(to:TE):TE:=λσ H Q=>to σ H λx H1=>Qk K T x H1/\r x [] H1 Q
def XT(K:aq)(T:String)(r:V->ae->Hp->VK->Prop)(to:TE)(t:TA):TE:=λσ H Q=>to σ H λx H1=>Qk K T x H1/\t σ H1 λxs H2=>r x xs H2 Q
variable {o e:Expr}{es:au}{to:TE}{t:TA}{name:Str}{apos qU:Pos}{T id:String}{r:V->ae->Hp->VK->Prop}
theorem IJ(pa:PlainAttrs T)(slot:Slot T name id)(T4:typeOf (.builtin id)=pure (.type "method_descriptor"))(hm:VI X id r)(ho:PE X o to)
  (BE:attributeBase o name X.env (eval o X.env)=eval o X.env:=by rfl) (hline:(apos.endLine==qU.line)=true:=by rfl):PE X (.Call (.Attribute o name apos) [] [] qU) (RU X.K T r to):=by
 intro pins s σ H Q I h;refine wpAny_Call_method0_late BE hline (cJ (ho pins s σ H _ I h) λv s1 bL=>?_);obtain⟨x,H1,I1,r1,ty,q1⟩:=bL;obtain⟨h1,h2⟩:=zI I1 r1 ty;exact⟨T,id,pa,slot,T4,h1,h2,aa1 rfl (PySem.evalArgs_none (hm pins s1 σ H1 x [] v [] Q I1 r1 .nil q1))⟩
theorem wI(pa:PlainAttrs T)(slot:Slot T name id)(T4:typeOf (.builtin id)=pure (.type "method_descriptor"))(hm:VI X id r)(ho:PE X o to)(ha:PA X (e::es) t)
  (BE:attributeBase o name X.env (eval o X.env)=eval o X.env:=by rfl)
  (hfew:((backTo qU (starEach (e::es) X.env)).all (λx=>!x.1)&&(backToKw qU (keywordEach [] X.env)).all (λx=>x.1.isSome)
   && decide ((e::es).length+([]:List Keyword).length+(if ([]:List Keyword).isEmpty then 0 else 1)<30))=true:=by rfl)
  (hline:(apos.endLine==qU.line)=true:=by rfl) (hs:starEach (e::es) X.env=(false,eval e X.env)::starEach es X.env:=by rfl) (JM:(backTo qU (starEach es X.env)).any (·.1)=false:=by rfl) :
  PE X (.Call (.Attribute o name apos) (e::es) [] qU) (XT X.K T r to t):=by
 intro pins s σ H Q I h;refine wpAny_Call_method_late BE hfew hline rfl (cJ (ho pins s σ H _ I h) λv s1 bL=>?_);obtain⟨x,H1,I1,r1,ty,q1⟩:=bL;obtain⟨h1,h2⟩:=zI I1 r1 ty;refine⟨T,id,pa,slot,T4,h1,h2,?_⟩;have hA:=ha qU pins s1 σ H1 _ I1 q1;rw[hs]at hA ⊢;refine aa1 (by show(false||(backTo qU (starEach es X.env)).any (·.1))=false;rw[JM]<;>rfl) (abl ?_);exact cJ hA λus s2 ⟨vs,H2,I2,r2,q2⟩=>hm pins s2 σ H2 x vs v us Q I2 r1 r2 q2
/- xs.append(e),list.index on a module's tuple .. are VI facts of 06m -/
end
end L2
namespace L2
open PySem PySem.Spec PyProof.Rows
def Rz(X:Cx)(id:String)(r:V->ae->Hp->VK->Prop):Prop :=
 ∀(pins:aj) (s:Shared) (σ:St) (H:Hp) (x:V) (xs:ae) (v:Value) (us:ao) (Q:VK),Inv X pins σ H s->RelV x v->Vals xs us->r x xs H Q ->
  wpAny (model X.prog X.w) X.A (call (.builtin id) (v::us)) (EP X pins σ Q) X.xe s
theorem Vals.one:∀{x:V} {us:ao},Vals [x] us->∃u,us=[u]/\RelV x u
 |_,_,.cons r .nil=>⟨_,rfl,r⟩
theorem Vals.zero:∀{us:ao},Vals [] us->us=[]
 |_,.nil=>rfl
theorem Vals.eraseIdx:∀{xs:ae} {us:ao} (i:Nat),Vals xs us->Vals (xs.eraseIdx i) (us.eraseIdx i)
 |_,_,_,.nil=>.nil
 |_,_,0,.cons _ t=>t
 |_,_,i+1,.cons r t=>.cons r (Vals.eraseIdx i t)
theorem Vals.rep{xs:ae}{us:ao}(h:Vals xs us):∀k:Nat,Vals (List.replicate k xs).flatten (List.replicate k us).flatten
 |0=>.nil
 |k+1=>by
  rw[List.replicate_succ,List.replicate_succ,List.flatten_cons,List.flatten_cons];exact Vals.append h (Vals.rep h k)
theorem o9{α:Type}:∀(l:List α) (i:Nat),(l.eraseIdx i).length<=l.length
 |[],_=>aai _
 |_::_,0=>ab8 _
 |_::r,i+1=>Nat.succ_le_succ (o9 r i)
theorem foldl_rep(aK:ao):∀(k:Nat) (acc:ao),
  List.foldl (λx1 x2=>x1++x2) acc.toArray (List.replicate k aK.toArray)=(acc++(List.replicate k aK).flatten).toArray
 |0,acc=>by simp
 |k+1,acc=>by
  have e:acc.toArray++aK.toArray=(acc++aK).toArray:=by simp
  have e2:(acc++aK)++(List.replicate k aK).flatten=acc++(List.replicate (k+1) aK).flatten:=by
   rw[List.replicate_succ,List.flatten_cons,List.append_assoc]
  rw[<- e2,<- foldl_rep aK k (acc++aK),<- e,List.replicate_succ,List.foldl_cons]
variable {aK:ao}{t':Nat}
section
variable {X:Cx}{pins:aj}{σ:St}{H:Hp}{s:Shared}{l b:Addr}{xs ys zs:ae}
theorem Inv.je{its':ao}{n:Nat}{f:aP->aP}(I:Inv X pins σ H s)(hH:H l=some (.lst xs))
  (e:s.heap.get? l=some { cls:=.type "list",data:=.seq aK.toArray n }) (hf:f aK.toArray=its'.toArray) (hv:Vals ys its') (hz:ys.length<=sizeLine) :
  Inv X pins σ (upd H l (.lst ys)) { s with heap:=s.heap.update l (Obj.mapSeq f),toks:=t' }:=by
 have q:=PySem.IsL.update e f;rw[hf]at q;refine I.write (x:=l) (e:=l) (by rw[hH];exact trivial) (.inl rfl) (λb' u hb hu=>(aaL s.heap (Obj.mapSeq f) (aaC hb)).trans hu) ⟨_,q⟩ ?_;exact⟨hz,its',_,hv,q⟩
theorem Inv.Jq(I:Inv X pins σ H s)(hv:Vals ys aK)(hz:ys.length<=sizeLine):
  Inv X pins σ (upd H s.heap.objs.size (.lst ys)) { s with heap:=s.heap.push { cls:=.type "list",data:=.seq aK.toArray },toks:=t' } :=
 I.laid (λ_ _ q=>aag _ q) (aai _) ⟨hz,aK,0,hv,aan _ rfl⟩
theorem Inv.fresh(I:Inv X pins σ H s):H s.heap.objs.size=none:=I.cQ.fresh (aai _)
theorem Inv.vc(I:Inv X pins σ H s)(hH:H l=some (.lst xs)):xs.length<=sizeLine/\∃(aK:ao) (n:Nat),Vals xs aK/\xs.length=aK.length/\s.heap.get? l=some { cls:=.type "list",data:=.seq aK.toArray n }:=by
 obtain⟨z,aK,n,r,e⟩:=I.cQ l _ hH;exact⟨z,aK,n,r,r.length,e⟩
theorem AN{n:Nat}(h:n<=sizeLine):Builtin.List.listTooLong n=false:=by
 unfold Builtin.List.listTooLong;exact aaV (by left)
end
section
variable {X:Cx}
def wm:V->ae->Hp->VK->Prop:=λx vs H Q=>∃l xs y,x=.ref l/\vs=[y]/\H l=some (.lst xs)/\xs.length<sizeLine/\Q .cw (upd H l (.lst (xs++[y])))
theorem kM:Rz X "list.append" wm:=by
 intro pins s σ H x vs v us Q I rx rv h;obtain⟨l,xs,y,rfl,rfl,hH,hz,q⟩:=h;cases rx;obtain⟨u,rfl,ru⟩:=rv.one;obtain⟨z,aK,n,r,hl,e⟩:=I.vc hH;refine abm F.slot_list_append ⟨_,e,rfl⟩ F.entry_list_append (F.args_list_append_2 _ _) (PySem.list_append l aK.toArray n u (by rw[List.size_toArray];left)) ⟨e,?_⟩;refine⟨.cw,_,I.je (its':=aK++[u]) hH e (by simp) (r.append (.cons ru .nil)) ?_,rfl,q⟩;rw[List.length_append,List.length_singleton];left
def Il:V->ae->Hp->VK->Prop:=λx vs H Q=>∃l xs i k y,x=.ref l/\vs=[.int i]/\H l=some (.lst xs) /\ -(2 ^ 63)<=i/\i<2 ^ 63/\seqIndex? i xs.length=some k/\xs[k]?=some y/\Q y (upd H l (.lst (xs.eraseIdx k)))
theorem AZ:Rz X "list.pop" Il:=by
 intro pins s σ H x vs v us Q I rx rv h;obtain⟨l,xs,i,k,y,rfl,rfl,hH,h1,h2,hk,hy,q⟩:=h;cases rx;obtain⟨u,rfl,ru⟩:=rv.one;obtain⟨t,rfl⟩:=ru;obtain⟨z,aK,n,r,hl,e⟩:=I.vc hH;obtain⟨w,hw,gy⟩:=r.get hy;refine abm F.slot_list_pop ⟨_,e,rfl⟩ F.entry_list_pop (F.args_list_pop_2 _ _)
  (MeetsSeq.list_pop_at l aK.toArray n i t k w (fitsIndex_both h1 h2) (by rw[List.size_toArray,<- hl];exact hk) (by rw[<- Array.getElem?_toList];exact hw) (by rw[List.size_toArray];left)) ⟨e,?_⟩
 refine⟨y,_,I.je (its':=aK.eraseIdx k) hH e ?_ (r.eraseIdx k) ?_,gy,q⟩
 ·show aK.toArray.eraseIdxIfInBounds k=(aK.eraseIdx k).toArray;rw[List.eraseIdxIfInBounds_toArray]
 ·have:=o9 xs k;left
def Io:V->ae->Hp->VK->Prop:=λx vs H Q=>∃l xs,x=.ref l/\vs=[]/\H l=some (.lst xs)/\Q .cw (upd H l (.lst []))
theorem A1:Rz X "list.clear" Io:=by
 intro pins s σ H x vs v us Q I rx rv h;obtain⟨l,xs,rfl,rfl,hH,q⟩:=h;cases rx;have TY:=rv.zero;subst TY;obtain⟨z,aK,n,r,hl,e⟩:=I.vc hH;refine abm F.slot_list_clear ⟨_,e,rfl⟩ F.entry_list_clear (F.args_list_clear_1 _) (AutoSeq1.list_clear_list_0 l aK.toArray n (by rw[List.size_toArray];left)) ⟨e,?_⟩;exact⟨.cw,_,I.je (its':=[]) (ys:=[]) hH e rfl .nil (aaF _),rfl,q⟩
def SE:R2:=λx y H Q=>∃l b xs zs,x=.ref l/\y=.ref b/\H l=some (.lst xs)/\H b=some (.lst zs)/\xs.length+zs.length<=sizeLine/\∀p,H p=none->Q (.ref p) (upd H p (.lst (xs++zs)))
theorem IZ:js X (binaryOp .Add) SE:=by
 intro pins s σ H x y v u Q I rx ry h;obtain⟨l,b,xs,zs,rfl,rfl,hH,hB,hz,q⟩:=h;cases rx;cases ry;obtain⟨z,aK,n,r,hl,e⟩:=I.vc hH;obtain⟨z2,vg,n2,r2,tu,e2⟩:=I.vc hB;refine PySem.P.add_list e e2 ?_ (by rw[List.size_toArray,List.size_toArray];left);have ea:aK.toArray++vg.toArray=(aK++vg).toArray:=by simp
 rw[ea];exact⟨.ref _,_,I.Jq (t':=s.toks) (r.append r2) (by rw[List.length_append];left),rfl,q _ I.fresh⟩
def Su:R2:=λx y H Q=>∃l k xs,x=.ref l/\y=.int k/\H l=some (.lst xs) /\ -(2 ^ 63)<=k/\k<2 ^ 63/\xs.length*k.toNat<=sizeLine /\
 ∀p,H p=none->Q (.ref p) (upd H p (.lst (List.replicate k.toNat xs).flatten))
theorem len_rep{α:Type}(xs:List α)(k:Nat):(List.replicate k xs).flatten.length=k*xs.length:=by
 induction k with
 |zero=>simp
 |succ k ih=>rw[List.replicate_succ,List.flatten_cons,List.length_append,ih,Nat.succ_mul,Nat.add_comm]
theorem IV:js X (binaryOp .Mult) Su:=by
 intro pins s σ H x y v u Q I rx ry h;obtain⟨l,k,xs,rfl,rfl,hH,h1,h2,hz,q⟩:=h;cases rx;obtain⟨t,rfl⟩:=ry;obtain⟨z,aK,n,r,hl,e⟩:=I.vc hH;have hlen:aK.toArray.size*k.toNat<=sizeLine:=by rw[List.size_toArray,<- hl];exact hz
 have lQ:¬ aK.toArray.size*k.toNat>(2 ^ 63 - 1) / 8:=by
  have:(sizeLine:Nat)<=(2 ^ 63 - 1) / 8:=by decide
  left
 have UA:¬ (!Builtin.List.listFitsIndex k)=true:=by
  rw[fitsIndex_both h1 h2];exact aae
 have OI:¬ Builtin.List.listTooLong (aK.toArray.size*k.toNat)=true:=by
  rw[AN hlen];exact aae
 have JP:List.foldl (λx1 x2=>x1++x2) #[] (List.replicate (if aK.toArray.isEmpty=true then 0 else k.toNat) aK.toArray)=(List.replicate k.toNat aK).flatten.toArray:=by
  have f0:∀m:Nat,List.foldl (λx1 x2=>x1++x2) #[] (List.replicate m aK.toArray)=(List.replicate m aK).flatten.toArray:=λm=>by
   have:=foldl_rep aK m [];rw[List.nil_append]at this;exact this
  rw[f0];cases aK with
  |nil=>simp
  |cons a r'=>rw[if_neg (by simp)]
 refine wpAny_binaryOp_repeat_ref (T:="list") (U:="int") (by decide) ⟨_,e,rfl⟩ (λs'=>typeIs_int s' k t) noFill_list_mul F.fills_int_mul F.slot_int_rmul repeat_list F.slot_int_index.lookup
  (abm F.slot_int_rmul (typeIs_int s k t) F.entry_int_rmul (F.args_int_rmul_2 _ _) (int___rmul___int_list k t l aK.toArray n)
   ⟨e,rfl,⟨_,e,rfl⟩,abm F.slot_list_mul ⟨_,e,rfl⟩ F.entry_list_mul (F.args_list_mul_2 _ _) (AutoListH.list___mul___list_int_3 l aK.toArray n k t UA lQ OI) ⟨e,?_⟩⟩)
 rw[JP];exact⟨.ref _,_,I.Jq (t':=s.toks) (r.rep k.toNat) (by rw[len_rep,Nat.mul_comm];exact hz),rfl,q _ I.fresh⟩
end
section
variable {prog:aF}{w:World}{A:aE}{E:aw}{s:Shared}
set_option maxRecDepth 100000 in
end
section
variable {X:Cx}
end
end L2
namespace Att
open PySem PySem.W PySem.Calls PyProof.Rows
theorem lN{P:Params}{h:Heap}:∀(ns:aa) (vs:ao),WellAll P h vs (ns.map WData.int)->IntsAre vs ns:=by
 intro ns;induction ns with
 |nil =>
  intro vs w;rw[List.map_nil]at w;cases w;exact .nil
 |cons n ns ih =>
  intro vs w;rw[List.map_cons]at w;cases w with
  |cons a b =>
   cases a;exact .cons _ _ (ih _ b)
theorem yg{l:OpenLaw}{n:Nat}(hn:l.most=some n){P:Params}{h:Heap}{args:List WData}{vals:ao}
  (EO:l.row.toRowW.claim.pre args=true) (TV:WellAll P h vals args) :
  ∃a vs ns,vals=[Value.ref a]/\args=[WData.list (ns.map WData.int)]/\h.get? a=some { cls:=.type "list",data:=.seq vs.toArray }/\IntsAre vs ns/\ns.length<=n:=by
 have YL:WShape.hasAll [] args [.list .int]=true:=(pre_splitW EO).1;have hc:l.pre.holds [] { args:=args }=true:=(pre_splitW EO).2;obtain⟨d,r,rfl,h1,h2⟩:=hasAllW_cons YL;obtain rfl:=hasAllW_nil h2;obtain⟨xs,rfl,h3⟩:=hasW_list h1;obtain⟨ns,rfl⟩:=items_int h3;have hlen:ns.length<=n:=by
  unfold OpenLaw.pre at hc;have h4:(WTm.not (.lt (.lit (.int (n:Int))) (.len (.arg 0)))).holds [] { args:=[.list (ns.map .int)] }=true:=by
   have h4:=(holds_andW hc).1;rw[hn]at h4;exact h4
  have h5:=condW_of h4 (w_not (w_lt w_lit (w_len_list (w_arg rfl))));rw[List.length_map]at h5;refine Nat.le_of_not_lt λq=>?_;have q':(n:Int)<((ns.length:Nat):Int):=by left
  first
   | (rw[decide_eq_true q']at h5;exact absurd h5 (by decide))
   | (simp at h5;left)
 cases TV with
 |cons w1 w2 =>
  cases w2;cases w1 with
  |list ho vp=>exact⟨_,_,ns,rfl,rfl,ho,lN ns _ vp,hlen⟩
theorem yk(l:OpenLaw)(args:List WData):l.row.toRowW.claim.post args (.bool true) args=true :=
 postW_of (r:=l.row.toRowW) (X:=(true==true))
  (show WShape.has [] (.bool true) .bool=true by first|rfl|decide|simp[WShape.has,WShape.arms,WShape.armsAll])
  (show(WTm.eq .res (.lit (.bool true))).value [] { args:=args,res:=some (.bool true),after:=args }=some (.bool (true==true)) from w_eq_bool (w_res rfl) w_lit) rfl
theorem ug{l:OpenLaw}{n:Nat}{q:aF}{loose:ak}{XP:(aX)->Heap->Prop}{YP:World->Heap->Prop}{d:DefRec}
  (hn:l.most=some n) (OQ:d.params.defaults=[])
  (call:∀(w:World) (s₀ s₁:Shared) (mg mb:aX) (fa:Addr) (o:Obj) (pm cd doc:Value) (a:Addr) (vs:ao) (ns:aa),
   Ground q loose [] XP w s₀ mg mb s₁.heap->YP w s₁.heap ->
   s₁.heap.get? fa=some o->o.data=.func (docDef d.name d.params d.body d.scope pm cd doc)->s₁.heap.CodeRec cd d.name->mg d.name=some (.ref fa) ->
   s₁.heap.get? a=some { cls:=.type "list",data:=.seq vs.toArray }->IntsAre vs ns->ns.length<=n->s₁.gens = #[] ->
   codeAny (model l.prog w) callerA (.call (.ref fa) ⟨[.ref a],[]⟩) (λr s'=>r=.ok (.ret (.bool true))/\OldK s₁.heap s'.heap/\s'.os=s₁.os/\AllBare s'.gens) s₁) :
  WalkO q loose XP YP l.row.toRowW d [] (λf vs=>PySem.call f vs):=by
 intro w s₀ s₁ mg mb G Y fa o pm cd doc dV kV ho hd yK hD hmg hg args vals as EO YV hrd TV hlo;obtain rfl:dV=.none:=Dflts.none hD OQ;obtain rfl:kV=.none:=Dflts.noKw hD;obtain⟨a,vs,ns,rfl,rfl,JO,hints,hlen⟩:=yg hn EO TV;refine enter_call (abP (call w s₀ s₁ mg mb fa o pm cd doc a vs ns G Y ho (fd_plain hd) yK hmg JO hints hlen hg) λr s' hq=>?_);obtain⟨rfl,h2,h3,h4⟩:=hq;exact⟨.inl ⟨.bool true,.bool true,[],rfl,λ_=>rfl,.bool true,yk l _,λ_=>⟨List.Pairwise.nil,λ_ hm=>(nomatch hm)⟩⟩,h2,h3,h4⟩
section
variable {prog:aF}{w:World}{A:aE}{E:aw}{s:Shared}{K:Frag}
end
end Att
namespace L2
open PySem PySem.Spec PyProof.Rows
theorem kA:∀{vs:ao} {ns:aa},IntsAre vs ns->Vals (ns.map V.int) vs
 |_,_,.nil=>.nil
 |_,_,.cons n t h=>.cons ⟨t,rfl⟩ (kA h)
def F3(H:Hp):Prop:=∀b,H b=none\/∃o xs,H b=some (.gY o (.lst xs))
theorem A9{P:aF}{w:World}{K:aq}{mg mb:aX}{CX:zq}{k:Nat}{fa a:Addr}{fd:FuncData}{x:Str}{sp:Sp}{s₁:Shared}{vs:ao}{ns:aa}
  (KX:K.In s₁.heap) (yF:s₁.heap.Ns mainGlobals mg) (hb:s₁.heap.Ns builtinsNs mb) (Y_:∀x:Str,x ≠ "__name__" -> mb x=bootBuiltins x) (Uo:s₁.heap.NoLimit) (hg:s₁.gens = #[])
  (ha:s₁.heap.get? a=some { cls:=.type "list",data:=.seq vs.toArray }) (hi:IntsAre vs ns) (hl:ns.length<=sizeLine) (hr:fT k callerA)
  (F:∀base:Heap,K.In base->base.Ns mainGlobals mg->iZ P w K mg base CX k fa fd [x] sp) (OV:∀(s:Shared) (u:Value),BindsTo s fd ⟨[u],[]⟩ [(x,u)])
  (CO:∀H:Hp,F3 H->cX K H a (ns.map V.int)->sp [.ref a] H (λv _=>v=.bl true) λ_ _ _=>False)
  (UR:∀H e s',CX [] H s₁ (λ_ _ _=>False) e s'->False) :
  codeAny (model P w) callerA (.call (.ref fa) ⟨[.ref a],[]⟩) (λr s'=>r=.ok (.ret (.bool true))/\OldK s₁.heap s'.heap/\s'.os=s₁.os/\AllBare s'.gens) s₁:=by
 have rv:=kA hi;have Td:=hi.length;have core:∀H:Hp,F3 H->cX K H a (ns.map V.int)->kZ P w H s₁.heap->(∀b,H b≠none->b=a)->(H a≠none->K.lookup a=none) ->
   codeAny (model P w) callerA (.call (.ref fa) ⟨[.ref a],[]⟩) (λr s'=>r=.ok (.ret (.bool true))/\OldK s₁.heap s'.heap/\s'.os=s₁.os/\AllBare s'.gens) s₁:=by
  intro H hO hS cQ hA hK;have xQ:∀{b:Addr} {o:Obj},s₁.heap.get? b=some o->H b=none->(qH s₁.heap H).get? b=some o:=λe n=>BB e n;have NK:∀{b:Addr} {o:Obj} {es:Array DictEntry} {ep:Nat},s₁.heap.get? b=some o->o.data=.dict es ep->H b=none:=λ{b o es ep} e d=>by
   cases q:H b with
   |none=>rfl
   |some u =>
    have e':b=a:=hA b (by rw[q];simp);subst e';rw[ha]at e;cases e;have d':Data.seq vs.toArray _=Data.dict es ep:=d;cases d'
  have QK:∀{b:Addr} {m:aX},s₁.heap.Ns b m->(qH s₁.heap H).Ns b m:=λ{b m} ⟨o,es,ep,e,d,r⟩=>⟨o,es,ep,xQ e (NK e d),d,r⟩
  have WX:K.In (qH s₁.heap H):=λb o e=>xQ (KX b o e) (by
   cases q:H b with
   |none=>rfl
   |some u =>
    have e':b=a:=hA b (by rw[q];simp);subst e';rw[hK (by rw[q];simp)]at e;cases e)
  have hM:Mod K mg (qH s₁.heap H):=⟨WX,QK yF,⟨mb,QK hb,Y_⟩,let ⟨mc,h1,h2⟩:=Uo;⟨mc,QK h1,h2⟩⟩
  have e0:F7 P w K mg (qH s₁.heap H) callerA [] s₁ H:=⟨rfl,hM,λb o e=>Em e,Nat.le_of_eq (yG _ _),trivial,λb hb=>absurd (show b∈([]:aO) from hb) (by simp),cQ,.of_eq hg⟩
  refine abP ((F _ WX (QK yF)).run callerA [] s₁ H ⟨[.ref a],[]⟩ [.ref a] [.ref a] _ _ hr e0 (OV s₁ (.ref a)) (.cons rfl .nil) (CO H hO hS)) λr s' h=>?_;cases r with
  |error e=>exact(UR H e s' h).elim
  |ok fl =>
   cases fl with
   |next=>exact False.elim h
   |brk=>exact False.elim h
   |cont=>exact False.elim h
   |ret u =>
    obtain⟨v,H',os,bare,un,Ue,r',q⟩:=h;have q':v=.bl true:=q;subst q';obtain rfl:u=Value.bool true:=r';refine⟨rfl,OldK.of_keep λb o e=>?_,os,bare⟩;cases q:H b with
    |none=>exact un.keep b o e q (by intro z;exact absurd (show b∈([]:aO) from z) (by simp)) (by simp)
    |some u =>
     rcases hO b with z|⟨ob,xs,z⟩
     ·rw[q]at z;cases z
     ·have z2:=un.oy b ob _ z;obtain⟨e1,_⟩:=cQ b _ z;obtain⟨e2,_⟩:=Ue b _ z2;rw[e]at e1;cases e1;exact e2
 cases hk:K.lookup a with
 |some o =>
  have e:=KX a o hk;rw[ha]at e;cases e;refine core (λ_=>none) (λ_=>.inl rfl) (.inr ⟨_,vs.toArray,_,hk,rfl,rfl,rfl,by rw[List.size_toArray,Td];exact hl,by simpa using rv⟩) (λb u z=>by have z':(none:Option HO)=some u:=z;cases z') (λb z=>absurd rfl z) λz=>absurd rfl z
 |none =>
  refine core (λb=>if b=a then some (.gY { cls:=.type "list",data:=.seq vs.toArray } (.lst (ns.map V.int)))else none) (λb=>?_) (.inl (.inr ⟨{ cls:=.type "list",data:=.seq vs.toArray },aaN rfl⟩)) (λb u z=>?_) (λb z=>?_) λ_=>hk
  ·by_cases hb:b=a
   ·exact .inr ⟨_,_,aaN hb⟩
   ·exact .inl (abT hb)
  ·by_cases hb:b=a
   ·have z':=(aaN hb).symm.trans z;cases z';subst hb;exact⟨ha,by rw[List.length_map];exact hl,vs,_,rv,ha⟩
   ·have z':=(abT hb).symm.trans z;cases z'
  ·by_cases hb:b=a
   ·exact hb
   ·exact absurd (abT hb) z
end L2
namespace L2
open PySem PySem.Spec PyProof.Rows
theorem De{l:PySem.W.OpenLaw}{n k:Nat}{q:aF}{loose:ak}{XP:(aX)->Heap->Prop}{YP:World->Heap->Prop}{d:DefRec}{K:Params->aq}{CX:World->zq}{sp:World->Sp}{x:Str}
  (hn:l.most=some n) (LL:n<=sizeLine) (OQ:d.params.defaults=[]) (hr:fT k callerA)
  (hY:∀(w:World) (h:Heap),YP w h->(K w.params).In h)
  (F:∀(w:World) (mg:aX) (fa:Addr) (h:Heap),(K w.params).In h->h.Ns mainGlobals mg->mg d.name=some (.ref fa) ->
   ∃fd:FuncData,(∀(s:Shared) (u:Value),BindsTo s fd ⟨[u],[]⟩ [(x,u)]) /\
    ∀base:Heap,(K w.params).In base->base.Ns mainGlobals mg->iZ l.prog w (K w.params) mg base (CX w) k fa fd [x] (sp w))
  (CO:∀(w:World) (H:Hp) (a:Addr) (ns:aa),ns.length<=n->F3 H->cX (K w.params) H a (ns.map V.int)->sp w [.ref a] H (λv _=>v=.bl true) λ_ _ _=>False)
  (UR:∀(w:World) (H:Hp) (s:Shared) (e:Value) (s':Shared),CX w [] H s (λ_ _ _=>False) e s'->False) :
  PySem.W.WalkO q loose XP YP l.row.toRowW d [] (λf vs=>PySem.call f vs):=by
 refine Att.ug hn OQ λw s₀ s₁ mg mb fa o pm cd doc a vs ns G Y ho hd yK hmg JO hints hlen hg=>?_;have KX:=hY w _ Y;obtain⟨fd,hb,hF⟩:=F w mg fa _ KX G.T.g hmg;exact A9 KX G.T.g G.T.b G.T.builtins G.T.nolimit hg JO hints (aax hlen LL) hr hF hb (λH hO hS=>CO w H a ns hlen hO hS) λH e s'=>UR w H s₁ e s'
end L2
namespace L2
open PySem PySem.Spec PyProof.Rows
noncomputable def fJ(s:Stmt):Arguments:=match s with
 |.FunctionDef _ a _ _ _ _ _ _ _ _=>a
 |_=>{ posonlyargs:=[],args:=[],vararg:=none,kwonlyargs:=[],kw_defaults:=[],kwarg:=none,defaults:=[] }
noncomputable def dq(s:Stmt):bu:=match s with
 |.FunctionDef _ _ b _ _ _ _ _ _ _=>b
 |_=>[]
noncomputable def bG(s:Stmt):Scope:=match s with
 |.FunctionDef _ _ _ _ _ _ sc _ _ _=>sc
 |_=>{ kind:=.function,names:=[],isGenerator:=false,isCoroutine:=false }
noncomputable abbrev zr:zq:=λ_ _ _ _ _ _=>False
noncomputable abbrev E0:XK:=λ_ _ _=>False
theorem Nv{X:Cx}:Passes zr X E0:=λ_ _ _ _ _ _ _ h=>h.elim
structure F6(K:aq)(x qual:Str)(st:Stmt)(f:Addr)(fd:FuncData):Prop where
 ex:∃(oc:Value) (od:Option Addr) (kV doc pm:Value) (an:Option Addr) (i8 ct:Value) (CL:Array (Option Value)),
  fd=PySem.W.fnOf x qual (fJ st) (dq st) (bG st) .none kV doc pm an i8 ct/\K.lookup f=some ⟨oc,od,.func fd,CL⟩/\PySem.W.codeIn K i8 qual=true
 kp:PySem.W.keepIn K (.ref f)=true
variable {ps:ak}{qual:Str}{st:Stmt}
section
variable {P:aF}{w:World}{K:aq}{mg:aX}{base:Heap}
theorem F6.ok{x:Str}{f:Addr}{fd:FuncData}{N:ak}{k:Nat}{sp:Sp}(F:F6 K x qual st f fd)(S:iU N ps (bG st))(len:∀vs H Q E,sp vs H Q E->vs.length=ps.length)
  (BD:∀(i8:Value) (A:aE) (outer:List Env) (s:Shared) (H:Hp) (vs:ae) (Q:VK) (E:XK),fT k (A.deeper (envOfC qual (bG st) s.heap.objs.size f i8))->sp vs H Q E ->
   ∃t,mx (vE zr P w K mg base N qual (bG st) f i8 A outer s H E).NH (dq st) t/\t { nx:=λ_ H'=>Q .cw H',rt:=Q } (start N vs) H):iZ P w K mg base zr (k+1) f fd ps sp:=by
 obtain⟨oc,od,kV,doc,pm,an,i8,ct,CL,rfl,lk,yK⟩:=F.ex;refine Pl lk yK S len λA outer s H vs Q E hr CO=>?_;obtain⟨t,h,q⟩:=BD i8 A outer s H vs Q E hr CO;exact⟨t,h.NH,q⟩
theorem F6.binds{x:Str}{f:Addr}{fd:FuncData}(F:F6 K x qual st f fd)
  (h:∀(kV doc pm:Value) (an:Option Addr) (i8 ct:Value) (us:ao),us.length=ps.length->bindArgs (PySem.W.fnOf x qual (fJ st) (dq st) (bG st) .none kV doc pm an i8 ct) ⟨us,[]⟩=pure (ps.zip us)):Binds K fd ps []:=by
 obtain⟨oc,od,kV,doc,pm,an,i8,ct,CL,rfl,lk,yK⟩:=F.ex;exact .all (h kV doc pm an i8 ct)
theorem Kd{x:Str}{f:Addr}{oc:Value}{od an:Option Addr}{CL:Array (Option Value)}{kV doc pm i8 ct:Value}(l:K.lookup f=some ⟨oc,od,.func (PySem.W.fnOf x qual (fJ st) (dq st) (bG st) .none kV doc pm an i8 ct),CL⟩)
  (c:PySem.W.codeIn K i8 qual=true) (k:PySem.W.keepIn K (.ref f)=true):F6 K x qual st f (PySem.W.fnOf x qual (fJ st) (dq st) (bG st) .none kV doc pm an i8 ct):=⟨⟨oc,od,kV,doc,pm,an,i8,ct,CL,rfl,l,c⟩,k⟩
end
theorem Bs{A:aE}{k:Nat}(hr:fT k A):A.units+1<cLine:=aaz (ab4 (by decide:1<=64) _) hr.units
section
variable {X:Cx}
theorem pv(i:Nat){x:Str}{pos:Pos}(hN:X.N[i]?=some x:=by rfl)(hv:Hj X.env.scope x:=by first|exact Or.inl rfl|exact Or.inr (Or.inl rfl)|exact Or.inr (Or.inr rfl))(hd:(x==("__debug__" : Str))=false:=by decide)
  (yK:(x==("__classdict__" : Str))=false:=by decide):PE X (.Name x pos) (n9 i):=qe hN hv hd yK
end
def aM(H H':Hp):Prop:=∀b o,H b=some o->H' b=some o
theorem aM.refl(H:Hp):aM H H:=λ_ _ h=>h
variable {H H':Hp}
theorem aM.trans{H1 H2:Hp}(a:aM H H1)(b:aM H1 H2):aM H H2:=λc o h=>b c o (a c o h)
theorem aM.free(e:aM H H'){l:Addr}(h:H' l=Option.none):H l=Option.none:=by
 cases q:H l with
 |none=>rfl
 |some o =>
  rw[e l o q]at h;cases h
theorem aM.seq{K:aq}{a:Addr}{xs:ae}(e:aM H H')(h:cX K H a xs):cX K H' a xs:=by
 rcases h with (h|⟨o,h⟩)|h
 ·exact .inl (.inl (e _ _ h))
 ·exact .inl (.inr ⟨o,e _ _ h⟩)
 ·exact .inr h
end L2
set_option autoImplicit false
set_option linter.all false
set_option Elab.async false
set_option maxRecDepth 100000
set_option maxHeartbeats 4000000
section
namespace DI
open PySem (Str Expr Stmt Scope NameKind)
inductive Fl where|ow|fz|al|sc
 deriving DecidableEq
inductive D where
 |cw|bl (b:Bool)|int (i:Int)
 |tup (ds:List D)
 |lst (f:Fl) (ds:List D)
 |bV (f:Fl) (ks:ag) (vs:List D)
 |cL (f:Fl) (ks:ag) (vs:List D)
abbrev aJ:=Option D
abbrev ab:=List D
mutual
noncomputable def aU(g:Fl->Fl):D->D
 |.tup ds=>.tup (aA g ds)
 |.lst f ds=>.lst (g f) (aA g ds)
 |.bV f ks vs=>.bV (g f) ks (aA g vs)
 |.cL f ks vs=>.cL (g f) ks (aA g vs)
 |.cw=>.cw
 |.bl b=>.bl b
 |.int i=>.int i
noncomputable def aA(g:Fl->Fl):ab->ab
 |[]=>[]
 |d::ds=>aU g d::aA g ds
end
theorem aY(g:Fl->Fl):∀ds:ab,aA g ds=ds.map (aU g)
 |[]=>rfl
 |d::ds=>by rw[aA,aY g ds];rfl
noncomputable def bj:Fl->Fl|.ow=>.al|f=>f
noncomputable def jg:Fl->Fl|.fz=>.al|f=>f
noncomputable def VD:Fl->Fl|.al=>.fz|f=>f
noncomputable def aV:Fl->Fl|.sc=>.sc|_=>.fz
noncomputable def vi:Fl->Bool|.sc=>true|_=>false
mutual
noncomputable def aH(p:Fl->Bool):D->Bool
 |.tup ds=>aL p ds
 |.lst f ds=>p f||aL p ds
 |.bV f ks vs=>p f||aL p vs
 |.cL f ks vs=>p f||aL p vs
 |_=>false
noncomputable def aL(p:Fl->Bool):ab->Bool
 |[]=>false
 |d::ds=>aH p d||aL p ds
end
noncomputable def bp:Fl->Bool|.al=>true|_=>false
noncomputable def bX:Fl->Bool|.ow=>true|_=>false
noncomputable def anyF:Fl->Bool:=λ_=>true
mutual
noncomputable def ku:D->D->Bool
 |.cw,.cw=>true
 |.bl a,.bl b=>a==b
 |.bl a,.int b=>(if a then 1 else 0)==b
 |.int a,.bl b=>a==(if b then 1 else 0)
 |.int a,.int b=>a==b
 |.tup a,.tup b=>dC a b
 |.lst _ a,.lst _ b=>dC a b
 |_,_=>false
noncomputable def dC:ab->ab->Bool
 |[],[]=>true
 |a::as,b::bs=>ku a b&&dC as bs
 |_,_=>false
end
noncomputable def cO:Nat->D->Bool
 |_,.cw=>true
 |_,.bl _=>true
 |_,.int _=>true
 |n+1,.tup ds=>ds.all (cO n)
 |n+1,.lst _ ds=>ds.all (cO n)
 |_,_=>false
noncomputable abbrev O(α:Type):=Option (Except Nat α)
abbrev aC:=ab->O D
noncomputable def ok{α:Type}(a:α):O α:=some (.ok a)
noncomputable def bd{α β:Type}(x:O α)(f:α->O β):O β:=match x with
 |some (.ok a)=>f a
 |some (.error c)=>some (.error c)
 |none=>none
@[simp]theorem QM{α:Type}{a:α}:((none:O α)=ok a)=False:=by simp[ok]
@[simp]theorem S3{α:Type}{a b:α}:(ok a=ok b)=(a=b):=by simp[ok]
@[simp]theorem Vf{α:Type}{a:α}{c:Nat}:((some (.error c):O α)=ok a)=False:=by simp[ok]
@[simp]theorem GQ{α:Type}{p:Prop}[Decidable p]{a b:α}:((if p then ok a else none)=ok b)=(p/\a=b):=by
 by_cases h:p<;>simp[h]
@[simp]theorem TK{α:Type}{p:Prop}[Decidable p]{a b:α}:((if p then none else ok a)=ok b)=(¬ p/\a=b):=by
 by_cases h:p<;>simp[h]
theorem nk{α:Type}{a:α}{P:Prop}(h:(none:Option α)=some a):P:=nomatch h
theorem aB{α β:Type}{x:O α}{f:α->O β}{b:β}(h:bd x f=ok b):∃a,x=ok a/\f a=ok b:=by
 unfold bd at h
 match x,h with
 |some (.ok a),h=>exact⟨a,rfl,h⟩
 |some (.error c),h=>cases h
 |none,h=>cases h
inductive F8 where|add|sub|mul|fdiv|mod|pow|shr|band
 deriving DecidableEq
inductive zt where|eq|ne|lt|le|gt|ge|EJ
 deriving DecidableEq
inductive Ty where|int|bool|list|tuple
 deriving DecidableEq
inductive Bf where|len|abs|Bn|list1|tuple1|mH|all1|cN
 deriving DecidableEq
inductive Tg where|nm(i:Nat)|tp(is:aQ)
 deriving DecidableEq
inductive IK where|kn|seq|bR(p:Nat)
 deriving DecidableEq
inductive GK where|i(z:Int)|t(zs:aa)
 deriving DecidableEq
inductive CE where
 |cw|bl (b:Bool)|int (i:Int)|glo (x:Str) (i:Int)|glt (x:Str) (zs:aa)
 |v (i:Nat)
 |bin (op:F8) (a b:CE)
 |neg (a:CE)|not (a:CE)|and (es:List CE)|or (es:List CE)
 |cmp (op:zt) (a b:CE)
 |o_ (a:CE) (t:Ty)
 |call (f:Nat) (es:List CE)
 |bf (f:Bf) (es:List CE)
 |ix (a b:CE)
 |je (a:CE)
 |tup (es:List CE)|lst (es:List CE)
 |bR (p:Nat) (es:List CE)
 |comp (n:Nat) (t:Tg) (caps:aQ) (ik:IK) (es bM:List CE) (elt:CE)
abbrev aG:=List CE
inductive CI where|kn(a:CE)|seq(a:CE)|uS(p:Nat)(es:aG)
inductive CS where
 |asg (t:Tg) (e:CE)|par (i j:Nat) (a b:CE)|ret (e:CE)|rs (c:Nat)|ex (e:CE)
 |mut (p i:Nat) (es:aG)|mu2 (p i:Nat) (k e:CE)|pop2 (i j:Nat) (e:CE)|app (i:Nat) (e:CE)
 |ifs (c:CE) (a b:List CS)
 |Hx (c:CE) (b:List CS)
 |fr (t:Tg) (it:CI) (b:List CS)
abbrev ah:=List CS
noncomputable abbrev ba:=List (aJ)
noncomputable abbrev a_:=Nat->aC
noncomputable def big:Nat:=2 ^ 9000
def ic(i j:Int):Bool:=decide (i.natAbs<2 ^ 64)||decide (j.natAbs<2 ^ 64)||(decide (i.natAbs<big)&&decide (j.natAbs<big))
def pB(j:Int):Bool:=decide (j≠0)&&decide (j.natAbs<big)
noncomputable def wq(i j:Int):Bool:=decide (0<=j)&&decide (j<=1000000)&&decide (i.natAbs<2 ^ 64)
noncomputable def cg:Nat:=1000000
theorem me{α:Type}{c:Prop}[inst:Decidable c]{v d:α}(h:(if c then ok v else none)=ok d):c/\v=d:=by
 cases inst with
 |isTrue hc=>exact⟨hc,Except.ok.inj (aap h)⟩
 |isFalse hc=>cases h
def dy:F8->D->D->O D
 |.add,.int i,.int j=>ok (.int (i+j))
 |.add,.lst f a,.lst g b=>if vi f=false/\vi g=false/\a.length+b.length<=cg then ok (.lst .ow (aA bj (a++b)))else none
 |.add,.tup a,.tup b=>if a.length+b.length<=cg then ok (.tup (aA bj (a++b)))else none
 |.sub,.int i,.int j=>ok (.int (i - j))
 |.mul,.int i,.int j=>if ic i j then ok (.int (i*j))else none
 |.mul,.lst f a,.int k=>if vi f=false/\a.length*k.toNat<=cg/\k<=cg /\ -cg<=k then ok (.lst .ow (aA bj (List.replicate k.toNat a).flatten))else none
 |.fdiv,.int i,.int j=>if pB j then ok (.int (i.fdiv j))else none
 |.mod,.int i,.int j=>if j≠0 then ok (.int (i.fmod j))else none
 |.pow,.int i,.int j=>if wq i j then ok (.int (i ^ j.toNat))else none
 |.shr,.int i,.int j=>if 0<=j then ok (.int (i / 2 ^ j.toNat))else none
 |.band,.int i,.int j=>if j=1 then ok (.int (i % 2))else none
 |_,_,_=>none
def inD(x:D):ab->Bool
 |[]=>false
 |y::ys=>ku y x||inD x ys
noncomputable def nj:D->Bool
 |.cw=>true|.bl _=>true|.int _=>true|_=>false
noncomputable def Jz:D->Option (ab)
 |.tup ds=>some ds
 |.lst _ ds=>some ds
 |_=>none
def iy:zt->D->D->O D
 |.eq,a,b=>if cO 40 a&&cO 40 b then ok (.bl (ku a b))else none
 |.ne,a,b=>if cO 40 a&&cO 40 b then ok (.bl (!ku a b))else none
 |.lt,.int i,.int j=>ok (.bl (decide (i<j)))
 |.le,.int i,.int j=>ok (.bl (decide (i<=j)))
 |.gt,.int i,.int j=>ok (.bl (decide (j<i)))
 |.ge,.int i,.int j=>ok (.bl (decide (j<=i)))
 |.EJ,a,b=>match Jz b with
  |some ds=>if nj a&&ds.all nj then ok (.bl (inD a ds))else none
  |none=>none
 |_,_,_=>none
noncomputable def du:Ty->D->Bool
 |.int,.int _=>true|.int,.bl _=>true
 |.bool,.bl _=>true
 |.list,.lst _ _=>true
 |.tuple,.tup _=>true
 |_,_=>false
noncomputable def qz(n:Nat)(i:Int):Option Nat:=if 0<=i then(if i<n then some i.toNat else none)else if -(n:Int)<=i then some (i+n).toNat else none
def nM(ds:ab)(i:Int):O D:=match(qz ds.length i).bind λj=>ds[j]? with
 |some d=>ok (aU bj d)
 |none=>none
def rL:D->D->O D
 |.tup ds,.int i=>nM ds i
 |.lst _ ds,.int i=>nM ds i
 |_,_=>none
noncomputable def intsOf:ab->Option (aa)
 |[]=>some []
 |.int i::ds=>(intsOf ds).map (i :: ·)
 |_::_=>none
noncomputable def i9:ab->Option (List Bool)
 |[]=>some []
 |.bl i::ds=>(i9 ds).map (i :: ·)
 |_::_=>none
theorem c_:∀{ds:ab} {ns:aa},intsOf ds=some ns->ds=ns.map D.int
 |[],ns,h=>by simp[intsOf]at h;subst h;rfl
 |d::ds,ns,h=>by
  cases d<;>simp[intsOf]at h;obtain⟨ms,h1,rfl⟩:=h;rw[c_ h1];rfl
theorem ue:∀{ds:ab} {bs:List Bool},i9 ds=some bs->ds=bs.map D.bl
 |[],bs,h=>by simp[i9]at h;subst h;rfl
 |d::ds,bs,h=>by
  cases d<;>simp[i9]at h;obtain⟨ms,h1,rfl⟩:=h;rw[ue h1];rfl
theorem br:∀ns:aa,intsOf (ns.map D.int)=some ns
 |[]=>rfl
 |n::ns=>by simp[intsOf,br ns]
theorem pH:∀bs:List Bool,i9 (bs.map D.bl)=some bs
 |[]=>rfl
 |b::bs=>by simp[i9,pH bs]
noncomputable def sortI(ns:aa):aa:=ns.mergeSort (λa b=>decide (a<=b))
def oN(ds:ab):O D:=match intsOf ds with
 |some ns=>if ns.length<64 then ok (.lst .ow ((sortI ns).map D.int))else none
 |none=>none
def nZ:Bf->aC
 |.len,xs=>match xs with
  |[.tup ds]=>ok (.int ds.length)
  |[.lst _ ds]=>ok (.int ds.length)
  |_=>none
 |.abs,xs=>match xs with
  |[.int i]=>ok (.int (if i<0 then -i else i))
  |_=>none
 |.Bn,xs=>match xs with
  |[.int i]=>ok (.int i)
  |[.bl b]=>ok (.int (if b then 1 else 0))
  |_=>none
 |.list1,xs=>match xs with
  |[.lst _ ds]=>ok (.lst .ow (aA bj ds))
  |[.tup ds]=>ok (.lst .ow (aA bj ds))
  |_=>none
 |.tuple1,xs=>match xs with
  |[.lst _ ds]=>ok (.tup (aA bj ds))
  |[.tup ds]=>ok (.tup (aA bj ds))
  |_=>none
 |.mH,xs=>match xs with
  |[.lst _ ds]=>(match intsOf ds with
   |some ns=>ok (.int ns.sum)
   |none=>none)
  |_=>none
 |.all1,xs=>match xs with
  |[.lst _ ds]=>(match i9 ds with
   |some bs=>ok (.bl (bs.all id))
   |none=>none)
  |_=>none
 |.cN,xs=>match xs with
  |[.lst _ ds]=>oN ds
  |[.tup ds]=>oN ds
  |_=>none
noncomputable def tU(ns:aa):aa:=ns.foldl (λ(m:aa) (k:Int)=>if m.any (· == k)then m else m++[k]) []
def wU:D->O D
 |.tup ds=>(match intsOf ds with
  |some ns=>if ns.length<4000 then ok (.int (tU ns).length)else none
  |none=>none)
 |_=>none
noncomputable def gW:D->O Bool
 |.bl b=>ok b
 |_=>none
noncomputable def intD:D->O Int
 |.int i=>ok i
 |_=>none
noncomputable def uT:Option (aJ)->Option (ab)
 |some (some (.lst .ow ds))=>some ds
 |_=>none
theorem wJ{o:Option (aJ)}{ds:ab}(h:uT o=some ds):o=some (some (.lst .ow ds)):=by
 unfold uT at h;split at h<;>cases h;rfl
theorem EI{d:D}{i:Int}(h:intD d=ok i):d=.int i:=by
 cases d<;>simp[intD]at h;rw[h]
noncomputable def Er:D->O D
 |.int i=>ok (.int (-i))
 |_=>none
def gO:aQ->ab->ba->O ba
 |[],[],ρ=>ok ρ
 |i::is,d::ds,ρ=>if i<ρ.length then gO is ds (ρ.set i (some d))else none
 |_,_,_=>none
def cy:Tg->D->ba->O ba
 |.nm i,d,ρ=>if i<ρ.length then ok (ρ.set i (some d))else none
 |.tp is,.tup ds,ρ=>if aL bX ds then none else gO is ds ρ
 |_,_,_=>none
def kF:D->O (ab)
 |.lst _ ds=>ok (aA aV ds)
 |_=>none
def dU(Φ:a_):IK->ab->O (ab)
 |.bR p,xs=>bd (Φ p xs) kF
 |.kn,[.int n]=>if n<=cg /\ -cg<=n then ok ((List.range n.toNat).map λ(k:Nat)=>D.int (k:Int))else none
 |.seq,[.tup ds]=>ok (aA aV ds)
 |.seq,[.lst _ ds]=>ok (aA aV ds)
 |_,_=>none
def gT(bind:D->O ba)(test:ba->O Bool)(el:ba->O D):ab->O (ab)
 |[]=>ok []
 |x::xs=>bd (bind x) λρ=>bd (test ρ) λb=>if b then bd (el ρ) λy=>bd (gT bind test el xs) λys=>ok (y::ys)else gT bind test el xs
def bP(n:Nat)(caps:aQ)(ρ:ba):ba:=List.replicate n none++caps.map λi=>(ρ[i]?.getD none).map (aU aV)
def v_(o:Option (aJ)):O D:=match o with
 |some (some d)=>ok (aU bj d)
 |_=>none
theorem z_{o:Option (aJ)}{d:D}(h:v_ o=ok d):∃d',o=some (some d')/\d=aU bj d':=by
 cases o with
 |none=>cases h
 |some z=>cases z with
  |none=>cases h
  |some z=>cases h;exact⟨z,rfl,rfl⟩
mutual
noncomputable def bC(Φ:a_):CE->ba->O D
 |.cw,_=>ok .cw
 |.bl b,_=>ok (.bl b)
 |.int i,_=>ok (.int i)
 |.glo _ i,_=>ok (.int i)
 |.glt _ zs,_=>ok (.tup (zs.map D.int))
 |.v i,ρ=>v_ ρ[i]?
 |.bin op a b,ρ=>bd (bC Φ a ρ) λx=>bd (bC Φ b ρ) λy=>dy op x y
 |.neg a,ρ=>bd (bC Φ a ρ) Er
 |.not a,ρ=>bd (bd (bC Φ a ρ) gW) λb=>ok (.bl (!b))
 |.and es,ρ=>pz Φ es ρ
 |.or es,ρ=>yT Φ es ρ
 |.cmp op a b,ρ=>bd (bC Φ a ρ) λx=>bd (bC Φ b ρ) λy=>iy op x y
 |.o_ a t,ρ=>bd (bC Φ a ρ) λx=>ok (.bl (du t x))
 |.call f es,ρ=>bd (cz Φ es ρ) λxs=>bd (Φ f (aA aV xs)) λr=>ok (aU jg r)
 |.bf f es,ρ=>bd (cz Φ es ρ) λxs=>nZ f xs
 |.ix a b,ρ=>bd (bC Φ a ρ) λx=>bd (bC Φ b ρ) λy=>rL x y
 |.je a,ρ=>bd (bC Φ a ρ) λx=>wU x
 |.bR p es,ρ=>bd (cz Φ es ρ) λxs=>Φ p xs
 |.tup es,ρ=>bd (cz Φ es ρ) λxs=>ok (.tup xs)
 |.lst es,ρ=>bd (cz Φ es ρ) λxs=>ok (.lst .ow xs)
 |.comp n t caps ik es bM elt,ρ=>bd (cz Φ es ρ) λxs=>bd (dU Φ ik xs) λitems =>
   bd (gT (λd=>cy t d (bP n caps ρ)) (λρ'=>gS Φ bM ρ') (λρ'=>bC Φ elt ρ') items) λds=>if ds.length<=cg then ok (.lst .ow (aA jg ds))else none
noncomputable def cz(Φ:a_):aG->ba->O (ab)
 |[],_=>ok []
 |e::es,ρ=>bd (bC Φ e ρ) λx=>bd (cz Φ es ρ) λxs=>ok (x::xs)
noncomputable def gS(Φ:a_):aG->ba->O Bool
 |[],_=>ok true
 |e::es,ρ=>bd (bd (bC Φ e ρ) gW) λb=>if b then gS Φ es ρ else ok false
noncomputable def pz(Φ:a_):aG->ba->O D
 |[],_=>none
 |e::es,ρ=>bd (bd (bC Φ e ρ) gW) λc=>match es with
  |[]=>ok (.bl c)
  |_::_=>if c then pz Φ es ρ else ok (.bl false)
noncomputable def yT(Φ:a_):aG->ba->O D
 |[],_=>none
 |e::es,ρ=>bd (bd (bC Φ e ρ) gW) λc=>match es with
  |[]=>ok (.bl c)
  |_::_=>if c then ok (.bl true)else yT Φ es ρ
end
def yS(Φ:a_)(e:CE)(ρ:ba):O Bool:=bd (bC Φ e ρ) gW
inductive Fo where|nx|rt(d:D)|bk|ct
noncomputable def cV{α β:Type}(n:Nat)(step:α->O (α ⊕ β))(a:α):O β:=match n with
 |0=>none
 |n+1=>bd (step a) λr=>match r with
  |.inl a'=>cV n step a'
  |.inr b=>ok b
open Classical in
noncomputable def ff{α β:Type}(step:α->O (α ⊕ β))(a:α):O β :=
 if h:∃n,cV n step a≠none then cV (Classical.choose h) step a else none
theorem iq{α β:Type}(step:α->O (α ⊕ β)):∀(n m:Nat) (a:α),n<=m->cV n step a≠none->cV m step a=cV n step a
 |0,_,_,_,h=>absurd rfl h
 |n+1,0,_,hl,_=>by left
 |n+1,m+1,a,hl,h=>by
  unfold cV at h ⊢
  match hs:step a with
  |none=>rw[hs]at h;exact absurd rfl h
  |some (.error c)=>rfl
  |some (.ok (.inr b))=>rfl
  |some (.ok (.inl a')) =>
   rw[hs]at h;exact iq step n m a' (by left) h
theorem kz{α β:Type}{step:α->O (α ⊕ β)}{a:α}{n:Nat}{r:Except Nat β}(h:cV n step a=some r):ff step a=some r:=by
 have hx:∃n,cV n step a≠none:=⟨n,by rw[h];simp⟩
 unfold ff;rw[dif_pos hx];have hc:=Classical.choose_spec hx;rcases Nat.le_total n (Classical.choose hx)with hl|hl
 ·rw[iq step _ _ a hl (by rw[h];simp),h]
 ·rw[<- iq step _ _ a hl hc,h]
theorem kK{α β:Type}{step:α->O (α ⊕ β)}{a:α}{r:Except Nat β}(h:ff step a=some r):∃n,cV n step a=some r:=by
 unfold ff at h;split at h
 ·exact⟨_,h⟩
 ·cases h
theorem mC{α β:Type}{step:α->O (α ⊕ β)}{a a':α}(h:step a=ok (.inl a')):ff step a=ff step a':=by
 match hr:ff step a' with
 |some r =>
  obtain⟨n,hn⟩:=kK hr;refine kz (n:=n+1) ?_;unfold cV;rw[h];exact hn
 |none =>
  match hq:ff step a with
  |none=>rfl
  |some r =>
   obtain⟨n,hn⟩:=kK hq
   match n,hn with
   |n+1,hn =>
    unfold cV at hn;rw[h]at hn;rw[kz (n:=n) hn]at hr;cases hr
theorem gv{α β:Type}{step:α->O (α ⊕ β)}{a:α}{b:β}(h:step a=ok (.inr b)):ff step a=ok b :=
 kz (n:=1) (by unfold cV;rw[h];rfl)
mutual
noncomputable def gR:CE->aQ
 |.v i=>[i]
 |.bin _ a b=>gR a++gR b
 |.neg a=>gR a
 |.not a=>gR a
 |.and es=>cW es
 |.or es=>cW es
 |.cmp _ a b=>gR a++gR b
 |.o_ a _=>gR a
 |.call _ es=>cW es
 |.bf _ es=>cW es
 |.ix a b=>gR a++gR b
 |.je a=>gR a
 |.tup es=>cW es
 |.lst es=>cW es
 |.bR _ es=>cW es
 |.comp _ _ caps _ es _ _=>caps++cW es
 |_=>[]
noncomputable def cW:aG->aQ
 |[]=>[]
 |e::es=>gR e++cW es
end
def gY(is:aQ)(ρ:ba):ba:=ρ.mapIdx λi d=>if i∈is then d.map (aU aV)else d
def keep(e:CE)(d:D)(ρ:ba):D×ba:=if aH bp d then(aU aV d,gY (gR e) ρ)else(d,ρ)
def ji(Φ:a_)(e:CE)(ρ:ba):O (D×ba):=match e with
 |.v i=>match ρ[i]? with
  |some (some d)=>if aH bX d then ok (d,ρ.set i none)else ok (d,ρ)
  |_=>none
 |_=>bd (bC Φ e ρ) λd=>ok (keep e d ρ)
def cM(Φ:a_)(it:CI)(ρ:ba):O (ab×ba):=match it with
 |.uS p es=>bd (cz Φ es ρ) λxs=>bd (Φ p xs) λd=>bd (kF d) λitems=>ok (items,if aL bp xs then gY (cW es) ρ else ρ)
 |.kn a=>bd (bC Φ a ρ) λx=>match x with
  |.int n=>if n<=cg /\ -cg<=n then ok ((List.range n.toNat).map λ(k:Nat)=>D.int (k:Int),ρ)else none
  |_=>none
 |.seq a=>bd (bC Φ a ρ) λx=>match x with
  |.tup ds=>ok (aA aV ds,if aH bp x then gY (gR a) ρ else ρ)
  |.lst f ds=>ok (aA aV ds,if aH bp x then gY (gR a) ρ else ρ)
  |_=>none
def mX(es:aG)(xs:ab)(ρ:ba):ab×ba:=if aL bp xs then(aA aV xs,gY (cW es) ρ)else(xs,ρ)
noncomputable def uW(Φ:a_)(p i:Nat)(r:ab×ba):O (Fo×ba):=match r.2[i]? with
 |some (some d)=>bd (Φ p (d::r.1)) λd'=>ok (.nx,r.2.set i (some d'))
 |_=>none
def AY(Φ:a_)(p i:Nat)(ρ:ba)(kd d:D):O (Fo×ba):=match ρ[i]? with
 |some (some x)=>if aH anyF kd=false/\aH anyF d=false then bd (Φ p [x,kd,d]) λd'=>ok (.nx,ρ.set i (some d'))else none
 |_=>none
def oW(i j:Nat)(ρ:ba)(z:Int):O (Fo×ba):=match ρ[i]? with
 |some (some (.tup ds))=>match uT ρ[j]? with
  |some es=>match intsOf ds with
   |some ns=>match intsOf es with
    |some ms=>match qz ms.length z with
     |some m=>if ns.length<1000/\ms.length<1000/\i≠j then ok (.nx,(ρ.set j (some (.lst .ow ((ms.eraseIdx m).map D.int)))).set i (some (.tup ((ns++[ms.getD m 0]).map D.int))))else none
     |none=>none
    |none=>none
   |none=>none
  |none=>none
 |_=>none
def dJ(bind:D->ba->O ba)(body:ba->O (Fo×ba)):ab->ba->O (Fo×ba)
 |[],ρ=>ok (.nx,ρ)
 |d::ds,ρ=>bd (bind d ρ) λρ1=>bd (body ρ1) λr=>match r with
  | (.nx,ρ2)=>dJ bind body ds ρ2
  | (.ct,ρ2)=>dJ bind body ds ρ2
  | (.bk,ρ2)=>ok (.nx,ρ2)
  | (.rt d,ρ2)=>ok (.rt d,ρ2)
mutual
noncomputable def jh(Φ:a_):CS->ba->O (Fo×ba)
 |.asg t e,ρ=>bd (ji Φ e ρ) λr=>bd (cy t r.1 r.2) λρ'=>ok (.nx,ρ')
 |.par i j a b,ρ=>bd (bC Φ a ρ) λx=>bd (bC Φ b ρ) λy=>if aH anyF x=false/\aH anyF y=false/\i<ρ.length/\j<ρ.length then ok (.nx,(ρ.set i (some x)).set j (some y))else none
 |.ret e,ρ=>bd (ji Φ e ρ) λr=>ok (.rt r.1,r.2)
 |.rs c,_=>some (.error c)
 |.ex e,ρ=>bd (bC Φ e ρ) λ_=>ok (.nx,ρ)
 |.mut p i es,ρ=>bd (cz Φ es ρ) λxs=>uW Φ p i (mX es xs ρ)
 |.mu2 p i k e,ρ=>bd (bC Φ k ρ) λkd=>bd (bC Φ e (ρ.set i none)) λd=>AY Φ p i ρ kd d
 |.pop2 i j e,ρ=>bd (bd (bC Φ e ρ) intD) (oW i j ρ)
 |.app i e,ρ=>bd (ji Φ e ρ) λr=>match uT r.2[i]? with
  |some ds=>if ds.length<cg then ok (.nx,r.2.set i (some (.lst .ow (ds++[r.1]))))else none
  |none=>none
 |.ifs c a b,ρ=>bd (yS Φ c ρ) λk=>if k then bA Φ a ρ else bA Φ b ρ
 |.Hx c b,ρ=>ff (λρ=>bd (yS Φ c ρ) λk=>if k then bd (bA Φ b ρ) λr=>match r with
   | (.nx,ρ')=>ok (.inl ρ')
   | (.ct,ρ')=>ok (.inl ρ')
   | (.bk,ρ')=>ok (.inr (.nx,ρ'))
   | (.rt d,ρ')=>ok (.inr (.rt d,ρ'))
  else ok (.inr (.nx,ρ))) ρ
 |.fr t it b,ρ=>bd (cM Φ it ρ) λr=>dJ (λd ρ=>cy t d ρ) (λρ=>bA Φ b ρ) r.1 r.2
noncomputable def bA(Φ:a_):ah->ba->O (Fo×ba)
 |[],ρ=>ok (.nx,ρ)
 |s::ss,ρ=>bd (jh Φ s ρ) λr=>match r with
  | (.nx,ρ')=>bA Φ ss ρ'
  |r=>ok r
end
noncomputable def p7(Φ:a_)(n:Nat)(b:ah)(ds:ab):O D:=bd (bA Φ b (ds.map some++List.replicate (n - ds.length) none)) λr=>match r.1 with
 |.nx=>ok .cw
 |.rt d=>ok d
 |_=>none
noncomputable def uq:aC
 |[.lst _ a,.lst _ b]=>ok (.lst .ow (List.zipWith (λx y=>.tup [x,y]) a b))
 |_=>none
end DI
end
section
namespace DI
open PySem PySem.Spec PyProof.Rows L2
noncomputable abbrev bq:=aQ
noncomputable abbrev St:=L2.St
noncomputable abbrev ka:=Addr->ae->Prop
inductive Nd where|l(xs:ae)|d(cs:ag)(as:aO)(xs:ae)(ep:Nat)
 |ej (cs:ag) (as:aO) (xs:ae) (ep:Nat)
abbrev gZ:=bq->Addr->Nd->Fl->Prop
structure eL(T:ka)(as:aO)(cs:ag):Prop where
 len:as.length=cs.length
 tup:∀(j:Nat) (a:Addr) (c:aa),as[j]?=some a->cs[j]?=some c->T a (c.map V.int)
variable {T T':ka}{as ch fp:aO}
theorem eL.imp{cs:ag}(h:eL T as cs)(hT:∀p xs,T p xs->T' p xs):eL T' as cs:=⟨h.len,λj a c h1 h2=>hT _ _ (h.tup j a c h1 h2)⟩
def jr(T:ka)(a:Addr)(c:aa):Prop:=∃(h:Int) (lot:aa) (b:Addr),c=h::lot/\T a [.ref b,.int h]/\T b (lot.map V.int)
structure eK(T:ka)(as:aO)(cs:ag):Prop where
 len:as.length=cs.length
 key:∀(j:Nat) (a:Addr) (c:aa),as[j]?=some a->cs[j]?=some c->jr T a c
theorem jr.imp{a:Addr}{c:aa}(h:jr T a c)(hT:∀p xs,T p xs->T' p xs):jr T' a c:=by obtain⟨x,y,b,e,h1,h2⟩:=h;exact⟨x,y,b,e,hT _ _ h1,hT _ _ h2⟩
theorem eK.imp{T T':ka}{as:aO}{cs:ag}(h:eK T as cs)(hT:∀p xs,T p xs->T' p xs):eK T' as cs:=⟨h.len,λj a c h1 h2=>(h.key j a c h1 h2).imp hT⟩
mutual
inductive Rep(T:ka)(N:gZ):bq->V->D->Prop where
 |cw {q:bq}:Rep T N q .cw .cw
 |bl {q:bq} (b:Bool):Rep T N q (.bl b) (.bl b)
 |int {q:bq} (i:Int):Rep T N q (.int i) (.int i)
 |tup {q:bq} {p:Addr} {xs:ae} {ds:ab} (h:T p xs) (r:az T N q 0 xs ds):Rep T N q (.ref p) (.tup ds)
 |lst {q:bq} {p:Addr} {xs:ae} {f:Fl} {ds:ab} (h:N q p (.l xs) f) (r:az T N q 0 xs ds):Rep T N q (.ref p) (.lst f ds)
 |bV {q:bq} {p:Addr} {cs:ag} {as:aO} {xs:ae} {ep:Nat} {f:Fl} {ds:ab} (h:N q p (.d cs as xs ep) f) (k:eL T as cs) (r:az T N q 0 xs ds):Rep T N q (.ref p) (.bV f cs ds)
 |cL {q:bq} {p:Addr} {cs:ag} {as:aO} {xs:ae} {ep:Nat} {f:Fl} {ds:ab} (h:N q p (.ej cs as xs ep) f) (k:eK T as cs) (r:az T N q 0 xs ds):Rep T N q (.ref p) (.cL f cs ds)
inductive az(T:ka)(N:gZ):bq->Nat->ae->ab->Prop where
 |nil {q:bq} {n:Nat}:az T N q n [] []
 |cons {q:bq} {n:Nat} {v:V} {d:D} {vs:ae} {ds:ab} (h:Rep T N (n::q) v d) (t:az T N q (n+1) vs ds):az T N q n (v::vs) (d::ds)
end
variable {N:gZ}{ds ds' items:ab}
theorem Rep.x8{q:bq}{v:V}(h:Rep T N q v (.tup ds)):∃p xs,v=.ref p/\T p xs/\az T N q 0 xs ds:=by
 cases h with
 |tup a b=>exact⟨_,_,rfl,a,b⟩
theorem Rep.n6{q:bq}{v:V}{f:Fl}(h:Rep T N q v (.lst f ds)):∃p xs,v=.ref p/\N q p (.l xs) f/\az T N q 0 xs ds:=by
 cases h with
 |lst a b=>exact⟨_,_,rfl,a,b⟩
mutual
theorem qJ:∀d:D,aH (λ_=>false) d=false
 |.cw=>rfl
 |.bl _=>rfl
 |.int _=>rfl
 |.tup ds=>fw ds
 |.lst _ ds=>fw ds
 |.bV _ _ ds=>fw ds
 |.cL _ _ ds=>fw ds
theorem fw:∀ds:ab,aL (λ_=>false) ds=false
 |[]=>rfl
 |d::ds=>by show(aH _ d||aL _ ds)=false;rw[qJ d,fw ds];rfl
end
theorem CM{a b:Bool}(h:(a||b)=false):a=false/\b=false:=by cases a<;>cases b<;>first|exact⟨rfl,rfl⟩|cases h
variable {k' q':bq}{vs xs xs':ae}
section
variable {T T':ka}{N N':gZ}{g:Fl->Fl}{P:Fl->Bool}{C:bq->bq->Prop}{I:Nat->Nat->Prop}
mutual
theorem Rep.gen(hT:∀p xs,T p xs->T' p xs)(h0:I 0 0)(hI:∀n n',I n n'->I (n+1) (n'+1))(hC:∀k k' n n',C k k'->I n n'->C (n::k) (n'::k'))(hN:∀k k' p xs f,C k k'->P f=false->N k p xs f->N' k' p xs (g f)):
  ∀{k:bq} {v:V} {d:D},Rep T N k v d->∀{k':bq},C k k'->aH P d=false->Rep T' N' k' v (aU g d)
 |_,_,_,.cw,_,_,_=>.cw
 |_,_,_,.bl b,_,_,_=>.bl b
 |_,_,_,.int i,_,_,_=>.int i
 |_,_,_,.tup h r,_,c,e=>.tup (hT _ _ h) (az.gen hT h0 hI hC hN r c h0 e)
 |_,_,_,.lst h r,_,c,e=>.lst (hN _ _ _ _ _ c (CM e).1 h) (az.gen hT h0 hI hC hN r c h0 (CM e).2)
 |_,_,_,.bV h k r,_,c,e=>.bV (hN _ _ _ _ _ c (CM e).1 h) (k.imp hT) (az.gen hT h0 hI hC hN r c h0 (CM e).2)
 |_,_,_,.cL h k r,_,c,e=>.cL (hN _ _ _ _ _ c (CM e).1 h) (k.imp hT) (az.gen hT h0 hI hC hN r c h0 (CM e).2)
theorem az.gen(hT:∀p xs,T p xs->T' p xs)(h0:I 0 0)(hI:∀n n',I n n'->I (n+1) (n'+1))(hC:∀k k' n n',C k k'->I n n'->C (n::k) (n'::k'))(hN:∀k k' p xs f,C k k'->P f=false->N k p xs f->N' k' p xs (g f)):
  ∀{k:bq} {n:Nat} {vs:ae} {ds:ab},az T N k n vs ds->∀{k':bq} {n':Nat},C k k'->I n n'->aL P ds=false->az T' N' k' n' vs (aA g ds)
 |_,_,_,_,.nil,_,_,_,_,_=>.nil
 |_,_,_,_,.cons h t,_,_,c,i,e=>.cons (Rep.gen hT h0 hI hC hN h (hC _ _ _ _ c i) (CM e).1) (az.gen hT h0 hI hC hN t c (hI _ _ i) (CM e).2)
end
theorem Rep.map{q:bq}(hT:∀p xs,T p xs->T' p xs)(hN:∀c p xs f,N (c++q) p xs f->N' (c++q') p xs (g f)){k:bq}{v:V}{d:D}(h:Rep T N k v d)(c:bq)(e:k=c++q):Rep T' N' (c++q') v (aU g d) :=
 Rep.gen (P:=λ_=>false) (C:=λk k'=>∃c,k=c++q/\k'=c++q') (I:=λn n'=>n=n') hT rfl (λ_ _ e=>by rw[e]) (λ_ _ n _ ⟨c,e1,e2⟩ e=>⟨n::c,by rw[e1];rfl,by rw[e2,<- e];rfl⟩) (λ_ _ p xs f ⟨c,e1,e2⟩ _ h=>by subst e1;subst e2;exact hN c p xs f h) h ⟨c,e,rfl⟩ (qJ d)
theorem az.map{q:bq}(hT:∀p xs,T p xs->T' p xs)(hN:∀c p xs f,N (c++q) p xs f->N' (c++q') p xs (g f)){k:bq}{n:Nat}(h:az T N k n vs ds)(c:bq)(e:k=c++q):az T' N' (c++q') n vs (aA g ds) :=
 az.gen (P:=λ_=>false) (C:=λk k'=>∃c,k=c++q/\k'=c++q') (I:=λn n'=>n=n') hT rfl (λ_ _ e=>by rw[e]) (λ_ _ n _ ⟨c,e1,e2⟩ e=>⟨n::c,by rw[e1];rfl,by rw[e2,<- e];rfl⟩) (λ_ _ p xs f ⟨c,e1,e2⟩ _ h=>by subst e1;subst e2;exact hN c p xs f h) h ⟨c,e,rfl⟩ rfl (fw ds)
theorem Rep.il(hT:∀p xs,T p xs->T' p xs)(hN:∀k k' p xs f,N k p xs f->N' k' p xs (g f)){k:bq}{v:V}{d:D}(h:Rep T N k v d)(k':bq):Rep T' N' k' v (aU g d) :=
 Rep.gen (P:=λ_=>false) (C:=λ_ _=>True) (I:=λ_ _=>True) hT trivial (λ_ _ e=>e) (λ_ _ _ _ e _=>e) (λk k' p xs f _ _ h=>hN k k' p xs f h) h trivial (qJ d)
theorem az.il(hT:∀p xs,T p xs->T' p xs)(hN:∀k k' p xs f,N k p xs f->N' k' p xs (g f)){k:bq}{n:Nat}(h:az T N k n vs ds)(k':bq)(n':Nat):az T' N' k' n' vs (aA g ds) :=
 az.gen (P:=λ_=>false) (C:=λ_ _=>True) (I:=λ_ _=>True) hT trivial (λ_ _ e=>e) (λ_ _ _ _ e _=>e) (λk k' p xs f _ _ h=>hN k k' p xs f h) h trivial trivial (fw ds)
end
mutual
theorem dH:∀d:D,aU id d=d
 |.cw=>rfl
 |.bl _=>rfl
 |.int _=>rfl
 |.tup ds=>by rw[aU,dG ds]
 |.lst f ds=>by rw[aU,dG ds];rfl
 |.bV f ks vs=>by rw[aU,dG vs];rfl
 |.cL f ks vs=>by rw[aU,dG vs];rfl
theorem dG:∀ds:ab,aA id ds=ds
 |[]=>rfl
 |d::ds=>by rw[aA,dH d,dG ds]
end
section
variable {T T':ka}{N N':gZ}
theorem Rep.imp{q:bq}(hT:∀p xs,T p xs->T' p xs)(hN:∀c p xs f,N (c++q) p xs f->N' (c++q') p xs f){v:V}{d:D}(h:Rep T N q v d):Rep T' N' q' v d:=by
 have:=Rep.map (g:=id) hT hN h [] rfl;rw[dH]at this;exact this
theorem az.imp{q:bq}{n:Nat}(hT:∀p xs,T p xs->T' p xs)(hN:∀c p xs f,N (c++q) p xs f->N' (c++q') p xs f)(h:az T N q n vs ds):az T' N' q' n vs ds:=by
 have:=az.map (g:=id) hT hN h [] rfl;rw[dG]at this;exact this
theorem az.length:∀{k:bq} {n:Nat} {vs:ae} {ds:ab},az T N k n vs ds->vs.length=ds.length
 |_,_,_,_,.nil=>rfl
 |_,_,_,_,.cons _ t=>by simp[az.length t]
theorem az.get:∀{k:bq} {n j:Nat} {vs:ae} {ds:ab} {d:D},az T N k n vs ds->ds[j]?=some d->∃v,vs[j]?=some v/\Rep T N ((n+j)::k) v d
 |_,_,_,_,_,_,.nil,e=>by simp at e
 |_,_,0,_,_,_,.cons h t,e=>by simp at e;subst e;exact⟨_,rfl,h⟩
 |_,n,j+1,_,_,_,.cons h t,e=>by
  obtain⟨v,h1,h2⟩:=az.get (j:=j) t (by simpa using e);refine⟨v,by simpa using h1,?_⟩;have:n+1+j=n+(j+1):=by left
  rw[<- this];exact h2
theorem az.tI:∀{k:bq} {n j:Nat} {vs:ae} {ds:ab} {v:V},az T N k n vs ds->vs[j]?=some v->∃d,ds[j]?=some d/\Rep T N ((n+j)::k) v d
 |_,_,_,_,_,_,.nil,e=>by simp at e
 |_,_,0,_,_,_,.cons h t,e=>by simp at e;subst e;exact⟨_,rfl,h⟩
 |_,n,j+1,_,_,_,.cons h t,e=>by
  obtain⟨v,h1,h2⟩:=az.tI (j:=j) t (by simpa using e);refine⟨v,by simpa using h1,?_⟩;have:n+1+j=n+(j+1):=by left
  rw[<- this];exact h2
theorem az.mr{k:bq}(hN:∀k k' p xs f,N k p xs f->N k' p xs f):∀{n m l:Nat} {vs ws:ae} {ds es:ab},az T N k n vs ds->az T N k m ws es->az T N k l (vs++ws) (ds++es)
 |_,_,_,_,_,_,_,.nil,t=>by
  have:=az.il (T':=T) (N':=N) (g:=id) (λ_ _ h=>h) hN t;rw[dG]at this;exact this _ _
 |_,_,_,_,_,_,_,.cons h t,u=>.cons (by
  have:=Rep.il (T':=T) (N':=N) (g:=id) (λ_ _ h=>h) hN h;rw[dH]at this;exact this _) (az.mr hN t u)
end
def KL(K:aq)(a:Addr)(xs:ae):Prop :=
 ∃(o:Obj) (aK:aP) (n:Nat),K.lookup a=some o/\o.cls=.type "list" /\ o.dict=none/\o.data=.seq aK n/\aK.size<=sizeLine/\Vals xs aK.toList
def DO(p:Addr)(cs:ag)(as:aO)(xs:ae)(ep:Nat)(h:Heap):Prop :=
 ∃(zs:List (aa×Addr×Value)) (o:Obj) (es:Array DictEntry),zs.map (·.1)=cs/\zs.map (·.2.1)=as/\Vals xs (zs.map (·.2.2))/\h.get? p=some o/\o.ExactDict/\o.data=.dict es ep /\
  es.toList=zs.map (λz=>⟨reduceHash (Builtin.Tuple.tupleHashOf (z.1.map hashInt)),.ref z.2.1,z.2.2⟩)/\cs.Nodup/\cs.length<=sizeLine/\(p==sysModules)=false
noncomputable def qa:aa->Int
 |h::lot=>reduceHash (Builtin.Tuple.tupleHashOf [reduceHash (Builtin.Tuple.tupleHashOf (lot.map hashInt)),hashInt h])
 |[]=>0
def PJ(p:Addr)(cs:ag)(as:aO)(xs:ae)(ep:Nat)(h:Heap):Prop :=
 ∃(zs:List (aa×Addr×Value)) (o:Obj) (es:Array DictEntry),zs.map (·.1)=cs/\zs.map (·.2.1)=as/\Vals xs (zs.map (·.2.2))/\h.get? p=some o/\o.ExactDict/\o.data=.dict es ep /\
  es.toList=zs.map (λz=>⟨qa z.1,.ref z.2.1,z.2.2⟩)/\cs.Nodup/\cs.length<=sizeLine/\(p==sysModules)=false
noncomputable abbrev dN(H:Hp)(p:Addr)(n:Nd):Prop:=match n with
 |.l xs=>H p=some (.lst xs)
 |.d cs as xs ep=>H p=some (.ext (DO p cs as xs ep))
 |.ej cs as xs ep=>H p=some (.ext (PJ p cs as xs ep))
variable {H H' H1 H2:Hp}
theorem dN.ne{p:Addr}{n:Nd}(h:dN H p n):H p≠none:=by
 cases n with
 |l xs=>intro z;rw[show H p=some (.lst xs) from h]at z;cases z
 |d cs as xs ep=>intro z;rw[show H p=some (.ext (DO p cs as xs ep)) from h]at z;cases z
 |ej cs as xs ep=>intro z;rw[show H p=some (.ext (PJ p cs as xs ep)) from h]at z;cases z
theorem dN.at{p:Addr}{n:Nd}(e:∀o,H p=some o->H' p=some o)(h:dN H p n):dN H' p n:=by
 cases n with
 |l xs=>exact e _ h
 |d cs as xs ep=>exact e _ h
 |ej cs as xs ep=>exact e _ h
theorem dN.same{p:Addr}{n:Nd}(e:aM H H')(h:dN H p n):dN H' p n:=h.at (e p)
theorem dN.some{H:Hp}{p:Addr}{n:Nd}(h:dN H p n):∃o,H p=some o/\(∀xs,o≠.tup xs)/\(∀a u,o≠.gY a u):=by
 cases n with
 |l xs=>exact⟨_,h,λ_ z=>(nomatch z),λ_ _ z=>(nomatch z)⟩
 |d cs as xs ep=>exact⟨_,h,λ_ z=>(nomatch z),λ_ _ z=>(nomatch z)⟩
 |ej cs as xs ep=>exact⟨_,h,λ_ z=>(nomatch z),λ_ _ z=>(nomatch z)⟩
def nd(K:aq)(R A:ai)(τ:Addr->Option bq)(H:Hp):gZ:=λq p n f=>match f with
 |.ow=>dN H p n/\τ p=some q
 |.fz=>dN H p n/\R p
 |.al=>dN H p n/\A p
 |.sc=>match n with
  |.l xs=>(∃o,H p=some (.gY o (.lst xs)))\/KL K p xs
  |.d _ _ _ _=>False
  |.ej _ _ _ _=>False
variable {A F G R R' R1:Addr->Prop}{K:aq}{τ τ':Addr->Option bq}
theorem nd.Ae{q:bq}{p:Addr}{n:Nd}(h:nd K R A τ H q p n .sc):∃xs,n=.l xs/\((∃o,H p=some (.gY o (.lst xs)))\/KL K p xs):=by
 cases n with
 |l xs=>exact⟨xs,rfl,h⟩
 |d _ _ _ _=>exact h.elim
 |ej _ _ _ _=>exact h.elim
theorem nd.sq{q:bq}{p:Addr}{f:Fl}(h:nd K R A τ H q p (.l xs) f):cX K H p xs:=by
 cases f with
 |ow=>exact cX.of h.1
 |fz=>exact cX.of h.1
 |al=>exact cX.of h.1
 |sc=>exact h.elim (λh=>.inl (.inr h)) .inr
theorem nd.lst{K:aq}{R A:ai}{τ:Addr->Option bq}{H:Hp}{q:bq}{p:Addr}{xs:ae}{f:Fl}(h:nd K R A τ H q p (.l xs) f)(hf:vi f=false):H p=some (.lst xs):=by
 cases f with
 |ow=>exact h.1
 |fz=>exact h.1
 |al=>exact h.1
 |sc=>cases hf
variable {ep k1 k2 n1 t':Nat}
theorem nd.dat{q:bq}{p:Addr}{cs:ag}{f:Fl}(h:nd K R A τ H q p (.d cs as xs ep) f):H p=some (.ext (DO p cs as xs ep)):=by
 cases f with
 |ow=>exact h.1
 |fz=>exact h.1
 |al=>exact h.1
 |sc=>exact h.elim
theorem nd.pat{q:bq}{p:Addr}{cs:ag}{f:Fl}(h:nd K R A τ H q p (.ej cs as xs ep) f):H p=some (.ext (PJ p cs as xs ep)):=by
 cases f with
 |ow=>exact h.1
 |fz=>exact h.1
 |al=>exact h.1
 |sc=>exact h.elim
theorem Rd.same{a:Addr}{u:HO}(e:aM H H')(h:Rd H a u):Rd H' a u:=h.elim (λh=>.inl (e _ _ h)) λ⟨o,h⟩=>.inr ⟨o,e _ _ h⟩
theorem aR.same{K:aq}{H H':Hp}{a:Addr}{xs:ae}(e:aM H H')(h:aR K H a xs):aR K H' a xs:=h.elim (λh=>.inl (Rd.same e h)) .inr
theorem nd.same{K:aq}{R A:ai}{τ:Addr->Option bq}{H H':Hp}{q:bq}{p:Addr}{n:Nd}{f:Fl}(e:aM H H')(h:nd K R A τ H q p n f):nd K R A τ H' q p n f:=by
 cases f with
 |ow=>exact⟨h.1.same e,h.2⟩
 |fz=>exact⟨h.1.same e,h.2⟩
 |al=>exact⟨h.1.same e,h.2⟩
 |sc=>cases n with
  |l xs=>exact h.elim (λ⟨o,h⟩=>.inl ⟨o,e _ _ h⟩) .inr
  |d _ _ _ _=>exact h.elim
  |ej _ _ _ _=>exact h.elim
theorem Rd.there{a:Addr}{u:HO}(h:Rd H a u):H a≠none:=by
 rcases h with h|⟨o,h⟩<;>(rw[h];simp)
theorem aM.ne(e:aM H H'){a:Addr}(h:H a≠none):H' a≠none:=by
 cases q:H a with
 |none=>exact absurd q h
 |some o=>rw[e a o q];simp
structure SI(X:Cx)(F R:ai)(τ:Addr->Option bq)(ρ:ba)(σ:St)(H:Hp):Prop where
 len:ρ.length=σ.length
 rep:∀(i:Nat) (d:D),ρ[i]?=some (some d)->∃v,σ[i]?=some (some v)/\Rep (aR X.K H) (nd X.K R (λ_=>False) τ H) [i] v d
 rt:∀p,R p->τ p=none
 rh:∀p,R p->H p≠none
 rf:∀p,R p->F p\/X.H₀ p=none
 th:∀p q,τ p=some q->H p≠none
 t0:∀p q,τ p=some q->X.H₀ p=none
 same:aM X.H₀ H
variable {X:Cx}{ρ:ba}{σ:L2.St}
theorem SI.go(S:SI X F R τ ρ σ H)(e:aM H H'):SI X F R τ ρ σ H' :=
 ⟨S.len,λi d h=>let ⟨v,h1,h2⟩:=S.rep i d h;⟨v,h1,h2.imp (λ_ _ h=>aR.same e h) λ_ _ _ _ h=>nd.same e h⟩,S.rt,λp h=>aM.ne e (S.rh p h),S.rf,λp q h=>aM.ne e (S.th p q h),S.t0,S.same.trans e⟩
def iY(G:ai)(τ:Addr->Option bq)(fv:aQ)(p:Addr):Prop:=G p/\∀c i,τ p=some (c++[i])->i∈fv
variable {caps fv fv':aQ}
theorem iY.mono{p:Addr}(h:iY G τ fv p)(hs:∀i∈fv,i∈fv'):iY G τ fv' p:=⟨h.1,λc i e=>hs i (h.2 c i e)⟩
def gP(X:Cx)(F:ai)(p:Addr):Prop:=F p\/X.H₀ p=none
def bT(K:aq)(G R:ai)(τ:Addr->Option bq)(fv:aQ)(H H':Hp)(v:V)(d:D):Prop :=
 ∃τt:Addr->Option bq,(∀p q,τt p=some q->H p=none)/\Rep (aR K H') (nd K R (iY G τ fv) τt H') [] v d
def cv(K:aq)(G R:ai)(τ:Addr->Option bq)(fv:aQ)(H H':Hp)(vs:ae)(ds:ab):Prop :=
 ∃τt:Addr->Option bq,(∀p q,τt p=some q->H p=none)/\az (aR K H') (nd K R (iY G τ fv) τt H') [] 0 vs ds
section
variable {K:aq}{G R:ai}{τ:Addr->Option bq}{fv fv':aQ}{H H1 H2:Hp}{v:V}{d:D}{vs:ae}{ds:ab}
theorem bT.go(h:bT K G R τ fv H H1 v d)(e:aM H1 H2):bT K G R τ fv H H2 v d :=
 let ⟨τt,h1,h2⟩:=h;⟨τt,h1,h2.imp (λ_ _ h=>aR.same e h) λ_ _ _ _ h=>nd.same e h⟩
theorem nd.mono{A':Addr->Prop}{τ:Addr->Option bq}{q:bq}{p:Addr}{xs:Nd}{f:Fl}(h:nd K R A τ H q p xs f)(hR:R p->R' p)(hA:A p->A' p)(ht:τ p=some q->τ' p=some q'):nd K R' A' τ' H q' p xs f:=by
 cases f with
 |ow=>exact⟨h.1,ht h.2⟩
 |fz=>exact⟨h.1,hR h.2⟩
 |al=>exact⟨h.1,hA h.2⟩
 |sc=>exact h
theorem bT.mono(h:bT K G R τ fv H H1 v d)(hs:∀i∈fv,i∈fv'):bT K G R τ fv' H H1 v d :=
 let ⟨τt,h1,h2⟩:=h;⟨τt,h1,h2.imp (λ_ _ h=>h) λ_ _ _ _ h=>h.mono id (λh=>h.mono hs) id⟩
theorem cv.mono(h:cv K G R τ fv H H1 vs ds)(hs:∀i∈fv,i∈fv'):cv K G R τ fv' H H1 vs ds :=
 let ⟨τt,h1,h2⟩:=h;⟨τt,h1,h2.imp (λ_ _ h=>h) λ_ _ _ _ h=>h.mono id (λh=>h.mono hs) id⟩
theorem bT.old{H0:Hp}(h:bT K G R τ fv H H1 v d)(e:aM H0 H):bT K G R τ fv H0 H1 v d :=
 let ⟨τt,h1,h2⟩:=h;⟨τt,λp q z=>e.free (h1 p q z),h2⟩
theorem bT.int{i:Int}:bT K G R τ fv H H1 (.int i) (.int i):=⟨λ_=>none,λ_ _ h=>by simp at h,.int i⟩
theorem bT.bl{b:Bool}:bT K G R τ fv H H1 (.bl b) (.bl b):=⟨λ_=>none,λ_ _ h=>by simp at h,.bl b⟩
theorem bT.cw:bT K G R τ fv H H1 .cw .cw:=⟨λ_=>none,λ_ _ h=>by simp at h,.cw⟩
theorem bT.isInt{i:Int}(h:bT K G R τ fv H H1 v (.int i)):v=.int i:=by obtain⟨_,_,h⟩:=h;cases h;rfl
theorem bT.yA{i:Bool}(h:bT K G R τ fv H H1 v (.bl i)):v=.bl i:=by obtain⟨_,_,h⟩:=h;cases h;rfl
def pW:bq->bq
 |[]=>[]
 |[n]=>[n+1]
 |a::b::r=>a::pW (b::r)
theorem sk(c:bq)(n:Nat):pW (c++[n])=c++[n+1]:=by
 induction c with
 |nil=>rfl
 |cons a c ih =>
  cases c with
  |nil=>rfl
  |cons b c=>show a::pW (b::c++[n])=_;rw[ih];rfl
theorem az.shift{T:ka}{N N':gZ}(hN:∀c n p xs f,N (c++[n]) p xs f->N' (c++[n+1]) p xs f):∀{n:Nat} {vs:ae} {ds:ab},az T N [] n vs ds->az T N' [] (n+1) vs ds
 |_,_,_,.nil=>.nil
 |n,_,_,.cons h t=>.cons (h.imp (q:=[n]) (q':=[n+1]) (λ_ _ h=>h) λc p xs f h=>hN c n p xs f h) (az.shift hN t)
theorem cv.nil:cv K G R τ fv H H1 [] []:=⟨λ_=>none,λ_ _ h=>by simp at h,.nil⟩
open Classical in
theorem cv.cons(e1:aM H H1)(e2:aM H1 H2)(h:bT K G R τ fv H H1 v d)(t:cv K G R τ fv H1 H2 vs ds):cv K G R τ fv H H2 (v::vs) (d::ds):=by
 obtain⟨τ1,f1,h1⟩:=h;obtain⟨τ2,f2,h2⟩:=t;refine⟨λp=>if H1 p=none then(τ2 p).map pW else(τ1 p).map (· ++ [0]),λp q hq=>?_,.cons (h1.imp (q':=[0]) (λ_ _ h=>aR.same e2 h) λc p xs f h=>?_) (az.shift (λc n p xs f h=>?_) h2)⟩
 ·by_cases hp:H1 p=none
  ·exact e1.free hp
  ·simp only[hp,if_false]at hq;cases q1:τ1 p with
   |none=>rw[q1]at hq;simp at hq
   |some k=>exact f1 p k q1
 ·have h':nd K R (iY G τ fv) τ1 H2 (c++[]) p xs f:=nd.same e2 h;cases f with
  |ow =>
   have hp:H1 p≠none:=h.1.ne;refine⟨h'.1,?_⟩;simp only[hp,if_false];rw[h.2];simp
  |fz=>exact h'
  |al=>exact h'
  |sc=>exact h'
 ·cases f with
  |ow =>
   have hp:H1 p=none:=f2 p _ h.2;refine⟨h.1,?_⟩;simp only[hp,if_true];rw[h.2];simp[sk]
  |fz=>exact h
  |al=>exact h
  |sc=>exact h
end
def tD(X:Cx)(F:ai)(Φ:a_)(c:CE):TE:=λσ H Q=>∃R τ ρ d,SI X F R τ ρ σ H/\bC Φ c ρ=ok d/\∀v H',aM H H'->bT X.K (gP X F) R τ (gR c) H H' v d->Q v H'
def se(X:Cx)(F:ai)(Φ:a_)(cs:aG):TA:=λσ H Q=>∃R τ ρ ds,SI X F R τ ρ σ H/\cz Φ cs ρ=ok ds/\∀vs H',aM H H'->cv X.K (gP X F) R τ (cW cs) H H' vs ds->Q vs H'
def gh(X:Cx)(F:ai)(Φ:a_)(c:CE):TT:=λσ H Q=>∃R τ ρ b,SI X F R τ ρ σ H/\yS Φ c ρ=ok b/\∀H',aM H H'->Q b H'
theorem PE.imp{e:Expr}{t t':TE}(h:PE X e t)(hi:∀σ H Q,t' σ H Q->t σ H Q):PE X e t':=λpins s σ H Q I hw=>h pins s σ H Q I (hi σ H Q hw)
theorem PT.imp{e:Expr}{t t':TT}(h:PT X e t)(hi:∀σ H Q,t' σ H Q->t σ H Q):PT X e t':=λpins s σ H Q I hw=>h pins s σ H Q I (hi σ H Q hw)
theorem PW.imp{e:Expr}{t t':TT}(h:PW X e t)(hi:∀σ H Q,t' σ H Q->t σ H Q):PW X e t':=λwh pins s σ H Q I hw=>h wh pins s σ H Q I (hi σ H Q hw)
theorem PA.imp{es:au}{t t':TA}(h:PA X es t)(hi:∀σ H Q,t' σ H Q->t σ H Q):PA X es t':=λpos pins s σ H Q I hw=>h pos pins s σ H Q I (hi σ H Q hw)
variable {st:Stmt}
theorem PS.imp{t t':TS}(h:PS X st t)(hi:∀D σ H,t' D σ H->t D σ H):PS X st t':=λpins s σ H D I hw=>h pins s σ H D I (hi D σ H hw)
theorem mx.imp{st:bu}{t t':TS}(h:mx X st t)(hi:∀D σ H,t' D σ H->t D σ H):mx X st t':=λpins s σ H D I hw=>h pins s σ H D I (hi D σ H hw)
theorem nB:∀(as bs:ab),dC as bs=true ↔ as.length=bs.length/\∀(j:Nat) (a b:D),as[j]?=some a->bs[j]?=some b->ku a b=true
 |[],[]=>by simp[dC]
 |[],b::bs=>by simp[dC]
 |a::as,[]=>by simp[dC]
 |a::as,b::bs=>by
  rw[dC,Bool.and_eq_true,nB as bs];constructor
  ·rintro ⟨h1,h2,h3⟩;refine⟨by simp[h2],λj x y hx hy=>?_⟩;cases j with
   |zero=>simp at hx hy;subst hx hy;exact h1
   |succ j=>exact h3 j x y (by simpa using hx) (by simpa using hy)
  ·rintro ⟨h2,h3⟩;exact⟨h3 0 a b rfl rfl,by simpa using h2,λj x y hx hy=>h3 (j+1) x y (by simpa using hx) (by simpa using hy)⟩
def Py(as bs:ab)(j:Nat):Bool:=match as[j]?,bs[j]? with
 |some a,some b=>ku a b
 |_,_=>false
theorem jk(as bs:ab):((List.range (min as.length bs.length)).all (Py as bs)&&as.length==bs.length)=dC as bs:=by
 rw[Bool.eq_iff_iff,nB,Bool.and_eq_true,List.all_eq_true,beq_iff_eq];constructor
 ·rintro ⟨h1,h2⟩;refine⟨h2,λj a b ha hb=>?_⟩;have hj:j<as.length:=by
   by_cases h:j<as.length
   ·exact h
   ·rw[List.getElem?_eq_none (by left)]at ha;cases ha
  have:=h1 j (by rw[List.mem_range];left);unfold Py at this;rw[ha,hb]at this;exact this
 ·rintro ⟨h2,h1⟩;refine⟨λj hj=>?_,h2⟩;rw[List.mem_range]at hj;unfold Py;have ha:as[j]?=some as[j]:=aal (by left);have hb:bs[j]?=some bs[j]:=aal (by left);rw[ha,hb];exact h1 j _ _ ha hb
section
variable {X:Cx}{pins:aj}{σ:St}{H:Hp}{s:Shared}{N N':gZ}
theorem eW{n:Nat}(h:cO n (.tup ds)=true):∃m,n=m+1/\∀d∈ds,cO m d=true:=by
 cases n with
 |zero=>cases h
 |succ m=>exact⟨m,rfl,List.all_eq_true.mp h⟩
theorem eX{n:Nat}{f:Fl}(h:cO n (.lst f ds)=true):∃m,n=m+1/\∀d∈ds,cO m d=true:=by
 cases n with
 |zero=>cases h
 |succ m=>exact⟨m,rfl,List.all_eq_true.mp h⟩
theorem wV(I:Inv X pins σ H s){p:Addr}{ys:ae}(h:cX X.K H p xs)(h':aR X.K H p ys):False:=by
 obtain⟨aK,_,pl,_⟩:=I.list h;obtain⟨its',_,pt,_⟩:=I.tuple h';exact SeqAt.ne_of_list_tuple pl.isList pt rfl
theorem Ab(I:Inv X pins σ H s)(hN:∀q p xs f,N q p (.l xs) f->cX X.K H p xs)(CW:∀q p xs f,N' q p (.l xs) f->cX X.K H p xs):
  ∀(n:Nat) {k k':bq} {v:V} {d d':D},Rep (aR X.K H) N k v d->Rep (aR X.K H) N' k' v d'->cO n d=true->cO n d'=true->ku d d'=true:=by
 intro n;induction n with
 |zero =>
  intro k k' v d d' h h' ho eH;cases h with
  |cw=>cases h';rfl
  |bl b=>cases h';exact abG b
  |int i=>cases h';exact abG i
  |tup _ _=>obtain⟨m,hm,_⟩:=eW ho;left
  |lst _ _=>obtain⟨m,hm,_⟩:=eX ho;left
  |bV _ _=>simp[cO]at ho
  |cL _ _=>simp[cO]at ho
 |succ n ih =>
  have sub:∀{q q':bq} {xs:ae} {ds ds':ab},az (aR X.K H) N q 0 xs ds->az (aR X.K H) N' q' 0 xs ds'->(∀d∈ds,cO n d=true)->(∀d∈ds',cO n d=true)->dC ds ds'=true:=by
   intro q q' xs ds ds' r r' ho eH;rw[nB];refine⟨by rw[<- r.length,<- r'.length],λj a b ha hb=>?_⟩;obtain⟨v1,h1,r1⟩:=r.get ha;obtain⟨v2,h2,r2⟩:=r'.get hb;rw[h1]at h2;cases h2;exact ih r1 r2 (ho a (aaq ha)) (eH b (aaq hb))
  intro k k' v d d' h h' ho eH;cases h with
  |cw=>cases h';rfl
  |bl b=>cases h';exact abG b
  |int i=>cases h';exact abG i
  |tup h r =>
   obtain⟨m,hm,ho⟩:=eW ho;obtain rfl:n=m:=by left
   cases h' with
   |tup h' r' =>
    obtain⟨m,hm,eH⟩:=eW eH;obtain rfl:n=m:=by left
    obtain rfl:=I.kC h h';exact sub r r' ho eH
   |lst h' r'=>exact(wV I (CW _ _ _ _ h') h).elim
   |bV _ _=>simp[cO]at eH
   |cL _ _=>simp[cO]at eH
  |lst h r =>
   obtain⟨m,hm,ho⟩:=eX ho;obtain rfl:n=m:=by left
   cases h' with
   |tup h' r'=>exact(wV I (hN _ _ _ _ h) h').elim
   |lst h' r' =>
    obtain⟨m,hm,eH⟩:=eX eH;obtain rfl:n=m:=by left
    obtain rfl:=I.ip (hN _ _ _ _ h) (CW _ _ _ _ h');exact sub r r' ho eH
   |bV _ _=>simp[cO]at eH
   |cL _ _=>simp[cO]at eH
  |bV _ _=>simp[cO]at ho
  |cL _ _=>simp[cO]at ho
structure Alike(A:aE)(s:Shared)(u u':Value)(b:Bool):Prop where
 eq:SeqAt.EqAt A s u u' b
 rc:SeqAt.RcAt A s u u' b
 ne:SeqAt.RcNeAt A s u u' (!b)
theorem alike(I:Inv X pins σ H s)(hN:∀q p xs f,N q p (.l xs) f->cX X.K H p xs)(CW:∀q p xs f,N' q p (.l xs) f->cX X.K H p xs):
  ∀(n:Nat) (A:aE) {k k':bq} {v v':V} {u u':Value} {d d':D},Rep (aR X.K H) N k v d->Rep (aR X.K H) N' k' v' d'->cO n d=true->cO n d'=true->RelV v u->RelV v' u'->A.units+n<cLine ->
   Alike A s u u' (ku d d'):=by
 intro n;induction n with
 |zero =>
  intro A k k' v v' u u' d d' h h' ho eH r r' hu;cases h with
  |tup _ _=>obtain⟨m,hm,_⟩:=eW ho;left
  |lst _ _=>obtain⟨m,hm,_⟩:=eX ho;left
  |bV _ _=>simp[cO]at ho
  |cL _ _=>simp[cO]at ho
  |cw =>
   cases r;cases h' with
   |tup _ _=>obtain⟨m,hm,_⟩:=eW eH;left
   |lst _ _=>obtain⟨m,hm,_⟩:=eX eH;left
   |bV _ _=>simp[cO]at eH
   |cL _ _=>simp[cO]at eH
   |cw=>cases r';exact⟨abp _,SeqAt.RcAt.none_none,SeqAt.RcNeAt.none_none⟩
   |bl b=>cases r';exact⟨abQ b,SeqAt.RcAt.none_bool b,SeqAt.RcNeAt.none_bool b⟩
   |int b=>obtain⟨t,rfl⟩:=r';exact⟨ab0 b t,SeqAt.RcAt.none_int b t,SeqAt.RcNeAt.none_int b t⟩
  |bl a =>
   cases r;cases h' with
   |tup _ _=>obtain⟨m,hm,_⟩:=eW eH;left
   |lst _ _=>obtain⟨m,hm,_⟩:=eX eH;left
   |bV _ _=>simp[cO]at eH
   |cL _ _=>simp[cO]at eH
   |cw=>cases r';exact⟨abR a,SeqAt.RcAt.bool_none a,SeqAt.RcNeAt.bool_none a⟩
   |bl b=>cases r';exact⟨abS a b,SeqAt.RcAt.bool_bool a b,SeqAt.RcNeAt.bool_bool a b⟩
   |int b=>obtain⟨t,rfl⟩:=r';exact⟨ab1 a b t,SeqAt.RcAt.bool_int a b t,SeqAt.RcNeAt.bool_int a b t⟩
  |int a =>
   obtain⟨t',rfl⟩:=r;cases h' with
   |tup _ _=>obtain⟨m,hm,_⟩:=eW eH;left
   |lst _ _=>obtain⟨m,hm,_⟩:=eX eH;left
   |bV _ _=>simp[cO]at eH
   |cL _ _=>simp[cO]at eH
   |cw=>cases r';exact⟨ab2 a t',SeqAt.RcAt.int_none a t',SeqAt.RcNeAt.int_none a t'⟩
   |bl b=>cases r';exact⟨ab3 a t' b,SeqAt.RcAt.int_bool a t' b,SeqAt.RcNeAt.int_bool a t' b⟩
   |int b=>obtain⟨t,rfl⟩:=r';exact⟨abv a t' b t,SeqAt.RcAt.int_int a t' b t,SeqAt.RcNeAt.int_int a t' b t⟩
 |succ n ih =>
  intro A k k' v v' u u' d d' h h' ho eH r r' hu;have fb:A.units<cLine:=by left
  have T3:A.in1.units+n<cLine:=by show A.units+1+n<cLine;left
  have sub:∀{q q':bq} {xs xs':ae} {ds ds':ab} {aK its':ao},az (aR X.K H) N q 0 xs ds->az (aR X.K H) N' q' 0 xs' ds'->(∀d∈ds,cO n d=true)->(∀d∈ds',cO n d=true)->Vals xs aK->Vals xs' its' ->
    ∀(j:Nat) (h1:j<aK.toArray.size) (h2:j<its'.toArray.size),SeqAt.EqAt A.in1 s aK.toArray[j] its'.toArray[j] (Py ds ds' j):=by
   intro q q' xs xs' ds ds' aK its' rs oq hd CT rv uj j h1 h2;have l1:ds.length=aK.length:=by rw[<- rs.length,rv.length]
   have l2:ds'.length=its'.length:=by rw[<- oq.length,uj.length]
   simp only[List.size_toArray]at h1 h2;have ea:ds[j]?=some ds[j]:=aal (by left);have eb:ds'[j]?=some ds'[j]:=aal (by left);obtain⟨w1,g1,p1⟩:=rs.get ea;obtain⟨w2,g2,p2⟩:=oq.get eb;obtain⟨u1,k1,z1⟩:=rv.get g1;obtain⟨u2,k2,z2⟩:=uj.get g2;have:=(ih A.in1 p1 p2 (hd _ (abH _)) (CT _ (abH _)) z1 z2 T3).eq;unfold Py;rw[ea,eb];rw[List.getElem?_eq_getElem h1]at k1;rw[List.getElem?_eq_getElem h2]at k2;cases k1;cases k2;simpa using this
  cases h with
  |cw =>
   cases r;cases h' with
   |bV _ _=>simp[cO]at eH
   |cL _ _=>simp[cO]at eH
   |cw=>cases r';exact⟨abp _,SeqAt.RcAt.none_none,SeqAt.RcNeAt.none_none⟩
   |bl b=>cases r';exact⟨abQ b,SeqAt.RcAt.none_bool b,SeqAt.RcNeAt.none_bool b⟩
   |int b=>obtain⟨t,rfl⟩:=r';exact⟨ab0 b t,SeqAt.RcAt.none_int b t,SeqAt.RcNeAt.none_int b t⟩
   |tup h' rr=>cases r';obtain⟨aK,_,pt,_⟩:=I.tuple h';exact⟨SeqAt.EqAt.none_tuple pt fb,SeqAt.RcAt.none_tuple pt fb,SeqAt.RcNeAt.none_tuple pt fb⟩
   |lst h' rr=>cases r';obtain⟨aK,_,pt,_⟩:=I.list (CW _ _ _ _ h');exact⟨SeqAt.EqAt.none_list pt.isList fb,SeqAt.RcAt.none_list pt.isList fb,SeqAt.RcNeAt.none_list pt.isList fb⟩
  |bl a =>
   cases r;cases h' with
   |bV _ _=>simp[cO]at eH
   |cL _ _=>simp[cO]at eH
   |cw=>cases r';exact⟨abR a,SeqAt.RcAt.bool_none a,SeqAt.RcNeAt.bool_none a⟩
   |bl b=>cases r';exact⟨abS a b,SeqAt.RcAt.bool_bool a b,SeqAt.RcNeAt.bool_bool a b⟩
   |int b=>obtain⟨t,rfl⟩:=r';exact⟨ab1 a b t,SeqAt.RcAt.bool_int a b t,SeqAt.RcNeAt.bool_int a b t⟩
   |tup h' rr=>cases r';obtain⟨aK,_,pt,_⟩:=I.tuple h';exact⟨SeqAt.EqAt.bool_tuple a pt fb,SeqAt.RcAt.bool_tuple a pt fb,SeqAt.RcNeAt.bool_tuple a pt fb⟩
   |lst h' rr=>cases r';obtain⟨aK,_,pt,_⟩:=I.list (CW _ _ _ _ h');exact⟨SeqAt.EqAt.bool_list a pt.isList fb,SeqAt.RcAt.bool_list a pt.isList fb,SeqAt.RcNeAt.bool_list a pt.isList fb⟩
  |int a =>
   obtain⟨t',rfl⟩:=r;cases h' with
   |bV _ _=>simp[cO]at eH
   |cL _ _=>simp[cO]at eH
   |cw=>cases r';exact⟨ab2 a t',SeqAt.RcAt.int_none a t',SeqAt.RcNeAt.int_none a t'⟩
   |bl b=>cases r';exact⟨ab3 a t' b,SeqAt.RcAt.int_bool a t' b,SeqAt.RcNeAt.int_bool a t' b⟩
   |int b=>obtain⟨t,rfl⟩:=r';exact⟨abv a t' b t,SeqAt.RcAt.int_int a t' b t,SeqAt.RcNeAt.int_int a t' b t⟩
   |tup h' rr=>cases r';obtain⟨aK,_,pt,_⟩:=I.tuple h';exact⟨SeqAt.EqAt.int_tuple a t' pt fb,SeqAt.RcAt.int_tuple a t' pt fb,SeqAt.RcNeAt.int_tuple a t' pt fb⟩
   |lst h' rr=>cases r';obtain⟨aK,_,pt,_⟩:=I.list (CW _ _ _ _ h');exact⟨SeqAt.EqAt.int_list a t' pt.isList fb,SeqAt.RcAt.int_list a t' pt.isList fb,SeqAt.RcNeAt.int_list a t' pt.isList fb⟩
  | @tup _ p xs ds h rs =>
   cases r;obtain⟨aK,rv,pt,_⟩:=I.tuple h;have pt:s.heap.IsTuple p aK.toArray:=pt;cases h' with
   |bV _ _=>simp[cO]at eH
   |cL _ _=>simp[cO]at eH
   |cw=>cases r';exact⟨SeqAt.EqAt.tuple_none pt fb,SeqAt.RcAt.tuple_none pt fb,SeqAt.RcNeAt.tuple_none pt fb⟩
   |bl b=>cases r';exact⟨SeqAt.EqAt.tuple_bool b pt fb,SeqAt.RcAt.tuple_bool b pt fb,SeqAt.RcNeAt.tuple_bool b pt fb⟩
   |int b=>obtain⟨t,rfl⟩:=r';exact⟨SeqAt.EqAt.tuple_int b t pt fb,SeqAt.RcAt.tuple_int b t pt fb,SeqAt.RcNeAt.tuple_int b t pt fb⟩
   |lst h' rr=>cases r';obtain⟨its',_,pl,_⟩:=I.list (CW _ _ _ _ h');exact⟨SeqAt.EqAt.tuple_list pt pl.isList fb,SeqAt.RcAt.tuple_list pt pl.isList fb,SeqAt.RcNeAt.tuple_list pt pl.isList fb⟩
   | @tup _ p' xs' ds' h' oq =>
    cases r';obtain⟨m,hm,GX⟩:=eW ho;obtain rfl:n=m:=by left
    obtain⟨m,hm,qE⟩:=eW eH;obtain rfl:n=m:=by left
    obtain⟨its',uj,QC,_⟩:=I.tuple h';have QC:s.heap.IsTuple p' its'.toArray:=QC;have key:=sub rs oq GX qE rv uj;have l1:ds.length=aK.toArray.size:=by rw[List.size_toArray,<- rs.length,rv.length]
    have l2:ds'.length=its'.toArray.size:=by rw[List.size_toArray,<- oq.length,uj.length]
    have rc:SeqAt.RcAt A s (.ref p) (.ref p') (ku (.tup ds) (.tup ds')):=by
     have:=SeqAt.RcAt.tuples pt QC fb key;rw[<- l1,<- l2,jk]at this;exact this
    refine⟨?_,rc,?_⟩
    ·by_cases hp:p=p'
     ·subst hp;rw[Ab I hN CW (n+1) (Rep.tup h rs) (Rep.tup h' oq) ho eH];exact abp _
     ·exact SeqAt.EqAt.of_refs hp rc
    ·have:=SeqAt.RcNeAt.tuples pt QC fb key;rw[<- l1,<- l2,jk]at this;exact this
  | @lst _ p xs f ds h rs =>
   cases r;obtain⟨aK,rv,pl,_⟩:=I.list (hN _ _ _ _ h);have pl:=pl.isList;cases h' with
   |bV _ _=>simp[cO]at eH
   |cL _ _=>simp[cO]at eH
   |cw=>cases r';exact⟨SeqAt.EqAt.list_none pl fb,SeqAt.RcAt.list_none pl fb,SeqAt.RcNeAt.list_none pl fb⟩
   |bl b=>cases r';exact⟨SeqAt.EqAt.list_bool b pl fb,SeqAt.RcAt.list_bool b pl fb,SeqAt.RcNeAt.list_bool b pl fb⟩
   |int b=>obtain⟨t,rfl⟩:=r';exact⟨SeqAt.EqAt.list_int b t pl fb,SeqAt.RcAt.list_int b t pl fb,SeqAt.RcNeAt.list_int b t pl fb⟩
   |tup h' rr=>cases r';obtain⟨its',_,pt,_⟩:=I.tuple h';exact⟨SeqAt.EqAt.list_tuple pl pt fb,SeqAt.RcAt.list_tuple pl pt fb,SeqAt.RcNeAt.list_tuple pl pt fb⟩
   | @lst _ p' xs' f' ds' h' oq =>
    cases r';obtain⟨m,hm,GX⟩:=eX ho;obtain rfl:n=m:=by left
    obtain⟨m,hm,qE⟩:=eX eH;obtain rfl:n=m:=by left
    obtain⟨its',uj,GB,_⟩:=I.list (CW _ _ _ _ h');have GB:=GB.isList;have key:=sub rs oq GX qE rv uj;have l1:ds.length=aK.toArray.size:=by rw[List.size_toArray,<- rs.length,rv.length]
    have l2:ds'.length=its'.toArray.size:=by rw[List.size_toArray,<- oq.length,uj.length]
    have two:SeqAt.RcAt A s (.ref p) (.ref p') (ku (.lst f ds) (.lst f' ds'))/\SeqAt.RcNeAt A s (.ref p) (.ref p') (!ku (.lst f ds) (.lst f' ds')):=by
     show SeqAt.RcAt A s (.ref p) (.ref p') (dC ds ds')/\SeqAt.RcNeAt A s (.ref p) (.ref p') (!dC ds ds');rw[<- jk];by_cases hl:ds.length=ds'.length
     ·have e1:(ds.length==ds'.length)=true:=by simp[hl]
      rw[e1,Bool.and_true,<- hl,Nat.min_self];have hz:aK.toArray.size=its'.toArray.size:=by rw[<- l1,<- l2,hl]
      refine⟨?_,?_⟩
      ·have:=SeqAt.RcAt.lists pl GB hz fb key;rw[<- l1]at this;exact this
      ·have:=SeqAt.RcNeAt.lists pl GB hz fb key;rw[<- l1]at this;exact this
     ·have e1:(ds.length==ds'.length)=false:=by simp[hl]
      rw[e1,Bool.and_false];have hz:(aK.toArray.size != its'.toArray.size)=true:=by rw[<- l1,<- l2];simp[hl]
      exact⟨SeqAt.RcAt.lists_lengths pl GB hz fb,SeqAt.RcNeAt.lists_lengths pl GB hz fb⟩
    refine⟨?_,two.1,two.2⟩;by_cases hp:p=p'
    ·subst hp;rw[Ab I hN CW (n+1) (Rep.lst h rs) (Rep.lst h' oq) ho eH];exact abp _
    ·exact SeqAt.EqAt.of_refs hp two.1
  |bV _ _=>simp[cO]at ho
  |cL _ _=>simp[cO]at ho
end
structure Px where
 pe:Nat->Scope->ak->Expr->Option (au)
 pi:Nat->Scope->ak->Expr->Option (au)
 pm:Nat->Scope->ak->Stmt->Option (Expr×au)
 p2:Nat->Scope->ak->Stmt->Option (Expr×au):=λ_ _ _ _=>none
structure Sx where
 sc:Scope
 N:ak
 fn:Nat->Option Str
 bl:ak
 cs:List (Str×GK)
 px:Px
noncomputable def NF:F8->Operator
 |.add=>.Add|.sub=>.Sub|.mul=>.Mult|.fdiv=>.FloorDiv|.mod=>.Mod|.pow=>.Pow|.shr=>.RShift|.band=>.BitAnd
noncomputable def SY:zt->CmpOp
 |.eq=>.Eq|.ne=>.NotEq|.lt=>.Lt|.le=>.LtE|.gt=>.Gt|.ge=>.GtE|.EJ=>.In
noncomputable def tyName:Ty->String
 |.int=>"int" |.bool=>"bool" |.list=>"list" |.tuple=>"tuple"
noncomputable def rq:Bf->String
 |.len=>"len" |.abs=>"abs" |.Bn=>"int" |.list1=>"list" |.tuple1=>"tuple" |.mH=>"sum" |.all1=>"all" |.cN=>"sorted"
noncomputable def HA(sc:Scope)(x:Str):Bool:=decide (sc.names.lookup x=some .local)||decide (sc.names.lookup x=some .cell)||decide (sc.names.lookup x=some .free)
noncomputable def gq(sc:Scope)(x:Str):Bool:=decide (sc.names.lookup x=some .globalImplicit)
noncomputable def lL(x:Str):Bool:=!(x==("__debug__" : Str))&&!(x==("__classdict__" : Str))&&decide (x≠("__name__" : Str))
noncomputable def o7:Expr->Bool
 |.Set _ _ _=>false
 |_=>true
noncomputable def sJ(sc outer:Scope):Scope :=
 { sc with names:=sc.names.map λ(n,k)=>if (k==.free&&outer.kind==.function&&outer.names.lookup n==some .cell)then(n,.cell)else(n,k) }
noncomputable def cj:Expr->ak
 |.Name x _=>[x]
 |.Tuple es _ _=>es.filterMap λe=>match e with|.Name x _=>some x|_=>none
 |_=>[]
noncomputable def fS(S:Sx)(caps:aQ):ak:=caps.filterMap λi=>S.N[i]?
def Sx.inner(S:Sx)(target:Expr)(caps:aQ)(sc:Scope):Sx:=⟨sJ sc S.sc,cj target++fS S caps,S.fn,S.bl,S.cs,S.px⟩
noncomputable def fQ:Expr->Bool
 |.Tuple _ _ _=>true
 |_=>false
noncomputable def isNm:Expr->Bool
 |.Name _ _=>true
 |_=>false
noncomputable def Yn:Expr->Bool
 |.Call ..=>true
 |.BinOp ..=>true
 |.Subscript ..=>true
 |.Compare ..=>true
 |.Dict ..=>true
 |_=>false
noncomputable def QF:Expr->Bool
 |.Call ..=>true
 |.Name ..=>true
 |_=>false
theorem aN{a b:Bool}(h:(a&&b)=true):a=true/\b=true:=by
 cases a<;>cases b<;>first|exact⟨rfl,rfl⟩|cases h
noncomputable def bw{α:Type}(o:Option α)(f:α->Bool):Bool:=match o with
 |some a=>f a
 |none=>false
theorem bx{α:Type}{o:Option α}{f:α->Bool}(h:bw o f=true):∃a,o=some a/\f a=true:=by
 cases o with
 |some a=>exact⟨a,rfl,h⟩
 |none=>cases h
noncomputable def vC:Expr->Option Const
 |.Constant c _ _=>some c
 |_=>none
theorem zF{e:Expr}{c:Const}(h:vC e=some c):∃j p,e=.Constant c j p:=by
 cases e<;>first | (cases h;done) | (cases h;exact⟨_,_,rfl⟩)
noncomputable def Bi:Const->Bool
 |.none=>true
 |_=>false
theorem yw{c:Const}(h:Bi c=true):c=.none:=by cases c<;>first|rfl|cases h
noncomputable def GP(b:Bool):Const->Bool
 |.bool c=>decide (b=c)
 |_=>false
theorem Bk{b:Bool}{c:Const}(h:GP b c=true):c=.bool b:=by cases c<;>first | (cases h;done)|rw[of_decide_eq_true h]
noncomputable def Bj(b:Int):Const->Bool
 |.int c=>decide (b=c)
 |_=>false
theorem yx{b:Int}{c:Const}(h:Bj b c=true):c=.int b:=by cases c<;>first | (cases h;done)|rw[of_decide_eq_true h]
noncomputable def Di:Expr->Option Str
 |.Name x _=>some x
 |_=>none
theorem kB{e:Expr}{x:Str}(h:Di e=some x):∃p,e=.Name x p:=by
 cases e<;>first | (cases h;done) | (cases h;exact⟨_,rfl⟩)
noncomputable def HD:Expr->Option (Expr×Operator×Expr)
 |.BinOp l o r _=>some (l,o,r)
 |_=>none
theorem vQ{e l r:Expr}{o:Operator}(h:HD e=some (l,o,r)):∃p,e=.BinOp l o r p:=by
 cases e<;>first | (cases h;done) | (cases h;exact⟨_,rfl⟩)
noncomputable def RE:Expr->Option (UnaryOp×Expr)
 |.UnaryOp o e _=>some (o,e)
 |_=>none
theorem zD{e x:Expr}{o:UnaryOp}(h:RE e=some (o,x)):∃p,e=.UnaryOp o x p:=by
 cases e<;>first | (cases h;done) | (cases h;exact⟨_,rfl⟩)
noncomputable def vBool:Expr->Option (BoolOp×au)
 |.BoolOp o vs _=>some (o,vs)
 |_=>none
theorem rV{e:Expr}{o:BoolOp}{vs:au}(h:vBool e=some (o,vs)):∃p,e=.BoolOp o vs p:=by
 cases e<;>first | (cases h;done) | (cases h;exact⟨_,rfl⟩)
noncomputable def one{α:Type}:List α->Option α
 |[]=>none
 |x::xs=>match xs with
  |[]=>some x
  |_::_=>none
theorem cf{α:Type}{l:List α}{x:α}(h:one l=some x):l=[x]:=by
 cases l with
 |nil=>cases h
 |cons y ys=>cases ys with
  |nil=>cases h;rfl
  |cons _ _=>cases h
def two{α:Type}:List α->Option (α×α)
 |[]=>none
 |x::xs=>(one xs).map λy=>(x,y)
theorem fO{α:Type}{l:List α}{x y:α}(h:two l=some (x,y)):l=[x,y]:=by
 cases l with
 |nil=>cases h
 |cons z zs=>cases zs with
  |nil=>cases h
  |cons w ws=>cases ws with
   |nil=>cases h;rfl
   |cons _ _=>cases h
noncomputable def RI{α:Type}:List α->Option (α×List α)
 |[]=>none
 |x::xs=>some (x,xs)
theorem zH{α:Type}{l xs:List α}{x:α}(h:RI l=some (x,xs)):l=x::xs:=by
 cases l with
 |nil=>cases h
 |cons y ys=>cases h;rfl
noncomputable def Dq:Expr->Option (Expr×List CmpOp×au)
 |.Compare l os rs _=>some (l,os,rs)
 |_=>none
theorem vP{e l:Expr}{os:List CmpOp}{rs:au}(h:Dq e=some (l,os,rs)):∃p,e=.Compare l os rs p:=by
 cases e<;>first | (cases h;done) | (cases h;exact⟨_,rfl⟩)
noncomputable def uz:Expr->Option (Expr×au×List Keyword)
 |.Call f as ks _=>some (f,as,ks)
 |_=>none
theorem x9{e f:Expr}{as:au}{ks:List Keyword}(h:uz e=some (f,as,ks)):∃p,e=.Call f as ks p:=by
 cases e<;>first | (cases h;done) | (cases h;exact⟨_,rfl⟩)
def dP(e:Expr):Option (Str×au):=match uz e with
 |some (f,as,ks)=>match ks with
  |[]=>match Di f with
   |some x=>some (x,as)
   |none=>none
  |_::_=>none
 |none=>none
theorem cS{e:Expr}{x:Str}{as:au}(h:dP e=some (x,as)):∃p pos,e=.Call (.Name x p) as [] pos:=by
 unfold dP at h;cases hv:uz e with
 |none=>rw[hv]at h;cases h
 |some z =>
  obtain⟨f,Rq,ks⟩:=z;rw[hv]at h;obtain⟨pos,rfl⟩:=x9 hv;cases ks with
  |cons _ _=>cases h
  |nil =>
   cases hn:Di f with
   |none=>replace h:(match Di f with|some x=>some (x,Rq)|none=>none)=some (x,as):=h;rw[hn]at h;cases h
   |some y =>
    replace h:(match Di f with|some x=>some (x,Rq)|none=>none)=some (x,as):=h;rw[hn]at h;obtain⟨p,rfl⟩:=kB hn;cases h;exact⟨p,pos,rfl⟩
noncomputable def gU:Expr->Option (Expr×Expr)
 |.Subscript a b _=>some (a,b)
 |_=>none
theorem gw{e a b:Expr}(h:gU e=some (a,b)):∃p,e=.Subscript a b p:=by
 cases e<;>first | (cases h;done) | (cases h;exact⟨_,rfl⟩)
noncomputable def uw:Expr->Option (au)
 |.Tuple es _ _=>some es
 |_=>none
theorem iE{e:Expr}{es:au}(h:uw e=some es):∃n p,e=.Tuple es n p:=by
 cases e<;>first | (cases h;done) | (cases h;exact⟨_,_,rfl⟩)
noncomputable def ux:Expr->Option (au)
 |.List es _=>some es
 |_=>none
theorem vO{e:Expr}{es:au}(h:ux e=some es):∃p,e=.List es p:=by
 cases e<;>first | (cases h;done) | (cases h;exact⟨_,rfl⟩)
noncomputable def Gb:Expr->Option (Expr×List Comprehension×Scope)
 |.ListComp e gs sc _=>some (e,gs,sc)
 |_=>none
theorem zE{e x:Expr}{gs:List Comprehension}{sc:Scope}(h:Gb e=some (x,gs,sc)):∃p,e=.ListComp x gs sc p:=by
 cases e<;>first | (cases h;done) | (cases h;exact⟨_,rfl⟩)
theorem lq{a:Bool}(h:(!a)=true):a=false:=by cases a<;>first|rfl|cases h
def qZ(S:Sx)(n:Nat)(t:Tg)(caps:aQ)(target:Expr)(sc:Scope):Bool :=
 decide (sc.kind=.function)&&sc.names.all (λ(x,k)=>decide (k≠.cell)&&(decide (k≠.local)||decide (sc.names.lookup x=some .local))&&(decide (k≠.free)||decide (S.sc.names.lookup x=some .cell)||decide (S.sc.names.lookup x=some .free))) &&
 decide (n=(cj target).length)&&(cj target).all (λx=>decide (sc.names.lookup x=some .local))&&decide (cj target++fS S caps).Nodup &&
 caps.all (λi=>match S.N[i]? with|some x=>decide (sc.names.lookup x=some .free)|none=>false) &&
 (match t with
  |.nm i=>decide (i=0)&&isNm target
  |.tp is=>bw (uw target) λes=>decide (is=List.range es.length)&&es.all isNm)
mutual
noncomputable def cG(S:Sx):CE->Expr->Bool
 |.bR p es,e0=>Yn e0&&bw (S.px.pe p S.sc S.bl e0) λxs=>b8 S es xs
 |.cw,e0=>bw (vC e0) λc=>Bi c
 |.bl b,e0=>bw (vC e0) λc=>GP b c
 |.int i,e0=>bw (vC e0) λc=>Bj i c
 |.v i,e0=>bw (Di e0) λx=>decide (S.N[i]?=some x)&&HA S.sc x&&lL x
 |.glo x i,e0=>bw (Di e0) λy=>decide (y=x)&&gq S.sc x&&decide ((x,GK.i i)∈S.cs)&&!(x==("__debug__" : Str))
 |.glt x zs,e0=>bw (Di e0) λy=>decide (y=x)&&gq S.sc x&&decide ((x,GK.t zs)∈S.cs)&&!(x==("__debug__" : Str))
 |.bin op a b,e0=>bw (HD e0) λz=>decide (z.2.1=NF op)&&cG S a z.1&&cG S b z.2.2
 |.neg a,e0=>bw (RE e0) λz=>decide (z.1=.USub)&&cG S a z.2
 |.not a,e0=>bw (RE e0) λz=>decide (z.1=.Not)&&cG S a z.2
 |.and es,e0=>bw (vBool e0) λz=>decide (z.1=.And)&&b8 S es z.2
 |.or es,e0=>bw (vBool e0) λz=>decide (z.1=.Or)&&b8 S es z.2
 |.cmp op a b,e0=>bw (Dq e0) λz=>decide (z.2.1=[SY op])&&cG S a z.1&&bw (one z.2.2) λr=>cG S b r&&o7 r
 |.o_ a t,e0=>bw (dP e0) λz=>decide (z.1=("isinstance" : Str))&&gq S.sc z.1&&decide (z.1∈S.bl)&&bw (two z.2) λy=>cG S a y.1&&bw (Di y.2) λx=>decide (x=(tyName t:Str))&&gq S.sc x&&decide (x∈S.bl)
 |.call f es,e0=>bw (dP e0) λz=>decide (S.fn f=some z.1)&&gq S.sc z.1&&lL z.1&&bw (RI z.2) λy=>b8 S es (y.1::y.2)
 |.bf f es,e0=>bw (dP e0) λz=>decide (z.1=(rq f:Str))&&gq S.sc z.1&&decide (z.1∈S.bl)&&bw (RI z.2) λy=>b8 S es (y.1::y.2)
 |.je a,e0=>bw (dP e0) λz=>decide (z.1=("len" : Str))&&gq S.sc z.1&&decide (z.1∈S.bl)&&bw (one z.2) λy=>bw (dP y) λw=>decide (w.1=("set" : Str))&&gq S.sc w.1&&decide (w.1∈S.bl)&&bw (one w.2) λu=>cG S a u
 |.ix a b,e0=>bw (gU e0) λz=>cG S a z.1&&cG S b z.2
 |.tup es,e0=>bw (uw e0) λxs=>b8 S es xs&&decide (es.length<=1000)
 |.lst es,e0=>bw (ux e0) λxs=>b8 S es xs&&decide (es.length<=1000)
 |.comp n t caps ik es bM elt,e0=>bw (Gb e0) λz=>bw (one z.2.1) λg=>decide (g.is_async=0)&&qZ S n t caps g.target z.2.2&&o7 g.iter&&decide (bM.length<=1)&&b8 (S.inner g.target caps z.2.2) bM g.ifs&&cG (S.inner g.target caps z.2.2) elt z.1 &&
     (match ik with
      |.kn=>bw (dP g.iter) λw=>decide (w.1=("range" : Str))&&gq S.sc w.1&&decide (w.1∈S.bl)&&bw (one w.2) λy=>b8 S es [y]
      |.seq=>b8 S es [g.iter]
      |.bR p=>QF g.iter&&(decide (1100<=p)||fQ g.target)&&bw (S.px.pi p S.sc S.bl g.iter) λxs=>b8 S es xs)
noncomputable def b8(S:Sx):aG->au->Bool
 |[],es=>match es with
  |[]=>true
  |_::_=>false
 |c::cs,es=>match es with
  |[]=>false
  |e::es=>cG S c e&&b8 S cs es
end
def DG(K:aq)(n:Nat)(m:aC):Sp:=λvs H Q _=>∃(F:ai) (ds:ab) (r:D),vs.length=n/\az (aR K H) (nd K F (λ_=>False) (λ_=>none) H) [] 0 vs ds/\m ds=ok r /\
 ∀v H',aM H H'->(∃τt:Addr->Option bq,(∀p q,τt p=some q->H p=none)/\Rep (aR K H') (nd K (λp=>F p\/H p=none) (λ_=>False) τt H') [] v r)->Q v H'
structure Lj(X:Cx)(k:Nat)(x:Str)(m:aC):Prop where
 ex:∃(f:Addr) (fd:FuncData) (ps:ak),iZ X.prog X.w X.K X.mg X.base zr k f fd ps (DG X.K ps.length m)/\X.mg x=some (.ref f)/\PySem.W.keepIn X.K (.ref f)=true/\Binds X.K fd ps []/\∀ds r,m ds=ok r->ds.length=ps.length
noncomputable def kinds:List String:=["NoneType","bool","int","str","list","tuple","dict"]
def Oc:Ty->String->Bool
 |.int,s=>s == "int" ||s == "bool"
 |t,s=>s==tyName t
theorem aM.upd{H:Hp}{p:Addr}{o:HO}(h:H p=none):aM H (upd H p o):=λb u e=>by
 rw[aW (by rintro rfl;rw[h]at e;cases e)];exact e
theorem AX{i j:Int}(h:ic i j=true):IntMulOk i j:=by
 unfold ic at h;simp only[Bool.or_eq_true,Bool.and_eq_true,decide_eq_true_eq]at h;rcases h with (h|h)|⟨h1,h2⟩
 ·exact .of_left (intBits_le h)
 ·exact .of_right (intBits_le h)
 ·have b1:Builtin.Int.intBits i<=9000:=intBits_le h1;have b2:Builtin.Int.intBits j<=9000:=intBits_le h2;unfold IntMulOk;have hb:Builtin.Int.intTooBig ((Builtin.Int.intBits i:Int)+(Builtin.Int.intBits j:Int))=false:=by
   unfold Builtin.Int.intTooBig;have:(bitsLine:Int)=134217728:=by decide
   exact aaV (by left)
  rw[hb];simp
section
variable {K:aq}{R:ai}{τ τt:Addr->Option bq}{fv:aQ}{H H':Hp}
theorem wL:js X (binaryOp .Add) (λx y H Q=>∃a b xs ys,x=.ref a/\y=.ref b/\aR X.K H a xs/\aR X.K H b ys/\xs.length+ys.length<=sizeLine/\(xs=[]->Q (.ref b) H)/\(ys=[]->Q (.ref a) H)/\∀p,H p=none->Q (.ref p) (upd H p (.tup (xs++ys)))):=by
 intro pins s σ H x y v u Q I rx ry h;obtain⟨a,b,xs,ys,rfl,rfl,ha,hb,hz,q0,q1,q2⟩:=h;cases rx;cases ry;by_cases hx:xs=[]
 ·subst hx;obtain⟨aK,r1,p1,_⟩:=I.tuple ha;obtain⟨vg,r2,p2,_⟩:=I.tuple hb;cases r1;obtain⟨⟨cls,dd,data,sl⟩,ho,hc,n,hd⟩:=id p1;obtain⟨⟨FI,xE,data2,wb⟩,qE,hc2,n2,hd2⟩:=id p2;simp only at hc hd hc2 hd2;subst hc hd hc2 hd2;exact concat_meets ⟨_,ho,rfl⟩ ⟨_,qE,rfl⟩ noFill_tuple_add seq_tuple_add abC aby (abw _ _)
   (tuple_addW0 a b [].toArray vg.toArray n n2 dd xE sl wb rfl) ⟨ho,qE,⟨.ref b,H,I,rfl,q0 rfl⟩⟩
 ·exact Ek pins s σ H (.ref a) (.ref b) _ _ Q I rfl rfl ⟨a,b,xs,ys,rfl,rfl,ha,hb,hx,hz,q1,λ_=>q2⟩
theorem nd.nc(k k':bq)(p:Addr)(xs:Nd)(f:Fl)(h:nd K R A (λ_=>none) H k p xs f):nd K R A (λ_=>none) H k' p xs f:=by
 cases f with
 |ow=>exact nomatch h.2
 |fz=>exact h
 |al=>exact h
 |sc=>exact h
theorem NN(Si:SI X F R τ ρ σ H)(fr:∀p q,τt p=some q->H p=none)(k k':bq)(p:Addr)(xs:Nd)(f:Fl)(h:nd K R (iY (gP X F) τ fv) τt H' k p xs f):
  nd K R (iY (gP X F) τ fv) (λ_=>none) H' k' p xs (bj f):=by
 cases f with
 |ow=>exact⟨h.1,.inr (Si.same.free (fr p _ h.2)),λc i e=>absurd (fr p _ h.2) (Si.th p _ e)⟩
 |fz=>exact h
 |al=>exact h
 |sc=>exact h
theorem az.eV{k:bq}{n:Nat}(h:az (aR K H') (nd K R (iY (gP X F) τ fv) τt H') k n xs ds)(Si:SI X F R τ ρ σ H)(fr:∀p q,τt p=some q->H p=none){n':Nat}:
  az (aR K H') (nd K R (iY (gP X F) τ fv) (λ_=>none) H') k' n' xs (aA bj ds):=az.il (λ_ _ h=>h) (NN Si fr) h _ _
theorem Rep.eV{k:bq}{v:V}{d:D}(h:Rep (aR K H') (nd K R (iY (gP X F) τ fv) τt H') k v d)(Si:SI X F R τ ρ σ H)(fr:∀p q,τt p=some q->H p=none):
  Rep (aR K H') (nd K R (iY (gP X F) τ fv) (λ_=>none) H') k' v (aU bj d):=Rep.il (λ_ _ h=>h) (NN Si fr) h _
theorem az.rep{A:ai}{xs:ae}{ds:ab}(h:az (aR K H) (nd K R A (λ_=>none) H) [] 0 xs (aA bj ds)):∀n:Nat,az (aR K H) (nd K R A (λ_=>none) H) [] 0 (List.replicate n xs).flatten (aA bj (List.replicate n ds).flatten)
 |0=>.nil
 |n+1=>by
  rw[List.replicate_succ,List.replicate_succ,List.flatten_cons,List.flatten_cons,aY,List.map_append,<- aY,<- aY];exact az.mr nd.nc h (az.rep h n)
theorem bT.qh{p:Addr}(hp:H p=none)(e:aM H H')(hl:H' p=some (.lst xs))(r:az (aR K H') (nd K R (iY G τ fv) (λ_=>none) H') [] 0 xs ds):bT K G R τ fv H H' (.ref p) (.lst .ow ds):=by
 refine⟨λq=>if q=p then some []else none,λq k hq=>?_,.lst ⟨hl,by simp⟩ (r.imp (λ_ _ h=>h) λc q xs f h=>?_)⟩
 ·by_cases rM:q=p
  ·subst rM;exact hp
  ·simp[rM]at hq
 ·cases f with
  |ow=>exact nomatch h.2
  |fz=>exact h
  |al=>exact h
  |sc=>exact h
end
theorem EB(K:aq):∀t:Ty,∀s∈kinds,PySem.W.kitOne K (.type s) (.type (tyName t))=some (Oc t s):=by
 intro t s hs;simp only[kinds,List.mem_cons,List.not_mem_nil,or_false]at hs;cases t<;>rcases hs with rfl|rfl|rfl|rfl|rfl|rfl|rfl<;>rfl
structure PX(X:Cx)(sc:Scope)(bl:ak)(k:Nat):Prop where
 sc:X.env.scope=sc
 calm:X.calm=true
 room:fT k X.A
 bl:∀x∈bl,X.mg x=none
theorem PX.gl{sc:Scope}{bl:ak}{k:Nat}(L:PX X sc bl k){x:Str}(h:gq sc x=true):Gl X x:=by
 unfold Gl;show X.env.scope.names.lookup x=some .globalImplicit;rw[L.sc];exact aac h
def kg(X:Cx)(F:ai)(Φ:a_):aG->au->Prop
 |[],[]=>True
 |c::cs,a::as=>PE X a (tD X F Φ c)/\(∀es,starEach (a::es) X.env=(false,eval a X.env)::starEach es X.env)/\mw a/\kg X F Φ cs as
 |_,_=>False
structure pM(K:aq)(H2:Hp)(vs:ae)(xs:ab)(H':Hp):Prop where
 n0:∃R0:ai,az (aR K H2) (nd K R0 (λ_=>False) (λ_=>none) H2) [] 0 vs (aA aV xs)/\∀p o,R0 p->H2 p=some o->H' p=some o
 tp:∀a ys,aR K H2 a ys->aR K H' a ys
structure Hi(K:aq)(J:It)(H2:Hp)(vs:ae)(xs items:ab):Prop where
 go:∀i H' R',pM K H2 vs xs H'->az (aR K H') (nd K R' (λ_=>False) (λ_=>none) H') [] 0 vs (aA aV xs)->i<items.length->J.go i H'
 ui:∀i H' R' x lF,pM K H2 vs xs H'->az (aR K H') (nd K R' (λ_=>False) (λ_=>none) H') [] 0 vs (aA aV xs)->i<items.length->J.ui i H' x lF->aM H' lF/\∃d,items[i]?=some d/\Rep (aR K lF) (nd K R' (λ_=>False) (λ_=>none) lF) [] x d
 stop:∀i H' R',pM K H2 vs xs H'->az (aR K H') (nd K R' (λ_=>False) (λ_=>none) H') [] 0 vs (aA aV xs)->items.length<=i->J.stop i H'
structure vJ(px:Px)(Φ:a_):Prop where
 e:∀(X:Cx) (sc:Scope) (bl:ak) (k:Nat),PX X sc bl k->∀(p:Nat) (e:Expr) (args:au),px.pe p sc bl e=some args->∀(F:ai) (cs:aG),kg X F Φ cs args->PE X e (tD X F Φ (.bR p cs))/\PT X e (gh X F Φ (.bR p cs))
 i:∀(X:Cx) (sc:Scope) (bl:ak) (k:Nat),PX X sc bl k->∀(p:Nat) (e:Expr) (args:au),px.pi p sc bl e=some args->∀(F:ai) (cs:aG) (tg:Expr),(decide (1100<=p)||fQ tg)=true->kg X F Φ cs args ->
  ∀(pins:aj) (s:Shared) (σ:St) (H:Hp) (R:ai) (τ:Addr->Option bq) (ρ:ba) (xs:ab) (d:D) (items:ab),Inv X pins σ H s->SI X F R τ ρ σ H->cz Φ cs ρ=ok xs->Φ p xs=ok d->kF d=ok items->∀Rr:It->Hp->Prop,
   (∀J H2 vs,aM H H2->cv X.K (gP X F) R τ (cW cs) H H2 vs xs->Hi X.K J H2 vs xs items->Rr J H2) ->
   wpAny (model X.prog X.w) X.A (eval e X.env) (λv s1=>wpAny (model X.prog X.w) X.A (pyIter v) (zp X pins σ tg Rr) X.xe s1) X.xe s
def F5(K:aq):GK->Value->Prop
 |.i i,u=>RelV (.int i) u
 |.t zs,u=>∃(a:Addr) (o:Obj) (aK:aP) (n:Nat),u=.ref a/\K.lookup a=some o/\o.cls=.type "tuple" /\ o.data=.seq aK n/\aK.size<=sizeLine/\Vals (zs.map V.int) aK.toList
structure Lk(X:Cx)(S:Sx)(k:Nat)(Φ:a_):Prop where
 sc:X.env.scope=S.sc
 N:X.N=S.N
 nd:X.N.Nodup
 calm:X.calm=true
 room:fT k X.A
 bl:∀x∈S.bl,X.mg x=none
 fn:∀f x,S.fn f=some x->Lj X k x (Φ f)
 cs:∀x i,(x,i)∈S.cs->∃u,X.mg x=some u/\F5 X.K i u
 pr:vJ S.px Φ
variable {S:Sx}{Φ:a_}
theorem Lk.pX{k:Nat}(L:Lk X S k Φ):PX X S.sc S.bl k:=⟨L.sc,L.calm,L.room,L.bl⟩
variable {Q:VK}{p' p1 p2 pos pos':Pos}
section
variable {X:Cx}{S:Sx}{k:Nat}{F:ai}{Φ:a_}
theorem Lk.gl(L:Lk X S k Φ){x:Str}(h:gq S.sc x=true):Gl X x:=by
 unfold Gl;show X.env.scope.names.lookup x=some .globalImplicit;rw[L.sc];exact aac h
theorem Lk.Qi(L:Lk X S k Φ){x:Str}(h:HA S.sc x=true):Hj X.env.scope x:=by
 unfold Hj;rw[L.sc];unfold HA at h;rw[Bool.or_eq_true,Bool.or_eq_true]at h;rcases h with (h|h)|h
 ·exact .inl (aac h)
 ·exact .inr (.inl (aac h))
 ·exact .inr (.inr (aac h))
theorem tD.intro{c:CE}{d:D}(Si:SI X F R τ ρ σ H)(e:bC Φ c ρ=ok d)(h:∀v H',aM H H'->bT X.K (gP X F) R τ (gR c) H H' v d->Q v H'):tD X F Φ c σ H Q:=⟨R,τ,ρ,d,Si,e,h⟩
theorem Se(L:Lk X S k Φ){i:Nat}{x:Str}(h:cG S (.v i) (.Name x pos)=true):PE X (.Name x pos) (tD X F Φ (.v i)):=by
 replace h:=aN h;replace h:=And.intro (aN h.1) h.2;obtain⟨⟨h1,h2⟩,h3⟩:=h;unfold lL at h3;simp only[Bool.and_eq_true,Bool.not_eq_true']at h3;refine PE.imp (qe (i:=i) (by rw[L.N];exact aac h1) (L.Qi h2) h3.1.1 h3.1.2) λσ H Q hq=>?_;obtain⟨R,τ,ρ,d,Si,ev,hq⟩:=hq;obtain⟨d',hd,rfl⟩:=z_ ev
 ·obtain⟨v,hv,hr⟩:=Si.rep i d' hd;refine⟨v,hv,hq v H (aM.refl H) ⟨λ_=>none,λ_ _ h=>by simp at h,?_⟩⟩;refine Rep.map (q:=[i]) (q':=[]) (λ_ _ h=>h) (λc p xs f h=>?_) hr [] rfl;cases f with
  |ow =>
   refine⟨h.1,.inr (Si.t0 p _ h.2),λc' j e=>?_⟩;rw[h.2]at e;have e':=aap e;have:=aaJ List.getLast? e';simp at this;show _∈[i];simp[this]
  |fz=>exact h
  |al=>exact h.2.elim
  |sc=>exact h
theorem iQ{op:F8}{x y d:D}(OC:op≠.add/\op≠.mul)(h:dy op x y=ok d):∃i j,x=.int i/\y=.int j:=by
 cases x with
 |int i=>cases y with
  |int j=>exact⟨i,j,rfl,rfl⟩
  |_=>cases op<;>first|exact nk h | (simp at OC;done)
 |_=>cases op<;>first|exact nk h | (simp at OC;done)
theorem Ib(L:Lk X S k Φ){op:F8}{a b:CE}{l r:Expr}(ha:PE X l (tD X F Φ a))(hb:PE X r (tD X F Φ b)):PE X (.BinOp l (NF op) r pos) (tD X F Φ (.bin op a b)):=by
 have two:∀{σ:St} {H:Hp} {Q:VK} {r2:R2},(∃R τ ρ d,SI X F R τ ρ σ H/\bC Φ (.bin op a b) ρ=ok d/\(∀v H',aM H H'->bT X.K (gP X F) R τ (gR (.bin op a b)) H H' v d->Q v H') /\
   ∀x y v u H',dy op x y=ok d->aM H H'->bT X.K (gP X F) R τ (gR (.bin op a b)) H H' v x->bT X.K (gP X F) R τ (gR (.bin op a b)) H H' u y->r2 v u H' Q)->Gj r2 (tD X F Φ a) (tD X F Φ b) σ H Q:=by
  rintro σ H Q r2 ⟨R,τ,ρ,d,Si,ev,hq,hr⟩;obtain⟨x,ex,ev⟩:=aB ev;obtain⟨y,ey,ev⟩:=aB ev;refine tD.intro Si ex λv H1 e1 r1=>tD.intro (Si.go e1) ey λu H2 e2 r2=>?_;exact hr x y v u H2 ev (e1.trans e2) ((r1.go e2).mono λi hi=>aaA _ hi) ((r2.old e1).mono λi hi=>aao _ hi)
 have yC:∀{C:Int->Int->Prop} {g:Int->Int->Int},js X (binaryOp (NF op)) (rI C λi j=>.int (g i j))->(∀x y d,dy op x y=ok d->∃i j,x=.int i/\y=.int j/\C i j/\d=.int (g i j)) ->
   PE X (.BinOp l (NF op) r pos) (tD X F Φ (.bin op a b)):=by
  intro C g ho hd;refine PE.imp (wF ho ha hb) λσ H Q hq=>?_;obtain⟨R,τ,ρ,d,Si,ev,hq⟩:=hq;refine two ⟨R,τ,ρ,d,Si,ev,hq,λx y v u H' eb e rv ru=>?_⟩;obtain⟨i,j,rfl,rfl,c,rfl⟩:=hd x y d eb;exact⟨i,j,rv.isInt,ru.isInt,c,hq _ H' e .int⟩
 cases op with
 |sub =>
  refine yC (C:=λ_ _=>True) (g:=λi j=>i - j) (I9 λ_ _ _ _ _ _ _ _ q=>sub_int q) λx y d h=>?_;obtain⟨i,j,rfl,rfl⟩:=iQ (by simp) h;cases h;exact⟨_,_,rfl,rfl,trivial,rfl⟩
 |mod =>
  refine yC (C:=λ_ j=>j≠0) (g:=λi j=>i.fmod j) Ej λx y d h=>?_;obtain⟨i,j,rfl,rfl⟩:=iQ (by simp) h;obtain⟨h1,h⟩:=me h;subst h;exact⟨_,_,rfl,rfl,h1,rfl⟩
 |fdiv =>
  refine yC (C:=λ_ j=>pB j=true) (g:=λi j=>i.fdiv j) (I9 λi j _ _ _ _ _ hc q=>?_) λx y d h=>?_
  ·unfold pB at hc;rw[Bool.and_eq_true]at hc;have h1:j≠0:=aac hc.1;have h2:j.natAbs<big:=aac hc.2;exact floordiv_int h1 q (.inl (PyProof.noPylong_of_log2 ((Nat.log2_lt (by left)).mpr h2)))
  ·obtain⟨i,j,rfl,rfl⟩:=iQ (by simp) h;obtain⟨h1,h⟩:=me h;subst h;exact⟨_,_,rfl,rfl,h1,rfl⟩
 |pow =>
  refine yC (C:=λi j=>wq i j=true) (g:=λi j=>i ^ j.toNat) (I9 λi j _ _ _ _ _ hc q=>?_) λx y d h=>?_
  ·unfold wq at hc;simp only[Bool.and_eq_true,decide_eq_true_eq]at hc;exact pow_int_small hc.1.1 hc.1.2 hc.2 q
  ·obtain⟨i,j,rfl,rfl⟩:=iQ (by simp) h;obtain⟨h1,h⟩:=me h;subst h;exact⟨_,_,rfl,rfl,h1,rfl⟩
 |shr =>
  refine yC (C:=λ_ j=>0<=j) (g:=λi j=>i / 2 ^ j.toNat) IU λx y d h=>?_;obtain⟨i,j,rfl,rfl⟩:=iQ (by simp) h;obtain⟨h1,h⟩:=me h;subst h;exact⟨_,_,rfl,rfl,h1,rfl⟩
 |band =>
  refine yC (C:=λ_ j=>j=1) (g:=λi _=>i % 2) (I9 λi j _ _ _ _ _ hc q=>by subst hc;exact and_int (by rw[bitAnd_m1];exact q)) λx y d h=>?_;obtain⟨i,j,rfl,rfl⟩:=iQ (by simp) h;obtain⟨h1,h⟩:=me h;subst h;exact⟨_,_,rfl,rfl,h1,rfl⟩
 |mul =>
  have hi:js X (binaryOp .Mult) (rI (λi j=>ic i j=true) λi j=>.int (i*j)):=I9 λi j _ _ _ _ _ hc q=>mul_int q (AX hc);refine PE.imp (wF (hi.or IV) ha hb) λσ H Q hq=>?_;obtain⟨R,τ,ρ,d,Si,ev,hq⟩:=hq;refine two ⟨R,τ,ρ,d,Si,ev,hq,λx y v u H' eb e rv ru=>?_⟩;cases y with
  |int j =>
   cases x with
   |int i =>
    obtain⟨h1,eb⟩:=me eb;subst eb;exact .inl ⟨i,j,rv.isInt,ru.isInt,h1,hq _ H' e .int⟩
   |lst f a =>
    obtain⟨hc,eb⟩:=me eb
    ·subst eb;obtain⟨τt,fr,rp⟩:=rv;obtain⟨p,xs,rfl,hn,rs⟩:=rp.n6;have hz:sizeLine=16777216:=aaP;have lQ:cg=1000000:=rfl;refine .inr ⟨p,j,xs,rfl,ru.isInt,hn.lst hc.1,by left,by left,by rw[rs.length];left,λp' tj=>?_⟩;have es:aM H' (upd H' p' (.lst (List.replicate j.toNat xs).flatten)):=aM.upd tj;refine hq _ _ (e.trans es) (bT.qh (e.free tj) (e.trans es) (aS) ?_);exact(az.rep (rs.eV Si fr) j.toNat).imp (λ_ _ h=>aR.same es h) λ_ _ _ _ h=>nd.same es h
   |_=>cases eb
  |_=>cases x<;>cases eb
 |add =>
  refine PE.imp (wF ((I0.or IZ).or wL) ha hb) λσ H Q hq=>?_;obtain⟨R,τ,ρ,d,Si,ev,hq⟩:=hq;refine two ⟨R,τ,ρ,d,Si,ev,hq,λx y v u H' eb e rv ru=>?_⟩;have hz:sizeLine=16777216:=aaP;have lQ:cg=1000000:=rfl;cases x with
  |int i =>
   cases y with
   |int j =>
    cases eb;exact .inl (.inl ⟨i,j,rv.isInt,ru.isInt,hq _ H' e .int⟩)
   |_=>cases eb
  |lst f a =>
   cases y with
   |lst g b =>
    obtain⟨hc,eb⟩:=me eb
    ·subst eb;obtain⟨τt,fr,rp⟩:=rv;obtain⟨RB,LW,Sq⟩:=ru;obtain⟨p,xs,rfl,hn,rs⟩:=rp.n6;cases Sq with
     | @lst _ p2 zB _ _ LL uQ =>
      refine .inl (.inr ⟨p,p2,xs,zB,rfl,rfl,hn.lst hc.1,LL.lst hc.2.1,by rw[rs.length,uQ.length];left,λp' tj=>?_⟩);have es:aM H' (upd H' p' (.lst (xs++zB))):=aM.upd tj;refine hq _ _ (e.trans es) (bT.qh (e.free tj) (e.trans es) (aS) ?_);rw[aY,List.map_append,<- aY,<- aY];exact(az.mr nd.nc (n:=0) (m:=0) (rs.eV Si fr) (uQ.eV Si LW)).imp (λ_ _ h=>aR.same es h) λ_ _ _ _ h=>nd.same es h
   |_=>cases eb
  |tup a =>
   cases y with
   |tup b =>
    obtain⟨hc,eb⟩:=me eb;subst eb;obtain⟨τt,fr,rp⟩:=rv;obtain⟨RB,LW,Sq⟩:=ru;cases rp with
    | @tup _ p xs _ hn rs =>
     cases Sq with
     | @tup _ p2 zB _ LL uQ =>
      have hl:=rs.length;have tu:=uQ.length;refine .inr ⟨p,p2,xs,zB,rfl,rfl,hn,LL,by rw[hl,tu];left,λz=>?_,λz=>?_,λp' tj=>?_⟩
      ·subst z;cases rs;exact hq _ H' e ⟨λ_=>none,λ_ _ h=>by simp at h,.tup LL (uQ.eV Si LW)⟩
      ·subst z;cases uQ;refine hq _ H' e ⟨λ_=>none,λ_ _ h=>by simp at h,.tup hn ?_⟩;rw[List.append_nil];exact rs.eV Si fr
      ·have es:aM H' (upd H' p' (.tup (xs++zB))):=aM.upd tj;refine hq _ _ (e.trans es) ⟨λ_=>none,λ_ _ h=>by simp at h,.tup (aR.of aS) ?_⟩;rw[aY,List.map_append,<- aY,<- aY];exact(az.mr nd.nc (n:=0) (m:=0) (rs.eV Si fr) (uQ.eV Si LW)).imp (λ_ _ h=>aR.same es h) λ_ _ _ _ h=>nd.same es h
   |_=>cases eb
  |_=>cases y<;>cases eb
end
section
variable {T T':ka}{N N':gZ}{P:Fl->Bool}
theorem Rep.without(hT:∀p xs,T p xs->T' p xs)(hN:∀k k' p xs f,P f=false->N k p xs f->N' k' p xs f){k:bq}{v:V}{d:D}(h:Rep T N k v d)(e:aH P d=false)(k':bq):Rep T' N' k' v d:=by
 have:=Rep.gen (g:=id) (P:=P) (N':=N') (C:=λ_ _=>True) (I:=λ_ _=>True) hT trivial (λ_ _ e=>e) (λ_ _ _ _ e _=>e) (λk k' p xs f _ e h=>hN k k' p xs f e h) h (k':=k') trivial e;rw[dH]at this;exact this
theorem az.without(hT:∀p xs,T p xs->T' p xs)(hN:∀k k' p xs f,P f=false->N k p xs f->N' k' p xs f){k:bq}{n:Nat}(h:az T N k n vs ds)(e:aL P ds=false)(k':bq)(n':Nat):az T' N' k' n' vs ds:=by
 have:=az.gen (g:=id) (P:=P) (N':=N') (C:=λ_ _=>True) (I:=λ_ _=>True) hT trivial (λ_ _ e=>e) (λ_ _ _ _ e _=>e) (λk k' p xs f _ e h=>hN k k' p xs f e h) h (k':=k') (n':=n') trivial trivial e;rw[dG]at this;exact this
theorem Rep.jB(hT:∀p xs,T p xs->T' p xs)(hN:∀k p xs f,P f=false->N k p xs f->N' k p xs f){k:bq}{v:V}{d:D}(h:Rep T N k v d)(e:aH P d=false):Rep T' N' k v d:=by
 have:=Rep.gen (g:=id) (P:=P) (N':=N') (C:=λa b=>a=b) (I:=λa b=>a=b) hT rfl (λ_ _ e=>by rw[e]) (λ_ _ _ _ a b=>by rw[a,b]) (λk k' p xs f c e h=>by subst c;exact hN k p xs f e h) h rfl e;rw[dH]at this;exact this
theorem az.jB(hT:∀p xs,T p xs->T' p xs)(hN:∀k p xs f,P f=false->N k p xs f->N' k p xs f){k:bq}{n:Nat}(h:az T N k n vs ds)(e:aL P ds=false):az T' N' k n vs ds:=by
 have:=az.gen (g:=id) (P:=P) (N':=N') (C:=λa b=>a=b) (I:=λa b=>a=b) hT rfl (λ_ _ e=>by rw[e]) (λ_ _ _ _ a b=>by rw[a,b]) (λk k' p xs f c e h=>by subst c;exact hN k p xs f e h) h rfl rfl e;rw[dG]at this;exact this
end
theorem Rep.qo{k:bq}{v:V}{d:D}(h:Rep (aR K H) (nd K R (λ_=>False) (λ_=>none) H) k v d):Rep (aR K H) (nd K R (λ_=>False) (λ_=>none) H) k' v d:=by
 have:=Rep.il (g:=id) (λ_ _ h=>h) nd.nc h k';rw[dH]at this;exact this
def gn(X:Cx)(R:ai)(τ:Addr->Option bq)(H:Hp)(v:V)(d:D):Prop :=
 ∃τt:Addr->Option bq,(∀p q,τt p=some q->τ p=none/\¬ R p/\X.H₀ p=none/\H p≠none)/\Rep (aR X.K H) (nd X.K R (λ_=>False) τt H) [] v d
section
variable {X:Cx}{F R:ai}{τ:Addr->Option bq}{ρ:ba}{σ:St}{H H':Hp}
theorem SI.set{i:Nat}{v:V}{d:D}(Si:SI X F R τ ρ σ H)(r:gn X R τ H v d)(hi:i<ρ.length):∃τ',SI X F R τ' (ρ.set i (some d)) (σ.set i (some v)) H:=by
 obtain⟨τt,ht,rp⟩:=r;refine⟨λp=>match τt p with|some q=>some (q++[i])|none=>τ p,⟨by simp[Si.len],λj d' hj=>?_,λp hp=>?_,Si.rh,Si.rf,λp q hq=>?_,λp q hq=>?_,Si.same⟩⟩
 ·by_cases gQ:j=i
  ·subst gQ;rw[List.getElem?_set_self hi]at hj;cases hj;refine⟨v,List.getElem?_set_self (by rw[<- Si.len];exact hi),rp.imp (q':=[j]) (λ_ _ h=>h) λc p xs f h=>?_⟩;cases f with
   |ow=>rw[List.append_nil]at h;exact⟨h.1,by simp only[h.2]⟩
   |fz=>exact h
   |al=>exact h
   |sc=>exact h
  ·rw[List.getElem?_set_ne (Ne.symm gQ)]at hj;obtain⟨w,hw,gy⟩:=Si.rep j d' hj;refine⟨w,by rw[List.getElem?_set_ne (Ne.symm gQ)];exact hw,gy.imp (λ_ _ h=>h) λc p xs f h=>?_⟩;cases f with
   |ow =>
    refine⟨h.1,?_⟩;cases q:τt p with
    |none=>simp only[q];exact h.2
    |some k=>have:=(ht p k q).1;rw[h.2]at this;cases this
   |fz=>exact h
   |al=>exact h
   |sc=>exact h
 ·cases q:τt p with
  |none=>simp only[q];exact Si.rt p hp
  |some k=>exact absurd hp (ht p k q).2.1
 ·cases z:τt p with
  |none=>simp only[z]at hq;exact Si.th p q hq
  |some k=>exact(ht p k z).2.2.2
 ·cases z:τt p with
  |none=>simp only[z]at hq;exact Si.t0 p q hq
  |some k=>exact(ht p k z).2.2.1
theorem yL{k:bq}{v:V}{d:D}(h:Rep (aR X.K H) (nd X.K R (λ_=>False) τ H) k v d)(ho:aH bX d=false):gn X R τ H v d :=
 ⟨λ_=>none,λ_ _ h=>by simp at h,Rep.without (P:=bX) (λ_ _ h=>h) (λk k' p xs f hf h=>by
  cases f with
  |ow=>cases hf
  |fz=>exact h
  |al=>exact h.2.elim
  |sc=>exact h) h ho _⟩
open Classical in
theorem SI.move{i:Nat}{d:D}(Si:SI X F R τ ρ σ H)(hd:ρ[i]?=some (some d)):∃v τ',σ[i]?=some (some v)/\SI X F R τ' (ρ.set i none) σ H/\gn X R τ' H v d:=by
 obtain⟨v,hv,rp⟩:=Si.rep i d hd;refine⟨v,λp=>match τ p with|some q=>if q.getLast?=some i then none else some q|none=>none,hv,⟨by simp[Si.len],λj d' hj=>?_,λp hp=>?_,Si.rh,Si.rf,λp q hq=>?_,λp q hq=>?_,Si.same⟩,
  λp=>match τ p with|some q=>if q.getLast?=some i then(if H p=none then none else some q.dropLast)else none|none=>none,λp q hq=>?_,rp.imp (q:=[i]) (q':=[]) (λ_ _ h=>h) λc p xs f h=>?_⟩
 ·by_cases gQ:j=i
  ·subst gQ;rw[List.getElem?_set]at hj;simp at hj
  ·rw[List.getElem?_set_ne (Ne.symm gQ)]at hj;obtain⟨w,hw,gy⟩:=Si.rep j d' hj;refine⟨w,hw,gy.imp (q:=[j]) (q':=[j]) (λ_ _ h=>h) λc p xs f h=>?_⟩;cases f with
   |ow =>
    refine⟨h.1,?_⟩;simp only[h.2];rw[if_neg (by simp;exact gQ)]
   |fz=>exact h
   |al=>exact h
   |sc=>exact h
 ·simp only[Si.rt p hp]
 ·cases z:τ p with
  |none=>simp only[z]at hq;cases hq
  |some k=>exact Si.th p k z
 ·cases z:τ p with
  |none=>simp only[z]at hq;cases hq
  |some k=>exact Si.t0 p k z
 ·cases z:τ p with
  |none=>simp only[z]at hq;cases hq
  |some k =>
   simp only[z]at hq ⊢;by_cases hl:k.getLast?=some i
   ·rw[if_pos hl];exact⟨rfl,(λhR=>by have:=Si.rt p hR;rw[z]at this;cases this),Si.t0 p k z,Si.th p k z⟩
   ·rw[if_neg hl]at hq;cases hq
 ·cases f with
  |ow =>
   refine⟨h.1,?_⟩;have hn:H p≠none:=h.1.ne;simp only[h.2];rw[if_pos (by simp),if_neg hn];simp
  |fz=>exact h
  |al=>exact h.2.elim
  |sc=>exact h
theorem xl(is:aQ)(ρ:ba)(j:Nat)(d:D)(h:(gY is ρ)[j]?=some (some d)):∃d',ρ[j]?=some (some d')/\d=(if j∈is then aU aV d' else d'):=by
 unfold gY at h;rw[List.getElem?_mapIdx]at h;cases q:ρ[j]? with
 |none=>rw[q]at h;exact nk h
 |some o =>
  rw[q]at h;cases o with
  |none=>simp at h
  |some d' =>
   refine⟨d',rfl,?_⟩;by_cases hj:j∈is
   ·simp[hj]at h ⊢;exact h.symm
   ·simp[hj]at h ⊢;exact h.symm
open Classical in
theorem xn(Si:SI X F R τ ρ σ H)(es:aM H H'):
  ∃R' τ',(∀p,R p->R' p)/\SI X F R' τ' (gY fv ρ) σ H'/\∀τt:Addr->Option bq,(∀p q,τt p=some q->H p=none)->∀(k k':bq) (p:Addr) (xs:Nd) (f:Fl),nd X.K R (iY (gP X F) τ fv) τt H' k p xs f->nd X.K R' (λ_=>False) (λ_=>none) H' k' p xs (aV f):=by
 have fM:=Si.go es;have fresh:∀p,H p=none->iY (gP X F) τ fv p:=λp hp=>⟨.inr (Si.same.free hp),λc i e=>absurd hp (Si.th p _ e)⟩
 refine⟨λp=>R p\/(H' p≠none/\iY (gP X F) τ fv p),λp=>if iY (gP X F) τ fv p then none else τ p,λp h=>.inl h,⟨by simp[gY,Si.len],λj d' hj=>?_,λp hp=>?_,λp hp=>?_,λp hp=>?_,λp q hq=>?_,λp q hq=>?_,fM.same⟩,λτt fr k k' p xs f h=>?_⟩
 ·obtain⟨d0,h0,e0⟩:=xl _ _ _ _ hj;obtain⟨w,hw,gy⟩:=fM.rep j d0 h0;refine⟨w,hw,?_⟩;by_cases QX:j∈fv
  ·rw[if_pos QX]at e0;subst e0;refine Rep.map (q:=[j]) (q':=[j]) (λ_ _ h=>h) (λc p xs f h=>?_) gy [] rfl;cases f with
   |ow =>
    refine⟨h.1,.inr ⟨h.1.ne,.inr (Si.t0 p _ h.2),λc' i' e'=>?_⟩⟩;rw[h.2]at e';have:=aaJ List.getLast? (aap e');simp at this;subst this;exact QX
   |fz=>exact⟨h.1,.inl h.2⟩
   |al=>exact h.2.elim
   |sc=>exact h
  ·rw[if_neg QX]at e0;subst e0;refine gy.imp (q:=[j]) (q':=[j]) (λ_ _ h=>h) λc p xs f h=>?_;cases f with
   |ow =>
    refine⟨h.1,?_⟩;show(if iY (gP X F) τ fv p then none else τ p)=some (c++[j]);rw[if_neg (λz=>QX (z.2 c j h.2))];exact h.2
   |fz=>exact⟨h.1,.inl h.2⟩
   |al=>exact h.2.elim
   |sc=>exact h
 ·rcases hp with hp|hp
  ·simp only[Si.rt p hp];split<;>rfl
  ·rw[if_pos hp.2]
 ·rcases hp with hp|hp
  ·exact fM.rh p hp
  ·exact hp.1
 ·rcases hp with hp|hp
  ·exact Si.rf p hp
  ·exact hp.2.1
 ·split at hq
  ·cases hq
  ·exact fM.th p q hq
 ·split at hq
  ·cases hq
  ·exact Si.t0 p q hq
 ·cases f with
  |ow=>exact⟨h.1,.inr ⟨h.1.ne,fresh p (fr p _ h.2)⟩⟩
  |fz=>exact⟨h.1,.inl h.2⟩
  |al=>exact⟨h.1,.inr ⟨h.1.ne,h.2⟩⟩
  |sc=>exact h
theorem qO{v:V}{d:D}(Si:SI X F R τ ρ σ H)(es:aM H H')(r:bT X.K (gP X F) R τ fv H H' v d):
  ∃R' τ',(∀p,R p->R' p)/\SI X F R' τ' (gY fv ρ) σ H'/\Rep (aR X.K H') (nd X.K R' (λ_=>False) (λ_=>none) H') [] v (aU aV d):=by
 obtain⟨τt,fr,rp⟩:=r;obtain⟨R',τ',h1,h2,h3⟩:=xn (fv:=fv) Si es;exact⟨R',τ',h1,h2,Rep.il (λ_ _ h=>h) (h3 τt fr) rp _⟩
theorem tJ(Si:SI X F R τ ρ σ H)(es:aM H H')(r:cv X.K (gP X F) R τ fv H H' vs ds):
  ∃R' τ',(∀p,R p->R' p)/\SI X F R' τ' (gY fv ρ) σ H'/\az (aR X.K H') (nd X.K R' (λ_=>False) (λ_=>none) H') [] 0 vs (aA aV ds):=by
 obtain⟨τt,fr,rp⟩:=r;obtain⟨R',τ',h1,h2,h3⟩:=xn (fv:=fv) Si es;exact⟨R',τ',h1,h2,az.il (λ_ _ h=>h) (h3 τt fr) rp _ _⟩
theorem l3{v:V}{d:D}(h:Rep (aR X.K H) (nd X.K R (λ_=>False) (λ_=>none) H) [] v d):gn X R τ' H v d:=⟨λ_=>none,λ_ _ h=>by simp at h,h⟩
open Classical in
theorem GN{e:CE}{v:V}{d:D}(Si:SI X F R τ ρ σ H)(es:aM H H')(r:bT X.K (gP X F) R τ (gR e) H H' v d):
  ∃R' τ',(∀p,R p->R' p)/\SI X F R' τ' (keep e d ρ).2 σ H'/\gn X R' τ' H' v (keep e d ρ).1:=by
 unfold keep;by_cases ha:aH bp d=true
 ·rw[if_pos ha];obtain⟨R',τ',h1,h2,h3⟩:=qO Si es r;exact⟨R',τ',h1,h2,l3 h3⟩
 ·obtain⟨τt,fr,rp⟩:=r;rw[if_neg ha];refine⟨R,τ,λ_ h=>h,Si.go es,λp=>if H' p=none then none else τt p,λp q hq=>?_,?_⟩
  ·dsimp only at hq;split at hq
   ·cases hq
   ·rename_i hn;have hf:=fr p q hq;refine⟨?_,λhR=>Si.rh p hR hf,Si.same.free hf,hn⟩;cases z:τ p with
    |none=>rfl
    |some k=>exact absurd hf (Si.th p k z)
  ·have Zc:aH bp d=false:=by simpa using ha
   have st:∀{k:bq} {v:V} {d:D},Rep (aR X.K H') (nd X.K R (iY (gP X F) τ (gR e)) τt H') k v d->aH bp d=false->Rep (aR X.K H') (nd X.K R (λ_=>False) (λp=>if H' p=none then none else τt p) H') k v d:=by
    intro k v d h ha;exact Rep.jB (P:=bp) (λ_ _ h=>h) (λk p xs f hf h=>by
     cases f with
     |ow=>exact⟨h.1,by show(if H' p=none then none else τt p)=_;rw[if_neg (h.1.ne)];exact h.2⟩
     |fz=>exact h
     |al=>cases hf
     |sc=>exact h) h ha
   exact st rp Zc
open Classical in
def tK(X:Cx)(F:ai)(Φ:a_)(c:CE):TE:=λσ H Q=>∃R τ ρ r,SI X F R τ ρ σ H/\ji Φ c ρ=ok r/\∀v H' R' τ',aM H H'->(∀p,R p->R' p)->SI X F R' τ' r.2 σ H'->gn X R' τ' H' v r.1->Q v H'
end
section
variable {T T':ka}{N N':gZ}
theorem az.child{q:bq}(hT:∀p xs,T p xs->T' p xs)(hN:∀c m p xs f,N (c++(m::q)) p xs f->N' (c++(m::q)) p xs f):∀{n:Nat} {vs:ae} {ds:ab},az T N q n vs ds->az T' N' q n vs ds
 |_,_,_,.nil=>.nil
 |n,_,_,.cons h t=>.cons (Rep.imp (q:=n::q) (q':=n::q) hT (λc p xs f h=>hN c n p xs f h) h) (az.child hT hN t)
theorem az.si{q:bq}{v:V}{d:D}:∀{n:Nat} {vs:ae} {ds:ab},az T N q n vs ds->Rep T N ((n+ds.length)::q) v d->az T N q n (vs++[v]) (ds++[d])
 |n,_,_,.nil,h=>.cons (by simpa using h) .nil
 |n,_,_,.cons (ds:=ds) h t,h'=>.cons h (az.si t (by
   have e:n+(ds.length+1)=n+1+ds.length:=by left
   rw[List.length_cons,e]at h';exact h'))
end
variable {d0:D}{n':Nd}
section
variable {X:Cx}{F R:ai}{τ:Addr->Option bq}{ρ:ba}{σ:St}{H:Hp}
theorem SI.own{i:Nat}(Si:SI X F R τ ρ σ H)(hi:ρ[i]?=some (some (.lst .ow ds))):∃p xs,σ[i]?=some (some (.ref p))/\H p=some (.lst xs)/\xs.length=ds.length/\τ p=some [i]/\az (aR X.K H) (nd X.K R (λ_=>False) τ H) [i] 0 xs ds:=by
 obtain⟨v,hv,rp⟩:=Si.rep i _ hi;cases rp with
 |lst h r=>exact⟨_,_,hv,h.1,r.length,h.2,r⟩
theorem hJ{H:Hp}{p:Addr}{n:Nd}{o:HO}(hp:dN H p n){a:Addr}{ys:ae}(h:aR K H a ys):aR K (upd H p o) a ys:=by
 obtain⟨o0,Bv,Oz,LJ⟩:=dN.some hp;have nO:∀a u,H a=some u->u≠o0->a≠p:=λa u e h z=>by subst z;rw[Bv]at e;cases e;exact h rfl
 rcases h with (h|⟨o',h⟩)|h
 ·exact .inl (.inl (by rw[aW (nO a _ h λz=>Oz _ z.symm)];exact h))
 ·exact .inl (.inr ⟨o',by rw[aW (nO a _ h λz=>LJ _ _ z.symm)];exact h⟩)
 ·exact .inr h
theorem SI.Nf{i m:Nat}{v:V}{d d1:D}{p:Addr}{n:Nd}{o:HO}(Si:SI X F R τ ρ σ H)(hi:ρ[i]?=some (some d0))(hv:σ[i]?=some (some (.ref p)))(hp:dN H p n)(ht:τ p=some [i])
  (rs:az (aR X.K H) (nd X.K R (λ_=>False) τ H) [i] 0 xs ds) (rk:gn X R τ H v d) (tq:dN (upd H p o) p n')
  (mk:∀{N:gZ},N [i] p n' .ow->az (aR X.K (upd H p o)) N [i] 0 xs' ds'->Rep (aR X.K (upd H p o)) N [i] (.ref p) d1)
  (hb:∀{N:gZ},az (aR X.K (upd H p o)) N [i] 0 xs ds->Rep (aR X.K (upd H p o)) N (m::[i]) v d->az (aR X.K (upd H p o)) N [i] 0 xs' ds') :
  ∃τ',SI X F R τ' (ρ.set i (some d1)) σ (upd H p o)/\τ' p=some [i]/\az (aR X.K (upd H p o)) (nd X.K R (λ_=>False) τ' (upd H p o)) [i] 0 xs' ds':=by
 obtain⟨τt,hτ,rp⟩:=rk;have LN:i<ρ.length:=by
  by_cases z:i<ρ.length
  ·exact z
  ·rw[List.getElem?_eq_none (by left)]at hi;cases hi
 obtain⟨o0,Bv,Oz,LJ⟩:=dN.some hp;have nR:∀a,R a->a≠p:=λa ha e=>by subst e;rw[Si.rt _ ha]at ht;cases ht
 have nT:∀a q,τt a=some q->a≠p:=λa q e z=>by subst z;rw[(hτ _ q e).1]at ht;cases ht
 have nO:∀a u,H a=some u->u≠o0->a≠p:=λa u e h z=>by subst z;rw[Bv]at e;cases e;exact h rfl
 have keep:∀a,a≠p->(upd H p o) a=H a:=λa h=>aW h;have J4:∀a ys,aR X.K H a ys->aR X.K (upd H p o) a ys:=λa ys h=>by
  rcases h with (h|⟨o',h⟩)|h
  ·exact .inl (.inl (by rw[keep a (nO a _ h λz=>Oz _ z.symm)];exact h))
  ·exact .inl (.inr ⟨o',by rw[keep a (nO a _ h λz=>LJ _ _ z.symm)];exact h⟩)
  ·exact .inr h
 have Q2:∀a (z:Nd),a≠p->dN H a z->dN (upd H p o) a z:=λa z ne h=>h.at λu e=>by rw[keep a ne];exact e
 have WU:∀{τ1:Addr->Option bq} q q' a (z:Nd),nd X.K R (λ_=>False) τ1 H q a z .sc->∀τ2,nd X.K R (λ_=>False) τ2 (upd H p o) q' a z .sc:=λq q' a z h τ2=>by
  obtain⟨ys,rfl,h⟩:=h.Ae;exact h.elim (λ⟨o',w⟩=>.inl ⟨o',by rw[keep a (nO a _ w λz=>LJ _ _ z.symm)];exact w⟩) .inr
 have WW:∀q a ys f,q≠[i]->nd X.K R (λ_=>False) τ H q a ys f->nd X.K R (λ_=>False) (λa=>match τt a with|some q=>some (q++[m,i])|none=>τ a) (upd H p o) q a ys f:=λq a ys f hq h=>by
  cases f with
  |ow =>
   have ne:a≠p:=λz=>by
    subst z;have:=h.2.symm.trans ht;exact hq (aap this)
   refine⟨Q2 a ys ne h.1,?_⟩;cases z:τt a with
   |none=>simp only[z];exact h.2
   |some k=>have:=(hτ a k z).1;rw[h.2]at this;cases this
  |fz=>exact⟨Q2 a ys (nR a h.2) h.1,h.2⟩
  |al=>exact h.2.elim
  |sc=>exact WU q q a ys h _
 have WA:(match τt p with|some q=>some (q++[m,i])|none=>τ p)=some [i]:=by
  cases z:τt p with
  |none=>exact ht
  |some k=>exact absurd rfl (nT p k z)
 have WV:az (aR X.K (upd H p o)) (nd X.K R (λ_=>False) (λa=>match τt a with|some q=>some (q++[m,i])|none=>τ a) (upd H p o)) [i] 0 xs' ds':=hb (az.child J4 (λc n a ys f h=>WW _ a ys f (λz=>by
  have:=aaJ List.length z;simp at this) h) rs) (rp.imp (q:=[]) (q':=[m,i]) J4 λc a ys f h=>by
  cases f with
  |ow =>
   rw[List.append_nil]at h;exact⟨Q2 a ys (nT a _ h.2) h.1,by simp only[h.2]⟩
  |fz=>exact⟨Q2 a ys (nR a h.2) h.1,h.2⟩
  |al=>exact h.2.elim
  |sc=>exact WU _ _ a ys h _)
 refine⟨λa=>match τt a with|some q=>some (q++[m,i])|none=>τ a,⟨by simp[Si.len],λj d' hj=>?_,λa ha=>?_,λa ha=>?_,Si.rf,λa q hq=>?_,λa q hq=>?_,?_⟩,WA,WV⟩
 ·by_cases gQ:j=i
  ·subst gQ;rw[List.getElem?_set_self LN]at hj;cases hj;exact⟨.ref p,hv,mk ⟨tq,WA⟩ WV⟩
  ·rw[List.getElem?_set_ne (Ne.symm gQ)]at hj;obtain⟨u,hu,ru⟩:=Si.rep j d' hj;refine⟨u,hu,ru.imp (q:=[j]) (q':=[j]) J4 λc a ys f h=>WW _ a ys f (λz=>?_) h⟩;have:=aaJ List.getLast? z;simp at this;exact gQ this
 ·cases z:τt a with
  |none=>simp only[z];exact Si.rt a ha
  |some k=>exact absurd ha (hτ a k z).2.1
 ·rw[keep a (nR a ha)];exact Si.rh a ha
 ·by_cases WT:a=p
  ·subst WT;rw[aS];simp
  ·rw[keep a WT];cases z:τt a with
   |none=>simp only[z]at hq;exact Si.th a q hq
   |some k=>exact(hτ a k z).2.2.2
 ·cases z:τt a with
  |none=>simp only[z]at hq;exact Si.t0 a q hq
  |some k=>exact(hτ a k z).2.2.1
 ·intro a u e;have ne:a≠p:=λz=>by subst z;rw[Si.t0 _ _ ht]at e;cases e
  rw[keep a ne];exact Si.same a u e
theorem SI.Iu{i m:Nat}{v:V}{d d1:D}{p:Addr}{n:Nd}{o:HO}(Si:SI X F R τ ρ σ H)(hi:ρ[i]?=some (some d0))(hv:σ[i]?=some (some (.ref p)))(hp:dN H p n)(ht:τ p=some [i])
  (rs:az (aR X.K H) (nd X.K R (λ_=>False) τ H) [i] 0 xs ds) (rk:gn X R τ H v d) (tq:dN (upd H p o) p n')
  (mk:∀{N:gZ},N [i] p n' .ow->az (aR X.K (upd H p o)) N [i] 0 xs' ds'->Rep (aR X.K (upd H p o)) N [i] (.ref p) d1)
  (hb:∀{N:gZ},az (aR X.K (upd H p o)) N [i] 0 xs ds->Rep (aR X.K (upd H p o)) N (m::[i]) v d->az (aR X.K (upd H p o)) N [i] 0 xs' ds') :
  ∃τ',SI X F R τ' (ρ.set i (some d1)) σ (upd H p o):=(Si.Nf hi hv hp ht rs rk tq mk hb).imp λ_ h=>h.1
theorem SI.put{i m:Nat}{v:V}{d:D}{g:ae->ae}{p:Addr}(Si:SI X F R τ ρ σ H)(hi:ρ[i]?=some (some (.lst .ow ds)))(hv:σ[i]?=some (some (.ref p)))(hp:H p=some (.lst xs))(ht:τ p=some [i])
  (rs:az (aR X.K H) (nd X.K R (λ_=>False) τ H) [i] 0 xs ds) (rk:gn X R τ H v d)
  (hb:∀{N:gZ},az (aR X.K (upd H p (.lst (g xs)))) N [i] 0 xs ds->Rep (aR X.K (upd H p (.lst (g xs)))) N (m::[i]) v d->az (aR X.K (upd H p (.lst (g xs)))) N [i] 0 (g xs) ds') :
  ∃τ',SI X F R τ' (ρ.set i (some (.lst .ow ds'))) σ (upd H p (.lst (g xs))) :=
 Si.Iu (n:=.l xs) (n':=.l (g xs)) hi hv hp ht rs rk aS (λh r=>.lst h r) hb
end
theorem jo{env:Env}:∀(names:List (Str×NameKind)) (acc:List (Str×Addr)),(∀x,(x,NameKind.free)∈names->∃c,env.cells.lookup x=some c) ->
  ∃cl,(forIn names acc (λ(y:Str×NameKind) (cs:List (Str×Addr))=>do
    let (name,kind):=y
    let mut cs:=cs
    if kind==.free then cs:=(name,<- cellOf env name)::cs
    pure (ForInStep.yield cs)):Sem (List (Str×Addr)))=pure cl /\
   (∀x c,cl.lookup x=some c->acc.lookup x=some c\/(env.cells.lookup x=some c/\(x,NameKind.free)∈names))/\(∀x,((x,NameKind.free)∈names\/(∃c,acc.lookup x=some c))->∃c,cl.lookup x=some c)
 |[],acc,_=>⟨acc,rfl,λx c h=>.inl h,λx h=>h.elim (λh=>nomatch h) id⟩
 | (n,kd)::names,acc,h=>by
  by_cases hk:kd=.free
  ·subst hk;obtain⟨c,hc⟩:=h n aaf;obtain⟨cl,e,h1,h2⟩:=jo names ((n,c)::acc) (λx hx=>h x (aad _ hx));refine⟨cl,?_,λx c' hx=>?_,λx hx=>?_⟩
   ·rw[List.forIn_cons];have e0:cellOf env n=pure c:=by unfold cellOf;rw[hc]
    simp only[beq_self_eq_true,if_true,e0,pure_bind];exact e
   ·rcases h1 x c' hx with z|z
    ·by_cases Oi:x=n
     ·subst Oi;simp at z;subst z;exact .inr ⟨hc,aaf⟩
     ·rw[List.lookup_cons]at z;have:(x==n)=false:=by simpa using Oi
      rw[this]at z;exact .inl z
    ·exact .inr ⟨z.1,aad _ z.2⟩
   ·refine h2 x ?_;rcases hx with hx|⟨c',hx⟩
    ·rcases List.mem_cons.mp hx with z|z
     ·cases z;exact .inr ⟨c,by simp⟩
     ·exact .inl z
    ·by_cases Oi:x=n
     ·subst Oi;exact .inr ⟨c,by simp⟩
     ·refine .inr ⟨c',?_⟩;rw[List.lookup_cons];have:(x==n)=false:=by simpa using Oi
      rw[this];exact hx
  ·obtain⟨cl,e,h1,h2⟩:=jo names acc (λx hx=>h x (aad _ hx));have hb:(kd==NameKind.free)=false:=by simpa using hk
   refine⟨cl,?_,λx c' hx=>(h1 x c' hx).imp id λz=>⟨z.1,aad _ z.2⟩,λx hx=>h2 x ?_⟩
   ·rw[List.forIn_cons];simp only[hb,Bool.false_eq_true,if_false,pure_bind];exact e
   ·rcases hx with hx|hx
    ·rcases List.mem_cons.mp hx with z|z
     ·cases z;exact absurd rfl hk
     ·exact .inl z
    ·exact .inr hx
variable {env:Env}
theorem vF{sc:Scope}(h:∀x,(x,NameKind.free)∈sc.names->∃c,env.cells.lookup x=some c):
  ∃cl,closureFor sc env=pure cl/\(∀x c,cl.lookup x=some c->env.cells.lookup x=some c)/\(∀x,(x,NameKind.free)∈sc.names->∃c,cl.lookup x=some c):=by
 obtain⟨cl,e,h1,h2⟩:=jo (env:=env) sc.names [] h;refine⟨cl,?_,λx c hx=>(h1 x c hx).elim (λz=>by simp at z) (·.1),λx hx=>h2 x (.inl hx)⟩;unfold closureFor;simp only[bind_pure];exact e
variable {P prog:aF}{e1 e2 iX iter o target tg:Expr}{w:World}
theorem qV{A:aE}{R:Result->Shared->Prop}{s:Shared}{elt:Expr}{ifs:au}{scope:Scope}{it acc:Value}(I:Nat->Shared->Prop)
  (turn:∀n s,I n s->wpAny (model prog w) A (pyNext it) (λr s₁=>match r with
   |none=>R (.ok .next) s₁
   |some v=>wpAny (model prog w) A (letOwnedTupleGo target it v) (λ_ s₁=>wpAny (model prog w) A (assign target env v) (λ_ s₂ =>
     wpAny (model prog w) A (forIn ifs true λc r=>if r=true then do let ok <- isTrue c env (eval c env);pure (ForInStep.yield ok)else pure (ForInStep.yield r)) (λok s₃ =>
      if ok=true then wpAny (model prog w) A (eval elt env) (λx s₄ =>
       wpAny (model prog w) A (call (.builtin "list.append") [acc,x]) (λ_ s₅=>∃m,m<n/\I m s₅) (λ_ _=>False) s₄) (λ_ _=>False) s₃
      else ∃m,m<n/\I m s₃) (λ_ _=>False) s₂) (λ_ _=>False) s₁) (λ_ _=>False) s₁) (λ_ _=>False) s)
  (n:Nat) (h:I n s) :
  codeAny (model prog w) A (.compLoop (.ListComp elt [⟨target,iter,ifs,0⟩] scope pos) 0 it acc env) R s:=by
 refine codeAny_loop rfl I (λn s hI=>?_) n h;show wpAny _ A ((compTurn (.ListComp elt [⟨target,iter,ifs,0⟩] scope pos) 0 it acc env).onRaise (λx=>do noteFrame x env;theTreesLotGoes x)) _ _ s;refine wpAny_noted ?_;rw[compTurn_list];refine aaa (acb (aaa (aaw (turn n s hI) (λr s₁ h₁=>?_) λ_ _ h'=>h'.elim)));cases r with
 |none=>exact aab h₁
 |some v =>
  refine aaa (aaw h₁ (λ_ s₂ h₂=>?_) λ_ _ h'=>h'.elim);refine aaa (aaw h₂ (λ_ s₂ h₂=>aaa (aaw h₂ (λok s₃ h₃=>?_) λ_ _ h'=>h'.elim)) λ_ _ h'=>h'.elim);cases ok with
  |false=>exact aab ⟨rfl,h₃⟩
  |true =>
   exact aaa (aaa (aaw h₃ (λx s₄ h₄=>aaa (aaw h₄ (λ_ s₅ h₅=>aab (aab ⟨rfl,h₅⟩)) λ_ _ h'=>h'.elim)) λ_ _ h'=>h'.elim))
noncomputable def dY(X:Cx)(N':ak)(scope:Scope)(cl:List (Str×Addr))(C:Addr)(s₀:Shared)(H₀:Hp)(fp:aO):Cx :=
 { X with N:=N',s₀:=s₀,H₀:=H₀,env:=compEnvC scope cl C X.env,outer:=X.stack,stack:=X.stack,ex:=fp,fn:=λ_=>false,pn:=[],xe:=λ_ _=>False }
theorem fq{env:Env}:∀{names:List (Str×NameKind)} {x:Str} {kd:NameKind},(names.map λ(n,k)=>if (k==NameKind.free&&env.scope.kind==.function&&env.kindOf n==some .cell)then(n,NameKind.cell)else(n,k)).lookup x=some kd ->
  names.lookup x=some kd\/(kd=.cell/\names.lookup x=some .free)
 |[],_,_,h=>by simp at h
 | (n,k)::r,x,kd,h=>by
  rw[List.map_cons]at h;cases hx:x==n with
  |true =>
   by_cases hc:(k==NameKind.free&&env.scope.kind==.function&&env.kindOf n==some .cell)=true
   ·simp only[hc,if_true,List.lookup_cons,hx]at h;cases h;simp only[Bool.and_eq_true,beq_iff_eq]at hc;refine .inr ⟨rfl,?_⟩;rw[List.lookup_cons,hx,hc.1.1]
   ·have ph:(k==NameKind.free&&env.scope.kind==.function&&env.kindOf n==some .cell)=false:=by simpa using hc
    simp only[ph,Bool.false_eq_true,if_false,List.lookup_cons,hx]at h;cases h;exact .inl (by rw[List.lookup_cons,hx])
  |false =>
   have:List.lookup x (r.map λ(n,k)=>if (k==NameKind.free&&env.scope.kind==.function&&env.kindOf n==some .cell)then(n,NameKind.cell)else(n,k))=some kd:=by
    by_cases hc:(k==NameKind.free&&env.scope.kind==.function&&env.kindOf n==some .cell)=true
    ·simp only[hc,if_true,List.lookup_cons,hx]at h;exact h
    ·have ph:(k==NameKind.free&&env.scope.kind==.function&&env.kindOf n==some .cell)=false:=by simpa using hc
     simp only[ph,Bool.false_eq_true,if_false,List.lookup_cons,hx]at h;exact h
   rw[List.lookup_cons,hx];exact fq this
theorem dh{env:Env}:∀{names:List (Str×NameKind)} {x:Str},names.lookup x=some .free ->
  (names.map λ(n,k)=>if (k==NameKind.free&&env.scope.kind==.function&&env.kindOf n==some .cell)then(n,NameKind.cell)else(n,k)).lookup x=some .free \/
  (names.map λ(n,k)=>if (k==NameKind.free&&env.scope.kind==.function&&env.kindOf n==some .cell)then(n,NameKind.cell)else(n,k)).lookup x=some .cell
 |[],_,h=>by simp at h
 | (n,k)::r,x,h=>by
  rw[List.map_cons];cases hx:x==n with
  |true =>
   rw[List.lookup_cons,hx]at h;cases h;by_cases hc:(NameKind.free==NameKind.free&&env.scope.kind==.function&&env.kindOf n==some .cell)=true
   ·simp only[hc,if_true,List.lookup_cons,hx];exact .inr trivial
   ·have ph:(NameKind.free==NameKind.free&&env.scope.kind==.function&&env.kindOf n==some .cell)=false:=by simpa using hc
    simp only[ph,Bool.false_eq_true,if_false,List.lookup_cons,hx];exact .inl trivial
  |false =>
   rw[List.lookup_cons,hx]at h;by_cases hc:(k==NameKind.free&&env.scope.kind==.function&&env.kindOf n==some .cell)=true
   ·simp only[hc,if_true,List.lookup_cons,hx];exact dh h
   ·have ph:(k==NameKind.free&&env.scope.kind==.function&&env.kindOf n==some .cell)=false:=by simpa using hc
    simp only[ph,Bool.false_eq_true,if_false,List.lookup_cons,hx];exact dh h
theorem dA{names:List (Str×NameKind)}{x:Str}{kd:NameKind}(h:names.lookup x=some kd):(x,kd)∈names:=aa0 h
structure jA(S:Sx)(n:Nat)(t:Tg)(caps:aQ)(target:Expr)(sc:Scope):Prop where
 kind:sc.kind=.function
 AR:∀y∈sc.names,y.2≠.cell
 loc:∀y∈sc.names,y.2=.local->sc.names.lookup y.1=some .local
 free:∀x,(x,NameKind.free)∈sc.names->S.sc.names.lookup x=some .cell\/S.sc.names.lookup x=some .free
 n:n=(cj target).length
 tl:∀x∈cj target,sc.names.lookup x=some .local
 nd:(cj target++fS S caps).Nodup
 cg:∀i∈caps,∃x,S.N[i]?=some x/\sc.names.lookup x=some .free
 tg:(∃x p,t=.nm 0/\target=.Name x p)\/(∃es k p,t=.tp (List.range es.length)/\target=.Tuple es k p/\es.all isNm=true)
theorem pE{n:Nat}{t:Tg}{sc:Scope}(h:qZ S n t caps target sc=true):jA S n t caps target sc:=by
 unfold qZ at h;simp only[Bool.and_eq_true,decide_eq_true_eq,List.all_eq_true,Bool.or_eq_true]at h;obtain⟨⟨⟨⟨⟨⟨h1,h2⟩,h3⟩,h4⟩,h5⟩,h6⟩,h7⟩:=h;refine⟨h1,λy hy=>(h2 y hy).1.1,λy hy hk=>?_,λx hx=>?_,h3,h4,h5,λi hi=>?_,?_⟩
 ·rcases(h2 y hy).1.2 with z|z
  ·exact absurd hk z
  ·exact z
 ·rcases(h2 _ hx).2 with (z|z)|z
  ·exact absurd rfl z
  ·exact .inl z
  ·exact .inr z
 ·have:=h6 i hi;split at this
  ·rename_i x e;exact⟨x,e,aac this⟩
  ·cases this
 ·cases t with
  |nm i =>
   obtain⟨g1,g2⟩:=aN h7;obtain rfl:i=0:=aac g1;cases target<;>first | (cases g2;done)|exact .inl ⟨_,_,rfl,rfl⟩
  |tp is =>
   obtain⟨es,hv,g⟩:=bx h7;obtain⟨k,p,rfl⟩:=iE hv;obtain⟨g1,g2⟩:=aN g;obtain rfl:is=_:=aac g1;exact .inr ⟨es,k,p,rfl,rfl,g2⟩
theorem ud{S:Sx}:∀{caps:aQ},(∀i∈caps,∃x,S.N[i]?=some x)->(fS S caps).length=caps.length/\∀(j i:Nat),caps[j]?=some i->(fS S caps)[j]?=S.N[i]?
 |[],_=>⟨rfl,λj i h=>by simp at h⟩
 |i::caps,h=>by
  obtain⟨x,hx⟩:=h i aaf;obtain⟨h1,h2⟩:=ud (caps:=caps) λj hj=>h j (aad _ hj);have e:fS S (i::caps)=x::fS S caps:=by unfold fS;rw[List.filterMap_cons,hx]
  rw[e];refine⟨by simp[h1],λj k hj=>?_⟩;cases j with
  |zero=>simp at hj;subst hj;simp[hx]
  |succ j=>simp at hj ⊢;exact h2 j k hj
variable {base h' h₁:Heap}
section
variable {X:Cx}{S:Sx}{k:Nat}{Φ:a_}{pins:aj}{σ:St}{H2:Hp}{s₂:Shared}
noncomputable def oh(n:Nat)(caps:aQ)(σ:St):St:=List.replicate n none++caps.map λi=>σ[i]?.getD none
noncomputable def eM(aK:ao)(n:Nat):Obj:={ cls:=.type "list",data:=.seq aK.toArray n }
theorem FH{n:Nat}{t:Tg}{sc:Scope}{cl:List (Str×Addr)}(L:Lk X S k Φ)(co:jA S n t caps target sc)(I2:Inv X pins σ H2 s₂)
  (lP:∀x c,cl.lookup x=some c->X.env.cells.lookup x=some c) (vo:∀x,(x,NameKind.free)∈sc.names->∃c,cl.lookup x=some c) (EU:∀b∈fp,nV X pins H2 b) (JU:∀b∈fp,b<s₂.heap.objs.size) :
  (dY X (cj target++fS S caps) sc cl (s₂.heap.objs.size+1) s₂ H2 fp).Ok:=by
 have Ot:=I2.kD;refine⟨I2.ok.mod,co.kind,I2.ok.glob,I2.ok.blt,ab8 _,λx y c h1 h2=>I2.ok.inj x y c (lP x c h1) (lP y c h2),λx hx=>?_,(λ_ _ z=>by cases z),I2.ok.hd,I2.ok.frames,.inl rfl,λb hb=>⟨?_,λx c e=>(EU b hb).2.2.2.2.1 x c (lP x c e)⟩,I2.bs,aax I2.ok.Hc I2.sz,λb o e hb=>?_,λb hb z=>?_,I2.stack,I2.vY⟩
 ·have Br:(relabel sc X.env).names.lookup x=some .cell\/(relabel sc X.env).names.lookup x=some .free:=hx;rcases Br with Br|Br
  ·rcases fq Br with z|z
   ·exact absurd rfl (co.AR _ (dA z))
   ·exact vo x (dA z.2)
  ·rcases fq Br with z|z
   ·exact vo x (dA z)
   ·cases z.1
 ·exact aam (aaI (JU b hb))
 ·rcases(EU b hb).2.2.2.1 with z|z
  ·exact I2.ok.AQ b o e z
  ·exact absurd (aaj (aah e) (aax I2.ok.Hc z)) (aat _)
 ·rcases List.mem_cons.mp (Ot b z)with w|w
  ·exact(EU b hb).2.1 w
  ·exact(EU b hb).2.2.1 w
theorem Bl{n:Nat}{t:Tg}{sc:Scope}{cl:List (Str×Addr)}{tk:Nat}(L:Lk X S k Φ)(co:jA S n t caps target sc)(I2:Inv X pins σ H2 s₂)
  (lP:∀x c,cl.lookup x=some c->X.env.cells.lookup x=some c) (vo:∀x,(x,NameKind.free)∈sc.names->∃c,cl.lookup x=some c) (EU:∀b∈fp,nV X pins H2 b) (JU:∀b∈fp,b<s₂.heap.objs.size)
  (yF:h₁.Ns (s₂.heap.objs.size+1) λ_=>none) (old:∀b o,s₂.heap.get? b=some o->h₁.get? b=some o) (fG:h₁.get? s₂.heap.objs.size=some (eM [] 0)) :
  Inv (dY X (cj target++fS S caps) sc cl (s₂.heap.objs.size+1) s₂ H2 fp) [(s₂.heap.objs.size,eM [] 0)] (oh n caps σ) H2 { s₂ with heap:=h₁,toks:=tk }:=by
 have lQ:∀i∈caps,∃x,S.N[i]?=some x:=λi hi=>let ⟨x,e,_⟩:=co.cg i hi;⟨x,e⟩;obtain⟨ZY,ZX⟩:=ud lQ;refine⟨FH L co I2 lP vo EU JU,rfl,I2.bare,Un.kept old,⟨_,yF,λi x v e1 e2 e3=>?_⟩,λx c e=>?_,I2.cQ.fresh (ab8 _),λx c e=>I2.i7 x c (lP x c e),λp hp=>?_,I2.cQ.kept old,?_⟩
 ·unfold oh at e2;have hi:n<=i:=by
   by_cases hi:i<n
   ·rw[List.getElem?_append_left (by simpa using hi),List.getElem?_replicate,if_pos hi]at e2;cases e2
   ·left
  have G6:(cj target++fS S caps)[i]?=some x:=e1;rw[List.getElem?_append_right (by rw[<- co.n];exact hi),<- co.n]at G6;rw[List.getElem?_append_right (by simpa using hi),List.length_replicate,List.getElem?_map]at e2;cases hc:caps[i - n]? with
  |none=>rw[hc]at e2;cases e2
  |some ci =>
   rw[hc]at e2;rw[ZX _ _ hc]at G6;obtain⟨x',Vd,QY⟩:=co.cg ci (aaq hc);rw[Vd]at G6;cases G6;have ZT:σ[ci]?=some (some v):=by
    have Pz:σ[ci]?.getD none=some v:=aap e2;cases q:σ[ci]? with
    |none=>rw[q]at Pz;cases Pz
    |some o=>rw[q]at Pz;simp at Pz;rw[Pz]
   have TX:Hj X.env.scope x:=by
    unfold Hj;rw[L.sc];rcases co.free x (dA QY)with z|z
    ·exact .inr (.inl z)
    ·exact .inr (.inr z)
   obtain⟨m,hn,hl⟩:=I2.loc;obtain⟨u,r,lk⟩:=hl ci x v (by rw[L.N];exact Vd) ZT TX;refine⟨u,r,.inr ⟨?_,?_⟩⟩
   ·rcases dh (env:=X.env) QY with z|z
    ·exact .inr z
    ·exact .inl z
   ·have Y5:∃c,X.env.cells.lookup x=some c/\s₂.heap.IsCell c (some u):=by
     rcases lk with ⟨z,_⟩|⟨_,z⟩
     ·have z':X.env.scope.names.lookup x=some .local:=z;rw[L.sc]at z';rcases co.free x (dA QY)with w|w<;>(rw[w]at z';cases z')
     ·exact z
    obtain⟨c,ec,o,ho,hd⟩:=Y5;obtain⟨c',W_⟩:=vo x (dA QY);have:=lP x c' W_;rw[ec]at this;cases this;exact⟨c,W_,o,old _ _ ho,hd⟩
 ·obtain⟨v,o,ho,hd⟩:=I2.cell x c (lP x c e);exact⟨v,o,old _ _ ho,hd⟩
 ·have tj:p=(s₂.heap.objs.size,eM [] 0):=by simpa [dY]using hp
  subst tj;refine⟨fG,I2.cQ.fresh (aai _),aam (aaT _),λz=>?_,λv z=>by cases z⟩;rcases List.mem_cons.mp (I2.kD _ z)with w|w
  ·exact absurd w (aas I2.lt)
  ·exact I2.Jd (aai _) w
 ·show(oh n caps σ).length=(cj target++fS S caps).length;unfold oh;rw[List.length_append,List.length_append,List.length_replicate,List.length_map,ZY,co.n]
end
theorem az.snoc{T:ka}{N:gZ}{k:bq}:∀{n:Nat} {vs:ae} {ds:ab} {v:V} {d:D},az T N k n vs ds->Rep T N ((n+ds.length)::k) v d->az T N k n (vs++[v]) (ds++[d])
 |n,_,_,_,_,.nil,h=>.cons h .nil
 |n,_,_,_,_,.cons (ds:=ds) h t,r=>.cons h (az.snoc t (by
  have e:n+(ds.length+1)=n+1+ds.length:=by left
  rw[List.length_cons,e]at r;exact r))
open Classical in
theorem cv.snoc{K:aq}{G R:ai}{τ:Addr->Option bq}{fv:aQ}{H H1 H2:Hp}{v:V}{d:D}{vs:ae}{ds:ab}(e1:aM H H1)(e2:aM H1 H2)(h:cv K G R τ fv H H1 vs ds)(t:bT K G R τ fv H1 H2 v d):
  cv K G R τ fv H H2 (vs++[v]) (ds++[d]):=by
 obtain⟨τ1,f1,h1⟩:=h;obtain⟨τ2,f2,h2⟩:=t;refine⟨λp=>if H1 p=none then(τ2 p).map (· ++ [ds.length])else τ1 p,λp q hq=>?_,az.snoc (h1.imp (q:=[]) (q':=[]) (λ_ _ h=>aR.same e2 h) λc p xs f h=>?_) ((Nat.zero_add ds.length).symm▸h2.imp (q:=[]) (q':=[ds.length]) (λ_ _ h=>h) λc p xs f h=>?_)⟩
 ·dsimp only at hq;by_cases hp:H1 p=none
  ·exact e1.free hp
  ·rw[if_neg hp]at hq;exact f1 p q hq
 ·have h':=nd.same e2 h;cases f with
  |ow =>
   refine⟨h'.1,?_⟩;show(if H1 p=none then(τ2 p).map (· ++ [ds.length])else τ1 p)=_;rw[if_neg (h.1.ne)];exact h.2
  |fz=>exact h'
  |al=>exact h'
  |sc=>exact h'
 ·cases f with
  |ow =>
   refine⟨h.1,?_⟩;show(if H1 p=none then(τ2 p).map (· ++ [ds.length])else τ1 p)=_;rw[if_pos (f2 p _ h.2),h.2];simp
  |fz=>exact h
  |al=>exact h
  |sc=>exact h
structure Yl(K:aq)(J:It)(R:ai)(H1:Hp)(items:ab):Prop where
 go:∀i H',aM H1 H'->i<items.length->J.go i H'
 ui:∀i H' x lF,aM H1 H'->i<items.length->J.ui i H' x lF->aM H' lF/\∃d,items[i]?=some d/\Rep (aR K lF) (nd K R (λ_=>False) (λ_=>none) lF) [] x d
 stop:∀i H',aM H1 H'->items.length<=i->J.stop i H'
variable {C i1 i2 it l1 l2:Addr}{s₂:Shared}
section
variable {X:Cx}{S:Sx}{k:Nat}{F:ai}{Φ:a_}
def kG(X:Cx)(F:ai)(τ:Addr->Option bq)(fv:aQ)(H2:Hp)(p:Addr):Prop:=H2 p≠none/\iY (gP X F) τ fv p
theorem uL{τt:Addr->Option bq}(Si:SI X F R τ ρ σ H)(fr:∀p q,τt p=some q->H p=none)(hs:∀i∈fv,i∈fv')(kp kq:bq)(p:Addr)(xs:Nd)(f:Fl)
  (h:nd X.K R (iY (gP X F) τ fv) τt H2 kp p xs f):nd X.K (kG X F τ fv' H2) (λ_=>False) (λ_=>none) H2 kq p xs (aV f):=by
 cases f with
 |ow=>exact⟨h.1,h.1.ne,.inr (Si.same.free (fr p _ h.2)),λc i e=>absurd (fr p _ h.2) (Si.th p _ e)⟩
 |fz=>exact⟨h.1,h.1.ne,Si.rf p h.2,λc i e=>by rw[Si.rt p h.2]at e;cases e⟩
 |al=>exact⟨h.1,h.1.ne,h.2.mono hs⟩
 |sc=>exact h
theorem Dd{a:Addr}{q:bq}(hl:cX X.K H1 a xs)(rs:az (aR X.K H1) (nd X.K R (λ_=>False) (λ_=>none) H1) q 0 xs items):Yl X.K (L7 X.K a) R H1 items where
 go:=λi H' e hi=>⟨xs,xs[i]'(by rw[rs.length];exact hi),e.seq hl,aal _⟩
 ui:=λi H' x lF e hi y=>by
  obtain⟨rfl,y⟩:=y;obtain⟨d,hd,rd⟩:=rs.tI (y xs (e.seq hl));refine⟨aM.refl _,d,hd,?_⟩;have:=Rep.il (g:=id) (λ_ _ h=>h) nd.nc rd [];rw[dH]at this;exact this.imp (λ_ _ h=>aR.same e h) λ_ _ _ _ h=>nd.same e h
 stop:=λi H' e hi=>⟨xs,e.seq hl,by rw[rs.length];exact hi⟩
theorem Ht{a:Addr}{q:bq}(hl:aR X.K H1 a xs)(rs:az (aR X.K H1) (nd X.K R (λ_=>False) (λ_=>none) H1) q 0 xs items):Yl X.K (L6 X.K a) R H1 items where
 go:=λi H' e hi=>⟨xs,xs[i]'(by rw[rs.length];exact hi),aR.same e hl,aal _⟩
 ui:=λi H' x lF e hi y=>by
  obtain⟨rfl,y⟩:=y;obtain⟨d,hd,rd⟩:=rs.tI (y xs (aR.same e hl));refine⟨aM.refl _,d,hd,?_⟩;have:=Rep.il (g:=id) (λ_ _ h=>h) nd.nc rd [];rw[dH]at this;exact this.imp (λ_ _ h=>aR.same e h) λ_ _ _ _ h=>nd.same e h
 stop:=λi H' e hi=>⟨xs,aR.same e hl,by rw[rs.length];exact hi⟩
theorem Hu{lo:Int}{n:Nat}:Yl X.K (zi lo n) R H1 ((List.range n).map λ(k:Nat)=>D.int (lo+(k:Int))) where
 go:=λi H' e hi=>by simpa [zi]using hi
 ui:=λi H' x lF e hi y=>by
  obtain⟨rfl,rfl⟩:=y;have mf:i<n:=by simpa using hi
  exact⟨aM.refl _,.int (lo+i),by rw[List.getElem?_map,List.getElem?_range mf];rfl,.int _⟩
 stop:=λi H' e hi=>by simpa [zi]using hi
theorem Aa{n:Nat}{t:Tg}{sc:Scope}{cl:List (Str×Addr)}(Si:SI X F R τ ρ σ H2)(hs:∀i∈caps,i∈fv):
  SI (dY X (cj target++fS S caps) sc cl C s₂ H2 fp) (iY (gP X F) τ fv) (kG X F τ fv H2) (λ_=>none) (bP n caps ρ) (oh n caps σ) H2:=by
 refine⟨by simp[bP,oh],λi d hi=>?_,λ_ _=>rfl,λp h=>h.1,λp h=>.inl h.2,λ_ _ h=>by simp at h,λ_ _ h=>by simp at h,aM.refl _⟩;unfold bP at hi;have hn:n<=i:=by
  by_cases hn:i<n
  ·rw[List.getElem?_append_left (by simpa using hn),List.getElem?_replicate,if_pos hn]at hi;cases hi
  ·left
 rw[List.getElem?_append_right (by simpa using hn),List.length_replicate,List.getElem?_map]at hi;cases hc:caps[i - n]? with
 |none=>rw[hc]at hi;exact nk hi
 |some ci =>
  rw[hc]at hi;have mf:(ρ[ci]?.getD none).map (aU aV)=some d:=aap hi;have hr:∃d0,ρ[ci]?=some (some d0)/\aU aV d0=d:=by
   cases q:ρ[ci]? with
   |none=>rw[q]at mf;cases mf
   |some o =>
    cases o with
    |none=>rw[q]at mf;cases mf
    |some d0=>rw[q]at mf;exact⟨d0,rfl,aap mf⟩
  obtain⟨d0,h0,rfl⟩:=hr;obtain⟨v,hv,rv⟩:=Si.rep ci d0 h0;refine⟨v,?_,Rep.il (λ_ _ h=>h) (λkp kq p xs f h=>?_) ((rv.imp (q:=[ci]) (q':=[ci]) (N':=λq p xs f=>nd X.K R (λ_=>False) τ H2 q p xs f/\(f=.ow->∃c,q=c++[ci])) (λ_ _ h=>h) λc p xs f h=>⟨h,λ_=>⟨c,rfl⟩⟩)) [i]⟩
  ·unfold oh;rw[List.getElem?_append_right (by simpa using hn),List.length_replicate,List.getElem?_map,hc];simp[hv]
  ·obtain⟨h,hq⟩:=h;cases f with
   |ow =>
    obtain⟨c,rfl⟩:=hq rfl;refine⟨h.1,h.1.ne,.inr (Si.t0 p _ h.2),λc' i' e=>?_⟩;rw[h.2]at e;have:=aaJ List.getLast? (aap e);simp at this;subst this;exact hs _ (aaq hc)
   |fz=>exact⟨h.1,h.1.ne,Si.rf p h.2,λc i e=>by rw[Si.rt p h.2]at e;cases e⟩
   |al=>exact h.2.elim
   |sc=>exact h
theorem AU:∀{es:au},es.all isNm=true->∃xs:List (Str×Pos),es=xs.map λx=>Expr.Name x.1 x.2
 |[],_=>⟨[],rfl⟩
 |e::es,h=>by
  rw[List.all_cons,Bool.and_eq_true]at h;obtain⟨xs,rfl⟩:=AU h.2;cases e<;>simp[isNm]at h;exact⟨(_,_)::xs,rfl⟩
theorem uG(xs:List (Str×Pos)):(xs.map λx=>Expr.Name x.1 x.2).filterMap (λe=>match e with|.Name x _=>some x|_=>none)=xs.map (·.1):=by
 induction xs with
 |nil=>rfl
 |cons x xs ih=>simp[ih]
def BQ(i:Nat):Nat->FZ
 |0=>Kc
 |n+1=>BR (pk i) (BQ (i+1) n)
theorem wD{X:Cx}(hN:X.N.Nodup):∀(xs:List (Str×Pos)) (i:Nat),(∀(j:Nat) x,xs[j]?=some x->X.N[i+j]?=some x.1/\X.env.scope.names.lookup x.1=some .local) ->
  L5 X (xs.map λx=>Expr.Name x.1 x.2) (BQ i xs.length)/\(assignEach (xs.map λx=>Expr.Name x.1 x.2) X.env).length=xs.length/\(assignEach (xs.map λx=>Expr.Name x.1 x.2) X.env).findIdx? (·.1)=none
 |[],_,_=>⟨wB,rfl,rfl⟩
 |x::xs,i,h=>by
  obtain⟨h1,h2,h3⟩:=wD hN xs (i+1) λj y hy=>by
   have:=h (j+1) y (by simpa using hy)
   rwa [show i+(j+1)=i+1+j by left]at this
  obtain⟨g1,g2⟩:=h 0 x rfl;refine⟨sQ (qc hN g1 (.inl g2) (.inr g2)) h1 rfl,?_,?_⟩
  ·show(_::assignEach _ X.env).length=_;rw[List.length_cons,h2];rfl
  ·show(((false,assign (.Name x.1 x.2) X.env)::assignEach (xs.map λx=>Expr.Name x.1 x.2) X.env)).findIdx? (·.1)=none;rw[List.findIdx?_cons];simp[h3]
end
section
variable {X:Cx}{F R:ai}{τ:Addr->Option bq}{ρ:ba}{σ σ':St}{H:Hp}
theorem SI.MP{i:Nat}{v:V}{d:D}(Si:SI X F R τ ρ σ H)(rp:Rep (aR X.K H) (nd X.K R (λ_=>False) (λ_=>none) H) [] v d)(hi:i<ρ.length):SI X F R τ (ρ.set i (some d)) (σ.set i (some v)) H:=by
 refine⟨by simp[Si.len],λj d' hj=>?_,Si.rt,Si.rh,Si.rf,Si.th,Si.t0,Si.same⟩;by_cases gQ:j=i
 ·subst gQ;rw[List.getElem?_set_self hi]at hj;cases hj;refine⟨v,List.getElem?_set_self (by rw[<- Si.len];exact hi),rp.imp (q':=[j]) (λ_ _ h=>h) λc p xs f h=>?_⟩;cases f with
  |ow=>exact nomatch h.2
  |fz=>exact h
  |al=>exact h
  |sc=>exact h
 ·rw[List.getElem?_set_ne (Ne.symm gQ)]at hj;obtain⟨w,hw,gy⟩:=Si.rep j d' hj;exact⟨w,by rw[List.getElem?_set_ne (Ne.symm gQ)];exact hw,gy⟩
theorem SI.sig(Si:SI X F R τ ρ σ H)(hl:σ'.length=σ.length)(h:∀(i:Nat) d,ρ[i]?=some (some d)->σ'[i]?=σ[i]?):SI X F R τ ρ σ' H :=
 ⟨by rw[hl];exact Si.len,λi d hi=>let ⟨v,hv,r⟩:=Si.rep i d hi;⟨v,by rw[h i d hi];exact hv,r⟩,Si.rt,Si.rh,Si.rf,Si.th,Si.t0,Si.same⟩
theorem mJ{Q:St->Hp->Prop}(σ0:St)(hi:Nat):∀{m i:Nat} {vs:ae} {ds:ab} {kp:bq} {q:Nat} {σ:St} {ρ ρ':ba},i+m=hi->az (aR X.K H) (nd X.K R (λ_=>False) (λ_=>none) H) kp q vs ds->SI X F R τ ρ σ H->gO (List.range' i m) ds ρ=ok ρ' ->
  σ.length=σ0.length->(∀j,hi<=j->σ[j]?=σ0[j]?)->(∀σ',σ'.length=σ0.length->(∀j,hi<=j->σ'[j]?=σ0[j]?)->SI X F R τ ρ' σ' H->Q σ' H)->BQ i m vs σ H Q
 |0,_,_,_,_,_,σ,_,_,_,.nil,Si,e,h1,h2,hq=>by
  cases e;exact⟨rfl,hq σ h1 h2 Si⟩
 |0,_,_,_,_,_,_,_,_,_,.cons _ _,_,e,_,_,_=>by cases e
 |m+1,_,_,_,_,_,_,_,_,_,.nil,_,e,_,_,_=>by cases e
 |m+1,i,_,_,_,_,σ,ρ,_,him,.cons (v:=v) (d:=d) h t,Si,e,h1,h2,hq=>by
  change (if _ then _ else _)=_ at e;split at e
  ·rename_i mf;have fM:=Si.MP (i:=i) (Rep.qo h) mf;refine⟨_,_,rfl,mJ σ0 hi (by left) t fM e (by simpa using h1) (λj hj=>?_) hq⟩;rw[List.getElem?_set_ne (by left)];exact h2 j hj
  ·cases e
end
section
variable {X:Cx}{S:Sx}{k:Nat}{F:ai}{Φ:a_}
theorem HF{n:Nat}{t:Tg}{sc:Scope}{cl:List (Str×Addr)}(OU:X.calm=true)(co:jA S n t caps target sc):
  ∃g,PG (dY X (cj target++fS S caps) sc cl C s₂ H2 fp) target g/\∀(F' R':ai) (x:V) (d:D) (σ':St) (lF:Hp) (Q:St->Hp->Prop) (ρb ρ1:ba),
   SI (dY X (cj target++fS S caps) sc cl C s₂ H2 fp) F' R' (λ_=>none) ρb σ' lF->Rep (aR X.K lF) (nd X.K R' (λ_=>False) (λ_=>none) lF) [] x d->aH bX d=false->cy t d ρb=ok ρ1 ->
   (∀σ2,σ2.length=σ'.length->(∀j,n<=j->σ2[j]?=σ'[j]?)->SI (dY X (cj target++fS S caps) sc cl C s₂ H2 fp) F' R' (λ_=>none) ρ1 σ2 lF->Q σ2 lF)->g x σ' lF Q:=by
 have JS:∀x∈cj target,(relabel sc X.env).names.lookup x=some .local:=λx hx=>lookup_relabel_local (co.tl x hx);rcases co.tg with ⟨x,p,rfl,rfl⟩|⟨es,kk,p,rfl,rfl,yI⟩
 ·have hn:n=1:=co.n;subst hn;refine⟨pk 0,qc co.nd rfl (.inl (JS x (List.mem_singleton.mpr rfl:x∈[x]))) (.inr (JS x (List.mem_singleton.mpr rfl:x∈[x]))),λF' R' v d σ' lF Q ρb ρ1 Si rp _ e hq=>?_⟩;simp only[cy]at e;split at e
  ·rename_i hi;cases e;refine hq _ (by simp) (λj hj=>?_) (Si.MP rp hi);rw[List.getElem?_set_ne (by left)]
  ·cases e
 ·obtain⟨xs,rfl⟩:=AU yI;have hN:cj (.Tuple (xs.map λx=>Expr.Name x.1 x.2) kk p)=xs.map (·.1):=uG xs;have hn:n=xs.length:=by rw[co.n,hN,List.length_map]
  have:=wD (X:=dY X (cj (.Tuple (xs.map λx=>Expr.Name x.1 x.2) kk p)++fS S caps) sc cl C s₂ H2 fp) co.nd xs 0 (λj y hy=>by
   refine⟨?_,JS y.1 (by rw[hN];exact List.mem_map.mpr ⟨y,aaq hy,rfl⟩)⟩;show(cj (.Tuple (xs.map λx=>Expr.Name x.1 x.2) kk p)++fS S caps)[0+j]?=_;have hj:j<xs.length:=by
    by_cases hj:j<xs.length
    ·exact hj
    ·rw[List.getElem?_eq_none (by left)]at hy;cases hy
   rw[hN,Nat.zero_add,List.getElem?_append_left (by simpa using hj),List.getElem?_map,hy];rfl)
  obtain⟨h1,h2,h3⟩:=this;refine⟨_,Aw OU h1 h2 h3,λF' R' v d σ' lF Q ρb ρ1 Si rp ho e hq=>?_⟩;cases d<;>try (simp[cy]at e;done)
  rename_i ds;simp only[cy]at e;split at e
  ·cases e
  ·cases rp with
   | @tup _ a ys _ hp rs =>
    rw[List.length_map]at e;have e':gO (List.range' 0 xs.length) ds ρb=ok ρ1:=by rw[<- List.range_eq_range'];exact e
    refine⟨a,ys,rfl,hp,?_,mJ (X:=dY X (cj (.Tuple (xs.map λx=>Expr.Name x.1 x.2) kk p)++fS S caps) sc cl C s₂ H2 fp) σ' n (by left) rs Si e' rfl (λ_ _=>rfl) hq⟩;rw[rs.length];have:∀(is:aQ) (ds:ab) (ρ ρ':ba),gO is ds ρ=ok ρ'->ds.length=is.length:=by
     intro is;induction is with
     |nil=>intro ds ρ ρ' e;cases ds with|nil=>rfl|cons _ _=>cases e
     |cons i is ih=>intro ds ρ ρ' e;cases ds with
      |nil=>cases e
      |cons d ds =>
       change (if _ then _ else _)=_ at e;split at e
       ·simp[ih ds _ _ e]
       ·cases e
    rw[this _ _ _ _ e',List.length_range']
theorem SU:∀f:Fl,bX (aV f)=false:=by intro f;cases f<;>rfl
mutual
theorem Eo:∀d:D,aH bX (aU aV d)=false
 |.cw=>by simp[aU,aH]
 |.bl _=>by simp[aU,aH]
 |.int _=>by simp[aU,aH]
 |.tup ds=>by simp[aU,aH,fm ds]
 |.lst f ds=>by simp[aU,aH,fm ds,SU]
 |.bV f ks vs=>by simp[aU,aH,fm vs,SU]
 |.cL f ks vs=>by simp[aU,aH,fm vs,SU]
theorem fm:∀ds:ab,aL bX (aA aV ds)=false
 |[]=>by simp[aA,aL]
 |d::ds=>by simp[aA,aL,Eo d,fm ds]
end
theorem w5{h:Heap}{a:Addr}{o:HO}(x:kZ P w H h)(hn:H a=none)(new:cD P w (upd H a o) h a o):kZ P w (upd H a o) h:=λb u e=>by
 by_cases hb:b=a
 ·subst hb;rw[aS]at e;cases e;exact new
 ·rw[aW hb]at e;exact(x b u e).jJ (λc v _ q=>q) (λc q=>by rw[aW (cx q hn)];exact q) λc xs q=>by rw[aW (cx q hn)];exact q
structure CAt(X X':Cx)(F' R':ai)(n:Nat)(base:ba)(σ0:St)(fp:aO)(tn:Nat->Heap->Prop)(H2:Hp)(D:Addr)(items:List DI.D)(bind:DI.D->O ba)(test:ba->O Bool)(el:ba->O DI.D)(all:List DI.D)(m:Nat)(s':Shared):Prop where
 ex:∃(i:Nat) (vs:ae) (aK:ao) (nn:Nat) (σ':St) (H':Hp) (dn rest:List DI.D),m=items.length - i/\i<=items.length/\Inv X' [(D,eM aK nn)] σ' H' s'/\tn i s'.heap/\(∀b∈fp,H' b=none)/\Vals vs aK/\aM H2 H' /\
  SI X' F' R' (λ_=>none) base σ' H'/\cv X.K (gP X' F') R' (λ_=>none) [] H2 H' vs dn/\gT bind test el (items.drop i)=ok rest/\dn++rest=all
end
theorem cv.go(h:cv K G R τ fv H H1 vs ds)(e:aM H1 H2):cv K G R τ fv H H2 vs ds :=
 let ⟨τt,h1,h2⟩:=h;⟨τt,h1,h2.imp (λ_ _ h=>aR.same e h) λ_ _ _ _ h=>nd.same e h⟩
theorem mO:∀{ds:ab} {d:D},aL bX ds=false->d∈ds->aH bX d=false
 |[],_,_,h=>nomatch h
 |e::ds,d,h,hm=>by
  rw[aL,Bool.or_eq_false_iff]at h;rcases List.mem_cons.mp hm with rfl|z
  ·exact h.1
  ·exact mO h.2 z
theorem yf{d:D}(h:kF d=ok items):∀d∈items,aH bX d=false:=by
 unfold kF at h;split at h
 ·cases h;exact λd hd=>mO (fm _) hd
 ·cases h
theorem vh{ik:IK}{xs:ab}(h:dU Φ ik xs=ok items):∀d∈items,aH bX d=false:=by
 cases ik with
 |bR p=>obtain⟨d,_,h⟩:=aB h;exact yf h
 |kn =>
  cases xs with
  |nil=>cases h
  |cons x t=>cases x<;>first | (cases h;done) | (cases t with
   |cons _ _=>cases h
   |nil =>
    obtain⟨_,h⟩:=me h;subst h;intro d hd;obtain⟨k,_,rfl⟩:=List.mem_map.mp hd;rfl)
 |seq =>
  cases xs with
  |nil=>cases h
  |cons x t=>cases x<;>first | (cases h;done) | (cases t with
   |cons _ _=>cases h
   |nil=>cases h;exact λd hd=>mO (fm _) hd)
theorem vj{n:Nat}{i:Nat}{d:D}(h:(bP n caps ρ)[i]?=some (some d)):n<=i:=by
 unfold bP at h;by_cases hn:i<n
 ·rw[List.getElem?_append_left (by simpa using hn),List.getElem?_replicate,if_pos hn]at h;cases h
 ·left
variable {c' elt:CE}{bM cs es:aG}
section
variable {X:Cx}{S:Sx}{k:Nat}{F:ai}{Φ:a_}
theorem A6{n:Nat}{t:Tg}{sc:Scope}{cl:List (Str×Addr)}(L:Lk X S k Φ)(co:jA S n t caps target sc):
  Lk (dY X (cj target++fS S caps) sc cl C s₂ H2 fp) (S.inner target caps sc) k Φ:=by
 refine⟨?_,rfl,co.nd,L.calm,L.room,L.bl,λf x h=>⟨(L.fn f x h).ex⟩,L.cs,L.pr⟩;show relabel sc X.env=sJ sc S.sc;rw[<- L.sc];rfl
theorem tY(L:Lk X S k Φ){n:Nat}{t:Tg}{ik:IK}{ifs:au}{sc:Scope}(co:jA S n t caps target sc)(yF:o7 iter=true)
    (hE:∀(X':Cx) (F':ai),Lk X' (S.inner target caps sc) k Φ->PE X' iX (tD X' F' Φ elt))
    (hC:(bM=[]/\ifs=[])\/∃c e,bM=[c]/\ifs=[e]/\∀(X':Cx) (F':ai),Lk X' (S.inner target caps sc) k Φ->PT X' e (gh X' F' Φ c))
    (hI:∀(pins:aj) (s:Shared) (σ:St) (H:Hp) (R:ai) (τ:Addr->Option bq) (ρ:ba) (xs items:ab),Inv X pins σ H s->SI X F R τ ρ σ H->cz Φ es ρ=ok xs->dU Φ ik xs=ok items->∀Rr:It->Hp->Prop,
      (∀J H2,aM H H2->Yl X.K J (kG X F τ (caps++cW es) H2) H2 items->Rr J H2)->wpAny (model X.prog X.w) X.A (eval iter X.env) (λv s1=>wpAny (model X.prog X.w) X.A (pyIter v) (zp X pins σ target Rr) X.xe s1) X.xe s)
    {use:Option (Value->Sem Unit)} {Post:aw} {pins:aj} {s:Shared} {d:D} {U9:Pos} (I:Inv X pins σ H s) (Si:SI X F R τ ρ σ H) (ev:bC Φ (.comp n t caps ik es bM elt) ρ=ok d)
    (OB:∀(acc C:Addr) (H1:Hp) (s1:Shared) (m:aX),s1.heap.Ns C m->(C≠X.env.locals/\X.s₀.heap.objs.size<=C/\(∀x c,X.env.cells.lookup x=some c->c≠C)/\(∀p∈X.pn++pins,p.1≠C)/\H1 C=none)->(∀h',Heap.SameBut C s1.heap h'->Inv X pins σ H1 { s1 with heap:=h' })->aM H H1 ->
      bT X.K (gP X F) R τ (gR (.comp n t caps ik es bM elt)) H H1 (.ref acc) d->compPost (model X.prog X.w) X.A X.xe use Post (.ref acc) C (.ok .next) s1) :
    wpAny (model X.prog X.w) X.A (comprehension (.ListComp iX [⟨target,iter,ifs,0⟩] sc pos) sc X.env U9 (newList []) false (eval iter X.env) use) Post X.xe s:=by
  obtain⟨xs,cc,ev⟩:=aB ev;obtain⟨items,vx,ev⟩:=aB ev;obtain⟨ds,KN,ev⟩:=aB ev;simp only[GQ]at ev;obtain⟨lQ,rfl⟩:=ev;have OH:=vh vx;obtain⟨cl,OT,lP,vo⟩:=vF (env:=X.env) (sc:=sc) (λx hx=>I.ok.has x (by
    show X.env.scope.names.lookup x=some .cell\/X.env.scope.names.lookup x=some .free;rw[L.sc];exact co.free x hx))
  have m6:∀x,foldedSetIterable iter X.env x=pure x:=by intro x;cases iter<;>first|rfl | (cases yF;done)
  refine wpAny_comprehension_free (use:=use) rfl m6 OT co.kind co.loc (aaw (hI pins s σ H R τ ρ xs items I Si cc vx (λJ H2=>aM H H2/\Yl X.K J (kG X F τ (caps++cW es) H2) H2 items) (λJ H2 e y=>⟨e,y⟩)) (λxv s₁ h₁=>aaw h₁ (λTs s₂ h₂=>?_) λ_ _ e=>e) λ_ _ e=>e);obtain⟨it,fp,tn,J,H2,rfl,I2,T,DC,f2,e2,yl⟩:=h₂;have lC:=Si.go e2;have JU:∀b∈fp,b<s₂.heap.objs.size:=λb hb=>let ⟨o,ho,_⟩:=T.obj 0 _ DC b hb;aah ho;refine aaX (wpAny_newFunctionEnv co.AR (by intro y hy;simp at hy) (λh₁ qF m5=>?_) co.kind);dsimp only at qF m5 ⊢;generalize UP:s₂.heap.push { cls:=.type "list",dict:=none,data:=.seq ([]:ao).toArray }=G2 at qF m5 ⊢;have WY:G2.objs.size=s₂.heap.objs.size+1:=by rw[<- UP,Heap.size_push]
  have Q1:s₂.heap.objs.size≠s₂.heap.objs.size+1:=aam (aaT _);rw[WY]at qF m5;have old:∀b o,s₂.heap.get? b=some o->h₁.get? b=some o:=λb o e=>m5.extBut b o (aam (aaI (aah e))) (aag _ (UP▸aag _ e));have fG:h₁.get? s₂.heap.objs.size=some (eM [] 0):=m5.extBut _ _ Q1 (aag _ (UP▸aan _ rfl))
  let X':=dY X (cj target++fS S caps) sc cl (s₂.heap.objs.size+1) s₂ H2 fp
  let F':=iY (gP X F) τ (caps++cW es)
  let R':=kG X F τ (caps++cW es) H2
  have L':Lk X' (S.inner target caps sc) k Φ:=A6 L co;have I4:=λtk=>Bl (h₁:=h₁) (tk:=tk) L co I2 lP vo f2 JU (by simpa using qF) old fG;have S4:SI X' F' R' (λ_=>none) (bP n caps ρ) (oh n caps σ) H2:=Aa (t:=t) lC (λi hi=>by simp[hi]);obtain⟨g,hg,BC⟩:=HF (X:=X) (S:=S) (cl:=cl) (fp:=fp) (s₂:=s₂) (H2:=H2) (C:=s₂.heap.objs.size+1) L.calm co;have UQ:s₂.heap.objs.size∉X'.fs:=λz=>by
    rcases List.mem_cons.mp (I2.kD _ z)with w|w
    · exact absurd w (aas I2.lt)
    · exact I2.Jd (aai _) w
  have JX:∀x c,cl.lookup x=some c->c≠s₂.heap.objs.size:=λx c e=>by
    obtain⟨v,q⟩:=I2.cell x c (lP x c e);exact aam q.lt
  have ET:∀b∈fp,b≠X'.env.locals/\b∉X'.fs/\(b∈X'.ex\/X'.s₀.heap.objs.size<=b)/\(∀x c,X'.env.cells.lookup x=some c->c≠b):=λb hb =>
    ⟨aam (aaI (JU b hb)),λz=>by
      rcases List.mem_cons.mp (I2.kD b z)with w|w
      · exact(f2 b hb).2.1 w
      · exact(f2 b hb).2.2.1 w,.inl hb,λx c e=>(f2 b hb).2.2.2.2.1 x c (lP x c e)⟩
  have ON:∀b∈fp,b≠s₂.heap.objs.size:=λb hb=>aam (JU b hb);have fin:∀(vs:ae) (aK:ao) (nn:Nat) (σ':St) (H':Hp) (s1:Shared),Inv X' [(s₂.heap.objs.size,eM aK nn)] σ' H' s1->Vals vs aK->aM H2 H'->cv X.K (gP X' F') R' (λ_=>none) [] H2 H' vs ds ->
      compPost (model X.prog X.w) X.A X.xe use Post (.ref s₂.heap.objs.size) (s₂.heap.objs.size+1) (.ok .next) s1:=by
    intro vs aK nn σ' H' s1 I1 rv sm DQ;obtain⟨m,hn,_⟩:=I1.loc;obtain⟨pD,nD,_,_,_⟩:=I1.pin (s₂.heap.objs.size,eM aK nn) (aao _ aaf);have bs:=I1.base;have GJ:∀b o,s₂.heap.get? b=some o->b≠s₂.heap.objs.size+1:=λb o e=>aam (aaI (aah e));have Yp:∀b o,s₂.heap.get? b=some o->b≠s₂.heap.objs.size:=λb o e=>aam (aah e);have RH:∀b u,H' b=some u->upd H' s₂.heap.objs.size (.lst vs) b=some u:=λb u e=>by rw[aW (cx e nD)];exact e
    have hlen:vs.length<=sizeLine:=by
      obtain⟨_,_,rr⟩:=DQ;have hz:sizeLine=16777216:=aaP;have hc:cg=1000000:=rfl;rw[rr.length];left
    have IX:∀h',Heap.SameBut (s₂.heap.objs.size+1) s1.heap h'->Inv X pins σ (upd H' s₂.heap.objs.size (.lst vs)) { s1 with heap:=h' }:=λh' yD=>by
      have un:Un (zm X.stack) fp H2 (upd H' s₂.heap.objs.size (.lst vs)) s₂.heap h' :=
        ⟨λb o e n hb hx=>yD.extBut b o (GJ b o e) (bs.keep b o e n hb hx),
         λb o e n hb hx=>let ⟨sl,q⟩:=bs.slot b o e n hb hx;⟨sl,yD.extBut b _ (GJ b o e) q⟩,
         λb o e n hx=>by rw[aW (Yp b o e)];exact bs.free b o e n hx,
         λb o e hx=>let ⟨o',q⟩:=bs.there b o e hx;⟨o',yD.extBut b _ (GJ b o e) q⟩,
         λb xs e=>RH b _ (bs.pQ b xs e),λb o u e=>RH b _ (bs.oy b o u e),λb ps e=>let ⟨more,q⟩:=bs.pS b ps e;⟨more,RH b _ q⟩⟩
      have Ud:kZ X.prog X.w H' h':=λa o e=>(I1.cQ a o e).jJ (λb u hb q=>yD.extBut b u (by
        rintro rfl;have hf:H' (s₂.heap.objs.size+1)=none:=I1.free;rcases hb with z|z
        · rw[<- z,hf]at e;cases e
        · rw[hf]at z;cases z) q) (λ_ q=>q) λ_ _ q=>q
      have Uc:kZ X.prog X.w (upd H' s₂.heap.objs.size (.lst vs)) h':=w5 Ud nD ⟨hlen,aK,nn,rv,yD.extBut _ _ Q1 pD⟩;exact I2.PV (ch:=fp) I1.os un Uc I1.bare λb hb=>⟨(f2 b hb).2.2.2.1,(f2 b hb).2.1,(f2 b hb).2.2.2.2.1,(f2 b hb).2.2.2.2.2⟩
    have eS:aM H' (upd H' s₂.heap.objs.size (.lst vs)):=aM.upd nD;obtain⟨τt,fr,rs⟩:=DQ;have Ta:s₂.heap.objs.size+1≠s₂.heap.objs.size:=Nat.succ_ne_self _;refine OB s₂.heap.objs.size (s₂.heap.objs.size+1) _ s1 m hn ⟨aas (aaI I2.lt),acf I2.sz,λx c e=>?_,λp hp=>?_,?_⟩ IX ((e2.trans sm).trans eS) ⟨λq=>if q=s₂.heap.objs.size then some []else τt q,λq z hz=>?_,.lst ⟨aS,by simp⟩ (az.map (q:=[]) (q':=[]) (λ_ _ h=>aR.same eS h) (λc p ys f h=>?_) rs [] rfl)⟩
    · obtain⟨v,z⟩:=I2.cell x c e
      exact aam (aaI z.lt)
    · exact aam (aaI (aah (I2.pin p hp).1))
    · rw[aW Ta];exact I1.free
    · by_cases rM:q=s₂.heap.objs.size
      · rw[rM];exact e2.free (sm.free nD)
      · simp only[rM,if_false]at hz;exact e2.free (fr q z hz)
    · have h':=nd.same eS h
      have VC:∀p,gP X' F' p->iY (gP X F) τ (caps++cW es) p:=λp hp=>hp.elim id λz=>⟨.inr (lC.same.free z),λc i e=>absurd z (lC.th p _ e)⟩
      cases f with
      |ow =>
        have rM:p≠s₂.heap.objs.size:=by
          intro z;subst z;exact h.1.ne nD
        refine⟨h'.1,?_⟩;show(if p=s₂.heap.objs.size then some []else τt p)=_;rw[if_neg rM];exact h'.2
      |fz=>exact⟨h'.1,h'.2.2⟩
      |al=>exact⟨h'.1,VC p h'.2.1⟩
      |sc=>exact h'
  have XJ:∀(P:aj) (ρ1:ba) (b:Bool) (σ2:St) (H5:Hp) (s6:Shared),gS Φ bM ρ1=ok b->Inv X' P σ2 H5 s6->SI X' F' R' (λ_=>none) ρ1 σ2 H5 ->
      wpAny (model X.prog X.w) X.A (forIn ifs true λc r=>if r=true then do let ok <- isTrue c X'.env (eval c X'.env);pure (ForInStep.yield ok)else pure (ForInStep.yield r)) (λS0 s7=>S0=b/\∃H7,Inv X' P σ2 H7 s7/\aM H5 H7) (λ_ _=>False) s6:=by
    intro P ρ1 b σ2 H5 s6 eb I6 S6;rcases hC with ⟨rfl,rfl⟩|⟨c,e,rfl,rfl,hPT⟩
    · rw[gS]at eb;cases eb
      exact wpAny_tests_nil ⟨rfl,H5,I6,aM.refl _⟩
    · rw[gS]at eb
      obtain⟨b',ZN,eb⟩:=aB eb;have hb:b'=b:=by
        cases b' with
        |true=>rw[if_pos rfl,gS]at eb;cases eb;rfl
        |false=>rw[if_neg (by simp)]at eb;cases eb;rfl
      subst hb;refine wpAny_tests_one (aaw (hPT X' F' L' P s6 σ2 H5 (λXt H7=>Xt=b'/\aM H5 H7) I6 ⟨R',_,ρ1,b',S6,ZN,λH7 e7=>⟨rfl,e7⟩⟩) (λXt s7 ⟨H7,I7,hb,e7⟩=>⟨hb,H7,I7,e7⟩) λ_ _ e=>e)
  have loop:∀tk,codeAny (model X.prog X.w) X.A (.compLoop (.ListComp iX [⟨target,iter,ifs,0⟩] sc pos) 0 (.ref it) (.ref s₂.heap.objs.size) X'.env)
      (compPost (model X.prog X.w) X.A X.xe use Post (.ref s₂.heap.objs.size) (s₂.heap.objs.size+1)) { s₂ with heap:=h₁,toks:=tk }:=by
    intro tk;refine qV (CAt X X' F' R' n (bP n caps ρ) (oh n caps σ) fp tn H2 s₂.heap.objs.size items (λd=>cy t d (bP n caps ρ)) (λρ'=>gS Φ bM ρ') (λρ'=>bC Φ elt ρ') ds) ?_ items.length
      ⟨0,[],[],0,oh n caps σ,H2,[],ds,rfl,aaF _,I4 tk,T.keep _ _ _ DC (λb _ o e=>old b o e),λb hb=>(f2 b hb).1,.nil,aM.refl _,S4,.nil,by rw[List.drop_zero];exact KN,rfl⟩
    rintro m s' ⟨i,vs,aK,nn,σ',H',dn,rest,hm,hi,I',lH,fr',rv,sm,fM,DQ,fC,eall⟩;have Ke:∀b∈fp,nV X' [(s₂.heap.objs.size,eM aK nn)] H' b:=λb hb=>⟨fr' b hb,(ET b hb).1,(ET b hb).2.1,(ET b hb).2.2.1,(ET b hb).2.2.2,λp hp=>by
      have tj:p=(s₂.heap.objs.size,eM aK nn):=by simpa [X',dY]using hp
      rw[tj];exact(ON b hb).symm⟩
    by_cases fu:i<items.length
    · refine aaw (T.item X' rfl rfl rfl L.calm i _ s' σ' H' (λ_ _=>False) I' Ke lH (yl.go i H' sm fu)) (λr s1 h4=>?_) λ_ _ e=>e
      obtain⟨u,hr,h4⟩:=h4;subst hr;refine aaw h4 (λ_ s5 h5=>?_) λ_ _ e=>e;obtain⟨x,H5,I5,r5,y5,HP,U8⟩:=h5;obtain⟨e5,dd,hd,rd⟩:=yl.ui i H' x H5 sm fu y5;have VN:=I5.pinned (fp:=fp) (λb hb=>⟨U8 b hb,(Ke b hb).2⟩) (T.obj _ _ HP);have tE:items.drop i=dd::items.drop (i+1):=by
        rw[List.drop_eq_getElem_cons fu];rw[List.getElem?_eq_getElem fu]at hd;cases hd;rfl
      rw[tE,gT]at fC;obtain⟨ρ1,eb,fC⟩:=aB fC;obtain⟨bb,et,fC⟩:=aB fC;refine aaw (hg _ s5 σ' H5 x u (λσ2 H6=>H6=H5/\σ2.length=σ'.length/\(∀j,n<=j->σ2[j]?=σ'[j]?)/\SI X' F' R' (λ_=>none) ρ1 σ2 H5) VN r5
        (BC F' R' x dd σ' H5 _ (bP n caps ρ) ρ1 (fM.go e5) rd (OH dd (aaq hd)) eb λσ2 g1 g2 g3=>⟨rfl,g1,g2,g3⟩)) (λ_ s6 h6=>?_) λ_ _ e=>e
      obtain⟨σ2,H6,I6,rfl,g1,g2,S6⟩:=h6;refine aaw (XJ _ ρ1 bb σ2 H6 s6 et I6 S6) (λS0 s7 h7=>?_) λ_ _ e=>e;obtain⟨rfl,H7,I7,e7⟩:=h7;have RK:∀{P:aj} {σ3:St} {H8:Hp} {s8:Shared},Inv X' (P++ia fp s5.heap) σ3 H8 s8->tn (i+1) s8.heap/\∀b∈fp,H8 b=none:=λ{P σ3 H8 s8} I8 =>
        ⟨T.keep _ _ _ HP λb hb o e=>(I8.pin (b,o) (aao _ (aao _ (gA hb e)))).1,λb hb=>by
          obtain⟨o,e,_⟩:=T.obj _ _ HP b hb;exact(I8.pin (b,o) (aao _ (aao _ (gA hb e)))).2.1⟩
      have He:∀{H8:Hp},aM H7 H8->SI X' F' R' (λ_=>none) (bP n caps ρ) σ2 H8:=λ{H8} e8=>(fM.go ((e5.trans e7).trans e8)).sig g1 λj d hj=>g2 j (vj hj);cases S0 with
      |false =>
        rw[if_neg (by simp)]at fC ⊢;exact⟨items.length - (i+1),by left,i+1,vs,aK,nn,σ2,H7,dn,rest,rfl,fu,I7.jF,(RK I7).1,(RK I7).2,rv,(sm.trans e5).trans e7,He (aM.refl _),DQ.go (e5.trans e7),fC,eall⟩
      |true =>
        rw[if_pos rfl]at fC ⊢;obtain⟨y,ey,fC⟩:=aB fC;obtain⟨ys,nr,fC⟩:=aB fC;cases fC;refine aaw (hE X' F' L' _ s7 σ2 H7 (λv H8=>aM H7 H8/\bT X.K (gP X' F') R' (λ_=>none) [] H7 H8 v y) I7 ⟨R',_,ρ1,y,S6.go e7,ey,λv H8 e8 r8=>⟨e8,?_⟩⟩) (λu8 s8 h8=>?_) λ_ _ e=>e
        · obtain⟨τt,fr,rr⟩:=r8
          exact⟨τt,fr,rr.imp (q:=[]) (q':=[]) (λ_ _ h=>h) λc p ys f h=>h.mono id (λh=>⟨h.1,λ_ _ e=>by cases e⟩) id⟩
        · obtain⟨v8,H8,I8,Ya,e8,r8⟩:=h8
          obtain⟨pD,nD,_,_,_⟩:=I8.pin (s₂.heap.objs.size,eM aK nn) (aao _ (aaA _ aaf));have hlen:aK.length<=1000000:=by
            obtain⟨_,_,rr⟩:=DQ;have h1:dn.length<=ds.length:=by rw[<- eall,List.length_append];left
            have hc:cg=1000000:=rfl;rw[<- rv.length,rr.length];left
          have hz:sizeLine=16777216:=aaP;refine abm aa8 ⟨_,pD,rfl⟩ PySem.F.entry_list_append (PySem.F.args_list_append_2 _ _) (PySem.list_append s₂.heap.objs.size aK.toArray nn u8 (by rw[List.size_toArray];left)) ⟨pD,?_⟩;have q:=PySem.IsL.update pD (λx=>x.push u8);have Oy:aK.toArray.push u8=(aK++[u8]).toArray:=by simp
          rw[Oy]at q;obtain⟨QN,q'⟩:∃QN,(s8.heap.update s₂.heap.objs.size (Obj.mapSeq λx=>x.push u8)).get? s₂.heap.objs.size=some (eM (aK++[u8]) QN):=⟨_,q⟩
          have Z8:Inv X' (ia fp s5.heap) σ2 H8 s8:=I8.iJ λp hp=>I8.pin p (aao _ (aao _ hp));have Xw:Inv X' (ia fp s5.heap) σ2 H8 { s8 with heap:=s8.heap.update s₂.heap.objs.size (Obj.mapSeq λx=>x.push u8),toks:=s8.toks } :=
            Z8.turned (it:=s₂.heap.objs.size) (λb o hb e=>(aaL s8.heap (Obj.mapSeq λx=>x.push u8) (aaC hb)).trans e) nD Q1 (.inr (aai _)) JX λp hp=>by
              have tj:p∈ia fp s5.heap:=by simpa [X',dY]using hp
              exact ON p.1 (o6 tj).1
          have kp:=RK (P:=[]) (by rw[List.nil_append];exact Xw);refine⟨items.length - (i+1),by left,i+1,vs++[v8],aK++[u8],QN,σ2,H8,dn++[y],ys,rfl,fu,Xw.iJ (λp hp=>?_),kp.1,kp.2,rv.append (.cons Ya .nil),((sm.trans e5).trans e7).trans e8,He e8,cv.snoc ((sm.trans e5).trans e7) e8 (DQ.go (e5.trans e7)) r8,nr,by rw[List.append_assoc];exact eall⟩;have tj:p=(s₂.heap.objs.size,eM (aK++[u8]) QN):=by simpa using hp
          rw[tj];exact⟨q',nD,Q1,UQ,λv z=>by cases z⟩
    · refine aaw (T.done X' rfl rfl rfl L.calm i _ s' σ' H' (λ_ _=>False) I' Ke lH (yl.stop i H' sm (by left))) (λr s1 h1=>?_) λ_ _ e=>e
      obtain⟨hr,I1⟩:=h1;subst hr;have Uj:items.drop i=[]:=List.drop_eq_nil_of_le (by left);rw[Uj,gT]at fC;cases fC;rw[List.append_nil]at eall;subst eall;exact fin vs aK nn σ' H' s1 I1 rv sm DQ
  have key:=λtk=>codeAny_compStart_list (loop tk) (T.self X.A 0 _ _ _ (T.keep _ _ _ DC λb _ o e=>old b o e) (loop tk));rw[WY];exact key _
theorem DL(L:Lk X S k Φ){n:Nat}{t:Tg}{ik:IK}{ifs:au}{sc:Scope}(co:jA S n t caps target sc)(yF:o7 iter=true)
  (hE:∀(X':Cx) (F':ai),Lk X' (S.inner target caps sc) k Φ->PE X' iX (tD X' F' Φ elt))
  (hC:(bM=[]/\ifs=[])\/∃c e,bM=[c]/\ifs=[e]/\∀(X':Cx) (F':ai),Lk X' (S.inner target caps sc) k Φ->PT X' e (gh X' F' Φ c))
  (hI:∀(pins:aj) (s:Shared) (σ:St) (H:Hp) (R:ai) (τ:Addr->Option bq) (ρ:ba) (xs items:ab),Inv X pins σ H s->SI X F R τ ρ σ H->cz Φ es ρ=ok xs->dU Φ ik xs=ok items->∀Rr:It->Hp->Prop,
   (∀J H2,aM H H2->Yl X.K J (kG X F τ (caps++cW es) H2) H2 items->Rr J H2)->wpAny (model X.prog X.w) X.A (eval iter X.env) (λv s1=>wpAny (model X.prog X.w) X.A (pyIter v) (zp X pins σ target Rr) X.xe s1) X.xe s) :
  PE X (.ListComp iX [⟨target,iter,ifs,0⟩] sc pos) (tD X F Φ (.comp n t caps ik es bM elt)):=by
 intro pins s σ H Q I hq;obtain⟨R,τ,ρ,d,Si,ev,hq⟩:=hq;rw[eval_ListComp];refine tY L co yF hE hC hI (use:=none) (Post:=EP X pins σ Q) I Si ev λacc C H1 s1 m hn _ IX sm rt=>?_;exact⟨m,hn,λh' yD=>⟨.ref acc,H1,IX h' yD,rfl,hq _ _ sm rt⟩⟩
end
section
variable {X:Cx}{pins:aj}{s:Shared}{σ:L2.St}{H:Hp}
theorem s9{A:aE}{E:aw}{l:Addr}{items:aP}{Q:aw}{s:Shared}(hl:s.heap.IsList l items)
  (h:∀s₂:Shared,s₂={ s with heap:=s.heap.push { cls:=.type "list_iterator",data:=.fields #[.ref l,.int 0 0] } }->s₂.heap.IsListIter s.heap.objs.size l 0/\s₂.heap.IsList l items->(∀b∈[s.heap.objs.size,l],b<s₂.heap.objs.size)->l≠s.heap.objs.size->Q (.ref s.heap.objs.size) s₂) :
  wpAny (model prog w) A (pyIter (.ref l)) Q E s:=by
 have fu:l<s.heap.objs.size:=by obtain⟨_,e,_⟩:=hl;exact aah e
 refine wpAny_pyIter_list hl (h _ rfl ⟨⟨_,aan _ rfl,rfl,rfl⟩,hl.push _⟩ (λb hb=>?_) (aam fu));have hz:(s.heap.push { cls:=.type "list_iterator",data:=.fields #[.ref l,.int 0 0] }).objs.size=s.heap.objs.size+1:=Heap.size_push ..;have m7:b=s.heap.objs.size\/b=l:=by simpa using hb
 show b<_;rw[hz];rcases m7 with e|e
 ·rw[e];exact aaT _
 ·rw[e];exact aaI fu
theorem sZ{o₀:Obj}{s:Shared}(hk:∀b o,b∉[s.heap.objs.size]->(s.heap.push o₀).get? b=some o->h'.get? b=some o):∀b o,s.heap.get? b=some o->h'.get? b=some o:=λb o e =>
 hk b o (λhm=>absurd ((by simpa using hm:b=s.heap.objs.size)▸aah e) (aat _)) (aag _ e)
theorem eB{h:Heap}{a:Addr}{aK:aP}(p:PlainL h a aK):h.IsList a aK:=let ⟨o,n,h1,h2,_,h4⟩:=p;⟨o,h1,h2,n,h4⟩
theorem lj(val:Nat->Int)(ns:aa)(hv:∀i,val i=ns.getD i 0):∀k,k<=ns.length->preSum val k=(ns.take k).sum
 |0,_=>by simp[preSum]
 |k+1,h=>by
  have hk:k<ns.length:=by left
  rw[preSum,lj val ns hv k (by left),hv k,List.take_add_one,List.sum_append];simp[List.getD,hk]
theorem y8(hc:X.calm=true):fN X (.builtin "sum") (λxs H Q=>∃(p:Addr) (ns:aa),xs=[.ref p]/\cX X.K H p (ns.map V.int)/\Q (.int ns.sum) H):=by
 intro pins s σ H xs us Q I r h;obtain⟨p,ns,rfl,hq,q⟩:=h;obtain⟨u,rfl,ru⟩:=r.one;cases ru;obtain⟨aK,rv,pl,hz⟩:=I.list hq;have hlen:aK.length=ns.length:=by have:=rv.length;simpa using this.symm
 refine call_sum_walkG (s9 (eB pl) λs₂ e st EU Uq=>?_);subst e;refine⟨_,_,_,_,_,_,λi=>ns.getD i 0,rfl,Walks.list (A:=X.A.in1) (I.ok.hd hc) _ p Uq aK.toArray,st,EU,λi v hP=>?_,λh' tk t' hk=>?_⟩
 ·have hv:aK[i]?=some v:=by simpa using hP
  have hi:i<aK.length:=by
   by_cases z:i<aK.length
   ·exact z
   ·rw[List.getElem?_eq_none (by left)]at hv;cases hv
  have hn:(ns.map V.int)[i]?=some (.int (ns.getD i 0)):=by
   rw[List.getElem?_map,List.getElem?_eq_getElem (by left)];simp[List.getD,show i<ns.length by left]
  obtain⟨u,hu,ru⟩:=rv.get hn;rw[hv]at hu;cases hu;exact ru
 ·refine⟨.int ns.sum,H,I.kept (t':=tk) (sZ hk),⟨t',?_⟩,q⟩;have hz:preSum (λi=>ns.getD i 0) aK.toArray.size=ns.sum:=by
   rw[List.size_toArray,hlen,lj _ ns (λ_=>rfl) _ (Nat.le_refl _),List.take_length]
  rw[hz]
theorem range_all{α:Type}(l:List α)(f:α->Bool)(tr:Nat->Bool)(h:∀i a,l[i]?=some a->tr i=f a):(List.range l.length).all tr=l.all f:=by
 rw[Bool.eq_iff_iff,List.all_eq_true,List.all_eq_true];constructor
 ·intro z a ha;obtain⟨i,hi,e⟩:=List.mem_iff_getElem.mp ha;have:=z i (List.mem_range.mpr hi);rw[h i a (by rw[List.getElem?_eq_getElem hi,e])]at this;exact this
 ·intro z i hi;have hi:=List.mem_range.mp hi;rw[h i l[i] (List.getElem?_eq_getElem hi)];exact z _ (abH hi)
theorem y_(hc:X.calm=true):fN X (.builtin "all") (λxs H Q=>∃(p:Addr) (bs:List Bool),xs=[.ref p]/\cX X.K H p (bs.map V.bl)/\Q (.bl (bs.all id)) H):=by
 intro pins s σ H xs us Q I r h;obtain⟨p,bs,rfl,hq,q⟩:=h;obtain⟨u,rfl,ru⟩:=r.one;cases ru;obtain⟨aK,rv,pl,hz⟩:=I.list hq;have hlen:aK.length=bs.length:=by have:=rv.length;simpa using this.symm
 refine call_all_walk (s9 (eB pl) λs₂ e st EU Uq=>?_);subst e;refine⟨_,_,_,_,_,_,λi=>bs.getD i false,rfl,Walks.list (A:=X.A.in1) (I.ok.hd hc) _ p Uq aK.toArray,st,λi v s' Q' E' hP hQ=>?_,λh' tk hk=>?_⟩
 ·have hv:aK[i]?=some v:=by simpa using hP
  have hi:i<aK.length:=by
   by_cases z:i<aK.length
   ·exact z
   ·rw[List.getElem?_eq_none (by left)]at hv;cases hv
  have hn:(bs.map V.bl)[i]?=some (.bl (bs.getD i false)):=by
   rw[List.getElem?_map,List.getElem?_eq_getElem (by left)];simp[List.getD,show i<bs.length by left]
  obtain⟨u,hu,ru⟩:=rv.get hn;rw[hv]at hu;cases hu;cases ru;exact aaR hQ
 ·refine⟨.bl (bs.all id),H,I.kept (t':=tk) (sZ hk),?_,q⟩;show Value.bool _=Value.bool _;rw[List.size_toArray,hlen,range_all bs id _ λi a e=>by simp[List.getD,e]]
end
variable {ns:aa}
section
variable {prog:aF}{w:World}{A:aE}{E:aw}{s:Shared}
theorem nH{l:Addr}{vs:ao}{Q:ao->Shared->Prop}{o:Obj}{n:Nat}(ho:s.heap.get? l=some o)(hc:o.cls=.type "tuple")(hd:o.data=.seq vs.toArray n)
  (h:Q vs { s with heap:=(s.heap.push (seqObj "list" #[] 0)).update s.heap.objs.size (Obj.mapSeq (· ++ vs.toArray)) }) (hsz:vs.length<=sizeLine):wpAny (model prog w) A (collect (.ref l)) Q E s:=by
 unfold collect;refine aaa (wpAny_runValue (abq entry_proto_collect' ?_));show wpAny _ _ (newList [] >>= λz=>again (.builtin "list.__iadd__" ⟨[z,.ref l],[]⟩)) _ _ s;refine aaa (acd (aab ⟨Code.quiet_builtin _ (by decide +kernel),abq entry_list_iadd' ?_⟩));have z1:(s.heap.push (seqObj "list" #[] 0)).get? l=some o:=aag _ ho;have z2:(s.heap.push (seqObj "list" #[] 0)).get? s.heap.objs.size=some (seqObj "list" #[] 0):=aan _ rfl;show wpAny _ _ (Builtin.List.listExtendWith (.ref s.heap.objs.size) (.ref l) (.ref s.heap.objs.size)) _ _ ({ s with heap:=s.heap.push (seqObj "list" #[] 0) }:Shared);unfold Builtin.List.listExtendWith;refine aaa (wpAny_typeOf (T:="tuple") ⟨o,z1,hc⟩ ?_);rw[aaN (by rw[show(Value.type "tuple" == Value.type "tuple")=true from rfl,Bool.or_true])];refine aaa (listItems_at z1 hd (aaa (listItems_at z2 rfl ?_)));rw[if_neg (by simp)];refine aaa (listUpdate_at z2 rfl ?_ (aaF _) (by
  show(#[]++vs.toArray).size<=sizeLine+1;rw[Array.size_append,List.size_toArray];exact acf (by simpa using hsz)))
 refine aab ?_;show wpAny (model prog w) A (load s.heap.objs.size >>= λo=>match o.data with
   |.seq xs _=>pure xs.toList
   |_=>unsupported "internal:collect") Q E ({ s with heap:=(s.heap.push (seqObj "list" #[] 0)).update s.heap.objs.size (Obj.mapSeq (· ++ vs.toArray)) }:Shared)
 refine aaa (wpAny_load (get?_update_seq z2 _) ?_);show wpAny _ _ (pure ((#[]:aP)++vs.toArray).toList) Q E _;rw[show((#[]:aP)++vs.toArray).toList=vs by simp];exact aab h
theorem oe{l:Addr}{vs:ao}{Q:aw}{o:Obj}{n:Nat}(ho:s.heap.get? l=some o)(hc:o.cls=.type "tuple")(hd:o.data=.seq vs.toArray n)(hI:IntsAre vs ns)(rN:vs.length<64)
  (h:∀(out:aP) (ko:aa),IntsAre out.toList ko->ko.Perm ns->ko.Pairwise (· <= ·)->Q (.ref (s.heap.objs.size+1)) { s with heap:=sortedAll s.heap vs out }):wpAny (model prog w) A (call (.builtin "sorted") [.ref l]) Q E s:=by
 refine Calls.call_function_entry kind_sorted plain_sorted entry_sorted (args_sorted1 _) ?_;unfold Builtin.«sorted»;have hz:vs.length<=sizeLine:=by rw[sizeLine_eq];left
 refine aaa (m:=checkCount "sorted" 1 1 _) (aab (aaa (nH ho hc hd (aaa (acd ?_)) hz)));have e1:((s.heap.push (seqObj "list" #[] 0)).update s.heap.objs.size (Obj.mapSeq (· ++ vs.toArray))).objs.size=s.heap.objs.size+1:=by rw[Heap.size_update,size_push']
 have e2:(((s.heap.push (seqObj "list" #[] 0)).update s.heap.objs.size (Obj.mapSeq (· ++ vs.toArray))).push (seqObj "list" vs.toArray 0)).get? (s.heap.objs.size+1)=some (seqObj "list" vs.toArray 0):=by
  rw[<- e1];exact aan _ rfl
 show wpAny _ _ _ _ _ ({ s with heap:=((s.heap.push (seqObj "list" #[] 0)).update s.heap.objs.size (Obj.mapSeq (· ++ vs.toArray))).push (seqObj "list" vs.toArray 0) }:Shared);rw[e1];refine aaa (aaG (aaD slot_list_sort ⟨_,e2,rfl⟩ entry_list_sort (list_sort_tree e2 hI rN λout ko a1 a2 a3=>⟨_,rfl,aab ⟨_,rfl,h out ko a1 a2 a3⟩⟩) (args_list_sort _)))
end
theorem sortI_perm(ns:aa):(sortI ns).Perm ns:=aay ..
theorem sh(ns:aa):(sortI ns).Pairwise (· <= ·):=by
 have:=List.pairwise_mergeSort (le:=λa b:Int=>decide (a<=b)) (by intro a b c;simp;left) (by intro a b;simp;left) ns;unfold sortI;simpa using this
theorem dI:∀{vs:ao} {ns:aa},Vals (ns.map V.int) vs->IntsAre vs ns
 |_,[],h=>by cases h;exact .nil
 |_,n::ns,h=>by
  cases h with
  |cons r t=>obtain⟨tk,rfl⟩:=r;exact .cons n tk (dI t)
theorem rb:fN X (.builtin "sorted") (λxs H Q=>∃(p:Addr) (ns:aa),xs=[.ref p]/\(cX X.K H p (ns.map V.int)\/aR X.K H p (ns.map V.int))/\ns.length<64/\∀l,H l=none->Q (.ref l) (upd H l (.lst ((sortI ns).map V.int)))):=by
 intro pins s σ H xs us Q I r h;obtain⟨p,ns,rfl,hq,rN,q⟩:=h;obtain⟨u,rfl,ru⟩:=r.one;cases ru;have fin:∀(vs:ao) (out:aP) (ko:aa),IntsAre out.toList ko->ko.Perm ns->ko.Pairwise (· <= ·)->EP X pins σ Q (.ref (s.heap.objs.size+1)) { s with heap:=sortedAll s.heap vs out }:=by
  intro vs out ko h1 h2 h3;obtain rfl:ko=sortI ns:=PySem.W.ksm_same (h2.trans (sortI_perm ns).symm) h3 (sh ns);obtain⟨e,he⟩:=sortedAll_at s.heap vs out;have hn:H (s.heap.objs.size+1)=none:=I.cQ.fresh (ab8 _);refine⟨.ref (s.heap.objs.size+1),upd H (s.heap.objs.size+1) (.lst ((sortI ns).map V.int)),I.laid (t':=s.toks) (λb u z=>sortedAll_old z) (ab8 _) ⟨?_,out.toList,e,kA h1,by simpa using he⟩,rfl,q _ hn⟩;rw[List.length_map,(sortI_perm ns).length_eq,sizeLine_eq];left
 rcases hq with hq|hq
 ·obtain⟨aK,rv,pl,hz⟩:=I.list hq;have hl:aK.length<64:=by rw[<- rv.length];simpa using rN
  exact sorted_ints (eB pl) (dI rv) hl λout ko h1 h2 h3=>fin aK out ko h1 h2 h3
 ·obtain⟨aK,rv,⟨o,ho,hc,n,hd⟩,hz⟩:=I.tuple hq;have hl:aK.length<64:=by rw[<- rv.length];simpa using rN
  exact oe ho hc hd (dI rv) hl λout ko h1 h2 h3=>fin aK out ko h1 h2 h3
theorem zK:isSubtype (.type "tuple") (.type "set")=pure false:=by rw[isSubtype_type];kernel_rfl
theorem rY:isSubtype (.type "tuple") (.type "frozenset")=pure false:=by rw[isSubtype_type];kernel_rfl
noncomputable abbrev lI(led:Bool):Obj:={ cls:=.type "set",dict:=none,data:=.set #[] 0 (.fresh 0 0 led) }
noncomputable abbrev dist(ns:aa):aa:=firstMet (λi=>ns.getD i 0) ns.length
section
variable {prog:aF}{w:World}{A:aE}{E:aw}{s:Shared}
theorem uK{l:Addr}{aK:ao}{Q:aw}(hh:A.handled=none)(hl:s.heap.IsTuple l aK.toArray)(hi:IntsAre aK ns)(hb:aK.length+1<scanBound)
  (h:∀(h':Heap) (tk:Nat),h'.SetOf (intKind prog w) s.heap.objs.size (λk=>(dist ns).any (· == k)) (dist ns).length->(∀b o,b<s.heap.objs.size->s.heap.get? b=some o->h'.get? b=some o)->Q (.ref s.heap.objs.size) { s with heap:=h',toks:=tk }) :
  wpAny (model prog w) A (call (.type "set") [.ref l]) Q E s:=by
 have Ui:aK.length=ns.length:=hi.length;obtain⟨c,tl,k1⟩:=F.called_set.mro;have k2:=F.called_set.made;have k3:=F.called_set.sub;have k4:=F.called_set.notType;have k5:=F.called_set.canCreate;have k6:=F.typeCall_set_1 (.ref l);refine wpAny_call (codeAny_of_tree (show wpAny _ _ (callAny (.type "set") _) _ _ _ from aab ⟨Code.quiet_builtin _ (by decide +kernel),abq F.entry_type_call ?_⟩));rw[Around.under_plain (weight_type_call_type "set" [.ref l] []) rfl]
 repeat (any_goals (first|assumption|wp_step))
 refine abP (code_set_new_1 (.ref l) (E:=E) (Q₁:=λz s₁=>∃led:Bool,z=.ref s.heap.objs.size/\s₁={ s with heap:=s.heap.push (lI led) }) λled=>⟨led,rfl,rfl⟩) λr s₁ hr=>?_;cases r with
 |error e=>exact hr
 |ok fl =>
  cases fl with
  |next=>exact hr.elim
  |brk=>exact hr.elim
  |cont=>exact hr.elim
  |ret z =>
   obtain⟨led,rfl,rfl⟩:=hr;have g1:(s.heap.push (lI led)).get? s.heap.objs.size=some (lI led):=aan _ rfl;have g2:Shared.TypeIs { s with heap:=s.heap.push (lI led) } (.ref s.heap.objs.size) "set":=⟨_,g1,rfl⟩
   have g3:=F.called_set.init.lookup;have g4:=F.called_set.init.bind (.ref s.heap.objs.size)
   repeat (any_goals (first|assumption|wp_step))
   refine abP (codeAny_call_builtin (R:=wants (λr s₂=>r=.none/\∃h' tk,s₂={ s with heap:=h',toks:=tk }/\h'.SetOf (intKind prog w) s.heap.objs.size (λk=>(dist ns).any (· == k)) (dist ns).length/\∀b o,b<s.heap.objs.size->s.heap.get? b=some o->h'.get? b=some o) E) F.called_set.init.plain F.entry_set_init (check_set_init_1 g2 ?_)) λr₂ s₂ tf=>?_
   ·obtain⟨ot,WE,WQ,nt,WN⟩:=hl;obtain⟨oc,od,odt,CL⟩:=ot;simp only at WQ WN;subst WQ;subst WN;have u1:(s.heap.push (lI led)).get? l=some { cls:=.type "tuple",dict:=od,data:=.seq aK.toArray nt,slots:=CL }:=aag _ WE;have u2:=zK;have u3:=rY;have u4:(Value.type "tuple" == Value.type "dict")=false:=by decide
    have u5:(s.heap.push (lI led)).IsTuple l aK.toArray:=⟨_,u1,rfl,nt,rfl⟩
    unfold Builtin.«set.__init__» noKeywords Builtin.Frozenset.updateFrom;generalize Zj:pyIter=PI
    wp_walk
    subst Zj;refine wpAny_pyIter_tuple u5 (aaa (wpAny_runValue ?_));have u6:l<s.heap.objs.size:=aah WE;have u7:A.in1.in1.in1.handled=none:=by simp[hh]
    have hz:(s.heap.push (lI led)).objs.size=s.heap.objs.size+1:=Heap.size_push ..;have u8:l≠(s.heap.push (lI led)).objs.size:=by rw[hz];exact aam (aaI u6)
    have u9:s.heap.objs.size∉[(s.heap.push (lI led)).objs.size,l]:=by
     rw[hz];intro m;simp at m;exact absurd m (aas u6)
    have v1:∀(i:Nat) (v:Value),aK.toArray[i]?=some v->∃t,v=.int ((λi=>ns.getD i 0) i) t:=λi v hv=>hi.int_at i v (by simpa using hv);refine codeAny_set_update_loopS ((Walks.tuple u7 _ l u8 aK.toArray).toS) s.heap.objs.size u9 (λi=>ns.getD i 0) v1 (by rw[List.size_toArray];exact hb) (aK.toArray.size - 0) 0 _ (by left) (aaF _) ⟨⟨_,aan _ rfl,rfl,rfl⟩,u5.push _⟩ ?hS0 ?hR
    case hS0 =>
     have y1:((s.heap.push (lI led)).push { cls:=.type "tuple_iterator",data:=.fields #[.ref l,.int 0 0] }).get? s.heap.objs.size=some (lI led):=aag _ g1;exact SetOf_congr ((setObjOf_fresh (knd:=intKind prog w) led).setOf y1 (by unfold scanBound;left)) (λ_=>rfl) rfl
    case hR =>
     intro s' hm yO;obtain⟨h',g',d',RL,SV⟩:=s';cases (show g'=s.gens from hm.gens);cases (show d'=s.drawn from hm.drawn);cases (show SV=s.os from hm.os);have yO:h'.SetOf (intKind prog w) s.heap.objs.size (λk=>(dist ns).any (· == k)) (dist ns).length:=by
      have e:aK.toArray.size=ns.length:=by rw[List.size_toArray,Ui]
      rw[e]at yO;exact yO
     refine aab (show wpAny _ _ (ret Value.none) _ _ _ from aab ⟨rfl,h',RL,rfl,yO,λb o hb e=>hm.heap b o (λm=>?_) (aag _ (aag _ e))⟩);rcases List.mem_cons.mp m with m|m
     ·exact aam hb m
     ·have m:b=(s.heap.push (lI led)).objs.size:=by simpa using m
      rw[hz]at m;exact aam (aaI hb) m
   ·cases r₂ with
    |error e=>exact tf
    |ok Pm =>
     cases Pm with
     |ret r =>
      obtain⟨rfl,h',tk,rfl,yO,CQ⟩:=tf
      repeat (any_goals (first|assumption|wp_step))
      exact h _ _ yO CQ
     |next=>exact tf.elim
     |brk=>exact tf.elim
     |cont=>exact tf.elim
end
theorem Ca(ns:aa):dist ns=tU ns:=by
 unfold dist firstMet tU;have e:(List.range ns.length).map (λi=>ns.getD i 0)=ns:=by
  refine abI (by simp) λi h1 h2=>?_;simp at h1;simp[h1]
 rw[e];rfl
def Yd(K:aq):ae->Hp->VK->Prop:=λxs H Q=>∃(p:Addr) (ns:aa),xs=[.ref p]/\aR K H p (ns.map V.int)/\ns.length<4000/\Q (.int (tU ns).length) H
theorem boot_set:bootBuiltins ("set" : Str)=some (.type "set"):=by decide +kernel
theorem Eb{e:Expr}{t:TA}{p:Pos}(hc:X.calm=true)(Uz:Gl X ("len" : Str))(YT:X.mg ("len" : Str)=none)(Y1:Gl X ("set" : Str))(YS:X.mg ("set" : Str)=none)(ha:PA X [e] t)
  (pd:∀es,starEach (e::es) X.env=(false,eval e X.env)::starEach es X.env):PE X (.Call (.Name ("len" : Str) p) [.Call (.Name ("set" : Str) p') [e] [] pos'] [] pos) (MC (Yd X.K) t):=by
 intro pins s σ H Q I h;refine aaU (dS I Uz YT PySem.boot_len ?_ (by decide) (by decide));refine PyProof.Rows.callWith_builtin1 ?_ rfl rfl;show wpAny _ _ (spliced ((false,eval (.Call (.Name ("set" : Str) p') [e] [] pos') X.env)::[])) _ _ s;refine abu ?_;refine aaU (dS I Y1 YS boot_set ?_ (by decide) (by decide));refine aau (cJ (ha pos' pins s σ H _ I h) λus s1 bL=>?_) (pd _) rfl;obtain⟨vs,H1,I1,r1,q1⟩:=bL;obtain⟨a,ns,rfl,hq,hl,q⟩:=q1;obtain⟨u,rfl,ru⟩:=r1.one;cases ru;obtain⟨aK,rv,it,hz⟩:=I1.tuple hq;have hle:aK.length=ns.length:=by rw[<- rv.length];simp
 refine uK (I1.ok.hd hc) it (dI rv) (by unfold scanBound;left) λh' tk hS kp=>abA ?_;rw[Ca]at hS;obtain⟨o,es,ep,tb,g1,g2,g3,_,_,g6,g7,g8⟩:=hS;refine call_len_set g1 g2 g3 g7 (by unfold scanBound at g6;omega) ?_;exact⟨.int (tU ns).length,H1,I1.kept (t':=tk+1+1) λb u z=>kp b u (aah z) z,⟨_,by rw[g8]⟩,q⟩
variable {args elts:au}
section
variable {X:Cx}{S:Sx}{k:Nat}{F:ai}{Φ:a_}
theorem Lk.VT(L:Lk X S k Φ):X.A.units+40<cLine:=by have:=L.room.units;left
def Qy(K:aq)(neg:Bool):R2:=λv u H Q=>∃(d d':D) (N N':gZ) (k k':bq),Rep (aR K H) N k v d/\Rep (aR K H) N' k' u d'/\(∀q p xs f,N q p (.l xs) f->cX K H p xs)/\(∀q p xs f,N' q p (.l xs) f->cX K H p xs)/\cO 40 d=true/\cO 40 d'=true /\
 Q (.bl (if neg then !ku d d' else ku d d')) H
theorem IY(hu:X.A.units+40<cLine):js X (compareOp .Eq) (Qy X.K false):=by
 intro pins s σ H x y v u Q I rx ry h;obtain⟨d,d',N,N',k,k',r1,r2,n1,n2,o1,o2,q⟩:=h;exact(alike I n1 n2 40 X.A r1 r2 o1 o2 rx ry hu).rc X.prog X.w X.xe _ ⟨.bl _,H,I,rfl,q⟩
theorem IW(hu:X.A.units+40<cLine):js X (compareOp .NotEq) (Qy X.K true):=by
 intro pins s σ H x y v u Q I rx ry h;obtain⟨d,d',N,N',k,k',r1,r2,n1,n2,o1,o2,q⟩:=h;exact(alike I n1 n2 40 X.A r1 r2 o1 o2 rx ry hu).ne X.prog X.w X.xe _ ⟨.bl _,H,I,rfl,q⟩
theorem Ah{N':gZ}{k:bq}{v v':V}{d d':D}(h:Rep T N k v d)(h':Rep T' N' k' v' d')(f:nj d=true)(f':nj d'=true):iw v=true/\C1 v v'=ku d d':=by
 cases h<;>first | (cases f;done) | (cases h'<;>first | (cases f';done)|exact⟨rfl,by simp[C1,ku]⟩)
theorem oT{k:bq}{v:V}{d:D}(h:Rep T N k v d)(f:nj d=true):iw v=true:=by
 cases h<;>first | (cases f;done)|rfl
theorem p8{T T':ka}{N N':gZ}{k':bq}{v:V}{d:D}(hv:Rep T' N' k' v d)(f:nj d=true):∀{k:bq} {n:Nat} {xs:ae} {ds:ab},az T N k n xs ds->ds.all nj=true->xs.all iw=true/\QQ v xs=inD d ds
 |_,_,_,_,.nil,_=>⟨rfl,rfl⟩
 |_,_,_,_,.cons h t,fs=>by
  rw[List.all_cons,Bool.and_eq_true]at fs;obtain⟨h1,h2⟩:=p8 hv f t fs.2;obtain⟨g1,g2⟩:=Ah h hv fs.1 f;refine⟨by rw[List.all_cons,g1,h1];rfl,?_⟩;unfold QQ at h2 ⊢;rw[List.any_cons,g2,h2];rfl
def Im(K:aq)(op:zt):R2:=match op with
 |.eq=>Qy K false
 |.ne=>Qy K true
 |.lt=>Ak λi j=>.bl (decide (i<j))
 |.le=>Ak λi j=>.bl (decide (i<=j))
 |.gt=>Ak λi j=>.bl (decide (j<i))
 |.ge=>Ak λi j=>.bl (decide (j<=i))
 |.EJ=>SD K false
theorem AI(L:Lk X S k Φ)(op:zt):js X (compareOp (SY op)) (Im X.K op):=by
 cases op with
 |eq=>exact IY L.VT
 |ne=>exact IW L.VT
 |lt=>exact NA
 |le=>exact NB
 |gt=>exact NC
 |ge=>exact ND
 |EJ=>exact yq
theorem AS{op:CmpOp}{r:Expr}(h:o7 r=true):behindInMarks op r=false:=by
 cases r<;>first|rfl | (cases h;done)
theorem ml{op:zt}{x y d:D}(OC:op=.lt\/op=.le\/op=.gt\/op=.ge)(h:iy op x y=ok d):∃i j,x=.int i/\y=.int j:=by
 cases x with
 |int i=>cases y with
  |int j=>exact⟨i,j,rfl,rfl⟩
  |_=>rcases OC with rfl|rfl|rfl|rfl<;>exact nk h
 |_=>rcases OC with rfl|rfl|rfl|rfl<;>exact nk h
theorem tZ{op:zt}{a b:CE}(hq:tD X F Φ (.cmp op a b) σ H Q):Gj (Im X.K op) (tD X F Φ a) (tD X F Φ b) σ H Q:=by
 obtain⟨R,τ,ρ,d,Si,ev,hq⟩:=hq;obtain⟨x,ex,ev⟩:=aB ev;obtain⟨y,ey,ev⟩:=aB ev;refine tD.intro Si ex λv H1 e1 r1=>tD.intro (Si.go e1) ey λu H2 e2 r2=>?_;have e:=e1.trans e2;have rv:=r1.go e2;have ru:=r2;obtain⟨τ1,f1,p1⟩:=rv;obtain⟨τ2,f2,p2⟩:=ru;have sq:∀{A:ai} {τ:Addr->Option bq} (q:bq) (p:Addr) (xs:ae) (f:Fl),nd X.K R A τ H2 q p (.l xs) f->cX X.K H2 p xs:=λq p xs f h=>h.sq;cases op with
 |eq =>
  obtain⟨hc,ev⟩:=me ev
  ·subst ev;rw[Bool.and_eq_true]at hc;exact⟨x,y,_,_,_,_,p1,p2,sq,sq,hc.1,hc.2,hq _ H2 e .bl⟩
 |ne =>
  obtain⟨hc,ev⟩:=me ev
  ·subst ev;rw[Bool.and_eq_true]at hc;exact⟨x,y,_,_,_,_,p1,p2,sq,sq,hc.1,hc.2,hq _ H2 e .bl⟩
 |lt=>obtain⟨i,j,rfl,rfl⟩:=ml (by simp) ev;cases ev;exact⟨_,_,(r1.go e2).isInt,r2.isInt,hq _ H2 e .bl⟩
 |le=>obtain⟨i,j,rfl,rfl⟩:=ml (by simp) ev;cases ev;exact⟨_,_,(r1.go e2).isInt,r2.isInt,hq _ H2 e .bl⟩
 |gt=>obtain⟨i,j,rfl,rfl⟩:=ml (by simp) ev;cases ev;exact⟨_,_,(r1.go e2).isInt,r2.isInt,hq _ H2 e .bl⟩
 |ge=>obtain⟨i,j,rfl,rfl⟩:=ml (by simp) ev;cases ev;exact⟨_,_,(r1.go e2).isInt,r2.isInt,hq _ H2 e .bl⟩
 |EJ =>
  simp only[iy]at ev;split at ev
  ·rename_i ds hi;split at ev
   ·rename_i hc;rw[Bool.and_eq_true]at hc;cases ev;cases p2 with
    |tup h rs=>cases hi;obtain⟨g1,g2⟩:=p8 p1 hc.1 rs hc.2;exact⟨_,_,rfl,.inr h,oT p1 hc.1,g1,by rw[g2];exact hq _ H2 e .bl⟩
    |lst h rs=>cases hi;obtain⟨g1,g2⟩:=p8 p1 hc.1 rs hc.2;exact⟨_,_,rfl,.inl h.sq,oT p1 hc.1,g1,by rw[g2];exact hq _ H2 e .bl⟩
    |_=>cases hi
   ·cases ev
  ·cases ev
theorem zT{c:CE}{Q:Bool->Hp->Prop}(h:gh X F Φ c σ H Q):tB (tD X F Φ c) σ H Q:=by
 obtain⟨R,τ,ρ,b,Si,ev,hq⟩:=h;unfold yS at ev;obtain⟨d,ed,et⟩:=aB ev;refine tD.intro Si ed λv H' e r=>?_;cases d<;>simp[gW]at et;cases et;exact⟨_,r.yA,hq H' e⟩
theorem cE{c:CE}{e:Expr}(h:PE X e (tD X F Φ c))(he:∀whole,isTrue e X.env whole=(do let v <- whole;standAt e.pos;holding [v] (truthy v))):PT X e (gh X F Φ c) :=
 PT.imp (Iv h he) λ_ _ _ h=>zT h
theorem yd{op:zt}{a b:CE}{Q:Bool->Hp->Prop}(h:gh X F Φ (.cmp op a b) σ H Q):Gi (Gj (Im X.K op) (tD X F Φ a) (tD X F Φ b)) σ H Q :=
 tZ (zT h)
theorem dictAt{pins:aj}{s:Shared}{p:Addr}{cs:ag}(I:Inv X pins σ H s)(h:H p=some (.ext (DO p cs as xs ep))):∃o,s.heap.get? p=some o/\o.cls=.type "dict":=by
 obtain⟨⟨zs,o,es,_,_,_,ho,hx,_⟩,_⟩:=(show cD X.prog X.w H s.heap p (.ext (DO p cs as xs ep)) from I.cQ p _ h)
 exact⟨o,ho,hx.1⟩
theorem Ef{pins:aj}{s:Shared}{p:Addr}{cs:ag}(I:Inv X pins σ H s)(h:H p=some (.ext (PJ p cs as xs ep))):∃o,s.heap.get? p=some o/\o.cls=.type "dict":=by
 obtain⟨⟨zs,o,es,_,_,_,ho,hx,_⟩,_⟩:=(show cD X.prog X.w H s.heap p (.ext (PJ p cs as xs ep)) from I.cQ p _ h)
 exact⟨o,ho,hx.1⟩
theorem Jt(L:Lk X S k Φ)(t:Ty):fN X (.builtin "isinstance") (λxs H Q=>∃(x:V) (d:D) (N:gZ) (k:bq),xs=[x,.ty (tyName t)]/\Rep (aR X.K H) N k x d/\(∀q p xs f,N q p (.l xs) f->cX X.K H p xs)/\(∀q p cs as xs ep f,N q p (.d cs as xs ep) f->H p=some (.ext (DO p cs as xs ep)))/\(∀q p cs as xs ep f,N q p (.ej cs as xs ep) f->H p=some (.ext (PJ p cs as xs ep)))/\Q (.bl (du t d)) H):=by
 intro pins s σ H xs us Q I r h;obtain⟨x,d,N,k,rfl,rp,hN,Zm,Zk,q⟩:=h;obtain⟨u,w',rfl,ru,gy⟩:=vals2 r;cases (show w'=Value.type (tyName t) from gy);have kt:=EB X.K t;have fin:∀b:Bool,b=du t d->∀tk,EP X pins σ Q (.bool b) { s with toks:=tk }:=λb e tk=>⟨.bl b,H,I.tok tk,rfl,by rw[e];exact q⟩
 cases rp with
 |cw=>cases ru;exact aa4 PySem.W.kitx_none I.yu True.intro (kt "NoneType" (by simp[kinds])) (λz=>nomatch z) (fin _ (by cases t<;>rfl))
 |bl b=>cases ru;exact aa4 PySem.W.kitx_bool I.yu True.intro (kt "bool" (by simp[kinds])) (λz=>nomatch z) (fin _ (by cases t<;>rfl))
 |int i=>obtain⟨t',rfl⟩:=ru;exact aa4 PySem.W.kitx_int I.yu True.intro (kt "int" (by simp[kinds])) (λz=>nomatch z) (fin _ (by cases t<;>rfl))
 |tup h _ =>
  cases ru;obtain⟨aK,_,⟨o,h1,h2,_⟩,_⟩:=I.tuple h;exact aa4 PySem.W.kitx_tuple I.yu ⟨o,h1,h2⟩ (kt "tuple" (by simp[kinds])) (λz=>nomatch z) (fin _ (by cases t<;>rfl))
 |lst h _ =>
  cases ru;obtain⟨aK,_,⟨o,n,h1,h2,_⟩,_⟩:=I.list (hN _ _ _ _ h);exact aa4 PySem.W.kitx_list I.yu ⟨o,h1,h2⟩ (kt "list" (by simp[kinds])) (λz=>nomatch z) (fin _ (by cases t<;>rfl))
 |bV h _ _ =>
  cases ru;obtain⟨o,h1,h2⟩:∃o,s.heap.get? _=some o/\o.cls=.type "dict":=dictAt I (Zm _ _ _ _ _ _ _ h);exact aa4 PySem.W.kitx_dict I.yu ⟨o,h1,h2⟩ (kt "dict" (by simp[kinds])) (λz=>nomatch z) (fin _ (by cases t<;>rfl))
 |cL h _ _ =>
  cases ru;obtain⟨o,h1,h2⟩:∃o,s.heap.get? _=some o/\o.cls=.type "dict":=Ef I (Zk _ _ _ _ _ _ _ h);exact aa4 PySem.W.kitx_dict I.yu ⟨o,h1,h2⟩ (kt "dict" (by simp[kinds])) (λz=>nomatch z) (fin _ (by cases t<;>rfl))
theorem FP(t:Ty):bootBuiltins (tyName t:Str)=some (.type (tyName t)):=by
 cases t<;>decide +kernel
theorem oJ(t:Ty):(tyName t:Str) ≠ "__name__" /\ ((tyName t:Str)==("__debug__" : Str))=false:=by
 cases t<;>decide +kernel
theorem Ia(L:Lk X S k Φ){a:CE}{t:Ty}{e:Expr}{p:Pos}(hf:gq S.sc ("isinstance" : Str)=true)(UC:("isinstance" : Str)∈S.bl)(hg:gq S.sc (tyName t:Str)=true)(Uy:(tyName t:Str)∈S.bl)
  (ha:PE X e (tD X F Φ a)) (pd:∀es,starEach (e::es) X.env=(false,eval e X.env)::starEach es X.env):PE X (.Call (.Name ("isinstance" : Str) p) [e,.Name (tyName t:Str) p'] [] pos) (tD X F Φ (.o_ a t)):=by
 have hT:PE X (.Name (tyName t:Str) p') (tC (.ty (tyName t))):=Ee (L.gl hg) (L.bl _ Uy) (FP t) rfl (oJ t).1 (oJ t).2;refine PE.imp (fi (Jt L t) (L.gl hf) (L.bl _ UC) PyProof.Rows.boot_isinstance (cA ha (cA hT dF) (pd _)) (he:=pd _)) λσ H Q hq=>?_;obtain⟨R,τ,ρ,d,Si,ev,hq⟩:=hq;obtain⟨x,ex,ev⟩:=aB ev;cases ev;refine tD.intro Si ex λv H1 e1 r1=>?_;obtain⟨τ1,f1,p1⟩:=r1;exact⟨v,x,_,_,rfl,p1,λq p xs f h=>h.sq,λq p cs as xs ep f h=>h.dat,λq p cs as xs ep f h=>h.pat,hq _ H1 e1 .bl⟩
theorem Jy:@DI.qz=@L2.qz:=rfl
theorem MQ(L:Lk X S k Φ){a b:CE}{e i:Expr}(ha:PE X e (tD X F Φ a))(hb:PE X i (tD X F Φ b))(hp:mw i):PE X (.Subscript e i pos) (tD X F Φ (.ix a b)):=by
 refine PE.imp (sR (qx.or Bc) ha hb hp) λσ H Q hq=>?_;obtain⟨R,τ,ρ,d,Si,ev,hq⟩:=hq;obtain⟨x,ex,ev⟩:=aB ev;obtain⟨y,ey,ev⟩:=aB ev;refine tD.intro Si ex λv H1 e1 r1=>tD.intro (Si.go e1) ey λu H2 e2 r2=>?_;have ee:=e1.trans e2;have rv:=(r1.go e2).mono (fv':=gR (.ix a b)) λj hj=>aaA _ hj;have item:∀{q:bq} {xs:ae} {ds:ab} {τt:Addr->Option bq} {j:Int},(∀p q,τt p=some q->H p=none)->az (aR X.K H2) (nd X.K R (iY (gP X F) τ (gR (.ix a b))) τt H2) q 0 xs ds->nM ds j=ok d->∃w,L2.C2 xs j=some w/\Q w H2:=by
  intro q xs ds τt j fr rs h;unfold nM at h;split at h
  ·rename_i d' hd;cases h;cases hx:DI.qz ds.length j with
   |none=>rw[hx]at hd;cases hd
   |some m =>
    rw[hx]at hd;obtain⟨w,hw,gy⟩:=rs.get (show ds[m]?=some d' from hd);refine⟨w,?_,hq w H2 ee ⟨λ_=>none,λ_ _ h=>by simp at h,gy.eV Si fr⟩⟩;unfold L2.C2;rw[<- Jy,rs.length,hx];exact hw
  ·cases h
 cases y with
 |int j =>
  obtain⟨τt,fr,rp⟩:=rv;cases r2.isInt;cases x with
  |tup ds =>
   cases rp with
   | @tup _ p xs _ h rs=>obtain⟨w,h1,h2⟩:=item fr rs ev;exact .inr ⟨p,xs,j,w,rfl,rfl,h,h1,h2⟩
  |lst f ds =>
   cases rp with
   | @lst _ p xs _ _ h rs=>obtain⟨w,h1,h2⟩:=item fr rs ev;exact .inl ⟨p,xs,j,w,rfl,rfl,h.sq,h1,h2⟩
  |_=>exact nk ev
 |_=>cases x<;>cases ev
theorem nu:∀(cs:aG) {ρ:ba} {ds:ab},cz Φ cs ρ=ok ds->ds.length=cs.length
 |[],_,_,h=>by cases h;rfl
 |c::cs,_,_,h=>by
  obtain⟨x,_,h⟩:=aB h;obtain⟨xs,hx,h⟩:=aB h;cases h;simp[nu cs hx]
theorem HY{es:au}{n:Nat}(h:PA X es (se X F Φ cs))(hl:cs.length<=1000):PE X (.Tuple es n pos) (tD X F Φ (.tup cs)):=by
 refine PE.imp (Az h) λσ H Q hq=>?_;obtain⟨R,τ,ρ,d,Si,ev,hq⟩:=hq;obtain⟨ds,KN,ev⟩:=aB ev;cases ev;refine⟨R,τ,ρ,ds,Si,KN,λvs H1 e1 r1=>?_⟩;obtain⟨τt,fr,rs⟩:=r1;have hz:sizeLine=16777216:=aaP;refine⟨by rw[rs.length,nu cs KN];left,λp hp=>?_⟩;have es:aM H1 (upd H1 p (.tup vs)):=aM.upd hp;exact hq _ _ (e1.trans es) ⟨τt,fr,.tup (aR.of aS) (rs.imp (λ_ _ h=>aR.same es h) λ_ _ _ _ h=>nd.same es h)⟩
theorem H_{es:au}(h:PA X es (se X F Φ cs))(hl:cs.length<=1000):PE X (.List es pos) (tD X F Φ (.lst cs)):=by
 refine PE.imp (AD h) λσ H Q hq=>?_;obtain⟨R,τ,ρ,d,Si,ev,hq⟩:=hq;obtain⟨ds,KN,ev⟩:=aB ev;cases ev;refine⟨R,τ,ρ,ds,Si,KN,λvs H1 e1 r1=>?_⟩;obtain⟨τt,fr,rs⟩:=r1;have hz:sizeLine=16777216:=aaP;refine⟨by rw[rs.length,nu cs KN];left,λp hp=>?_⟩;have es:aM H1 (upd H1 p (.lst vs)):=aM.upd hp;refine hq _ _ (e1.trans es) ⟨λq=>if q=p then some []else τt q,λq z hq=>?_,.lst ⟨aS,by simp⟩ (rs.imp (λ_ _ h=>aR.same es h) λc q xs f h=>?_)⟩
 ·by_cases rM:q=p
  ·subst rM;exact e1.free hp
  ·simp only[rM,if_false]at hq;exact fr q z hq
 ·have h':=nd.same es h;cases f with
  |ow =>
   have rM:q≠p:=by
    intro z;subst z;exact h.1.ne hp
   exact⟨h'.1,by simp only[rM,if_false];exact h'.2⟩
  |fz=>exact h'
  |al=>exact h'
  |sc=>exact h'
theorem DM(L:Lk X S k Φ){f:Nat}{x:Str}{y:Expr}{ys:au}{p:Pos}(hf:S.fn f=some x)(hg:gq S.sc x=true)(hn:lL x=true)(ha:PA X (y::ys) (se X F Φ cs))
  (pd:∀es,starEach (y::es) X.env=(false,eval y X.env)::starEach es X.env) (hpl:∀pos,(backTo pos (starEach ys X.env)).any (·.1)=false):PE X (.Call (.Name x p) (y::ys) [] pos) (tD X F Φ (.call f cs)):=by
 obtain⟨a,fd,ps,Fo,hm,hk,hb,hl⟩:=(L.fn f x hf).ex;unfold lL at hn;simp only[Bool.and_eq_true,Bool.not_eq_true']at hn;refine PE.imp (Ed Fo L.room (L.gl hg) hm hk hb .nil (Nv (X:=X)) ha hn.1.1 (pd _) (hpl _)) λσ H Q hq=>?_;obtain⟨R,τ,ρ,d,Si,ev,hq⟩:=hq;obtain⟨xs,cc,ev⟩:=aB ev;obtain⟨r,er,ev⟩:=aB ev;cases ev;refine⟨R,τ,ρ,xs,Si,cc,λvs H1 e1 r1=>?_⟩;obtain⟨τt,fr,rs⟩:=r1;have fresh:∀p,H p=none->iY (gP X F) τ (cW cs) p:=λp hp=>⟨.inr (Si.same.free hp),λc i e=>absurd hp (Si.th p _ e)⟩
 have hR:∀p,R p->iY (gP X F) τ (cW cs) p:=λp hp=>⟨Si.rf p hp,λc i e=>by rw[Si.rt p hp]at e;cases e⟩
 rw[List.append_nil];refine⟨iY (gP X F) τ (cW cs),aA aV xs,r,by rw[rs.length,<- hl _ _ er,aY,List.length_map],az.il (λ_ _ h=>h) (λk k' p xs f h=>?_) rs _ _,er,λv H2 e2 rr=>?_⟩
 ·cases f with
  |ow=>exact⟨h.1,fresh p (fr p _ h.2)⟩
  |fz=>exact⟨h.1,hR p h.2⟩
  |al=>exact h
  |sc=>exact h
 ·obtain⟨τ2,LW,rp⟩:=rr;refine hq v H2 (e1.trans e2) ⟨τ2,λp q h=>e1.free (LW p q h),Rep.map (q:=[]) (q':=[]) (λ_ _ h=>h) (λc p xs f h=>?_) rp [] rfl⟩;cases f with
  |ow=>exact h
  |fz=>exact⟨h.1,h.2.elim id λz=>fresh p (e1.free z)⟩
  |al=>exact h.2.elim
  |sc=>exact h
def V2(K:aq)(f:Bf):ae->Hp->VK->Prop:=match f with
 |.len=>λxs H Q=>∃p ys,xs=[.ref p]/\(cX K H p ys\/aR K H p ys)/\Q (.int ys.length) H
 |.abs=>λxs H Q=>∃i,xs=[.int i]/\Q (.int (if i<0 then -i else i)) H
 |.Bn=>λxs H Q=>(∃i,xs=[.int i]/\Q (.int i) H)\/∃k,xs=[.bl k]/\Q (.int (if k then 1 else 0)) H
 |.list1=>λxs H Q=>∃p ys,xs=[.ref p]/\(cX K H p ys\/aR K H p ys)/\∀l,H l=none->Q (.ref l) (upd H l (.lst ys))
 |.tuple1=>λxs H Q=>∃p ys,xs=[.ref p]/\((cX K H p ys/\∀l,H l=none->Q (.ref l) (upd H l (.tup ys)))\/(aR K H p ys/\Q (.ref p) H))
 |.mH=>λxs H Q=>∃(p:Addr) (ns:aa),xs=[.ref p]/\cX K H p (ns.map V.int)/\Q (.int ns.sum) H
 |.all1=>λxs H Q=>∃(p:Addr) (bs:List Bool),xs=[.ref p]/\cX K H p (bs.map V.bl)/\Q (.bl (bs.all id)) H
 |.cN=>λxs H Q=>∃(p:Addr) (ns:aa),xs=[.ref p]/\(cX K H p (ns.map V.int)\/aR K H p (ns.map V.int))/\ns.length<64/\∀l,H l=none->Q (.ref l) (upd H l (.lst ((sortI ns).map V.int)))
theorem az.one{k:bq}{n:Nat}{d:D}(h:az T N k n vs [d]):∃v,vs=[v]/\Rep T N (n::k) v d:=by
 cases h with
 |cons h t=>cases t;exact⟨_,rfl,h⟩
theorem az.two{k:bq}{n:Nat}{d e:D}(h:az T N k n vs [d,e]):∃v w,vs=[v,w]/\Rep T N (n::k) v d/\Rep T N ((n+1)::k) w e:=by
 cases h with
 |cons h t=>obtain⟨w,rfl,h'⟩:=t.one;exact⟨_,_,rfl,h,h'⟩
theorem az.ints1{k:bq}{n:Nat}{i:Int}(h:az T N k n vs [.int i]):vs=[.int i]:=by
 obtain⟨v,rfl,z⟩:=h.one;cases z;rfl
noncomputable def Bf.one:Bf->Bool
 |_=>true
theorem Hd{f:Bf}{xs:ab}{d:D}(hf:f.one=true)(h:nZ f xs=ok d):∃x,xs=[x]:=by
 cases xs with
 |nil=>cases f<;>exact nk h
 |cons x xs=>cases xs with
  |nil=>exact⟨x,rfl⟩
  |cons y ys=>cases f<;>first | (cases hf;done) | (cases x<;>exact nk h)
theorem az.ofInts{T:ka}{N:gZ}{k:bq}:∀{ns:aa} {n:Nat} {vs:ae},az T N k n vs (ns.map D.int)->vs=ns.map V.int
 |[],_,_,h=>by cases h;rfl
 |i::ns,_,_,h=>by
  cases h with
  |cons h t=>cases h;rw[az.ofInts t];rfl
theorem az.GG{T:ka}{N:gZ}{k:bq}:∀{ns:List Bool} {n:Nat} {vs:ae},az T N k n vs (ns.map D.bl)->vs=ns.map V.bl
 |[],_,_,h=>by cases h;rfl
 |i::ns,_,_,h=>by
  cases h with
  |cons h t=>cases h;rw[az.GG t];rfl
theorem dW{T:ka}{N:gZ}{k:bq}:∀(ns:aa) {n:Nat},az T N k n (ns.map V.int) (ns.map D.int)
 |[],_=>.nil
 |i::ns,_=>.cons (.int i) (dW ns)
theorem FQ{f:Bf}(hq:tD X F Φ (.bf f cs) σ H Q):MC (V2 X.K f) (se X F Φ cs) σ H Q:=by
 obtain⟨R,τ,ρ,d,Si,ev,hq⟩:=hq;obtain⟨xs,cc,ev⟩:=aB ev;refine⟨R,τ,ρ,xs,Si,cc,λvs H1 e1 r1=>?_⟩;obtain⟨τt,fr,rs⟩:=r1;cases f with
 |len =>
  obtain⟨x,rfl⟩:=Hd rfl ev;obtain⟨v,rfl,rv⟩:=rs.one;cases x with
  |tup ds=>cases ev;obtain⟨_,_,rfl,h,r⟩:=rv.x8;exact⟨_,_,rfl,.inr h,by rw[r.length];exact hq _ H1 e1 .int⟩
  |lst f ds=>cases ev;obtain⟨_,_,rfl,h,r⟩:=rv.n6;exact⟨_,_,rfl,.inl h.sq,by rw[r.length];exact hq _ H1 e1 .int⟩
  |_=>exact nk ev
 |abs =>
  obtain⟨x,rfl⟩:=Hd rfl ev;cases x with
  |int i=>cases ev;cases rs.ints1;exact⟨_,rfl,hq _ H1 e1 .int⟩
  |_=>exact nk ev
 |Bn =>
  obtain⟨x,rfl⟩:=Hd rfl ev;obtain⟨v,rfl,rv⟩:=rs.one;cases x with
  |int i=>cases ev;cases rv;exact .inl ⟨_,rfl,hq _ H1 e1 .int⟩
  |bl i=>cases ev;cases rv;exact .inr ⟨_,rfl,hq _ H1 e1 .int⟩
  |_=>exact nk ev
 |list1 =>
  obtain⟨x,rfl⟩:=Hd rfl ev;obtain⟨v,rfl,rv⟩:=rs.one;cases x with
  |tup ds =>
   cases ev;obtain⟨_,_,rfl,h,r⟩:=rv.x8;refine⟨_,_,rfl,.inr h,λl hl=>?_⟩;exact hq _ _ (e1.trans (aM.upd hl)) (bT.qh (e1.free hl) (e1.trans (aM.upd hl)) aS ((r.eV Si fr).imp (λ_ _ h=>aR.same (aM.upd hl) h) λ_ _ _ _ h=>nd.same (aM.upd hl) h))
  |lst f ds =>
   cases ev;obtain⟨_,_,rfl,h,r⟩:=rv.n6;refine⟨_,_,rfl,.inl h.sq,λl hl=>?_⟩;exact hq _ _ (e1.trans (aM.upd hl)) (bT.qh (e1.free hl) (e1.trans (aM.upd hl)) aS ((r.eV Si fr).imp (λ_ _ h=>aR.same (aM.upd hl) h) λ_ _ _ _ h=>nd.same (aM.upd hl) h))
  |_=>exact nk ev
 |tuple1 =>
  obtain⟨x,rfl⟩:=Hd rfl ev;obtain⟨v,rfl,rv⟩:=rs.one;cases x with
  |tup ds =>
   cases ev;obtain⟨_,_,rfl,h,r⟩:=rv.x8;exact⟨_,_,rfl,.inr ⟨h,hq _ H1 e1 ⟨λ_=>none,λ_ _ h=>by simp at h,.tup h (r.eV Si fr)⟩⟩⟩
  |lst f ds =>
   cases ev;obtain⟨_,_,rfl,h,r⟩:=rv.n6;refine⟨_,_,rfl,.inl ⟨h.sq,λl hl=>?_⟩⟩;exact hq _ _ (e1.trans (aM.upd hl)) ⟨λ_=>none,λ_ _ h=>by simp at h,.tup (aR.of aS) ((r.eV Si fr).imp (λ_ _ h=>aR.same (aM.upd hl) h) λ_ _ _ _ h=>nd.same (aM.upd hl) h)⟩
  |_=>exact nk ev
 |mH =>
  obtain⟨x,rfl⟩:=Hd rfl ev;obtain⟨v,rfl,rv⟩:=rs.one;cases x with
  |lst f ds =>
   have ev:(match intsOf ds with|some ns=>ok (.int ns.sum)|none=>none)=ok d:=ev;cases hn:intsOf ds with
   |none=>rw[hn]at ev;cases ev
   |some ns =>
    rw[hn]at ev;cases ev;cases c_ hn;cases rv with
    |lst h r=>cases r.ofInts;exact⟨_,ns,rfl,h.sq,hq _ H1 e1 .int⟩
  |_=>exact nk ev
 |all1 =>
  obtain⟨x,rfl⟩:=Hd rfl ev;obtain⟨v,rfl,rv⟩:=rs.one;cases x with
  |lst f ds =>
   have ev:(match i9 ds with|some bs=>ok (.bl (bs.all id))|none=>none)=ok d:=ev;cases hn:i9 ds with
   |none=>rw[hn]at ev;cases ev
   |some ns =>
    rw[hn]at ev;cases ev;cases ue hn;cases rv with
    |lst h r=>cases r.GG;exact⟨_,ns,rfl,h.sq,hq _ H1 e1 .bl⟩
  |_=>exact nk ev
 |cN =>
  obtain⟨x,rfl⟩:=Hd rfl ev;obtain⟨v,rfl,rv⟩:=rs.one;have fin:∀ds,oN ds=ok d->∃ns:aa,ds=ns.map D.int/\ns.length<64/\∀l,H1 l=none->Q (.ref l) (upd H1 l (.lst ((sortI ns).map V.int))):=by
   intro ds e;unfold oN at e;split at e
   ·rename_i ns hn;split at e
    ·rename_i rN;cases e;refine⟨ns,c_ hn,rN,λl hl=>hq _ _ (e1.trans (aM.upd hl)) (bT.qh (e1.free hl) (e1.trans (aM.upd hl)) aS (dW _))⟩
    ·cases e
   ·cases e
  cases x with
  |tup ds =>
   obtain⟨ns,rfl,rN,q⟩:=fin ds ev;cases rv with
   |tup h r=>cases r.ofInts;exact⟨_,ns,rfl,.inr h,rN,q⟩
  |lst f ds =>
   obtain⟨ns,rfl,rN,q⟩:=fin ds ev;cases rv with
   |lst h r=>cases r.ofInts;exact⟨_,ns,rfl,.inl h.sq,rN,q⟩
  |_=>exact nk ev
theorem MR(L:Lk X S k Φ){f:Bf}{y:Expr}{ys:au}{p:Pos}(hg:gq S.sc (rq f:Str)=true)(hb:(rq f:Str)∈S.bl)(ha:PA X (y::ys) (se X F Φ cs))
  (pd:∀es,starEach (y::es) X.env=(false,eval y X.env)::starEach es X.env) (hpl:∀pos,(backTo pos (starEach ys X.env)).any (·.1)=false):PE X (.Call (.Name (rq f:Str) p) (y::ys) [] pos) (tD X F Φ (.bf f cs)):=by
 refine PE.imp (t:=MC (V2 X.K f) (se X F Φ cs)) ?_ λσ H Q hq=>FQ hq;cases f with
 |len=>exact fi rl (L.gl hg) (L.bl _ hb) PySem.boot_len ha (he:=pd _) (hpl:=hpl _)
 |abs=>exact fi Co (L.gl hg) (L.bl _ hb) (by decide +kernel) ha (he:=pd _) (hpl:=hpl _)
 |Bn=>exact kJ y9 (L.gl hg) (L.bl _ hb) (by decide +kernel) ha (he:=pd _) (hpl:=hpl _)
 |list1=>exact kJ rg (L.gl hg) (L.bl _ hb) (by decide +kernel) ha (he:=pd _) (hpl:=hpl _)
 |tuple1=>exact kJ oA (L.gl hg) (L.bl _ hb) (by decide +kernel) ha (he:=pd _) (hpl:=hpl _)
 |mH=>exact fi (y8 L.calm) (L.gl hg) (L.bl _ hb) (by decide +kernel) ha (he:=pd _) (hpl:=hpl _)
 |cN=>exact fi rb (L.gl hg) (L.bl _ hb) (by decide +kernel) ha (he:=pd _) (hpl:=hpl _)
 |all1=>exact fi (y_ L.calm) (L.gl hg) (L.bl _ hb) (by decide +kernel) ha (he:=pd _) (hpl:=hpl _)
theorem DK(L:Lk X S k Φ){a:CE}{e:Expr}{p:Pos}(hf:gq S.sc ("len" : Str)=true)(UC:("len" : Str)∈S.bl)(hg:gq S.sc ("set" : Str)=true)(Uy:("set" : Str)∈S.bl)
  (ha:PE X e (tD X F Φ a)) (pd:∀es,starEach (e::es) X.env=(false,eval e X.env)::starEach es X.env):PE X (.Call (.Name ("len" : Str) p) [.Call (.Name ("set" : Str) p') [e] [] pos'] [] pos) (tD X F Φ (.je a)):=by
 refine PE.imp (Eb L.calm (L.gl hf) (L.bl _ UC) (L.gl hg) (L.bl _ Uy) (cA ha dF (pd _)) pd) λσ H Q hq=>?_;obtain⟨R,τ,ρ,d,Si,ev,hq⟩:=hq;obtain⟨x,ex,ev⟩:=aB ev;refine tD.intro Si ex λv H1 e1 r1=>?_;obtain⟨τ1,f1,rv⟩:=r1;cases x with
 |tup ds =>
  simp only[wU]at ev;split at ev
  ·rename_i ns hn;split at ev
   ·rename_i hl;cases ev;cases c_ hn;cases rv with
    |tup h r=>cases r.ofInts;exact⟨_,ns,rfl,h,hl,hq _ H1 e1 .int⟩
   ·cases ev
  ·cases ev
 |_=>exact nk ev
theorem HZ{a:CE}{e:Expr}(h:PE X e (tD X F Φ a)):PE X (.UnaryOp .Not e pos) (tD X F Φ (.not a)):=by
 refine PE.imp (IG h) λσ H Q hq=>?_;obtain⟨R,τ,ρ,d,Si,ev,hq⟩:=hq;obtain⟨b,eb,ev⟩:=aB ev;obtain⟨x,ex,eb⟩:=aB eb;cases ev;refine tD.intro Si ex λv H1 e1 r1=>?_;cases x<;>simp[gW]at eb;cases eb;exact⟨_,r1.yA,hq _ H1 e1 .bl⟩
theorem HN{a:CE}{e:Expr}(h:PT X e (gh X F Φ a)):PT X (.UnaryOp .Not e pos) (gh X F Φ (.not a)):=by
 refine PT.imp (Iw h) λσ H Q hq=>?_;obtain⟨R,τ,ρ,b,Si,ev,hq⟩:=hq;unfold yS at ev;obtain⟨d,ed,ev⟩:=aB ev;obtain⟨c,ec,ed⟩:=aB ed;cases ed;have Ve:b=!c:=by
  have e2:ok (!c)=ok b:=ev;exact(Except.ok.inj (aap e2)).symm
 subst Ve;exact⟨R,τ,ρ,c,Si,ec,λH' e=>hq H' e⟩
theorem H9{a:CE}{e:Expr}(h:PE X e (tD X F Φ a)):PE X (.UnaryOp .USub e pos) (tD X F Φ (.neg a)):=by
 refine PE.imp (Nq HE h) λσ H Q hq=>?_;obtain⟨R,τ,ρ,d,Si,ev,hq⟩:=hq;obtain⟨x,ex,ev⟩:=aB ev;refine tD.intro Si ex λv H1 e1 r1=>?_;cases x<;>simp[Er]at ev;cases ev;exact⟨_,r1.isInt,hq _ H1 e1 .int⟩
theorem FU{c:CE}(hq:tD X F Φ (.and [c]) σ H Q):tD X F Φ c σ H Q:=by
 obtain⟨R,τ,ρ,d,Si,ev,hq⟩:=hq;obtain⟨b,eb,ev⟩:=aB ev;obtain⟨x,ex,eb⟩:=aB eb;cases ev;refine tD.intro Si ex λv H1 e1 r1=>?_;cases x<;>simp[gW]at eb;cases eb;rw[r1.yA];exact hq _ H1 e1 .bl
theorem IT{c:CE}(hq:tD X F Φ (.or [c]) σ H Q):tD X F Φ c σ H Q:=by
 obtain⟨R,τ,ρ,d,Si,ev,hq⟩:=hq;obtain⟨b,eb,ev⟩:=aB ev;obtain⟨x,ex,eb⟩:=aB eb;cases ev;refine tD.intro Si ex λv H1 e1 r1=>?_;cases x<;>simp[gW]at eb;cases eb;rw[r1.yA];exact hq _ H1 e1 .bl
theorem Cw{c:CE}{Q:Bool->Hp->Prop}(hq:gh X F Φ (.and [c]) σ H Q):gh X F Φ c σ H Q:=by
 obtain⟨R,τ,ρ,d,Si,ev,hq⟩:=hq;unfold yS at ev;obtain⟨b,eb,ev⟩:=aB ev;obtain⟨x,ex,eb⟩:=aB eb;cases eb;cases ev;exact⟨R,τ,ρ,_,Si,ex,hq⟩
theorem Eg{c:CE}{Q:Bool->Hp->Prop}(hq:gh X F Φ (.or [c]) σ H Q):gh X F Φ c σ H Q:=by
 obtain⟨R,τ,ρ,d,Si,ev,hq⟩:=hq;unfold yS at ev;obtain⟨b,eb,ev⟩:=aB ev;obtain⟨x,ex,eb⟩:=aB eb;cases eb;cases ev;exact⟨R,τ,ρ,_,Si,ex,hq⟩
theorem Cy{c:CE}(hq:tD X F Φ (.and (c::c'::cs)) σ H Q):Gm (tD X F Φ c) (tD X F Φ (.and (c'::cs))) σ H Q:=by
 obtain⟨R,τ,ρ,d,Si,ev,hq⟩:=hq;obtain⟨b,eb,ev⟩:=aB ev;obtain⟨x,ex,eb⟩:=aB eb;refine tD.intro Si ex λv H1 e1 r1=>?_;cases x<;>simp[gW]at eb;cases eb;refine⟨_,r1.yA,?_⟩;cases b with
 |true =>
  rw[if_pos rfl]at ev ⊢;exact tD.intro (Si.go e1) ev λv H' e r=>hq v H' (e1.trans e) ((r.old e1).mono λi hi=>aao _ hi)
 |false =>
  rw[if_neg (by simp)]at ev ⊢;cases ev;exact hq _ H1 e1 .bl
theorem Eh{c:CE}(hq:tD X F Φ (.or (c::c'::cs)) σ H Q):Mx (tD X F Φ c) (tD X F Φ (.or (c'::cs))) σ H Q:=by
 obtain⟨R,τ,ρ,d,Si,ev,hq⟩:=hq;obtain⟨b,eb,ev⟩:=aB ev;obtain⟨x,ex,eb⟩:=aB eb;refine tD.intro Si ex λv H1 e1 r1=>?_;cases x<;>simp[gW]at eb;cases eb;refine⟨_,r1.yA,?_⟩;cases b with
 |false =>
  rw[if_neg (by simp)]at ev ⊢;exact tD.intro (Si.go e1) ev λv H' e r=>hq v H' (e1.trans e) ((r.old e1).mono λi hi=>aao _ hi)
 |true =>
  rw[if_pos rfl]at ev ⊢;cases ev;exact hq _ H1 e1 .bl
theorem zf{c:CE}{Q:Bool->Hp->Prop}(hq:gh X F Φ (.and (c::c'::cs)) σ H Q):MD (gh X F Φ c) (gh X F Φ (.and (c'::cs))) σ H Q:=by
 obtain⟨R,τ,ρ,d,Si,ev,hq⟩:=hq;unfold yS at ev;obtain⟨x,ex,et⟩:=aB ev;obtain⟨b,eb,ev⟩:=aB ex;refine⟨R,τ,ρ,b,Si,eb,λH1 e1=>?_⟩;cases b with
 |true =>
  rw[if_pos rfl]at ev ⊢;exact⟨R,τ,ρ,d,Si.go e1,by unfold yS;rw[show bC Φ (.and (c'::cs)) ρ=ok x from ev];exact et,λH' e=>hq H' (e1.trans e)⟩
 |false =>
  rw[if_neg (by simp)]at ev ⊢;cases ev;cases et;exact hq H1 e1
theorem AG{c:CE}{Q:Bool->Hp->Prop}(hq:gh X F Φ (.or (c::c'::cs)) σ H Q):VW (gh X F Φ c) (gh X F Φ (.or (c'::cs))) σ H Q:=by
 obtain⟨R,τ,ρ,d,Si,ev,hq⟩:=hq;unfold yS at ev;obtain⟨x,ex,et⟩:=aB ev;obtain⟨b,eb,ev⟩:=aB ex;refine⟨R,τ,ρ,b,Si,eb,λH1 e1=>?_⟩;cases b with
 |false =>
  rw[if_neg (by simp)]at ev ⊢;exact⟨R,τ,ρ,d,Si.go e1,by unfold yS;rw[show bC Φ (.or (c'::cs)) ρ=ok x from ev];exact et,λH' e=>hq H' (e1.trans e)⟩
 |true =>
  rw[if_pos rfl]at ev ⊢;cases ev;cases et;exact hq H1 e1
theorem jH{Q:ae->Hp->Prop}(hq:se X F Φ [] σ H Q):HH σ H Q:=by
 obtain⟨R,τ,ρ,d,Si,ev,hq⟩:=hq;cases ev;exact hq _ H (aM.refl H) .nil
theorem gf{c:CE}{Q:ae->Hp->Prop}(hq:se X F Φ (c::cs) σ H Q):zU (tD X F Φ c) (se X F Φ cs) σ H Q:=by
 obtain⟨R,τ,ρ,d,Si,ev,hq⟩:=hq;obtain⟨x,ex,ev⟩:=aB ev;obtain⟨xs,cc,ev⟩:=aB ev;cases ev;refine tD.intro Si ex λv H1 e1 r1=>⟨R,τ,ρ,xs,Si.go e1,cc,λvs H2 e2 r2=>hq _ H2 (e1.trans e2) (cv.cons e1 e2 (r1.mono λi hi=>aaA _ hi) (r2.mono λi hi=>aao _ hi))⟩
theorem bS{c:CE}{e:Expr}(h:cG S c e=true)(es:au)(env:Env):starEach (e::es) env=(false,eval e env)::starEach es env:=by
 cases e<;>first|rfl | (cases c<;>exact(aae h).elim)
theorem vG:∀{cs:aG} {es:au},b8 S cs es=true->∀(pos:Pos) (env:Env),(backTo pos (starEach es env)).any (·.1)=false
 |[],[],_,_,_=>rfl
 |[],_::_,h,_,_=>by exact(aae h).elim
 |_::_,[],h,_,_=>by exact(aae h).elim
 |c::cs,e::es,h,pos,env=>by
  replace h:=aN h;rw[bS h.1];have:=vG h.2 pos env;unfold backTo at this ⊢;simp only[List.map_cons,List.any_cons,Bool.false_or];exact this
theorem pF{c:CE}{e:Expr}(h:cG S c e=true):mw e:=by
 intro o i;cases e<;>first|rfl | (cases c<;>exact(aae h).elim)
theorem Ac{j:Nat}:PE X (.Constant .none j pos) (tD X F Φ .cw):=PE.imp IH λσ H Q bL=>by obtain⟨R,τ,ρ,d,Si,ev,hq⟩:=bL;cases ev;exact hq _ H (aM.refl H) .cw
theorem Gu{b:Bool}{j:Nat}:PE X (.Constant (.bool b) j pos) (tD X F Φ (.bl b)):=PE.imp Nu λσ H Q bL=>by obtain⟨R,τ,ρ,d,Si,ev,hq⟩:=bL;cases ev;exact hq _ H (aM.refl H) .bl
theorem Ad{i:Int}{j:Nat}:PE X (.Constant (.int i) j pos) (tD X F Φ (.int i)):=PE.imp II λσ H Q bL=>by obtain⟨R,τ,ρ,d,Si,ev,hq⟩:=bL;cases ev;exact hq _ H (aM.refl H) .int
theorem JB(L:Lk X S k Φ){y:Expr}{p JF:Pos}(g1:gq S.sc ("range" : Str)=true)(g2:("range" : Str)∈S.bl)(pa:PA X [y] (se X F Φ es))(yI:b8 S es [y]=true)
  (pins:aj) (s:Shared) (σ:St) (H:Hp) (R:ai) (τ:Addr->Option bq) (ρ:ba) (xs items:ab) (I:Inv X pins σ H s) (Si:SI X F R τ ρ σ H) (cc:cz Φ es ρ=ok xs) (vx:dU Φ .kn xs=ok items) (Rr:It->Hp->Prop)
  (hR:∀J H2,aM H H2->Yl X.K J (kG X F τ (caps++cW es) H2) H2 items->Rr J H2) :
  wpAny (model X.prog X.w) X.A (eval (.Call (.Name ("range" : Str) p) [y] [] JF) X.env) (λv s1=>wpAny (model X.prog X.w) X.A (pyIter v) (zp X pins σ target Rr) X.xe s1) X.xe s:=by
 match es,yI with
 |[c],yI =>
  replace yI:=aN yI;refine oX (L.gl g1) (L.bl _ g2) pa (bS yI.1 _ _) pins s σ H Rr I ⟨R,τ,ρ,xs,Si,cc,λvs H1 e1 rv=>?_⟩;obtain⟨τt,fr,rs⟩:=rv;obtain⟨n,rfl⟩:∃n,xs=[.int n]:=by
   cases xs with
   |nil=>cases vx
   |cons x t=>cases x<;>first | (cases vx;done) | (cases t with|nil=>exact⟨_,rfl⟩|cons _ _=>cases vx)
  cases rs.ints1
  ·obtain⟨⟨c1,c2⟩,vx⟩:=me vx;subst vx;have lQ:(cg:Int)=1000000:=rfl;refine⟨n,rfl,by left,by left,hR _ H1 e1 ?_⟩;have:=Hu (X:=X) (lo:=0) (n:=n.toNat) (R:=kG X F τ (caps++cW [c]) H1) (H1:=H1);simpa using this
 |[],yI=>exact(aae yI).elim
 |_::_::_,yI=>exact(aae (aN yI).2).elim
theorem JA(L:Lk X S k Φ){c:CE}{y:Expr}(pe:PE X y (tD X F Φ c))
  (pins:aj) (s:Shared) (σ:St) (H:Hp) (R:ai) (τ:Addr->Option bq) (ρ:ba) (xs items:ab) (I:Inv X pins σ H s) (Si:SI X F R τ ρ σ H) (cc:cz Φ [c] ρ=ok xs) (vx:dU Φ .seq xs=ok items) (Rr:It->Hp->Prop)
  (hR:∀J H2,aM H H2->Yl X.K J (kG X F τ (caps++cW [c]) H2) H2 items->Rr J H2) :
  wpAny (model X.prog X.w) X.A (eval y X.env) (λv s1=>wpAny (model X.prog X.w) X.A (pyIter v) (zp X pins σ target Rr) X.xe s1) X.xe s:=by
 obtain⟨x,ex,cc⟩:=aB cc;obtain⟨xs',Va,cc⟩:=aB cc;cases Va;cases cc;have WM:∀i∈gR c,i∈caps++cW [c]:=λi hi=>aao _ (aaA _ hi);cases x with
 |tup ds =>
  cases vx;refine Au pe pins s σ H Rr I (tD.intro Si ex λv H1 e1 rv=>?_);obtain⟨τt,fr,rp⟩:=rv;cases rp with
  | @tup _ p ys _ hp rs=>exact⟨p,rfl,⟨ys,hp⟩,hR _ H1 e1 (Ht (q:=[]) hp (az.il (λ_ _ h=>h) (uL Si fr WM) rs _ _))⟩
 |lst f ds =>
  cases vx;refine wA pe pins s σ H Rr I (tD.intro Si ex λv H1 e1 rv=>?_);obtain⟨τt,fr,rp⟩:=rv;cases rp with
  | @lst _ p ys _ _ hp rs=>exact⟨p,rfl,⟨ys,hp.sq⟩,hR _ H1 e1 (Dd (q:=[]) hp.sq (az.il (λ_ _ h=>h) (uL Si fr WM) rs _ _))⟩
 |_=>cases vx
theorem L9{xs:ab}{J:It}(Si:SI X F R τ ρ σ H)(hs:∀i∈fv,i∈fv')(r:cv X.K (gP X F) R τ fv H H2 vs xs)(y:Hi X.K J H2 vs xs items):
  Yl X.K J (kG X F τ fv' H2) H2 items:=by
 obtain⟨τt,fr,rs⟩:=r;have at':∀H',aM H2 H'->az (aR X.K H') (nd X.K (kG X F τ fv' H2) (λ_=>False) (λ_=>none) H') [] 0 vs (aA aV xs):=λH' e =>
  (az.il (T':=aR X.K H2) (λ_ _ h=>h) (uL Si fr hs) rs [] 0).imp (λ_ _ h=>aR.same e h) λ_ _ _ _ h=>nd.same e h
 have st:∀H',aM H2 H'->pM X.K H2 vs xs H':=λH' e=>⟨⟨_,at' H2 (aM.refl H2),λp o _ h=>e p o h⟩,λ_ _ h=>aR.same e h⟩
 exact⟨λi H' e hi=>y.go i H' _ (st H' e) (at' H' e) hi,λi H' x lF e hi hy=>y.ui i H' _ x lF (st H' e) (at' H' e) hi hy,λi H' e hi=>y.stop i H' _ (st H' e) (at' H' e) hi⟩
theorem JC(L:Lk X S k Φ){p:Nat}{y:Expr}(hp:S.px.pi p S.sc S.bl y=some args)(ht:(decide (1100<=p)||fQ target)=true)(hs:kg X F Φ es args)
  (pins:aj) (s:Shared) (σ:St) (H:Hp) (R:ai) (τ:Addr->Option bq) (ρ:ba) (xs items:ab) (I:Inv X pins σ H s) (Si:SI X F R τ ρ σ H) (cc:cz Φ es ρ=ok xs) (vx:dU Φ (.bR p) xs=ok items) (Rr:It->Hp->Prop)
  (hR:∀J H2,aM H H2->Yl X.K J (kG X F τ (caps++cW es) H2) H2 items->Rr J H2) :
  wpAny (model X.prog X.w) X.A (eval y X.env) (λv s1=>wpAny (model X.prog X.w) X.A (pyIter v) (zp X pins σ target Rr) X.xe s1) X.xe s:=by
 obtain⟨d,ed,ei⟩:=aB (show bd (Φ p xs) kF=ok items from vx);exact L.pr.i X _ _ k L.pX p y args hp F es target ht hs pins s σ H R τ ρ xs d items I Si cc ed ei Rr λJ H2 vs e2 r yz=>hR J H2 e2 (L9 Si (λi hi=>by simp[hi]) r yz)
theorem tW{S':Sx}{ifs:au}(h3:bM.length<=1)(h4:b8 S' bM ifs=true)
  (vn:∀(X':Cx) (F':ai),Lk X' S' k Φ->∀(j:Nat) (c:CE) (e:Expr),bM[j]?=some c->ifs[j]?=some e->PE X' e (tD X' F' Φ c)/\PT X' e (gh X' F' Φ c)) :
  (bM=[]/\ifs=[])\/∃c e,bM=[c]/\ifs=[e]/\∀(X':Cx) (F':ai),Lk X' S' k Φ->PT X' e (gh X' F' Φ c):=by
 cases bM with
 |nil=>cases ifs with
  |nil=>exact .inl ⟨rfl,rfl⟩
  |cons _ _=>exact(aae h4).elim
 |cons c cs=>cases cs with
  |cons _ _=>simp at h3
  |nil=>cases ifs with
   |nil=>exact(aae h4).elim
   |cons e ifs=>cases ifs with
    |cons _ _=>exact(aae (aN h4).2).elim
    |nil=>exact .inr ⟨c,e,rfl,rfl,λX' F' L'=>(vn X' F' L' 0 c e rfl rfl).2⟩
def PN(S:Sx)(ik:IK)(es:aG)(target iter:Expr):Bool:=match ik with
 |.kn=>bw (dP iter) λw=>decide (w.1=("range" : Str))&&gq S.sc w.1&&decide (w.1∈S.bl)&&bw (one w.2) λy=>b8 S es [y]
 |.seq=>b8 S es [iter]
 |.bR p=>QF iter&&(decide (1100<=p)||fQ target)&&bw (S.px.pi p S.sc S.bl iter) λxs=>b8 S es xs
theorem Bh(L:Lk X S k Φ){ik:IK}(yI:∀l,b8 S es l=true->PA X l (se X F Φ es))
  (vn:∀l,b8 S es l=true->∀(j:Nat) (c:CE) (e:Expr),es[j]?=some c->l[j]?=some e->PE X e (tD X F Φ c)/\PT X e (gh X F Φ c)) (YN:∀l,b8 S es l=true->kg X F Φ es l) (h6:PN S ik es target iter=true) :
  ∀(pins:aj) (s:Shared) (σ:St) (H:Hp) (R:ai) (τ:Addr->Option bq) (ρ:ba) (xs items:ab),Inv X pins σ H s->SI X F R τ ρ σ H->cz Φ es ρ=ok xs->dU Φ ik xs=ok items->∀(Rr:It->Hp->Prop),
   (∀J H2,aM H H2->Yl X.K J (kG X F τ (caps++cW es) H2) H2 items->Rr J H2) ->
   wpAny (model X.prog X.w) X.A (eval iter X.env) (λv s1=>wpAny (model X.prog X.w) X.A (pyIter v) (zp X pins σ target Rr) X.xe s1) X.xe s:=by
 cases ik with
 |kn =>
  obtain⟨⟨x,as⟩,hv,h6⟩:=bx h6;obtain⟨p,JF,rfl⟩:=cS hv;obtain⟨J8,g3⟩:=aN h6;obtain⟨J7,g2⟩:=aN J8;obtain⟨J6,g1⟩:=aN J7;obtain rfl:x=_:=aac J6;obtain⟨y,hu,Fe⟩:=bx g3;obtain rfl:as=[y]:=cf hu;exact JB L g1 (aac g2) (yI _ Fe) Fe
 |seq =>
  have Ua:=vn _ h6;cases es with
  |nil=>exact(aae h6).elim
  |cons c cs=>cases cs with
   |cons _ _=>exact(aae (aN h6).2).elim
   |nil=>exact JA L (Ua 0 c _ rfl rfl).1
 |bR p =>
  obtain⟨h6,g3⟩:=aN h6;obtain⟨xs,ha,Fe⟩:=bx g3;exact JC L ha (aN h6).2 (YN _ Fe)
mutual
theorem bB:∀(c:CE) (X:Cx) (S:Sx) (F:ai) (L:Lk X S k Φ) (e:Expr),cG S c e=true->PE X e (tD X F Φ c)/\PT X e (gh X F Φ c)
 |.bR p cs,X,S,F,L,e,h=>by
  obtain⟨args,ha,hb⟩:=bx (aN h).2;exact L.pr.e X _ _ k L.pX p e args ha F cs (iI cs X S F L args hb)
 |.cw,X,S,F,L,e,h=>by
  obtain⟨c,hv,gX⟩:=bx h;obtain⟨j,p,rfl⟩:=zF hv;obtain rfl:=yw gX;exact⟨Ac,cE Ac λ_=>rfl⟩
 |.bl b,X,S,F,L,e,h=>by
  obtain⟨c,hv,gX⟩:=bx h;obtain⟨j,p,rfl⟩:=zF hv;obtain rfl:=Bk gX;exact⟨Gu,cE Gu λ_=>rfl⟩
 |.int i,X,S,F,L,e,h=>by
  obtain⟨c,hv,gX⟩:=bx h;obtain⟨j,p,rfl⟩:=zF hv;obtain rfl:=yx gX;exact⟨Ad,cE Ad λ_=>rfl⟩
 |.v i,X,S,F,L,e,h=>by
  obtain⟨x,hv,h'⟩:=bx h;obtain⟨p,rfl⟩:=kB hv;have:=Se (F:=F) L h;exact⟨this,cE this λ_=>rfl⟩
 |.glo x i,X,S,F,L,e,h=>by
  obtain⟨y,hv,gX⟩:=bx h;obtain⟨pos,rfl⟩:=kB hv;obtain⟨lR,h3⟩:=aN gX;obtain⟨ox,h2⟩:=aN lR;obtain⟨BH,h1⟩:=aN ox;obtain rfl:=aac BH;obtain⟨u,hm,r⟩:=L.cs _ _ (aac h2);have this:PE X (.Name y pos) (tD X F Φ (.glo y i)):=PE.imp (wG (v:=.int i) (L.gl h1) hm r (lq h3)) λσ H Q bL=>by obtain⟨R,τ,ρ,d,Si,ev,hq⟩:=bL;cases ev;exact hq _ H (aM.refl H) .int
  exact⟨this,cE this λ_=>rfl⟩
 |.glt x zs,X,S,F,L,e,h=>by
  obtain⟨y,hv,gX⟩:=bx h;obtain⟨pos,rfl⟩:=kB hv;obtain⟨lR,h3⟩:=aN gX;obtain⟨ox,h2⟩:=aN lR;obtain⟨BH,h1⟩:=aN ox;obtain rfl:=aac BH;obtain⟨u,hm,a,o,aK,n,rfl,q1,q2,q3,q4,q5⟩:=L.cs _ _ (aac h2);have this:PE X (.Name y pos) (tD X F Φ (.glt y zs)):=PE.imp (wG (v:=.ref a) (L.gl h1) hm rfl (lq h3)) λσ H Q bL=>by
   obtain⟨R,τ,ρ,d,Si,ev,hq⟩:=bL;cases ev;exact hq _ H (aM.refl H) ⟨λ_=>none,λ_ _ h=>by simp at h,.tup (.inr ⟨o,aK,n,q1,q2,q3,q4,q5⟩) (dW zs)⟩
  exact⟨this,cE this λ_=>rfl⟩
 |.bin op a b,X,S,F,L,e,h=>by
  obtain⟨⟨l,o,r⟩,hv,gX⟩:=bx h;obtain⟨pos,rfl⟩:=vQ hv;obtain⟨lR,h2⟩:=aN gX;obtain⟨ox,h1⟩:=aN lR;obtain rfl:o=NF op:=aac ox;have:=Ib (F:=F) (pos:=pos) L (op:=op) (bB a X S F L _ h1).1 (bB b X S F L _ h2).1;exact⟨this,cE this λ_=>rfl⟩
 |.neg a,X,S,F,L,e,h=>by
  obtain⟨⟨o,x⟩,hv,gX⟩:=bx h;obtain⟨pos,rfl⟩:=zD hv;obtain⟨lR,h1⟩:=aN gX;obtain rfl:o=.USub:=aac lR;have:=H9 (F:=F) (Φ:=Φ) (pos:=pos) (bB a X S F L _ h1).1;exact⟨this,cE this λ_=>rfl⟩
 |.not a,X,S,F,L,e,h=>by
  obtain⟨⟨o,x⟩,hv,gX⟩:=bx h;obtain⟨pos,rfl⟩:=zD hv;obtain⟨lR,h1⟩:=aN gX;obtain rfl:o=.Not:=aac lR;exact⟨HZ (bB a X S F L _ h1).1,HN (bB a X S F L _ h1).2⟩
 |.and cs,X,S,F,L,e,h=>by
  obtain⟨⟨o,vs⟩,hv,gX⟩:=bx h;obtain⟨pos,rfl⟩:=rV hv;obtain⟨lR,h1⟩:=aN gX;obtain rfl:o=.And:=aac lR;exact⟨(kE cs X S F L vs h1 pos).1,(kE cs X S F L vs h1 pos).2.pt⟩
 |.or cs,X,S,F,L,e,h=>by
  obtain⟨⟨o,vs⟩,hv,gX⟩:=bx h;obtain⟨pos,rfl⟩:=rV hv;obtain⟨lR,h1⟩:=aN gX;obtain rfl:o=.Or:=aac lR;exact⟨(mI cs X S F L vs h1 pos).1,(mI cs X S F L vs h1 pos).2.pt⟩
 |.cmp op a b,X,S,F,L,e,h=>by
  obtain⟨⟨l,os,rs⟩,hv,gX⟩:=bx h;obtain⟨pos,rfl⟩:=vP hv;obtain⟨lR,h2⟩:=aN gX;obtain⟨ox,h1⟩:=aN lR;obtain⟨r,hr,UW⟩:=bx h2;obtain⟨Pa,h3⟩:=aN UW;obtain rfl:os=[SY op]:=aac ox;obtain rfl:rs=[r]:=cf hr;exact⟨PE.imp (wH (AI L op) (bB a X S F L _ h1).1 (bB b X S F L _ Pa).1 (AS h3)) λ_ _ _ ox=>tZ ox,PT.imp (wo (AI L op) (bB a X S F L _ h1).1 (bB b X S F L _ Pa).1 (AS h3)) λ_ _ _ ox=>yd ox⟩
 |.o_ a t,X,S,F,L,e,h=>by
  obtain⟨⟨f,as⟩,hv,gX⟩:=bx h;obtain⟨p,pos,rfl⟩:=cS hv;obtain⟨lR,h5⟩:=aN gX;obtain⟨ox,h2⟩:=aN lR;obtain⟨BH,h1⟩:=aN ox;obtain rfl:f=_:=aac BH;obtain⟨⟨e,g⟩,hw,Fd⟩:=bx h5;obtain rfl:as=[e,g]:=fO hw;obtain⟨O7,h6⟩:=aN Fd;obtain⟨x,hn,J8⟩:=bx h6;obtain⟨p',rfl⟩:∃p,g=.Name x p:=kB hn;obtain⟨J7,h4⟩:=aN J8;obtain⟨J6,h3⟩:=aN J7;obtain rfl:=aac J6;have:=Ia (F:=F) (p:=p) (p':=p') (pos:=pos) L h1 (aac h2) h3 (aac h4) (bB a X S F L _ O7).1 (λes=>bS O7 es _);exact⟨this,cE this λ_=>rfl⟩
 |.call f cs,X,S,F,L,e,h=>by
  obtain⟨⟨x,as⟩,hv,gX⟩:=bx h;obtain⟨p,pos,rfl⟩:=cS hv;obtain⟨lR,h4⟩:=aN gX;obtain⟨ox,h3⟩:=aN lR;obtain⟨h1,h2⟩:=aN ox;obtain⟨⟨y,ys⟩,hu,qL⟩:=bx h4;obtain rfl:as=y::ys:=zH hu;cases cs with
  |nil=>exact(aae qL).elim
  |cons c G_ =>
   have O9:=aN qL;have:=DM (F:=F) (p:=p) (pos:=pos) L (aac h1) h2 h3 (fh (c::G_) X S F L (y::ys) qL) (λes=>bS O9.1 es _) (λpos=>vG O9.2 pos _);exact⟨this,cE this λ_=>rfl⟩
 |.bf f cs,X,S,F,L,e,h=>by
  obtain⟨⟨x,as⟩,hv,gX⟩:=bx h;obtain⟨p,pos,rfl⟩:=cS hv;obtain⟨lR,h4⟩:=aN gX;obtain⟨ox,h3⟩:=aN lR;obtain⟨BH,h2⟩:=aN ox;obtain rfl:x=_:=aac BH;obtain⟨⟨y,ys⟩,hu,qL⟩:=bx h4;obtain rfl:as=y::ys:=zH hu;cases cs with
  |nil=>exact(aae qL).elim
  |cons c G_ =>
   have O9:=aN qL;have:=MR (F:=F) (p:=p) (pos:=pos) L h2 (aac h3) (fh (c::G_) X S F L (y::ys) qL) (λes=>bS O9.1 es _) (λpos=>vG O9.2 pos _);exact⟨this,cE this λ_=>rfl⟩
 |.je a,X,S,F,L,e,h=>by
  obtain⟨⟨x,as⟩,hv,gX⟩:=bx h;obtain⟨p,pos,rfl⟩:=cS hv;obtain⟨lR,h4⟩:=aN gX;obtain⟨ox,h2⟩:=aN lR;obtain⟨BH,h1⟩:=aN ox;obtain rfl:x=_:=aac BH;obtain⟨y,hu,qL⟩:=bx h4;obtain rfl:as=[y]:=cf hu;obtain⟨⟨z,bs⟩,hw,h4_3⟩:=bx qL;obtain⟨p',pos',rfl⟩:=cS hw;obtain⟨UU,h5⟩:=aN h4_3;obtain⟨UT,h6⟩:=aN UU;obtain⟨US,h3⟩:=aN UT;obtain rfl:z=_:=aac US;obtain⟨u,TZ,Fd⟩:=bx h5;obtain rfl:bs=[u]:=cf TZ;have:=DK (F:=F) (p:=p) (p':=p') (pos:=pos) (pos':=pos') L h1 (aac h2) h3 (aac h6) (bB a X S F L _ Fd).1 (λes=>bS Fd es _);exact⟨this,cE this λ_=>rfl⟩
 |.ix a b,X,S,F,L,e,h=>by
  obtain⟨⟨l,r⟩,hv,gX⟩:=bx h;obtain⟨pos,rfl⟩:=gw hv;obtain⟨h1,h2⟩:=aN gX;have:=MQ (F:=F) (pos:=pos) L (bB a X S F L _ h1).1 (bB b X S F L _ h2).1 (pF h2);exact⟨this,cE this λ_=>rfl⟩
 |.tup cs,X,S,F,L,e,h=>by
  obtain⟨es,hv,gX⟩:=bx h;obtain⟨n,pos,rfl⟩:=iE hv;obtain⟨h1,h2⟩:=aN gX;have:=HY (F:=F) (n:=n) (pos:=pos) (fh cs X S F L es h1) (aac h2);exact⟨this,cE this λ_=>rfl⟩
 |.lst cs,X,S,F,L,e,h=>by
  obtain⟨es,hv,gX⟩:=bx h;obtain⟨pos,rfl⟩:=vO hv;obtain⟨h1,h2⟩:=aN gX;have:=H_ (F:=F) (pos:=pos) (fh cs X S F L es h1) (aac h2);exact⟨this,cE this λ_=>rfl⟩
 |.comp n t caps ik es bM elt,X,S,F,L,e,h=>by
  obtain⟨⟨iX,gens,sc⟩,hv,gX⟩:=bx h;obtain⟨pos,rfl⟩:=zE hv;obtain⟨⟨target,iter,ifs,a⟩,hg,lR⟩:=bx gX;obtain rfl:gens=_:=cf hg;obtain⟨ox,h6⟩:=aN lR;obtain⟨BH,h5⟩:=aN ox;obtain⟨Zg,h4⟩:=aN BH;obtain⟨Zf,h3⟩:=aN Zg;obtain⟨Ze,h2⟩:=aN Zf;obtain⟨Zd,h1⟩:=aN Ze;obtain rfl:a=0:=aac Zd;have vn:=λ(X':Cx) (F':ai) (L':Lk X' (S.inner target caps sc) k Φ)=>hV bM X' _ F' L' ifs h4;have this:PE X (.ListComp iX [⟨target,iter,ifs,0⟩] sc pos) (tD X F Φ (.comp n t caps ik es bM elt)) :=
   DL L (pE h1) h2 (λX' F' L'=>(bB elt X' _ F' L' iX h5).1) (tW (aac h3) h4 vn) (Bh L (λl=>fh es X S F L l) (λl=>hV es X S F L l) (λl=>iI es X S F L l) h6)
  exact⟨this,cE this λ_=>rfl⟩
theorem hV:∀(cs:aG) (X:Cx) (S:Sx) (F:ai) (L:Lk X S k Φ) (es:au),b8 S cs es=true->∀(j:Nat) (c:CE) (e:Expr),cs[j]?=some c->es[j]?=some e->PE X e (tD X F Φ c)/\PT X e (gh X F Φ c)
 |[],X,S,F,L,_,_=>λj c e h _=>by simp at h
 |_::_,X,S,F,L,[],h=>by exact(aae h).elim
 |c::cs,X,S,F,L,e::es,h=>λj c' e' hc he=>by
  replace h:=aN h;cases j with
  |zero=>simp at hc he;subst hc he;exact bB c X S F L e h.1
  |succ j=>exact hV cs X S F L es h.2 j c' e' (by simpa using hc) (by simpa using he)
theorem iI:∀(cs:aG) (X:Cx) (S:Sx) (F:ai) (L:Lk X S k Φ) (es:au),b8 S cs es=true->kg X F Φ cs es
 |[],X,S,F,L,[],_=>trivial
 |[],X,S,F,L,_::_,h=>by exact(aae h).elim
 |_::_,X,S,F,L,[],h=>by exact(aae h).elim
 |c::cs,X,S,F,L,e::es,h=>by
  replace h:=aN h;exact⟨(bB c X S F L e h.1).1,λl=>bS h.1 l _,pF h.1,iI cs X S F L es h.2⟩
theorem fh:∀(cs:aG) (X:Cx) (S:Sx) (F:ai) (L:Lk X S k Φ) (es:au),b8 S cs es=true->PA X es (se X F Φ cs)
 |[],X,S,F,L,[],_=>PA.imp dF λ_ _ _ h=>jH h
 |[],X,S,F,L,_::_,h=>by exact(aae h).elim
 |_::_,X,S,F,L,[],h=>by exact(aae h).elim
 |c::cs,X,S,F,L,e::es,h=>by
  replace h:=aN h;exact PA.imp (cA (bB c X S F L e h.1).1 (fh cs X S F L es h.2) (bS h.1 es _)) λ_ _ _ h=>gf h
theorem kE:∀(cs:aG) (X:Cx) (S:Sx) (F:ai) (L:Lk X S k Φ) (es:au),b8 S cs es=true->∀pos,PE X (.BoolOp .And es pos) (tD X F Φ (.and cs))/\PW X (.BoolOp .And es pos) (gh X F Φ (.and cs))
 |[],X,S,F,L,_,_,pos=>⟨λ_ _ _ _ _ _ ⟨_,_,_,_,_,ev,_⟩=>(by cases ev),λ_ _ _ _ _ _ _ bL=>by obtain⟨_,_,_,_,_,ev,_⟩:=bL;cases ev⟩
 |[c],X,S,F,L,[e],h,pos=>by
  replace h:=aN h;exact⟨PE.imp (AB (bB c X S F L e h.1).1) λ_ _ _ h=>FU h,PW.imp (DX (bB c X S F L e h.1).2) λ_ _ _ h=>Cw h⟩
 |[_],X,S,F,L,[],h,_=>by exact(aae h).elim
 |[_],X,S,F,L,_::_::_,h,_=>by exact(aae (aN h).2).elim
 |_::_::_,X,S,F,L,[],h,_=>by exact(aae h).elim
 |_::_::_,X,S,F,L,[_],h,_=>by exact(aae (aN h).2).elim
 |c::c'::cs,X,S,F,L,e::e'::es,h,pos=>by
  replace h:=aN h;have r:=kE (c'::cs) X S F L (e'::es) h.2 pos;exact⟨PE.imp (IL (bB c X S F L e h.1).1 r.1) λ_ _ _ h=>Cy h,PW.imp (Ir (bB c X S F L e h.1).2 r.2) λ_ _ _ h=>zf h⟩
theorem mI:∀(cs:aG) (X:Cx) (S:Sx) (F:ai) (L:Lk X S k Φ) (es:au),b8 S cs es=true->∀pos,PE X (.BoolOp .Or es pos) (tD X F Φ (.or cs))/\PW X (.BoolOp .Or es pos) (gh X F Φ (.or cs))
 |[],X,S,F,L,_,_,pos=>⟨λ_ _ _ _ _ _ ⟨_,_,_,_,_,ev,_⟩=>(by cases ev),λ_ _ _ _ _ _ _ bL=>by obtain⟨_,_,_,_,_,ev,_⟩:=bL;cases ev⟩
 |[c],X,S,F,L,[e],h,pos=>by
  replace h:=aN h;exact⟨PE.imp (AB (bB c X S F L e h.1).1) λ_ _ _ h=>IT h,PW.imp (Iq (bB c X S F L e h.1).2) λ_ _ _ h=>Eg h⟩
 |[_],X,S,F,L,[],h,_=>by exact(aae h).elim
 |[_],X,S,F,L,_::_::_,h,_=>by exact(aae (aN h).2).elim
 |_::_::_,X,S,F,L,[],h,_=>by exact(aae h).elim
 |_::_::_,X,S,F,L,[_],h,_=>by exact(aae (aN h).2).elim
 |c::c'::cs,X,S,F,L,e::e'::es,h,pos=>by
  replace h:=aN h;have r:=mI (c'::cs) X S F L (e'::es) h.2 pos;exact⟨PE.imp (Nr (bB c X S F L e h.1).1 r.1) λ_ _ _ h=>Eh h,PW.imp (Nb (bB c X S F L e h.1).2 r.2) λ_ _ _ h=>AG h⟩
end
theorem hU(L:Lk X S k Φ)(c:CE)(e:Expr)(h:cG S c e=true):PE X e (tD X F Φ c)/\PT X e (gh X F Φ c):=bB c X S F L e h
theorem jK(L:Lk X S k Φ)(cs:aG)(es:au)(h:b8 S cs es=true):kg X F Φ cs es:=iI cs X S F L es h
theorem v9(L:Lk X S k Φ)(cs:aG)(es:au)(h:b8 S cs es=true):PA X es (se X F Φ cs):=fh cs X S F L es h
end
section
variable {X:Cx}{S:Sx}{k:Nat}{F:ai}{Φ:a_}
theorem uI(L:Lk X S k Φ)(c:CE)(e:Expr)(h:cG S c e=true):PE X e (tK X F Φ c):=by
 by_cases hv:∃i,c=.v i
 ·obtain⟨i,rfl⟩:=hv;obtain⟨x,hx,ha⟩:=bx h;obtain⟨p,rfl⟩:=kB hx;obtain⟨hb,h3⟩:=aN ha;obtain⟨h1,h2⟩:=aN hb;unfold lL at h3;simp only[Bool.and_eq_true,Bool.not_eq_true']at h3;refine PE.imp (qe (i:=i) (by rw[L.N];exact aac h1) (L.Qi h2) h3.1.1 h3.1.2) λσ H Q hq=>?_;obtain⟨R,τ,ρ,r,Si,ev,hq⟩:=hq;simp only[ji]at ev;split at ev
  ·rename_i d hd;split at ev
   ·cases ev;obtain⟨v,τ',hv,fM,rk⟩:=Si.move hd;exact⟨v,hv,hq v H R τ' (aM.refl H) (λ_ h=>h) fM rk⟩
   ·rename_i ho;cases ev;obtain⟨v,hv,rp⟩:=Si.rep i d hd;exact⟨v,hv,hq v H R τ (aM.refl H) (λ_ h=>h) Si (yL rp (by simpa using ho))⟩
  ·cases ev
 ·refine PE.imp (hU (F:=F) L c e h).1 λσ H Q hq=>?_;obtain⟨R,τ,ρ,r,Si,ev,hq⟩:=hq;have Ve:bd (bC Φ c ρ) (λd=>ok (keep c d ρ))=ok r:=by
   cases c<;>first|exact ev|exact absurd ⟨_,rfl⟩ hv
  obtain⟨d,ed,er⟩:=aB Ve;cases er;refine tD.intro Si ed λv H' e' r'=>?_;obtain⟨R',τ',h1,h2,h3⟩:=GN Si e' r';exact hq v H' R' τ' e' h1 h2 h3
end
structure Kp(R:ai)(H:Hp)(R':ai)(H':Hp):Prop where
 r:∀p,R p->R' p
 l:∀p (o:HO),R p->H p=some o->H' p=some o
 t:∀p xs,H p=some (.tup xs)->H' p=some (.tup xs)
 z:∀p o u,H p=some (.gY o u)->H' p=some (.gY o u)
theorem Kp.refl(R:ai)(H:Hp):Kp R H R H:=⟨λ_ h=>h,λ_ _ _ h=>h,λ_ _ h=>h,λ_ _ _ h=>h⟩
theorem Kp.of(e:aM H H')(h:∀p,R p->R' p):Kp R H R' H':=⟨h,λp xs _ h=>e _ _ h,λp xs h=>e _ _ h,λp o u h=>e _ _ h⟩
theorem Kp.trans{R2:Addr->Prop}(a:Kp R H R1 H1)(b:Kp R1 H1 R2 H2):Kp R H R2 H2 :=
 ⟨λp h=>b.r p (a.r p h),λp xs h e=>b.l p xs (a.r p h) (a.l p xs h e),λp xs h=>b.t p xs (a.t p xs h),λp o u h=>b.z p o u (a.z p o u h)⟩
theorem Kp.Qt(a:Kp R H R' H'){p:Addr}(h:aR K H p xs):aR K H' p xs:=by
 rcases h with (h|⟨o,h⟩)|h
 ·exact .inl (.inl (a.t p xs h))
 ·exact .inl (.inr ⟨o,a.z p o _ h⟩)
 ·exact .inr h
theorem Kp.nd{K:aq}{R R':ai}{H H':Hp}(a:Kp R H R' H'){q:bq}{p:Addr}{xs:Nd}{f:Fl}(h:DI.nd K R (λ_=>False) (λ_=>none) H q p xs f):DI.nd K R' (λ_=>False) (λ_=>none) H' q p xs f:=by
 cases f with
 |ow=>exact nomatch h.2
 |fz=>exact⟨h.1.at λo e=>a.l p o h.2 e,a.r p h.2⟩
 |al=>exact h.2.elim
 |sc =>
  obtain⟨ys,rfl,h⟩:=h.Ae;exact h.elim (λ⟨o,h⟩=>.inl ⟨o,a.z p o _ h⟩) .inr
theorem Kp.rep(a:Kp R H R' H'){k:bq}{v:V}{d:D}(h:Rep (aR K H) (DI.nd K R (λ_=>False) (λ_=>none) H) k v d):Rep (aR K H') (DI.nd K R' (λ_=>False) (λ_=>none) H') k v d :=
 h.imp (λ_ _ h=>a.Qt h) λ_ _ _ _ h=>a.nd h
theorem Kp.Sr(a:Kp R H R' H'){k:bq}{n:Nat}{v:ae}{d:ab}(h:az (aR K H) (DI.nd K R (λ_=>False) (λ_=>none) H) k n v d):az (aR K H') (DI.nd K R' (λ_=>False) (λ_=>none) H') k n v d :=
 h.imp (λ_ _ h=>a.Qt h) λ_ _ _ _ h=>a.nd h
def CF(X:Cx)(F:ai)(H':Hp)(v:V)(d:D):Prop:=∃τt:Addr->Option bq,(∀p q,τt p=some q->X.H₀ p=none)/\Rep (aR X.K H') (nd X.K (gP X F) (λ_=>False) τt H') [] v d
theorem gn.ret{v:V}{d:D}(Si:SI X F R τ ρ σ H)(h:gn X R τ H v d):CF X F H v d:=by
 obtain⟨τt,ht,rp⟩:=h;exact⟨τt,λp q e=>(ht p q e).2.2.1,rp.imp (λ_ _ h=>h) λ_ _ _ _ h=>h.mono (λh=>Si.rf _ h) id id⟩
def lE(X:Cx)(F:ai)(D:Ends)(R:ai)(H:Hp):Fo×ba->Prop
 | (.nx,ρ')=>∀σ' H' R' τ',SI X F R' τ' ρ' σ' H'->Kp R H R' H'->D.nx σ' H'
 | (.bk,ρ')=>∀σ' H' R' τ',SI X F R' τ' ρ' σ' H'->Kp R H R' H'->D.bk σ' H'
 | (.ct,ρ')=>∀σ' H' R' τ',SI X F R' τ' ρ' σ' H'->Kp R H R' H'->D.ct σ' H'
 | (.rt d,_)=>∀v H',aM X.H₀ H'->CF X F H' v d->D.rt v H'
def km(X:Cx)(F:ai)(Φ:a_)(c:CS):TS:=λD σ H=>∃R τ ρ r,SI X F R τ ρ σ H/\jh Φ c ρ=ok r/\lE X F D R H r
def n_(X:Cx)(F:ai)(Φ:a_)(cs:ah):TS:=λD σ H=>∃R τ ρ r,SI X F R τ ρ σ H/\bA Φ cs ρ=ok r/\lE X F D R H r
noncomputable def Jp(sc:Scope)(x:Str):Bool:=decide (sc.names.lookup x=some .local)||decide (sc.names.lookup x=some .cell)
def iA(S:Sx)(i:Nat):Expr->Bool
 |.Name x _=>decide (S.N[i]?=some x)&&Jp S.sc x
 |_=>false
def NM:Expr->Bool
 |.Name x _=>lL x
 |_=>true
def Ci(S:Sx):aQ->au->Bool
 |[],es=>match es with
  |[]=>true
  |_::_=>false
 |i::is,es=>match es with
  |[]=>false
  |e::es=>iA S i e&&Ci S is es
def yY(S:Sx):Tg->Expr->Bool
 |.nm i,e=>iA S i e
 |.tp is,e=>bw (uw e) λes=>Ci S is es
noncomputable def jf:Expr->Bool
 |.ListComp _ _ _ _=>true
 |_=>false
noncomputable def isTup:Expr->Bool
 |.Tuple _ _ _=>true
 |_=>false
noncomputable def R9(S:Sx)(tg v:Expr):Bool:=match tg,v with
 |.Name x p,.ListComp _ _ sc pos=>(S.sc.names.lookup x==some .local)&&(p.line==pos.line)&&!(sc.names.any λ(n,k)=>n==x&&(k==.local||k==.cell))
 |_,_=>false
noncomputable def HC:Expr->Option (Str×Pos)
 |.Name x p=>some (x,p)
 |_=>none
theorem vN{e:Expr}{x:Str}{p:Pos}(h:HC e=some (x,p)):e=.Name x p:=by
 cases e<;>first|exact nk h | (cases h;done) | (cases h;rfl)
def Cg(S:Sx)(i j:Nat)(tg v:Expr):Bool :=
 bw (uw tg) λts=>bw (two ts) λt=>bw (HC t.1) λx=>bw (HC t.2) λy=>bw (uw v) λvs=>bw (two vs) λw =>
  decide (S.N[i]?=some x.1)&&decide (S.N[j]?=some y.1)&&decide (i≠j)&&decide (S.sc.names.lookup x.1=some .local)&&decide (S.sc.names.lookup y.1=some .local)&&decide (x.1≠y.1) &&
   decide (x.2.line=y.2.line)&&!([w.1,w.2].all (foldedForSure 8))&&!([w.1,w.2].all (constantsAlone 8))&&decide (([w.1,w.2].any λe=>match e with|.Starred ..=>true|_=>false)=false)
def PQ(S:Sx)(it:CI)(e:Expr):Bool:=match it with
 |.kn a=>bw (dP e) λw=>decide (w.1=("range" : Str))&&gq S.sc w.1&&decide (w.1∈S.bl)&&bw (one w.2) λy=>cG S a y
 |.seq a=>cG S a e&&o7 e
 |.uS p es=>QF e&&bw (S.px.pi p S.sc S.bl e) λxs=>b8 S es xs
noncomputable def AM:CI->Bool
 |.uS p _=>decide (1100<=p)
 |_=>true
noncomputable def x_:Stmt->Option (au×Expr)
 |.Assign ts v _=>some (ts,v)
 |_=>none
theorem lV{s:Stmt}{ts:au}{v:Expr}(h:x_ s=some (ts,v)):∃p,s=.Assign ts v p:=by
 cases s<;>first|exact nk h | (cases h;done) | (cases h;exact⟨_,rfl⟩)
noncomputable def Mf:Stmt->Option (Option Expr)
 |.Return v _=>some v
 |_=>none
theorem Dh{s:Stmt}{v:Option Expr}(h:Mf s=some v):∃p,s=.Return v p:=by
 cases s<;>first|exact nk h | (cases h;done) | (cases h;exact⟨_,rfl⟩)
noncomputable def Mi:Stmt->Option Expr
 |.Expr v _=>some v
 |_=>none
theorem uy{s:Stmt}{v:Expr}(h:Mi s=some v):∃p,s=.Expr v p:=by
 cases s<;>first|exact nk h | (cases h;done) | (cases h;exact⟨_,rfl⟩)
noncomputable def Mg:Stmt->Option (Expr×bu×bu)
 |.If t x y _=>some (t,x,y)
 |_=>none
theorem Dj{s:Stmt}{t:Expr}{x y:bu}(h:Mg s=some (t,x,y)):∃q,s=.If t x y q:=by
 cases s<;>first|exact nk h | (cases h;done) | (cases h;exact⟨_,rfl⟩)
noncomputable def Me:Stmt->Option (Expr×bu×bu)
 |.While t x y _=>some (t,x,y)
 |_=>none
theorem Dg{s:Stmt}{t:Expr}{x y:bu}(h:Me s=some (t,x,y)):∃q,s=.While t x y q:=by
 cases s<;>first|exact nk h | (cases h;done) | (cases h;exact⟨_,rfl⟩)
noncomputable def Mh:Stmt->Option (Expr×Expr×bu×bu)
 |.For tg it x y _=>some (tg,it,x,y)
 |_=>none
theorem Dk{s:Stmt}{it:Expr}{x y:bu}(h:Mh s=some (tg,it,x,y)):∃q,s=.For tg it x y q:=by
 cases s<;>first|exact nk h | (cases h;done) | (cases h;exact⟨_,rfl⟩)
noncomputable def lb:Expr->Option (Expr×Str×Pos)
 |.Attribute o a p=>some (o,a,p)
 |_=>none
theorem jE{e:Expr}{a:Str}{p:Pos}(h:lb e=some (o,a,p)):e=.Attribute o a p:=by
 cases e<;>first|exact nk h | (cases h;done) | (cases h;rfl)
noncomputable def jc:Expr->Option (Expr×au×List Keyword×Pos)
 |.Call f as ks p=>some (f,as,ks,p)
 |_=>none
theorem iF{e f:Expr}{as:au}{ks:List Keyword}{p:Pos}(h:jc e=some (f,as,ks,p)):e=.Call f as ks p:=by
 cases e<;>first|exact nk h | (cases h;done) | (cases h;rfl)
noncomputable def isNil{α:Type}:List α->Bool
 |[]=>true
 |_::_=>false
theorem jX{α:Type}{l:List α}(h:isNil l=true):l=[]:=by cases l<;>first|rfl|cases h
noncomputable def EG:Stmt->Bool
 |.Raise _ _ _=>true
 |_=>false
theorem mm{i:Nat}{e:Expr}(h:iA S i e=true):∃x p,e=.Name x p:=by
 cases e<;>first|exact⟨_,_,rfl⟩|exact(aae h).elim
theorem EH{e:Expr}(h:isNm e=true):∃x p,e=.Name x p:=by cases e<;>first|exact nk h | (cases h;done)|exact⟨_,_,rfl⟩
theorem yy{e:Expr}(h:jf e=true):∃x g sc p,e=.ListComp x g sc p:=by cases e<;>first|exact nk h | (cases h;done)|exact⟨_,_,_,_,rfl⟩
mutual
noncomputable def PM(S:Sx):CS->Stmt->Bool
 |.asg t e,s0=>bw (x_ s0) λz=>bw (one z.1) λtg=>cG S e z.2&&yY S t tg&&!(isTup z.2&&isTup tg)&&(!jf z.2||isNm tg)
 |.par i j a b,s0=>bw (x_ s0) λz=>bw (one z.1) λtg=>cG S (.tup [a,b]) z.2&&Cg S i j tg z.2
 |.ret e,s0=>bw (Mf s0) λz=>bw z λv=>cG S e v
 |.rs _,s0=>EG s0
 |.mut p i es,s0=>bw (S.px.pm p S.sc S.bl s0) λz=>iA S i z.1&&NM z.1&&b8 S es z.2
 |.mu2 p i k e,s0=>bw (S.px.p2 p S.sc S.bl s0) λz=>iA S i z.1&&NM z.1&&b8 S [k,e] z.2
 |.pop2 i j e,s0=>bw (x_ s0) λz=>bw (one z.1) λtg=>iA S i tg&&bw (HD z.2) λw=>iA S i w.1&&NM w.1&&decide (w.2.1=.Add)&&bw (uw w.2.2) λts=>bw (one ts) λc=>bw (jc c) λu=>isNil u.2.2.1&&bw (lb u.1) λa=>decide (a.2.1=("pop" : Str))&&iA S j a.1&&NM a.1&&(a.2.2.endLine==u.2.2.2.line)&&bw (one u.2.1) λv=>cG S e v
 |.app i e,s0=>bw (Mi s0) λc=>bw (jc c) λz=>isNil z.2.2.1&&bw (lb z.1) λa=>decide (a.2.1=("append" : Str))&&iA S i a.1&&NM a.1&&(a.2.2.endLine==z.2.2.2.line)&&bw (one z.2.1) λv=>cG S e v
 |.ex e,s0=>bw (Mi s0) λv=>cG S e v&&!jf v
 |.ifs c a b,s0=>bw (Mg s0) λz=>cG S c z.1&&j5 S a z.2.1&&j5 S b z.2.2
 |.Hx c b,s0=>bw (Me s0) λz=>isNil z.2.2&&cG S c z.1&&j5 S b z.2.1
 |.fr t it b,s0=>bw (Mh s0) λz=>isNil z.2.2.2&&yY S t z.1&&PQ S it z.2.1&&(fQ z.1||AM it)&&j5 S b z.2.2.1
noncomputable def j5(S:Sx):ah->bu->Bool
 |[],ss=>match ss with
  |[]=>true
  |_::_=>false
 |c::cs,ss=>match ss with
  |[]=>false
  |s::ss=>PM S c s&&j5 S cs ss
end
structure Li(px:Px)(Φ:a_):Prop where
 m:∀(X:Cx) (sc:Scope) (bl:ak) (k:Nat),PX X sc bl k->X.N.Nodup->(∀x,X.fn x=true)->∀(p:Nat) (st:Stmt) (x:Str) (pos:Pos) (args:au),px.pm p sc bl st=some (.Name x pos,args)->∀(i:Nat),X.N[i]?=some x->L2.Loc X.env.scope x->PE X (.Name x pos) (n9 i) ->
  ∀(F:ai) (cs:aG),kg X F Φ cs args->PS X st (km X F Φ (.mut p i cs))
 m2:∀(X:Cx) (sc:Scope) (bl:ak) (k:Nat),PX X sc bl k->X.N.Nodup->(∀x,X.fn x=true)->∀(p:Nat) (st:Stmt) (x:Str) (pos:Pos) (args:au),px.p2 p sc bl st=some (.Name x pos,args)->∀(i:Nat),X.N[i]?=some x->L2.Loc X.env.scope x->PE X (.Name x pos) (n9 i) ->
  ∀(F:ai) (c1 c2:CE),kg X F Φ [c1,c2] args->PS X st (km X F Φ (.mu2 p i c1 c2))
structure oE(X:Cx)(S:Sx)(k:Nat)(Φ:a_):Prop extends Lk X S k Φ where
 CY:∀x,X.fn x=true
 px:PassesOwn (model X.prog X.w) X.A X.env X.xe
 fk:S.sc.kind=.function
 pm:Li S.px Φ
section
variable {X:Cx}{S:Sx}{k:Nat}{F:ai}{Φ:a_}
theorem oE.loc(L:oE X S k Φ){x:Str}(h:Jp S.sc x=true):L2.Loc X.env.scope x:=by
 unfold L2.Loc;rw[L.sc];unfold Jp at h;rw[Bool.or_eq_true]at h;exact h.imp aac aac
theorem Gn(L:oE X S k Φ){x:Str}{p:Pos}{l:Nat}{elt:Expr}{gens:List Comprehension}{sc:Scope}:swapsWith (.ListComp elt gens sc pos) (some (.Name x p)) l X.env=pure (R9 S (.Name x p) (.ListComp elt gens sc pos)):=by
 have hb:X.env.blockKind=.function:=by unfold Env.blockKind;rw[L.sc,L.fk];rfl
 have hk:(X.env.kindOf x==some .local)=(S.sc.names.lookup x==some .local):=by
  unfold Env.kindOf;rw[L.sc]
 unfold swapsWith R9;simp only[hb,hk];rfl
theorem t_{c:CE}{e:Expr}(h:cG S c e=true)(hc:jf e=false)(t:Option Expr)(l:Nat)(env:Env):swapsWith e t l env=pure false:=by
 cases e<;>first|rfl | (cases hc;done) | (cases c<;>exact(aae h).elim)
def U5:aQ->FZ
 |[]=>Kc
 |i::is=>BR (pk i) (U5 is)
theorem wC(L:oE X S k Φ){i:Nat}{e:Expr}(h:iA S i e=true):PG X e (pk i):=by
 cases e<;>try (exact(aae h).elim;done)
 replace h:=aN h;exact qc L.nd (by rw[L.N];exact aac h.1) (L.loc h.2) (.inl (L.CY _))
theorem Ep{i:Nat}{e:Expr}(h:iA S i e=true)(es:au)(env:Env):assignEach (e::es) env=(false,assign e env)::assignEach es env:=by
 cases e<;>first|rfl | (exact(aae h).elim;done)
theorem Ax(L:oE X S k Φ):∀{is:aQ} {es:au},Ci S is es=true->L5 X es (U5 is)/\(assignEach es X.env).length=is.length/\(assignEach es X.env).findIdx? (·.1)=none
 |[],[],_=>⟨wB,rfl,rfl⟩
 |[],_::_,h=>by exact(aae h).elim
 |_::_,[],h=>by exact(aae h).elim
 |i::is,e::es,h=>by
  replace h:=aN h;obtain⟨h1,h2,h3⟩:=Ax L h.2;have he:=Ep h.1 es X.env;refine⟨sQ (wC L h.1) h1 (by rw[he];rfl),by rw[he];simp[h2],?_⟩;rw[he,List.findIdx?_cons];simp[h3]
theorem so{H:Hp}{R:ai}{Q:St->Hp->Prop}:∀{is:aQ} {vs:ae} {ds:ab} {kp:bq} {n:Nat} {σ:St} {τ:Addr->Option bq} {ρ ρ':ba},az (aR X.K H) (nd X.K R (λ_=>False) (λ_=>none) H) kp n vs ds->SI X F R τ ρ σ H->gO is ds ρ=ok ρ' ->
  (∀σ' τ',SI X F R τ' ρ' σ' H->Q σ' H)->U5 is vs σ H Q
 |[],_,_,_,_,σ,τ,_,_,.nil,Si,e,hq=>by
  cases e;exact⟨rfl,hq σ τ Si⟩
 |[],_,_,_,_,_,_,_,_,.cons _ _,_,e,_=>by cases e
 |_::_,_,_,_,_,_,_,_,_,.nil,_,e,_=>by cases e
 |i::is,_,_,_,_,σ,τ,ρ,_,.cons (v:=v) (d:=d) h t,Si,e,hq=>by
  change (if _ then _ else _)=_ at e;split at e
  ·rename_i hi;obtain⟨τ',fM⟩:=Si.set (i:=i) (l3 (τ':=τ) (Rep.qo h)) hi;exact⟨_,_,rfl,so t fM e hq⟩
  ·cases e
theorem zP(L:oE X S k Φ){t:Tg}(h:yY S t tg=true):∃g,PG X tg g/\∀(v:V) (σ:St) (H:Hp) (Q:St->Hp->Prop) (R:ai) (τ:Addr->Option bq) (ρ ρ':ba) (d:D),SI X F R τ ρ σ H->gn X R τ H v d->cy t d ρ=ok ρ' ->
  (∀σ' τ',SI X F R τ' ρ' σ' H->Q σ' H)->g v σ H Q:=by
 cases t with
 |nm i =>
  refine⟨pk i,wC L h,λv σ H Q R τ ρ ρ' d Si rk e hq=>?_⟩;simp only[cy]at e;split at e
  ·rename_i hi;cases e;obtain⟨τ',fM⟩:=Si.set rk hi;exact hq _ τ' fM
  ·cases e
 |tp is =>
  obtain⟨es,hx,ha⟩:=bx h;obtain⟨nn,pp,rfl⟩:=iE hx;obtain⟨h1,h2,h3⟩:=Ax L ha;refine⟨_,Aw L.calm h1 h2 h3,λv σ H Q R τ ρ ρ' d Si rk e hq=>?_⟩;cases d<;>try (simp[cy]at e;done)
  rename_i ds;simp only[cy]at e;split at e
  ·cases e
  ·rename_i ho;obtain⟨τt,ht,rp⟩:=rk;cases rp with
   | @tup _ p xs _ hp rs =>
    have oq:az (aR X.K H) (nd X.K R (λ_=>False) (λ_=>none) H) [] 0 xs ds:=az.without (P:=bX) (λ_ _ h=>h) (λk k' p xs f hf h=>by
     cases f with
     |ow=>cases hf
     |fz=>exact h
     |al=>exact h.2.elim
     |sc=>exact h) rs (by simpa using ho) _ _
    refine⟨p,xs,rfl,hp,?_,so oq Si e hq⟩;rw[rs.length];have:∀(is:aQ) (ds:ab) (ρ ρ':ba),gO is ds ρ=ok ρ'->ds.length=is.length:=by
     intro is;induction is with
     |nil=>intro ds ρ ρ' e;cases ds with|nil=>rfl|cons _ _=>cases e
     |cons i is ih=>intro ds ρ ρ' e;cases ds with
      |nil=>cases e
      |cons d ds =>
       change (if _ then _ else _)=_ at e;split at e
       ·simp[ih ds _ _ e]
       ·cases e
    exact this _ _ _ _ e
end
section
variable {X:Cx}{S:Sx}{k:Nat}{F:ai}{Φ:a_}
theorem zZ(L:oE X S k Φ){t:Tg}{e:CE}{v:Expr}(he:cG S e v=true)(ht:yY S t tg=true)(hp:(isTup v&&isTup tg)=false)(EM:swapsWithSole [tg] v pos.line X.env=pure false):PS X (.Assign [tg] v pos) (km X F Φ (.asg t e)):=by
 obtain⟨g,hg,BC⟩:=zP (F:=F) L ht;have Gf:(∃x p,tg=.Name x p)\/∃es n p,tg=.Tuple es n p:=by
  cases t with
  |nm i=>cases tg<;>first|exact .inl ⟨_,_,rfl⟩|exact(aae ht).elim
  |tp is=>cases tg<;>first|exact .inr ⟨_,_,_,rfl⟩|exact(aae ht).elim
 have each:(assignEach [tg] X.env).map (·.2)=[assign tg X.env]:=by
  rcases Gf with ⟨x,p,rfl⟩|⟨es,n,p,rfl⟩<;>rfl
 have hw:swappedStores [tg] v X.env=pure none:=by
  rcases Gf with ⟨x,p,rfl⟩|⟨es,n,p,rfl⟩
  ·first|rfl | (cases v<;>rfl)
  ·cases v<;>first|rfl|exact absurd hp (by simp[isTup])
 refine PS.imp (As (uI (F:=F) L.toLk e v he) hg EM hw each) λD σ H hq=>?_;obtain⟨R,τ,ρ,r,Si,ev,hq⟩:=hq;obtain⟨r1,zo,ev⟩:=aB ev;obtain⟨ρ',eρ,ev⟩:=aB ev;cases ev;exact⟨R,τ,ρ,r1,Si,zo,λv H' R' τ' es hR fM rk=>BC v σ H' _ R' τ' r1.2 ρ' r1.1 fM rk eρ λσ' zu Lg=>hq σ' H' R' zu Lg (Kp.of es hR)⟩
theorem DF(L:oE X S k Φ){i n:Nat}{t:Tg}{ik:IK}{x:Str}{p MM:Pos}{gens:List Comprehension}{sc:Scope}
  (he:cG S (.comp n t caps ik es bM elt) (.ListComp iX gens sc pos)=true) (hn:iA S i (.Name x p)=true) (EM:swapsWith (.ListComp iX gens sc pos) (some (.Name x p)) MM.line X.env=pure true) :
  PS X (.Assign [.Name x p] (.ListComp iX gens sc pos) MM) (km X F Φ (.asg (.nm i) (.comp n t caps ik es bM elt))):=by
 intro pins s σ H D I hq;obtain⟨R,τ,ρ,r,Si,ev,hq⟩:=hq;obtain⟨r1,zo,ev⟩:=aB ev;obtain⟨ρ',eρ,ev⟩:=aB ev;cases ev;have zo:bd (bC Φ (.comp n t caps ik es bM elt) ρ) (λd=>ok (keep (.comp n t caps ik es bM elt) d ρ))=ok r1:=zo;obtain⟨d,ed,zo⟩:=aB zo;cases zo;have hg:=wC L hn;rw[exec_Assign_Name_used _ _ _ _ EM];refine aaa (acb (aaa ?_));obtain⟨⟨e0,g0,s0⟩,QV,GS⟩:=bx he;cases QV;obtain⟨⟨target,iter,ifs,a⟩,Uz,hz⟩:=bx GS;obtain rfl:gens=_:=cf Uz;obtain⟨hz,h6⟩:=aN hz;obtain⟨hz,h5⟩:=aN hz;obtain⟨hz,h4⟩:=aN hz;obtain⟨hz,h3⟩:=aN hz;obtain⟨hz,h2⟩:=aN hz;obtain⟨hz,h1⟩:=aN hz;obtain rfl:a=0:=aac hz;have hC:=tW (aac h3) h4 (λ(X':Cx) (F':ai) (L':Lk X' (S.inner target caps sc) k Φ)=>hV bM X' _ F' L' ifs h4);have run:wpAny (model X.prog X.w) X.A (comprehension (.ListComp iX [⟨target,iter,ifs,0⟩] sc pos) sc X.env (firstIterPos [⟨target,iter,ifs,0⟩] pos) (newList []) false (eval iter X.env) (some (assign (.Name x p) X.env))) (λ_ s'=>SP X pins D .next s') X.xe s:=by
  refine tY (F:=F) (k:=k) L.toLk (pE h1) h2 (λX' F' L'=>(hU (F:=F') L' elt iX h5).1) hC ?_ (use:=some (assign (.Name x p) X.env)) (Post:=λ_ s'=>SP X pins D .next s') I Si ed ?_
  ·exact Bh L.toLk (λl=>v9 (F:=F) L.toLk es l) (λl=>hV es X S F L.toLk l) (λl=>jK L.toLk es l) h6
  ·intro acc C H1 s1 m yF hc IX sm rt;obtain⟨c1,c2,c3,c4,c5⟩:=hc;obtain⟨R',τ',hR,fM,rk⟩:=GN (e:=.comp n t caps ik es bM elt) Si sm rt;have I1:Inv X pins σ H1 s1:=IX s1.heap (.refl ..);obtain⟨oC,ZD,ZE,YQ,WO,YM⟩:=yF;have ZZ:C∉X.fs:=λz=>by
    obtain⟨_,o,ho,_⟩:=I1.ok.lS.mem z;exact absurd (aaj (aah ho) c2) (aat _)
   have I2:Inv X ((C,oC)::pins) σ H1 s1:=I1.iJ λq hq=>by
    rcases List.mem_cons.mp hq with rfl|hq
    ·exact⟨YQ,c5,c1,ZZ,λv z=>by rw[WO]at z;cases z⟩
    ·exact I1.pin q (aao _ hq)
   simp only[cy]at eρ;split at eρ
   ·rename_i hi;cases eρ;obtain⟨τ2,lC⟩:=fM.set rk hi;show wpAny _ _ (assign (.Name x p) X.env (.ref acc)) _ _ _;refine aaw (hg ((C,oC)::pins) s1 σ H1 (.ref acc) (.ref acc) (λσ' H'=>σ'=σ.set i (some (.ref acc))/\H'=H1) I2 rfl ⟨rfl,rfl⟩) (λ_ s2 h2=>?_) λ_ _ z=>z;obtain⟨σ',H',I3,rfl,rfl⟩:=h2;have Zn:=(I3.pin (C,oC) (aao _ aaf)).1;refine⟨m,⟨oC,ZD,ZE,Zn,WO,YM⟩,λh' yD=>?_⟩;have I4:Inv X pins (σ.set i (some (.ref acc))) H' s2:=I3.iJ λq hq=>I3.pin q (aao _ (aad _ hq));have I5:=I4.turned (t':=s2.toks) (h':=h') (it:=C) (λb o hb e=>(yD.2 b hb).trans e) c5 c1 (.inr c2) c3 c4;exact⟨_,H',I5,hq _ H' R' τ2 lC (Kp.of sm hR)⟩
   ·cases eρ
 exact aaa (aaw run (λ_ s' h=>aab (aab h)) λ_ _ z=>z)
theorem HQ(L:oE X S k Φ){e:CE}{v:Expr}(he:cG S e v=true):PS X (.Return (some v) pos) (km X F Φ (.ret e)):=by
 refine PS.imp (Iz (uI (F:=F) L.toLk e v he)) λD σ H hq=>?_;obtain⟨R,τ,ρ,r,Si,ev,hq⟩:=hq;obtain⟨r1,zo,ev⟩:=aB ev;cases ev;exact⟨R,τ,ρ,r1,Si,zo,λv H' R' τ' es hR fM rk=>hq v H' fM.same (rk.ret fM)⟩
theorem MK(L:oE X S k Φ){e:CE}{v:Expr}(he:cG S e v=true)(Uk:jf v=false):PS X (.Expr v pos) (km X F Φ (.ex e)):=by
 refine PS.imp (jM (hU (F:=F) L.toLk e v he).1 (t_ he Uk _ _ _)) λD σ H hq=>?_;obtain⟨R,τ,ρ,r,Si,ev,hq⟩:=hq;obtain⟨d,ed,ev⟩:=aB ev;cases ev;exact tD.intro Si ed λv H' es rv=>hq σ H' R τ (Si.go es) (Kp.of es λ_ h=>h)
theorem lE.from{D:Ends}{r:Fo×ba}(h:lE X F D R H r)(kp:Kp R H R1 H1):lE X F D R1 H1 r:=by
 obtain⟨fo,ρ'⟩:=r;cases fo with
 |nx=>exact λσ' H' R' τ' Si k2=>h σ' H' R' τ' Si (kp.trans k2)
 |bk=>exact λσ' H' R' τ' Si k2=>h σ' H' R' τ' Si (kp.trans k2)
 |ct=>exact λσ' H' R' τ' Si k2=>h σ' H' R' τ' Si (kp.trans k2)
 |rt d=>exact h
theorem MJ(L:oE X S k Φ){c:CE}{a b:ah}{t:Expr}{x y:bu}(hc:cG S c t=true)(ha:mx X x (n_ X F Φ a))(hb:mx X y (n_ X F Φ b)):PS X (.If t x y pos) (km X F Φ (.ifs c a b)):=by
 refine PS.imp (Nh (hU (F:=F) L.toLk c t hc).2 ha hb) λD σ H hq=>?_;obtain⟨R,τ,ρ,r,Si,ev,hq⟩:=hq;obtain⟨w,ew,ev⟩:=aB ev;refine⟨R,τ,ρ,w,Si,ew,λH1 e1=>?_⟩;cases w with
 |true=>rw[if_pos rfl]at ev ⊢;exact⟨R,τ,ρ,r,Si.go e1,ev,hq.from (Kp.of e1 λ_ h=>h)⟩
 |false=>rw[if_neg (by simp)]at ev ⊢;exact⟨R,τ,ρ,r,Si.go e1,ev,hq.from (Kp.of e1 λ_ h=>h)⟩
theorem zY(L:oE X S k Φ){c:CE}{b:ah}{t:Expr}{x:bu}(hc:cG S c t=true)(hb:mx X x (n_ X F Φ b)):PS X (.While t x [] pos) (km X F Φ (.Hx c b)):=by
 refine PS.imp (Aq L.px (hU (F:=F) L.toLk c t hc).2 hb) λD σ H hq=>?_;obtain⟨R,τ,ρ,r,Si,ev,hq⟩:=hq;obtain⟨n,hn⟩:=kK ev;refine⟨λm σ' H'=>∃R' τ' ρ',SI X F R' τ' ρ' σ' H'/\Kp R H R' H'/\cV m _ ρ'=ok r,⟨n,R,τ,ρ,Si,Kp.refl R H,hn⟩,?_⟩;rintro m σ1 H1 ⟨R1,τ1,ρ1,lU,k1,e1⟩;cases m with
 |zero=>simp[cV]at e1
 |succ m =>
  rw[cV]at e1;obtain⟨st,es,e1⟩:=aB e1;obtain⟨w,ew,es⟩:=aB es;refine⟨R1,τ1,ρ1,w,lU,ew,λH2 e2=>?_⟩;cases w with
  |false =>
   rw[if_neg (by simp)]at es ⊢;cases es;cases e1;exact hq σ1 H2 R1 τ1 (lU.go e2) (k1.trans (Kp.of e2 λ_ h=>h))
  |true =>
   rw[if_pos rfl]at es ⊢;obtain⟨⟨fo,ρ2⟩,eb,es⟩:=aB es;refine⟨λσ' H'=>∃R' τ' ρ',SI X F R' τ' ρ' σ' H'/\Kp R H R' H'/\cV m _ ρ'=ok r,λσ' H' h=>⟨m,aaT m,h⟩,R1,τ1,ρ1,(fo,ρ2),lU.go e2,eb,?_⟩;have k2:Kp R H R1 H2:=k1.trans (Kp.of e2 λ_ h=>h);cases fo with
   |nx=>cases es;exact λσ' H' R' τ' fM k3=>⟨R',τ',ρ2,fM,k2.trans k3,e1⟩
   |ct=>cases es;exact λσ' H' R' τ' fM k3=>⟨R',τ',ρ2,fM,k2.trans k3,e1⟩
   |bk=>cases es;cases e1;exact λσ' H' R' τ' fM k3=>hq σ' H' R' τ' fM (k2.trans k3)
   |rt d=>cases es;cases e1;exact hq
def ki(X:Cx)(F:ai)(Φ:a_)(t:Tg)(b:ah)(R1:ai)(H1:Hp)(r:Fo×ba)(items:List DI.D)(i:Nat)(σ:St)(H:Hp):Prop :=
 ∃R' τ' ρ',SI X F R' τ' ρ' σ H/\Kp R1 H1 R' H/\dJ (λd ρ=>cy t d ρ) (λρ=>bA Φ b ρ) (items.drop i) ρ'=ok r
theorem nh{g:TG}{t:Tg}{b:ah}{D:Ends}{r:Fo×ba}{items:List DI.D}{q:bq}
  (BC:∀(v:V) (σ:St) (H:Hp) (Q:St->Hp->Prop) (R:ai) (τ:Addr->Option bq) (ρ ρ':ba) (d:DI.D),SI X F R τ ρ σ H->gn X R τ H v d->cy t d ρ=ok ρ'->(∀σ' τ',SI X F R τ' ρ' σ' H->Q σ' H)->g v σ H Q)
  (rs:az (aR X.K H1) (nd X.K R1 (λ_=>False) (λ_=>none) H1) q 0 xs items) (hq:lE X F D R1 H1 r) (i:Nat) (x:V) (σ:St) (H:Hp) (hx:xs[i]?=some x) (h:ki X F Φ t b R1 H1 r items i σ H) :
  g x σ H λσ2 H2=>n_ X F Φ b { D with nx:=ki X F Φ t b R1 H1 r items (i+1),ct:=ki X F Φ t b R1 H1 r items (i+1),bk:=D.nx } σ2 H2:=by
 obtain⟨R',τ',ρ',Si,kp,ef⟩:=h;obtain⟨d,hd,rd⟩:=rs.tI hx;have hi:i<items.length:=by
  by_cases hi:i<items.length
  ·exact hi
  ·rw[List.getElem?_eq_none (by left)]at hd;cases hd
 have tE:items.drop i=d::items.drop (i+1):=by
  rw[List.drop_eq_getElem_cons hi];rw[List.getElem?_eq_getElem hi]at hd;cases hd;rfl
 rw[tE,dJ]at ef;obtain⟨ρ1,e1,ef⟩:=aB ef;obtain⟨⟨fo,ρ2⟩,e2,ef⟩:=aB ef;refine BC x σ H _ R' τ' ρ' ρ1 d Si (l3 (Rep.qo (kp.rep rd))) e1 λσ' zu fM=>⟨R',zu,ρ1,(fo,ρ2),fM,e2,?_⟩
 cases fo with
 |nx=>exact λσ3 H3 R3 τ3 oD k3=>⟨R3,τ3,ρ2,oD,kp.trans k3,ef⟩
 |ct=>exact λσ3 H3 R3 τ3 oD k3=>⟨R3,τ3,ρ2,oD,kp.trans k3,ef⟩
 |bk=>cases ef;exact λσ3 H3 R3 τ3 oD k3=>hq σ3 H3 R3 τ3 oD (kp.trans k3)
 |rt d=>cases ef;exact hq
theorem mi{t:Tg}{b:ah}{D:Ends}{r:Fo×ba}{items:List DI.D}{n:Nat}(hn:n=items.length)(hq:lE X F D R1 H1 r)(σ:St)(H:Hp)(h:ki X F Φ t b R1 H1 r items n σ H):D.nx σ H:=by
 obtain⟨R',τ',ρ',Si,kp,ef⟩:=h;subst hn;rw[List.drop_length,dJ]at ef;cases ef;exact hq σ H R' τ' Si kp
theorem xk(ρ:ba):gY [] ρ=ρ:=by
 unfold gY;apply List.ext_getElem?;intro i;rw[List.getElem?_mapIdx];cases ρ[i]? with
 |none=>rfl
 |some o=>simp
theorem xo{v:V}{d:DI.D}(Si:SI X F R τ ρ σ H)(es:aM H H')(r:bT X.K (gP X F) R τ fv H H' v d):
  ∃R' τ',(∀p,R p->R' p)/\SI X F R' τ' (if aH bp d then gY fv ρ else ρ) σ H'/\Rep (aR X.K H') (nd X.K R' (λ_=>False) (λ_=>none) H') [] v (aU aV d):=by
 by_cases ha:aH bp d=true
 ·rw[if_pos ha];exact qO Si es r
 ·rw[if_neg ha];have r':bT X.K (gP X F) R τ [] H H' v d:=by
   obtain⟨τt,fr,rp⟩:=r;exact⟨τt,fr,Rep.jB (P:=bp) (λ_ _ h=>h) (λk p xs f hf h=>by
    cases f with
    |ow=>exact h
    |fz=>exact h
    |al=>cases hf
    |sc=>exact h) rp (by simpa using ha)⟩
  have:=qO Si es r';rw[xk]at this;exact this
theorem BU{ds:List DI.D}(Si:SI X F R τ ρ σ H)(es:aM H H')(r:cv X.K (gP X F) R τ fv H H' vs ds):
  ∃R' τ',(∀p,R p->R' p)/\SI X F R' τ' (if aL bp ds then gY fv ρ else ρ) σ H'/\az (aR X.K H') (nd X.K R' (λ_=>False) (λ_=>none) H') [] 0 vs (aA aV ds):=by
 by_cases ha:aL bp ds=true
 ·rw[if_pos ha];exact tJ Si es r
 ·rw[if_neg ha];have r':cv X.K (gP X F) R τ [] H H' vs ds:=by
   obtain⟨τt,fr,rp⟩:=r;exact⟨τt,fr,az.jB (P:=bp) (λ_ _ h=>h) (λk p xs f hf h=>by
    cases f with
    |ow=>exact h
    |fz=>exact h
    |al=>cases hf
    |sc=>exact h) rp (by simpa using ha)⟩
  have:=tJ Si es r';rw[xk]at this;exact this
def XG(X:Cx)(F:ai)(Φ:a_)(p:Nat)(cs:aG):TI:=λσ H Rr=>∃R τ ρ xs d items,SI X F R τ ρ σ H/\cz Φ cs ρ=ok xs/\Φ p xs=ok d/\kF d=ok items /\
 ∀J H2 vs,aM H H2->cv X.K (gP X F) R τ (cW cs) H H2 vs xs->Hi X.K J H2 vs xs items->Rr J H2
theorem DE(L:oE X S k Φ){t:Tg}{p:Nat}{b:ah}{x:bu}(ht:yY S t tg=true)(hi:S.px.pi p S.sc S.bl iter=some args)(hc:b8 S cs args=true)(JK:QF iter=true)(YI:(decide (1100<=p)||fQ tg)=true)(hb:mx X x (n_ X F Φ b)):PS X (.For tg iter x [] pos) (km X F Φ (.fr t (.uS p cs) b)):=by
 obtain⟨g,hg,BC⟩:=zP (F:=F) L ht;have m6:∀y,foldedSetIterable iter X.env y=pure y:=by
  intro y;cases iter<;>first|rfl | (cases JK;done)
 have pi:PI X tg iter (XG X F Φ p cs):=λpins s σ H Rr I ⟨R,τ,ρ,xs,d,items,Si,cc,ed,ei,hR⟩ =>
  L.pr.i X _ _ k L.toLk.pX p iter args hi F cs tg YI (jK L.toLk cs args hc) pins s σ H R τ ρ xs d items I Si cc ed ei Rr hR
 refine PS.imp (p_ L.px L.calm pi hg hb m6) λD σ H hq=>?_;obtain⟨R,τ,ρ,r,Si,ev,hq⟩:=hq;obtain⟨⟨items,ρ1⟩,ei,ef⟩:=aB ev;obtain⟨xs,cc,ei⟩:=aB ei;obtain⟨d,ed,ei⟩:=aB ei;obtain⟨Tt,ZJ,ei⟩:=aB ei;cases ei;refine⟨R,τ,ρ,xs,d,items,Si,cc,ed,ZJ,λJ H2 vs e2 DQ yz=>?_⟩;obtain⟨R',τ',hR,fM,rs⟩:=BU Si e2 DQ;have wZ:=hq.from (Kp.of e2 hR);refine⟨λi m σ' H'=>m=items.length - i/\i<=items.length/\ki X F Φ t b R' H2 r items i σ' H',⟨_,rfl,aaF _,R',τ',_,fM,Kp.refl R' H2,by rw[List.drop_zero];exact ef⟩,?_⟩;rintro i m σ1 H1 ⟨rfl,LN,hf⟩;obtain⟨R1,τ1,ρ2,lU,k1,e1⟩:=id hf;have MZ:=k1.Sr rs;have Gp:pM X.K H2 vs xs H1:=⟨⟨R',rs,k1.l⟩,λa ys h=>k1.Qt h⟩
 by_cases fu:i<items.length
 ·refine .inr ⟨yz.go i H1 R1 Gp MZ fu,λσ' H'=>ki X F Φ t b R' H2 r items (i+1) σ' H',λσ' H' h=>⟨items.length - (i+1),by left,rfl,fu,h⟩,λv H3 hy=>?_⟩;obtain⟨e3,dd,hd,rd⟩:=yz.ui i H1 R1 v H3 Gp MZ fu hy;have tE:items.drop i=dd::items.drop (i+1):=by
   rw[List.drop_eq_getElem_cons fu];rw[List.getElem?_eq_getElem fu]at hd;cases hd;rfl
  rw[tE,dJ]at e1;obtain⟨ρ3,eb,e1⟩:=aB e1;obtain⟨⟨fo,ρ4⟩,e4,e1⟩:=aB e1;have k3:Kp R' H2 R1 H3:=k1.trans (Kp.of e3 λ_ h=>h);refine BC v σ1 H3 _ R1 τ1 ρ2 ρ3 dd (lU.go e3) (l3 rd) eb λσ' zu Lg=>⟨R1,zu,ρ3,(fo,ρ4),Lg,e4,?_⟩
  cases fo with
  |nx=>exact λσ3 H4 R3 τ3 oD k4=>⟨R3,τ3,ρ4,oD,k3.trans k4,e1⟩
  |ct=>exact λσ3 H4 R3 τ3 oD k4=>⟨R3,τ3,ρ4,oD,k3.trans k4,e1⟩
  |bk=>cases e1;exact λσ3 H4 R3 τ3 oD k4=>wZ σ3 H4 R3 τ3 oD (k3.trans k4)
  |rt d=>cases e1;exact wZ
 ·exact .inl ⟨yz.stop i H1 R1 Gp MZ (by left),mi (n:=i) (by left) wZ σ1 H1 hf⟩
theorem az.ints{T:ka}{N:gZ}:∀(is:aa) {k:bq} {n:Nat},az T N k n (is.map V.int) (is.map DI.D.int)
 |[],_,_=>.nil
 |i::is,_,_=>.cons (.int i) (az.ints is)
theorem HS(L:oE X S k Φ){t:Tg}{it:CI}{b:ah}{x:bu}(ht:yY S t tg=true)(hi:PQ S it iter=true)(YR:(fQ tg||AM it)=true)(hb:mx X x (n_ X F Φ b)):PS X (.For tg iter x [] pos) (km X F Φ (.fr t it b)):=by
 obtain⟨g,hg,BC⟩:=zP (F:=F) L ht;have m6:∀y,foldedSetIterable iter X.env y=pure y:=by
  intro y;cases iter<;>first|rfl | (cases it<;>first|exact(aae hi).elim|exact(aae (aN hi).2).elim)
 have kn:∀{lo:Int} {n:Nat} {D:Ends} {R:ai} {τ:Addr->Option bq} {ρ:ba} {σ:St} {H H1:Hp} {r:Fo×ba},SI X F R τ ρ σ H->aM H H1->lE X F D R H r ->
   dJ (λd ρ=>cy t d ρ) (λρ=>bA Φ b ρ) ((List.range n).map λ(k:Nat)=>DI.D.int (lo+(k:Int))) ρ=ok r ->
   ∃W:Nat->Nat->L2.St->Hp->Prop,(∃m,W 0 m σ H1)/\∀i m σ H,W i m σ H ->
    ((zi lo n).stop i H/\D.nx σ H)\/((zi lo n).go i H/\∃N:L2.St->Hp->Prop,(∀σ' H',N σ' H'->∃m',m'<m/\W (i+1) m' σ' H')/\∀x H',(zi lo n).ui i H x H'->g x σ H' λσ2 H2=>n_ X F Φ b { D with nx:=N,ct:=N,bk:=D.nx } σ2 H2):=by
  intro lo n D R τ ρ σ H H1 r Si e1 hq ef;have rs:az (aR X.K H1) (nd X.K R (λ_=>False) (λ_=>none) H1) [] 0 ((List.range n).map λ(k:Nat)=>V.int (lo+(k:Int))) ((List.range n).map λ(k:Nat)=>DI.D.int (lo+(k:Int))):=by
   have:=az.ints (T:=aR X.K H1) (N:=nd X.K R (λ_=>False) (λ_=>none) H1) ((List.range n).map λ(k:Nat)=>lo+(k:Int)) (k:=[]) (n:=0);rw[List.map_map,List.map_map]at this;exact this
  have wZ:=hq.from (Kp.of e1 (R':=R) λ_ h=>h);refine yR (ki X F Φ t b R H1 r _) ⟨R,τ,ρ,Si.go e1,Kp.refl R H1,by rw[List.drop_zero];exact ef⟩ (λi σ' H' YY h=>?_) (λσ' H' h=>mi (by simp) wZ σ' H' h);exact nh BC rs wZ i (.int (lo+i)) σ' H' (by rw[List.getElem?_map,List.getElem?_range YY];rfl) h
 intro pins s σ H D I T7;cases it with
 |uS p cs =>
  obtain⟨JK,hz⟩:=aN hi;obtain⟨args,ha,QS⟩:=bx hz;exact DE L ht ha QS JK (by rw[Bool.or_comm];exact YR) hb pins s σ H D I T7
 |kn a =>
  obtain⟨R,τ,ρ,r,Si,ev,hq⟩:=T7;obtain⟨⟨items,ρ1⟩,ei,ef⟩:=aB ev;obtain⟨⟨y,as⟩,hv,hz⟩:=bx hi;obtain⟨p,JF,rfl⟩:=cS hv;obtain⟨Wu,QS⟩:=aN hz;obtain⟨YB,h2⟩:=aN Wu;obtain⟨YA,h1⟩:=aN YB;obtain rfl:y=_:=aac YA;obtain⟨e,hu,h3⟩:=bx QS;obtain rfl:as=[e]:=cf hu;have pa:PA X [e] (se X F Φ [a]):=PA.imp (cA (hU (F:=F) L.toLk a e h3).1 dF (bS h3 _ _)) λ_ _ _ h=>by
   have:=gf h;obtain⟨R,τ,ρ,d,Si,ev,hq⟩:=this;exact⟨R,τ,ρ,d,Si,ev,λv H' e r=>jH (hq v H' e r)⟩
  refine p_ L.px L.calm (oX (L.gl h1) (L.bl _ (aac h2)) pa (bS h3 _ _)) hg hb m6 pins s σ H D I ?_;obtain⟨d,ed,ei⟩:=aB ei;cases d<;>try (simp at ei;done)
  rename_i n;simp at ei;obtain⟨⟨c1,c2⟩,rfl,rfl⟩:=ei;have lQ:(cg:Int)=1000000:=rfl;refine⟨R,τ,ρ,[.int n],Si,by show bd (bC Φ a ρ) _=_;rw[ed];rfl,λvs H1 e1 rv=>?_⟩;obtain⟨τt,fr,rs⟩:=rv;cases rs.ints1
  ·refine⟨n,rfl,by left,by left,?_⟩;refine kn (lo:=0) Si e1 hq ?_;simpa using ef
 |seq a =>
  obtain⟨R,τ,ρ,r,Si,ev,hq⟩:=T7;obtain⟨⟨items,ρ1⟩,ei,ef⟩:=aB ev;replace hi:=aN hi;obtain⟨d,ed,ei⟩:=aB ei;have pe:=(hU (F:=F) L.toLk a iter hi.1).1;cases d<;>try (simp at ei;done)
  ·rename_i ds;simp at ei;obtain⟨rfl,rfl⟩:=ei;refine p_ L.px L.calm (Au pe) hg hb m6 pins s σ H D I (tD.intro Si ed λv H1 e1 rv=>?_);obtain⟨R',τ',hR,fM,rp⟩:=xo Si e1 rv;rw[aU]at rp;cases rp with
   | @tup _ p xs _ hp rs =>
    have wZ:=hq.from (Kp.of e1 hR);refine⟨p,rfl,⟨xs,hp⟩,Ff (xs:=xs) (ki X F Φ t b R' H1 r (aA aV ds)) ⟨R',τ',_,fM,Kp.refl R' H1,by rw[List.drop_zero];exact ef⟩ (λi σ' H' _ h=>?_) (λi x σ' H' hx h=>nh BC rs wZ i x σ' H' hx h) (λσ' H' h=>mi (rs.length) wZ σ' H' h)⟩;obtain⟨R2,τ2,ρ2,_,kp,_⟩:=h;exact kp.Qt hp
  ·rename_i f ds;simp at ei;obtain⟨rfl,rfl⟩:=ei;refine p_ L.px L.calm (wA pe) hg hb m6 pins s σ H D I (tD.intro Si ed λv H1 e1 rv=>?_);obtain⟨R',τ',hR,fM,rp⟩:=xo Si e1 rv;rw[aU]at rp;obtain⟨p,xs,rfl,hp,rs⟩:=rp.n6;have wZ:=hq.from (Kp.of e1 hR);refine⟨p,rfl,⟨xs,hp.sq⟩,BV (xs:=xs) (ki X F Φ t b R' H1 r (aA aV ds)) ⟨R',τ',_,fM,Kp.refl R' H1,by rw[List.drop_zero];exact ef⟩ (λi σ' H' _ h=>?_) (λi x σ' H' hx h=>nh BC rs wZ i x σ' H' hx h) (λσ' H' h=>mi (rs.length) wZ σ' H' h)⟩;obtain⟨R2,τ2,ρ2,_,kp,_⟩:=h;exact(kp.nd hp).sq
theorem gC{ρ':ba}{p:Addr}{q:bq}{n:Nd}{o:HO}(Si:SI X F R' τ' ρ' σ H1)(es:aM H H1)(hR:∀p,R p->R' p)(hp:dN H1 p n)(ht:τ' p=some q):Kp R H R' (upd H1 p o):=by
 obtain⟨o0,Bv,Oz,LJ⟩:=dN.some hp;exact⟨hR,λa u ha e=>by
  have ne:a≠p:=λz=>by subst z;rw[Si.rt _ (hR _ ha)]at ht;cases ht
  rw[aW ne];exact es _ _ e,λa zs e=>by
  have e1:=es _ _ e;have ne:a≠p:=λz=>by subst z;rw[Bv]at e1;cases e1;exact Oz _ rfl
  rw[aW ne];exact e1,λa o u e=>by
  have e1:=es _ _ e;have ne:a≠p:=λz=>by subst z;rw[Bv]at e1;cases e1;exact LJ _ _ rfl
  rw[aW ne];exact e1⟩
theorem gn.go{v:V}{d:DI.D}(h:gn X R τ H v d)(e:aM H H'):gn X R τ H' v d :=
 let ⟨τt,h1,h2⟩:=h;⟨τt,λp q z=>let ⟨a,b,c,d⟩:=h1 p q z;⟨a,b,c,aM.ne e d⟩,h2.imp (λ_ _ h=>aR.same e h) λ_ _ _ _ h=>nd.same e h⟩
theorem NL(L:oE X S k Φ){i:Nat}(h:iA S i o=true)(hv:∀x p,o=.Name x p->lL x=true):∃x p,o=.Name x p/\X.N[i]?=some x/\L2.Loc X.env.scope x/\PE X o (n9 i):=by
 cases o<;>try (exact(aae h).elim;done)
 rename_i x p;have hn:=hv x p rfl;replace h:=aN h;unfold lL at hn;simp only[Bool.and_eq_true,Bool.not_eq_true']at hn;have hN:X.N[i]?=some x:=by rw[L.N];exact aac h.1
 have hl:=L.loc h.2;exact⟨x,p,rfl,hN,hl,qe hN (hl.imp id .inl) hn.1.1 hn.1.2⟩
theorem Fn{e:CE}{r:DI.D×ba}{i:Nat}{ds:List DI.D}(h:ji Φ e ρ=ok r)(ho:r.2[i]?=some (some (.lst .ow ds))):ρ[i]?=some (some (.lst .ow ds)):=by
 by_cases hv:∃j,e=.v j
 ·obtain⟨j,rfl⟩:=hv;simp only[ji]at h;split at h
  ·split at h
   ·cases h;by_cases gQ:i=j
    ·subst gQ;rw[List.getElem?_set]at ho;simp at ho
    ·rw[List.getElem?_set_ne (Ne.symm gQ)]at ho;exact ho
   ·cases h;exact ho
  ·cases h
 ·have h':bd (bC Φ e ρ) (λd=>ok (keep e d ρ))=ok r:=by
   cases e<;>first|exact h|exact absurd ⟨_,rfl⟩ hv
  obtain⟨d,_,er⟩:=aB h';cases er;unfold keep at ho;split at ho
  ·obtain⟨d',h1,h2⟩:=xl _ _ _ _ ho;split at h2
   ·cases d'<;>simp[aU]at h2;rename_i f ds';cases f<;>simp[aV]at h2
   ·rw[h2];exact h1
  ·exact ho
theorem HU(L:oE X S k Φ){i:Nat}{e:CE}{x:Str}{v:Expr}{p:Pos}(hn:iA S i (.Name x p)=true)(hx:lL x=true)(he:cG S e v=true)(qG:(p1.endLine==p2.line)=true):PS X (.Expr (.Call (.Attribute (.Name x p) ("append" : Str) p1) [v] [] p2) pos) (km X F Φ (.app i e)):=by
 obtain⟨_,_,z,hN,hl,pe⟩:=NL L hn (λy q e=>by cases e;exact hx);cases z;refine PS.imp (jM (wI aaZ aa8 abx kM pe (cA (uI (F:=F) L.toLk e v he) dF (bS he _ _)) (hfew:=by rw[bS he];rfl) (hline:=qG) (hs:=bS he _ _))) λD σ H hq=>?_;obtain⟨R,τ,ρ,r,Si,ev,hq⟩:=hq;obtain⟨r1,zo,ev⟩:=aB ev;split at ev
 ·rename_i ds ho;split at ev
  ·rename_i hc;cases ev;have ho:=wJ ho;obtain⟨a,xs,hv,ha,Wx,Oq,_⟩:=Si.own (Fn zo ho);refine⟨.ref a,hv,.inl ⟨rfl,_,cX.of ha⟩,R,τ,ρ,r1,Si,zo,λw H1 R1 τ1 es hR lU rk=>?_⟩;obtain⟨a1,Ll,QU,UL,YF,Oo,MZ⟩:=lU.own ho;rw[hv]at QU;cases QU;have hz:sizeLine=16777216:=aaP;have lQ:cg=1000000:=rfl;refine⟨a,Ll,w,rfl,rfl,UL,by left,?_⟩;obtain⟨τ2,lC⟩:=lU.put (m:=ds.length) (g:=λys=>ys++[w]) ho hv UL Oo MZ rk λrs r=>az.si rs (by simpa using r);exact hq σ _ R1 τ2 lC (gC (n:=.l _) lU es hR UL Oo)
  ·cases ev
 ·cases ev
end
section
variable {X:Cx}{S:Sx}{k:Nat}{F:ai}{Φ:a_}
theorem IB(x:Str)(p:Pos):(Expr.Name x p).pos=p:=rfl
theorem uH{x y:Str}{px py pt Lr:Pos}{kt:Nat}{a b:Expr}(hk:env.scope.kind=.function)(hx:env.scope.names.lookup x=some .local)(hy:env.scope.names.lookup y=some .local)(Wv:x≠y)(hl:px.line=py.line)
  (h1:[a,b].all (foldedForSure 8)=false) (h2:[a,b].all (constantsAlone 8)=false) (h3:([a,b].any λe=>match e with|.Starred ..=>true|_=>false)=false) :
  swappedStores [.Tuple [.Name x px,.Name y py] kt pt] (.Tuple [a,b] k2 Lr) env=pure (some [x,y]):=by
 have hb:env.blockKind=.function:=by unfold Env.blockKind;rw[hk];rfl
 have kx:env.kindOf x=some .local:=hx;have ky:env.kindOf y=some .local:=hy;have e1:([x,y].eraseDups.length != [x,y].length)=false:=by
  have:¬ (y==x)=true:=by simp;exact λz=>Wv z.symm
  have h':(y==x)=false:=by simpa using this
  simp[List.eraseDups_cons,List.filter,h',Wv]
 unfold swappedStores;simp only[hb,h3,List.filterMap_cons,List.filterMap_nil,kx,ky,hl,IB,List.head?_cons,Option.map_some,Option.getD_some,h1,h2];simp only[beq_self_eq_true,Bool.and_self,if_true];rw[if_neg (by simp)];refine(abT ?_).trans ?_
 ·intro z;exact aae (h3.symm.trans z)
 rw[if_neg (by
  rw[e1];simp),if_neg Bool.false_ne_true,if_neg Bool.false_ne_true]
theorem jL{kp:bq}{v:V}{d:DI.D}(h:Rep (aR X.K H) (nd X.K R A τ H) kp v d)(hf:aH anyF d=false):gn X R' τ' H v d :=
 ⟨λ_=>none,λ_ _ h=>by simp at h,Rep.without (P:=anyF) (λ_ _ h=>h) (λk k' p xs f hf h=>by cases hf) h hf _⟩
theorem HR(L:oE X S k Φ){i j:Nat}{a b:CE}{v:Expr}(he:cG S (.tup [a,b]) v=true)(hp:Cg S i j tg v=true):PS X (.Assign [tg] v pos) (km X F Φ (.par i j a b)):=by
 obtain⟨ts,QU,q1⟩:=bx hp;obtain⟨kt,pt,rfl⟩:=iE QU;obtain⟨⟨t1,t2⟩,QT,q2⟩:=bx q1;obtain rfl:ts=[t1,t2]:=fO QT;obtain⟨⟨x,px⟩,hv3,q3⟩:=bx q2;obtain rfl:t1=_:=vN hv3;obtain⟨⟨y,py⟩,hv4,q4⟩:=bx q3;obtain rfl:t2=_:=vN hv4;obtain⟨vs,YG,q5⟩:=bx q4;obtain⟨k2,Lr,rfl⟩:=iE YG;obtain⟨⟨ea,eb⟩,hv6,q6⟩:=bx q5;obtain rfl:vs=[ea,eb]:=fO hv6
 ·obtain⟨q7,J_⟩:=aN q6;obtain⟨q8,h9⟩:=aN q7;obtain⟨q9,h8⟩:=aN q8;obtain⟨Na,h7⟩:=aN q9;obtain⟨SM,h6⟩:=aN Na;obtain⟨SK,h5⟩:=aN SM;obtain⟨SJ,h4⟩:=aN SK;obtain⟨SH,h3⟩:=aN SJ;obtain⟨h1,h2⟩:=aN SH;replace h1:S.N[i]?=some x:=aac h1;replace h2:S.N[j]?=some y:=aac h2;replace h3:=aac h3;replace h4:=aac h4;replace h5:=aac h5;replace h6:=aac h6;replace h7:=aac h7;replace h8:=lq h8;replace h9:=lq h9;replace J_:=aac J_;replace he:=aN he;have pa:=v9 (F:=F) L.toLk [a,b] [ea,eb] he.1;refine PS.imp (IA L.calm L.nd (by rw[L.N];exact h1) (by rw[L.N];exact h2) h3 (by rw[L.sc];exact h4) (by rw[L.sc];exact h5) pa (uH (by rw[L.sc];exact L.fk) (by rw[L.sc];exact h4) (by rw[L.sc];exact h5) h6 h7 h8 h9 J_)) λD σ H hq=>?_;obtain⟨R,τ,ρ,r,Si,ev,hq⟩:=hq;obtain⟨d1,ZL,ev⟩:=aB ev;obtain⟨d2,ZK,ev⟩:=aB ev;simp only[GQ]at ev;obtain⟨⟨f1,f2,l1,l2⟩,rfl⟩:=ev;refine⟨R,τ,ρ,[d1,d2],Si,by show bd (bC Φ a ρ) _=_;rw[ZL];show bd (bd (bC Φ b ρ) _) _=_;rw[ZK];rfl,λvs H1 e1 rv=>?_⟩;obtain⟨τt,fr,rs⟩:=rv;obtain⟨v1,v2,rfl,r1,r2⟩:=rs.two
  ·obtain⟨τ1,S1⟩:=(Si.go e1).set (i:=i) (jL r1 f1) l1;obtain⟨τ2,S2⟩:=S1.set (i:=j) (jL r2 f2) (by simpa using l2);exact⟨v1,v2,rfl,hq _ H1 R τ2 S2 (Kp.of e1 λ_ h=>h)⟩
theorem D4{i j:Nat}{z:Int}{r:Fo×ba}(h:oW i j ρ z=ok r):∃(ns ms:aa) (m:Nat),ρ[i]?=some (some (.tup (ns.map D.int)))/\ρ[j]?=some (some (.lst .ow (ms.map D.int)))/\DI.qz ms.length z=some m/\ns.length<1000/\ms.length<1000/\i≠j /\
  r=(.nx,(ρ.set j (some (.lst .ow ((ms.eraseIdx m).map D.int)))).set i (some (.tup ((ns++[ms.getD m 0]).map D.int)))):=by
 unfold oW at h;split at h
 ·rename_i ds hi;split at h
  ·rename_i es hj;split at h
   ·rename_i ns hn;split at h
    ·rename_i ms hm;split at h
     ·rename_i m hx;obtain⟨hc,h⟩:=me h;cases c_ hn;cases c_ hm;exact⟨ns,ms,m,hi,wJ hj,hx,hc.1,hc.2.1,hc.2.2,h.symm⟩
     ·cases h
    ·cases h
   ·cases h
  ·cases h
 ·cases h
theorem o8{α β:Type}(f:α->β):∀(ms:List α) (m:Nat),(ms.map f).eraseIdx m=(ms.eraseIdx m).map f
 |[],_=>rfl
 |_::_,0=>rfl
 |x::ms,m+1=>by
  show f x::(ms.map f).eraseIdx m=f x::(ms.eraseIdx m).map f;rw[o8 f ms m]
theorem DD(L:oE X S k Φ){i j nt:Nat}{e:CE}{x y:Str}{v:Expr}{p q q1 p3 p4:Pos}(hn:iA S i (.Name x p)=true)(tq:iA S i (.Name x q)=true)(hx:lL x=true)(hm:iA S j (.Name y q1)=true)(hy:lL y=true)(he:cG S e v=true)(qG:(p1.endLine==p2.line)=true):
  PS X (.Assign [.Name x p] (.BinOp (.Name x q) .Add (.Tuple [.Call (.Attribute (.Name y q1) ("pop" : Str) p1) [v] [] p2] nt p3) p4) pos) (km X F Φ (.pop2 i j e)):=by
 obtain⟨_,_,z,hN,hl,pe⟩:=NL L tq (λy q e=>by cases e;exact hx);cases z;obtain⟨_,_,z,hN2,tu,Yo⟩:=NL L hm (λy q e=>by cases e;exact hy);cases z;refine PS.imp (As (wF wL pe (Az (cA (wI aaZ PySem.F.slot_list_pop PySem.F.type_list_pop AZ Yo (cA (hU (F:=F) L.toLk e v he).1 dF (bS he _ _)) (hfew:=by rw[bS he];rfl) (hline:=qG) (hs:=bS he _ _)) dF))) (wC L hn)) λE σ H hq=>?_;obtain⟨R,τ,ρ,r,Si,ev,hq⟩:=hq;obtain⟨z,ez,ev⟩:=aB ev;obtain⟨d,ed,ez⟩:=aB ez;have ez:=EI ez;subst ez;obtain⟨ns,ms,m,hi,hj,YX,yF,hms,gQ,rfl⟩:=D4 ev;obtain⟨v0,QV,rp0⟩:=Si.rep i _ hi;obtain⟨a,xs,hv,ha,Wx,Oq,rs⟩:=Si.own hj;have hz:sizeLine=16777216:=aaP;refine⟨v0,QV,.ref a,hv,.inl ⟨rfl,_,cX.of ha⟩,tD.intro Si ed λu H1 e1 ru=>?_⟩;cases ru.isInt;have lU:=Si.go e1;obtain⟨a2,zB,QT,UK,YE,Om,uQ⟩:=lU.own hj;rw[hv]at QT;cases QT;have TR:=uQ.ofInts;have WC:=qy YX;have JQ:ms[m]?=some (ms.getD m 0):=by rw[List.getD_eq_getElem?_getD,List.getElem?_eq_getElem WC.2.1];rfl
 refine⟨a,zB,z,m,.int (ms.getD m 0),rfl,rfl,UK,by left,by left,by rw[TR,List.length_map];exact WC.1,by rw[TR,List.getElem?_map,JQ];rfl,by show 1<=sizeLine;left,λp hp=>?_⟩;obtain⟨τ2,lC⟩:=lU.put (m:=0) (g:=λys=>ys.eraseIdx m) (v:=.int 0) (d:=.int 0) (ds':=(ms.eraseIdx m).map D.int) hj hv UK Om uQ ⟨λ_=>none,λ_ _ h=>by simp at h,.int 0⟩ (λ_ _=>by
  show az _ _ _ _ (zB.eraseIdx m) _;rw[TR,o8];exact dW _)
 have es:aM (upd H1 a (.lst (zB.eraseIdx m))) (upd (upd H1 a (.lst (zB.eraseIdx m))) p (.tup [.int (ms.getD m 0)])):=aM.upd hp;have oD:=lC.go es;have kp:Kp R H R (upd (upd H1 a (.lst (zB.eraseIdx m))) p (.tup [.int (ms.getD m 0)])):=(gC (n:=.l _) lU e1 (λ_ h=>h) UK Om).trans (Kp.of es λ_ h=>h);have Uw:(ρ.set j (some (.lst .ow ((ms.eraseIdx m).map D.int))))[i]?=some (some (.tup (ns.map D.int))):=by rw[List.getElem?_set_ne (Ne.symm gQ)];exact hi
 have fu:i<(ρ.set j (some (.lst .ow ((ms.eraseIdx m).map D.int)))).length:=by
  by_cases z:i<(ρ.set j (some (.lst .ow ((ms.eraseIdx m).map D.int)))).length
  ·exact z
  ·rw[List.getElem?_eq_none (by left)]at Uw;cases Uw
 obtain⟨w0,Wz,Yc⟩:=oD.rep i _ Uw;rw[QV]at Wz;cases Wz;cases Yc with
 | @tup _ p0 xs0 _ hn0 So =>
  have TU:=So.ofInts;refine⟨p0,p,xs0,[.int (ms.getD m 0)],rfl,rfl,hn0,aR.of aS,by rw[TU,List.length_map];simp;left,λz=>?_,(λz=>by cases z),λp' tj=>?_⟩
  ·rw[TU]at z;have z:=List.map_eq_nil_iff.mp z;subst z;obtain⟨τ4,L4⟩:=oD.set (i:=i) (v:=.ref p) (d:=.tup (([]++[ms.getD m 0]).map D.int)) ⟨λ_=>none,λ_ _ h=>by simp at h,.tup (aR.of aS) (dW [ms.getD m 0])⟩ fu;exact hq _ _ R τ4 L4 kp
  ·have CZ:=aM.upd (o:=.tup (xs0++[.int (ms.getD m 0)])) tj;obtain⟨τ4,L4⟩:=(oD.go CZ).set (i:=i) (v:=.ref p') (d:=.tup ((ns++[ms.getD m 0]).map D.int)) ⟨λ_=>none,λ_ _ h=>by simp at h,.tup (aR.of aS) (by rw[TU,show ns.map V.int++[V.int (ms.getD m 0)]=(ns++[ms.getD m 0]).map V.int by simp];exact dW _)⟩ fu;exact hq _ _ R τ4 L4 (kp.trans (Kp.of CZ λ_ h=>h))
mutual
theorem HV(L:oE X S k Φ):∀(c:CS) (st:Stmt),PM S c st=true->PS X st (km X F Φ c)
 |.asg t e,st,h=>by
  obtain⟨⟨Gf,v⟩,v1,q1⟩:=bx h;obtain⟨pos,rfl⟩:=lV v1;obtain⟨tg,v2,q2⟩:=bx q1;obtain rfl:Gf=[tg]:=cf v2;obtain⟨q3,h4⟩:=aN q2;obtain⟨q4,h3⟩:=aN q3;obtain⟨h1,h2⟩:=aN q4;have h1:cG S e v=true:=h1;replace h3:(isTup v&&isTup tg)=false:=lq h3;cases hc:jf v with
  |false=>exact zZ L h1 h2 h3 (t_ h1 hc _ _ _)
  |true =>
   have h4:(!jf v||isNm tg)=true:=h4;rw[hc]at h4;obtain⟨x,p,rfl⟩:=EH h4;obtain⟨iX,gens,sc,Md,rfl⟩:=yy hc;cases e<;>try (exact(aae h1).elim)
   cases t with
   |tp is=>exact(aae h2).elim
   |nm i =>
    cases hb:R9 S (.Name x p) (.ListComp iX gens sc Md)with
    |true=>exact DF L h1 h2 (by rw[Gn L,hb])
    |false=>exact zZ L h1 h2 h3 (by
      show swapsWith (.ListComp iX gens sc Md) (some (.Name x p)) pos.line X.env=_;rw[Gn L,hb])
 |.par i j a b,st,h=>by
  obtain⟨⟨Gf,v⟩,v1,q1⟩:=bx h;obtain⟨pos,rfl⟩:=lV v1;obtain⟨tg,v2,q2⟩:=bx q1;obtain rfl:Gf=[tg]:=cf v2;exact HR L (aN q2).1 (aN q2).2
 |.ret e,st,h=>by
  obtain⟨z,v1,q1⟩:=bx h;obtain⟨pos,rfl⟩:=Dh v1;obtain⟨v,v2,q2⟩:=bx q1;obtain rfl:z=some v:=v2;exact HQ L q2
 |.rs c,st,h=>λ_ _ _ _ _ _ bL=>by obtain⟨R,τ,ρ,r,Si,ev,hq⟩:=bL;cases ev
 |.ex e,st,h=>by
  obtain⟨v,v1,q1⟩:=bx h;obtain⟨pos,rfl⟩:=uy v1;exact MK L (aN q1).1 (lq (aN q1).2)
 |.mut p i es,st,h=>by
  obtain⟨⟨o,args⟩,ha,q1⟩:=bx h;obtain⟨q2,h3⟩:=aN q1;obtain⟨h1,h2⟩:=aN q2;obtain⟨x,pp,rfl,hN,hl,pe⟩:=NL L h1 (λy q e=>by cases e;exact h2);exact L.pm.m X _ _ k L.toLk.pX L.nd L.CY p st x pp args ha i hN hl pe F es (jK L.toLk es args h3)
 |.mu2 p i k e,st,h=>by
  obtain⟨⟨o,args⟩,ha,q1⟩:=bx h;obtain⟨q2,h3⟩:=aN q1;obtain⟨h1,h2⟩:=aN q2;obtain⟨x,pp,rfl,hN,hl,pe⟩:=NL L h1 (λy q e=>by cases e;exact h2);exact L.pm.m2 X _ _ _ L.toLk.pX L.nd L.CY p st x pp args ha i hN hl pe F k e (jK L.toLk [k,e] args h3)
 |.pop2 i j e,st,h=>by
  obtain⟨⟨Gf,v⟩,v1,q1⟩:=bx h;obtain⟨pos,rfl⟩:=lV v1;obtain⟨tg,v2,q2⟩:=bx q1;obtain rfl:Gf=[tg]:=cf v2;obtain⟨h1,q3⟩:=aN q2;obtain⟨⟨l,o,t⟩,v3,q4⟩:=bx q3;obtain⟨p4,rfl⟩:∃p,v=.BinOp l o t p:=vQ v3;obtain⟨q5,q6⟩:=aN q4;obtain⟨q7,h4⟩:=aN q5;obtain⟨h2,h3⟩:=aN q7;obtain rfl:o=.Add:=aac h4;obtain⟨ts,v4,q8⟩:=bx q6;obtain⟨nt,p3,rfl⟩:∃n p,t=.Tuple ts n p:=iE v4;obtain⟨c,v5,q9⟩:=bx q8;obtain rfl:ts=[c]:=cf v5;obtain⟨⟨fn,as,ks,p2⟩,v6,Na⟩:=bx q9;obtain rfl:c=_:=iF v6;obtain⟨SM,SK⟩:=aN Na;obtain rfl:ks=[]:=jX SM;obtain⟨⟨ob,nm,p1⟩,v7,SJ⟩:=bx SK;obtain rfl:fn=_:=jE v7;obtain⟨SH,Ym⟩:=aN SJ;obtain⟨w,v8,h9⟩:=bx Ym;obtain rfl:as=[w]:=cf v8;obtain⟨Yk,h8⟩:=aN SH;obtain⟨Yj,h7⟩:=aN Yk;obtain⟨h5,h6⟩:=aN Yj;obtain rfl:nm=_:=aac h5;obtain⟨x,p,rfl⟩:∃x p,tg=.Name x p:=mm h1;obtain⟨x',q',rfl⟩:∃x p,l=.Name x p:=mm h2;obtain⟨y,q1,rfl⟩:∃x p,ob=.Name x p:=mm h6;obtain rfl:x'=x:=by
   have a:=aac (aN (show _=true from h1)).1;have b:=aac (aN (show _=true from h2)).1;exact aap (b.symm.trans a)
  exact DD L h1 h2 h3 h6 h7 h9 h8
 |.app i e,st,h=>by
  obtain⟨c,v1,q1⟩:=bx h;obtain⟨pos,rfl⟩:=uy v1;obtain⟨⟨fn,as,ks,p2⟩,v2,q2⟩:=bx q1;obtain rfl:c=_:=iF v2;obtain⟨q3,q4⟩:=aN q2;obtain rfl:ks=[]:=jX q3;obtain⟨⟨o,a,p1⟩,v3,q5⟩:=bx q4;obtain rfl:fn=_:=jE v3;obtain⟨q6,q7⟩:=aN q5;obtain⟨v,v4,h4⟩:=bx q7;obtain rfl:as=[v]:=cf v4;obtain⟨q8,h5⟩:=aN q6;obtain⟨q9,h2⟩:=aN q8;obtain⟨Na,h1⟩:=aN q9;obtain rfl:a=_:=aac Na;obtain⟨x,p,rfl⟩:∃x p,o=.Name x p:=mm h1;exact HU L h1 h2 h4 h5
 |.ifs c a b,st,h=>by
  obtain⟨⟨t,x,y⟩,v1,q1⟩:=bx h;obtain⟨pos,rfl⟩:=Dj v1;obtain⟨q2,h3⟩:=aN q1;obtain⟨h1,h2⟩:=aN q2;exact MJ L h1 (iH L a _ h2) (iH L b _ h3)
 |.Hx c b,st,h=>by
  obtain⟨⟨t,x,y⟩,v1,q1⟩:=bx h;obtain⟨pos,rfl⟩:=Dg v1;obtain⟨q2,h3⟩:=aN q1;obtain⟨h1,h2⟩:=aN q2;obtain rfl:y=[]:=jX h1;exact zY L h2 (iH L b _ h3)
 |.fr t it b,st,h=>by
  obtain⟨⟨tg,iter,x,y⟩,v1,q1⟩:=bx h;obtain⟨pos,rfl⟩:=Dk v1;obtain⟨q2,h5⟩:=aN q1;obtain⟨q3,h4⟩:=aN q2;obtain⟨q4,h3⟩:=aN q3;obtain⟨h1,h2⟩:=aN q4;obtain rfl:y=[]:=jX h1;exact HS L h2 h3 h4 (iH L b _ h5)
theorem iH(L:oE X S k Φ):∀(cs:ah) (MH:bu),j5 S cs MH=true->mx X MH (n_ X F Φ cs)
 |[],[],_=>mx.imp DY λD σ H bL=>by obtain⟨R,τ,ρ,r,Si,ev,hq⟩:=bL;cases ev;exact hq σ H R τ Si (Kp.refl R H)
 |[],_::_,h=>by exact(aae h).elim
 |_::_,[],h=>by exact(aae h).elim
 |c::cs,st::MH,h=>by
  replace h:=aN h;have h1:PS X st (km X F Φ c):=HV L c st h.1;have h2:mx X MH (n_ X F Φ cs):=iH L cs MH h.2;refine mx.imp (Ap h1 h2) λD σ H hq=>?_;obtain⟨R,τ,ρ,r,Si,ev,hq⟩:=hq;obtain⟨⟨fo,ρ1⟩,e1,ev⟩:=aB ev;refine⟨R,τ,ρ,(fo,ρ1),Si,e1,?_⟩;cases fo with
  |nx=>exact λσ' H' R' τ' fM kp=>⟨R',τ',ρ1,r,fM,ev,hq.from kp⟩
  |bk=>cases ev;exact hq
  |ct=>cases ev;exact hq
  |rt d=>cases ev;exact hq
end
end
variable {mg:Str->Option Value}{ps:ak}{qual:Str}
theorem tL{x:Str}{f:Addr}{fd:FuncData}{k:Nat}{N bl:ak}{cs:List (Str×GK)}{px:Px}{CY:Nat->Option Str}{m:aC}{body:ah}
  (Fu:F6 K x qual st f fd) (Sc:iU N ps (bG st)) (JW:j5 ⟨bG st,N,CY,bl,cs,px⟩ body (dq st)=true) (JK:vJ px Φ) (T9:Li px Φ)
  (EV:∀y∈bl,mg y=none) (vn:∀y i,(y,i)∈cs->∃u,mg y=some u/\F5 K i u)
  (qI:∀g y,CY g=some y->∃(f:Addr) (fd:FuncData) (ps:ak),iZ P w K mg base zr k f fd ps (DG K ps.length (Φ g))/\mg y=some (.ref f)/\PySem.W.keepIn K (.ref f)=true/\Binds K fd ps []/\∀ds r,Φ g ds=ok r->ds.length=ps.length)
  (hm:∀ds r,m ds=ok r->ds.length=ps.length/\p7 Φ N.length body ds=ok r):iZ P w K mg base zr (k+1) f fd ps (DG K ps.length m):=by
 refine Fu.ok (N:=N) Sc (λvs H Q E ⟨_,_,_,h,_⟩=>h) λi8 A outer s H vs Q E hr CO=>?_;obtain⟨F,ds,r,hl,rs,er,hq⟩:=CO;obtain⟨QZ,vk⟩:=hm ds r er
 let X:=(vE zr P w K mg base N qual (bG st) f i8 A outer s H E).NH
 have L:oE X ⟨bG st,N,CY,bl,cs,px⟩ k Φ:=⟨⟨rfl,rfl,Sc.nd,rfl,hr,EV,λg y h=>⟨qI g y h⟩,vn,JK⟩,λ_=>rfl,PassesOwn.never,Sc.kind,T9⟩
 refine⟨n_ X F Φ body,iH L body _ JW,?_⟩;unfold p7 at vk;obtain⟨⟨fo,ρ'⟩,eb,vk⟩:=aB vk;have hpl:ps.length<=N.length:=by have:=aaJ List.length Sc.pre;rw[List.length_take]at this;left
 have CN:vs.length=ds.length:=rs.length;refine⟨λp=>F p/\H p≠none,λ_=>none,_,(fo,ρ'),⟨?_,λi d hi=>?_,λ_ _=>rfl,λp h=>h.2,λp h=>.inl h.1,λ_ _ h=>by simp at h,λ_ _ h=>by simp at h,aM.refl H⟩,eb,?_⟩
 ·unfold L2.start;simp[CN]
 ·have WK:i<ds.length:=by
   by_cases mf:i<ds.length
   ·exact mf
   ·rw[List.getElem?_append_right (by simpa using mf)]at hi;rw[List.getElem?_replicate]at hi;split at hi<;>simp at hi
  rw[List.getElem?_append_left (by simpa using WK),List.getElem?_map]at hi;have hd:ds[i]?=some d:=by
   cases q:ds[i]? with
   |none=>rw[q]at hi;cases hi
   |some z=>rw[q]at hi;simp at hi;rw[hi]
  obtain⟨v,hv,rv⟩:=rs.get hd;refine⟨v,?_,rv.imp (q:=[0+i]) (q':=[i]) (λ_ _ h=>h) λc p xs f h=>?_⟩
  ·unfold L2.start;rw[List.getElem?_append_left (by rw[List.length_map,CN];exact WK),List.getElem?_map,hv];rfl
  ·cases f with
   |ow=>exact nomatch h.2
   |fz=>exact⟨h.1,h.2,h.1.ne⟩
   |al=>exact h.2.elim
   |sc=>exact h
 ·cases fo with
  |nx =>
   cases vk;exact λσ' H' R' τ' fM kp=>hq .cw H' fM.same ⟨λ_=>none,λ_ _ h=>by simp at h,.cw⟩
  |bk=>simp at vk
  |ct=>simp at vk
  |rt d =>
   cases vk;exact λv H' es rr=>hq v H' es rr
structure Ent(P:aF)(w:World)(K:aq)(mg:aX)(base:Heap)(k:Nat)(y:Str)(m:aC):Prop where
 ex:∃(f:Addr) (fd:FuncData) (ps:ak),iZ P w K mg base zr k f fd ps (DG K ps.length m)/\mg y=some (.ref f)/\PySem.W.keepIn K (.ref f)=true/\Binds K fd ps []/\∀ds r,m ds=ok r->ds.length=ps.length
theorem Ent.up{k k':Nat}{y:Str}{m:aC}(h:Ent P w K mg base k y m)(hk:k<=k'):Ent P w K mg base k' y m:=by
 obtain⟨f,fd,ps,h1,h2⟩:=h.ex;exact⟨f,fd,ps,h1.mono hk,h2⟩
theorem ent{x:Str}{f:Addr}{fd:FuncData}{k:Nat}{N bl:ak}{cs:List (Str×GK)}{px:Px}{CY:Nat->Option Str}{m:aC}{body:ah}
  (Fu:F6 K x qual st f fd) (hmg:mg x=some (.ref f)) (hb:Binds K fd ps []) (Sc:iU N ps (bG st)) (JW:j5 ⟨bG st,N,CY,bl,cs,px⟩ body (dq st)=true) (JK:vJ px Φ) (T9:Li px Φ) (EV:∀y∈bl,mg y=none) (vn:∀y i,(y,i)∈cs->∃u,mg y=some u/\F5 K i u)
  (qI:∀g y,CY g=some y->Ent P w K mg base k y (Φ g)) (hm:∀ds r,m ds=ok r->ds.length=ps.length/\p7 Φ N.length body ds=ok r):Ent P w K mg base (k+1) x m :=
 ⟨f,fd,ps,tL Fu Sc JW JK T9 EV vn (λg y h=>(qI g y h).ex) hm,hmg,Fu.kp,hb,λds r h=>(hm ds r h).1⟩
noncomputable def dz{α:Type}(P:α->Prop):List α->Prop
 |[]=>True
 |a::l=>P a/\dz P l
theorem dz.mem{α:Type}{P:α->Prop}:∀{l:List α},dz P l->∀a∈l,P a
 |[],_,_,h=>by cases h
 |_::_,h,_,hm=>(List.mem_cons.mp hm).elim (λe=>e▸h.1) (dz.mem h.2 _)
theorem dz.tab{β:Type}{P:Nat->β->Prop}:∀{l:List (Nat×β)},dz (λp=>P p.1 p.2) l->∀g y,l.lookup g=some y->P g y
 |[],_,_,_,h=>by cases h
 | (k,b)::l,h,g,y,e=>by
  rw[List.lookup_cons]at e;cases hg:g==k with
  |true=>rw[hg]at e;cases e;rw[eq_of_beq hg];exact h.1
  |false=>rw[hg]at e;exact dz.tab h.2 g y e
theorem dz.two{β γ:Type}{P:β->γ->Prop}{l:List (β×γ)}(h:dz (λp=>P p.1 p.2) l)(y:β)(i:γ)(hm:(y,i)∈l):P y i:=dz.mem h _ hm
theorem N4{α:Type}{l:List α}(h:l.length=1):∃a,l=[a]:=List.length_eq_one_iff.mp h
theorem N3{α:Type}{l:List α}(h:l.length=2):∃a b,l=[a,b]:=by
 cases l with
 |nil=>cases h
 |cons a l=>obtain⟨b,rfl⟩:=N4 (Nat.succ.inj h);exact⟨a,b,rfl⟩
theorem N2{α:Type}{l:List α}(h:l.length=3):∃a b c,l=[a,b,c]:=by
 cases l with
 |nil=>cases h
 |cons a l=>obtain⟨b,c,rfl⟩:=N3 (Nat.succ.inj h);exact⟨a,b,c,rfl⟩
theorem Te{α:Type}{l:List α}(h:l.length=4):∃a b c d,l=[a,b,c,d]:=by
 cases l with
 |nil=>cases h
 |cons a l=>obtain⟨b,c,d,rfl⟩:=N2 (Nat.succ.inj h);exact⟨a,b,c,d,rfl⟩
noncomputable def mZ:ab->Option (aa)
 |[]=>some []
 |.int i::ds=>(mZ ds).map (i :: ·)
 |_::_=>none
theorem mY:∀ns:aa,mZ (ns.map D.int)=some ns
 |[]=>rfl
 |n::ns=>by simp[mZ,mY ns]
theorem sT:∀{ds:ab} {ns:aa},mZ ds=some ns->ds=ns.map D.int
 |[],ns,h=>by simp[mZ]at h;subst h;rfl
 |d::ds,ns,h=>by
  cases d<;>simp[mZ]at h;obtain⟨ms,h1,rfl⟩:=h;rw[sT h1];rfl
def qp:aC
 |[.lst .sc ds]=>match mZ ds with
  |some ns=>if ns.length<=63 then ok (.bl true)else none
  |none=>none
 |_=>none
theorem Ez(h:ns.length<=63):qp [.lst .sc (ns.map D.int)]=ok (.bl true):=by
 simp[qp,mY,h]
theorem A4{n:Nat}{b:ah}(h:∀ns:aa,ns.length<=63->p7 Φ n b [.lst .sc (ns.map D.int)]=ok (.bl true)):∀ds r,qp ds=ok r->ds.length=1/\p7 Φ n b ds=ok r:=by
 intro ds r e
 match ds,e with
 |[.lst .sc ds],e =>
  simp only[qp]at e;split at e
  ·rename_i ns yF;split at e
   ·rename_i hl;cases e;obtain rfl:=sT yF;exact⟨rfl,h ns hl⟩
   ·cases e
  ·cases e
theorem Js(K:aq)(H:Hp)(a:Addr)(ns:aa)(m:aC)(hm:m [.lst .sc (ns.map D.int)]=ok (.bl true))(hO:F3 H)(hS:cX K H a (ns.map V.int)):DG K 1 m [.ref a] H (λv _=>v=.bl true) λ_ _ _=>False:=by
 refine⟨λ_=>True,_,.bl true,rfl,.cons (.lst ?_ (az.ints ns)) .nil,hm,λv H' _ bL=>by obtain⟨τt,_,rp⟩:=bL;cases rp;rfl⟩;rcases hS with (h|h)|h
 ·rcases hO a with z|⟨o,xs,z⟩
  ·rw[h]at z;cases z
  ·rw[h]at z;cases z
 ·exact .inl h
 ·exact .inr h
section
variable {X:Cx}{pins:aj}{σ:St}{H:Hp}{s:Shared}{h':Heap}
theorem vS(I:Inv X pins σ H s)(hf:∀b∈ch,nV X pins H b)(k:∀b u,b∉ch->s.heap.get? b=some u->h'.get? b=some u):Inv X pins σ H { s with heap:=h',toks:=t' }:=by
 have GI:∀b u,H b=some u->b∉ch:=λb u e z=>by rw[(hf b z).1]at e;cases e
 refine I.step (g':=s.gens) (d':=s.drawn) (ch:=ch) (λb hb=>⟨(hf b hb).2.2.2.1,(hf b hb).2.1,(hf b hb).2.2.2.2.1,(hf b hb).2.2.2.2.2⟩) (λb o _ _ hc e _=>k b o hc e) (λb o _ _ hc e _=>⟨o.slots,k b o hc e⟩) (λ_ _ _ _ n=>n)
  (λb o hc e=>⟨o,k b o hc e⟩) (λ_ _ e=>e) (λ_ _ _ e=>e) (λb ps e=>⟨#[],by rw[e];simp⟩) (λm hm=>?_) (λb u e=>?_) I.bare
 ·obtain⟨o,es,ep,ho,r⟩:=hm;exact⟨o,es,ep,k _ o (λz=>(hf _ z).2.1 rfl) ho,r⟩
 ·refine(I.cQ b u e).jJ (λc v hc q=>k c v ?_ q) (λ_ q=>q) λ_ _ q=>q;rcases hc with z|z
  ·rw[z];exact GI b u e
  ·exact GI c _ z
theorem vT{T:Addr}{o:HO}(I:Inv X pins σ H s)(hf:∀b∈ch,nV X pins H b)(k:∀b u,b∉ch->s.heap.get? b=some u->h'.get? b=some u)(hT:s.heap.objs.size<=T)(new:cD X.prog X.w (upd H T o) h' T o):
  Inv X pins σ (upd H T o) { s with heap:=h',toks:=t' }:=by
 have GI:∀b u,H b=some u->b∉ch:=λb u e z=>by rw[(hf b z).1]at e;cases e
 have hn:H T=none:=I.cQ.fresh hT;have ne:∀b (u:Obj),s.heap.get? b=some u->b≠T:=λb u e z=>absurd (aah e) (by rw[z];exact Nat.not_lt.mpr hT);have up:∀b u,H b=some u->upd H T o b=some u:=λb u e=>by rw[aW (cx e hn)];exact e
 refine I.step (g':=s.gens) (d':=s.drawn) (ch:=ch) (λb hb=>⟨(hf b hb).2.2.2.1,(hf b hb).2.1,(hf b hb).2.2.2.2.1,(hf b hb).2.2.2.2.2⟩) (λb o _ _ hc e _=>k b o hc e) (λb o _ _ hc e _=>⟨o.slots,k b o hc e⟩) (λb u _ e n=>by rw[aW (ne b u e)];exact n)
  (λb o hc e=>⟨o,k b o hc e⟩) (λ_ _ e=>up _ _ e) (λ_ _ _ e=>up _ _ e) (λb ps e=>⟨#[],by rw[up _ _ e];simp⟩) (λm hm=>?_) (w5 (λb u e=>?_) hn new) I.bare
 ·obtain⟨o,es,ep,ho,r⟩:=hm;exact⟨o,es,ep,k _ o (λz=>(hf _ z).2.1 rfl) ho,r⟩
 ·refine(I.cQ b u e).jJ (λc v hc q=>k c v ?_ q) (λ_ q=>q) λ_ _ q=>q;rcases hc with z|z
  ·rw[z];exact GI b u e
  ·exact GI c _ z
end
def VL(K:aq)(a b:Addr):It :=
  ⟨λi H=>∃xs ys x y,cX K H a xs/\cX K H b ys/\xs[i]?=some x/\ys[i]?=some y,
   λi H v H'=>∃T x y,(∀xs,cX K H a xs->xs[i]?=some x)/\(∀ys,cX K H b ys->ys[i]?=some y)/\H T=none/\v=.ref T/\H'=upd H T (.tup [x,y]),
   λi H=>∃xs ys,cX K H a xs/\cX K H b ys/\(xs.length<=i\/ys.length<=i)⟩
theorem pR{h:Heap}{T:Addr}{x y:V}{u v:Value}(rx:RelV x u)(ry:RelV y v)(e:h.get? T=some { cls:=.type "tuple",data:=.seq #[u,v] }):cD P w H h T (.tup [x,y]) :=
 ⟨by rw[sizeLine_eq];simp,[u,v],.cons rx (.cons ry .nil),⟨_,e,rfl,_,rfl⟩⟩
theorem bD{h:Heap}{a b:Addr}{o u:Obj}(ha:h.get? a=some o)(hb:h.get? b=some u)(hc:o.cls≠u.cls):a≠b:=λz=>by
 subst z;rw[ha]at hb;cases hb;exact hc rfl
theorem zJ{tp:Pos}{a b z TI TO:Addr}(UN:TI≠TO)(vq:i1≠i2):
  Turn P w K (.Tuple elts n1 tp) (VL K a b) [z,TI,TO,i1,i2] z (λi h=>IsZip h z TI TO .none/\IsPair h TI (.ref i1) (.ref i2)/\(∃x y,IsPair h TO x y)/\h.IsListIter i1 a i/\h.IsListIter i2 b i):=by
 have apart:∀{h:Heap} {x y:Value} {xs ys:aP} {i:Nat},IsZip h z TI TO .none->IsPair h TI (.ref i1) (.ref i2)->IsPair h TO x y->h.IsListIter i1 a i->h.IsListIter i2 b i->h.IsList a xs->h.IsList b ys->ZipApart z TI TO i1 i2 a b:=by
  intro h x y xs ys i hz hI hO l1 l2 ha hb;obtain⟨o1,e1,c1,_⟩:=l1;obtain⟨o2,e2,c2,_⟩:=l2;obtain⟨oa,ea,ca,_⟩:=ha;obtain⟨ob,eb,cb,_⟩:=hb;exact⟨bD hI hz (by simp),bD hO hz (by simp),bD e1 hz (by rw[c1];simp),bD e2 hz (by rw[c2];simp),UN,bD hI e1 (by rw[c1];simp),bD hI e2 (by rw[c2];simp),bD hO e1 (by rw[c1];simp),bD hO e2 (by rw[c2];simp),vq,
   bD ea hz (by rw[ca];simp),bD ea hO (by rw[ca];simp),bD ea e1 (by rw[ca,c1];simp),bD ea e2 (by rw[ca,c2];simp),bD eb hz (by rw[cb];simp),bD eb hO (by rw[cb];simp),bD eb e1 (by rw[cb,c1];simp),bD eb e2 (by rw[cb,c2];simp)⟩
 refine⟨by simp,λi h st c hc=>?_,λi h h' st k=>?_,?_,?_,λA i s Q E st hQ=>abn st.1 hQ⟩
 ·obtain⟨hz,hI,⟨x,y,hO⟩,⟨o1,e1,_,d1⟩,⟨o2,e2,_,d2⟩⟩:=st;simp only[List.mem_cons,List.not_mem_nil,or_false]at hc;rcases hc with rfl|rfl|rfl|rfl|rfl
  ·exact⟨_,hz,λv q=>by cases q⟩
  ·exact⟨_,hI,λv q=>by cases q⟩
  ·exact⟨_,hO,λv q=>by cases q⟩
  ·exact⟨o1,e1,λv q=>by rw[d1]at q;cases q⟩
  ·exact⟨o2,e2,λv q=>by rw[d2]at q;cases q⟩
 ·obtain⟨hz,hI,⟨x,y,hO⟩,l1,l2⟩:=st;exact⟨k z (by simp) _ hz,k TI (by simp) _ hI,⟨x,y,k TO (by simp) _ hO⟩,l1.at λo e=>k i1 (by simp) o e,l2.at λo e=>k i2 (by simp) o e⟩
 ·intro X hP hw hK hc i pins s σ H E I hf st hg;subst hP hw hK;obtain⟨xs,ys,x,y,q1,q2,ex,ey⟩:=hg;obtain⟨hz,hI,⟨x0,y0,hO⟩,l1,l2⟩:=st;obtain⟨aK,rv,p,_⟩:=I.list q1;obtain⟨its',uj,p',_⟩:=I.list q2;obtain⟨u,hu,ru⟩:=rv.get ex;obtain⟨u',qC,Sn⟩:=uj.get ey;have D:=apart hz hI hO l1 l2 p.isList p'.isList;refine wpAny_pyNext_zip_item D hz hI hO l1 l2 p.isList p'.isList (x:=u) (y:=u') (by simpa using hu) (by simpa using qC) λh1 z1 o1 a1 b1 t1 Qr k1=>⟨_,rfl,?_⟩
  refine wpAny_letOwnedTupleGo_zip z1 λh2 z2 yh=>?_;have RC:s.heap.objs.size≠z:=aas (aah hz);have kk:∀c o,c∉[z,TI,TO,i1,i2]->s.heap.get? c=some o->h2.get? c=some o:=λc o hc e=>by
   simp only[List.mem_cons,List.not_mem_nil,or_false,not_or]at hc;exact yh.extBut c o hc.1 (k1 c o hc.1 hc.2.2.1 hc.2.2.2.1 hc.2.2.2.2 e)
  have hT:h2.get? s.heap.objs.size=some { cls:=.type "tuple",data:=.seq #[u,u'] }:=yh.extBut _ _ RC t1;have hn:H s.heap.objs.size=none:=I.cQ.fresh (aai _);refine⟨.ref s.heap.objs.size,upd H s.heap.objs.size (.tup [x,y]),vT (s:=s) (h':=h2) (t':=s.toks) I hf kk (aai _) (pR ru Sn hT),rfl,⟨_,x,y,λzs hz=>by rw[I.ip hz q1];exact ex,λzs hz=>by rw[I.ip hz q2];exact ey,hn,rfl,rfl⟩,⟨z2,yh.extBut _ _ D.TIz (k1 _ _ D.TIz D.TITO D.TIi1 D.TIi2 hI),⟨_,_,yh.extBut _ _ D.TOz o1⟩,a1.extBut yh.extBut D.i1z,b1.extBut yh.extBut D.i2z⟩,λc hc=>?_⟩;rw[aW]
  ·exact(hf c hc).1
  ·intro z;subst z;simp only[List.mem_cons,List.not_mem_nil,or_false]at hc;rcases hc with e|e|e|e|e
   ·exact absurd (aah hz) (by rw[<- e];exact aat _)
   ·exact absurd (aah hI) (by rw[<- e];exact aat _)
   ·exact absurd (aah hO) (by rw[<- e];exact aat _)
   ·obtain⟨_,w,_⟩:=l1;exact absurd (aah w) (by rw[<- e];exact aat _)
   ·obtain⟨_,w,_⟩:=l2;exact absurd (aah w) (by rw[<- e];exact aat _)
 ·intro X hP hw hK hc i pins s σ H E I hf st hg;subst hP hw hK;obtain⟨xs,ys,q1,q2,hl⟩:=hg;obtain⟨hz,hI,⟨x0,y0,hO⟩,l1,l2⟩:=st;obtain⟨aK,rv,p,_⟩:=I.list q1;obtain⟨its',uj,p',_⟩:=I.list q2;have e1:=rv.length;have e2:=uj.length;refine wpAny_pyNext_zip_end (I.ok.hd hc) (apart hz hI hO l1 l2 p.isList p'.isList) hz hI hO l1 l2 p.isList p'.isList (by simp;left) λh1 k1=>⟨rfl,vS (t':=s.toks) I hf λc o hc e=>?_⟩
  simp only[List.mem_cons,List.not_mem_nil,or_false,not_or]at hc;exact k1 c o hc.1 hc.2.2.1 hc.2.2.2.1 hc.2.2.2.2 e
variable {ta:TA}
theorem IE{tp p:Pos}(hg:Gl X "zip")(hm:X.mg "zip" = none)(ha:PA X [e1,e2] ta)(hs:∀es,starEach (e1::es) X.env=(false,eval e1 X.env)::starEach es X.env)(GW:∀es,starEach (e2::es) X.env=(false,eval e2 X.env)::starEach es X.env):
  PI X (.Tuple elts n1 tp) (.Call (.Name "zip" p) [e1,e2] [] pos) (λσ H R=>ta σ H λvs H1=>∃a b,vs=[.ref a,.ref b]/\(∃xs,cX X.K H1 a xs)/\(∃ys,cX X.K H1 b ys)/\R (VL X.K a b) H1):=by
 intro pins s σ H R I h;refine Call_ (dS I hg hm boot_zip (aau (cJ (ha pos pins s σ H _ I h) λus s1 bL=>?_) (hs _) (by rw[GW];rfl)));obtain⟨vs,H1,I1,r1,q1⟩:=bL;obtain⟨a,b,e,⟨xs,q1⟩,⟨ys,q2⟩,q⟩:=q1;subst e;obtain⟨u,v,rfl,ru,rv⟩:=vals2 r1;cases ru;cases rv;obtain⟨aK,_,p1,_⟩:=I1.list q1;obtain⟨its',_,p2,_⟩:=I1.list q2;refine call_zip_2 p1.isList p2.isList λh' z t o l1 l2 sz k=>abn z ?_;refine⟨s1.heap.objs.size+4,[s1.heap.objs.size+4,s1.heap.objs.size+2,s1.heap.objs.size+3,s1.heap.objs.size,s1.heap.objs.size+1],_,_,H1,rfl,I1.kept (t':=s1.toks) k,zJ (aam (aaT _)) (aam (aaT _)),⟨z,t,⟨_,_,o⟩,l1,l2⟩,λb hb=>?_,q⟩;have m7:s1.heap.objs.size<=b:=by
  simp only[List.mem_cons,List.not_mem_nil,or_false]at hb;rcases hb with rfl|rfl|rfl|rfl|rfl<;>first|exact aci .. |exact aai _
 exact I1.yQ m7 (I1.cQ.fresh m7)
def fR(sc:Scope)(bl:ak)(e:Expr):Option (au):=match dP e with
 |some z=>match two z.2 with
  |some _=>if z.1=("zip" : Str)/\gq sc z.1=true/\z.1∈bl then some z.2 else none
  |none=>none
 |none=>none
theorem kU{sc:Scope}{bl:ak}{e:Expr}(h:fR sc bl e=some args):∃p pos a b,e=.Call (.Name ("zip" : Str) p) [a,b] [] pos/\args=[a,b]/\gq sc ("zip" : Str)=true/\("zip" : Str)∈bl:=by
 unfold fR at h;cases hv:dP e with
 |none=>rw[hv]at h;exact nk h
 |some z =>
  obtain⟨x,as⟩:=z;rw[hv]at h;obtain⟨p,pos,rfl⟩:=cS hv;have h:(match two as with|some _=>if x=("zip" : Str)/\gq sc x=true/\x∈bl then some as else none|none=>none)=some args:=h;cases hw:two as with
  |none=>rw[hw]at h;exact nk h
  |some w =>
   obtain⟨a,b⟩:=w;rw[hw]at h;have h:(if x=("zip" : Str)/\gq sc x=true/\x∈bl then some as else none)=some args:=h;obtain rfl:=fO hw;by_cases hc:x=("zip" : Str)/\gq sc x=true/\x∈bl
   ·rw[if_pos hc]at h;cases h;obtain⟨rfl,h1,h2⟩:=hc;exact⟨_,_,_,_,rfl,rfl,h1,h2⟩
   ·rw[if_neg hc]at h;cases h
theorem fj{a b:Expr}(h:kg X F Φ cs [a,b]):(∃c d,cs=[c,d]/\PE X a (tD X F Φ c)/\PE X b (tD X F Φ d))/\PA X [a,b] (se X F Φ cs)/\(∀es,starEach (a::es) X.env=(false,eval a X.env)::starEach es X.env)/\(∀es,starEach (b::es) X.env=(false,eval b X.env)::starEach es X.env):=by
 match cs,h with
 |[c,d],h =>
  obtain⟨h1,h2,_,h3,h4,_,_⟩:=h;exact⟨⟨c,d,rfl,h1,h3⟩,PA.imp (cA h1 (PA.imp (cA h3 (PA.imp dF λ_ _ _ h=>jH h) (h4 _)) λ_ _ _ h=>gf h) (h2 _)) λ_ _ _ h=>gf h,h2,h4⟩
 |[],h=>exact h.elim
 |[_],h=>exact h.2.2.2.elim
 |_::_::_::_,h=>exact h.2.2.2.2.2.2.elim
theorem Rep.Qp{k:bq}{v:V}{d:D}(e:aM H H')(h:Rep (aR K H) (nd K R (λ_=>False) (λ_=>none) H) k v d):Rep (aR K H') (nd K R (λ_=>False) (λ_=>none) H') k' v d :=
 (Rep.qo h (k':=k')).imp (λ_ _ h=>aR.same e h) λ_ _ _ _ h=>nd.same e h
variable {g:Fl}
theorem Dc{p q:Addr}{f:Fl}{a b:ab}:Hi K (VL K p q) H2 [.ref p,.ref q] [.lst f a,.lst g b] (aA aV (List.zipWith (λx y=>.tup [x,y]) a b)):=by
 have len:(aA aV (List.zipWith (λx y=>D.tup [x,y]) a b)).length=min a.length b.length:=by rw[aY];simp
 have two:∀{H':Hp} {R':ai},az (aR K H') (nd K R' (λ_=>False) (λ_=>none) H') [] 0 [.ref p,.ref q] (aA aV [.lst f a,.lst g b]) ->
   ∃xs ys,cX K H' p xs/\cX K H' q ys/\az (aR K H') (nd K R' (λ_=>False) (λ_=>none) H') [0] 0 xs (aA aV a)/\az (aR K H') (nd K R' (λ_=>False) (λ_=>none) H') [1] 0 ys (aA aV b):=by
  intro H' R' h;rw[aA,aU,aA,aU,aA]at h;cases h with
  |cons h t=>cases t with
   |cons h' t=>cases h with
    |lst h r=>cases h' with
     |lst h' r'=>exact⟨_,_,h.sq,h'.sq,r,r'⟩
 refine⟨λi H' R' _ h hi=>?_,λi H' R' x lF _ h hi hy=>?_,λi H' R' _ h hi=>?_⟩
 ·obtain⟨xs,ys,h1,h2,r1,r2⟩:=two h;rw[len]at hi;have l1:=r1.length;have l2:=r2.length;rw[aY,List.length_map]at l1 l2;exact⟨xs,ys,xs[i]'(by left),ys[i]'(by left),h1,h2,aal _,aal _⟩
 ·obtain⟨xs,ys,h1,h2,r1,r2⟩:=two h;obtain⟨T,u,v,g1,g2,hn,rfl,rfl⟩:=hy;obtain⟨d1,e1,p1⟩:=r1.tI (g1 xs h1);obtain⟨d2,e2,p2⟩:=r2.tI (g2 ys h2);have es:aM H' (upd H' T (.tup [u,v])):=aM.upd hn;refine⟨es,.tup [d1,d2],?_,.tup (aR.of aS) (.cons (p1.Qp es) (.cons (p2.Qp es) .nil))⟩;rw[aY,List.getElem?_map]at e1 e2 ⊢;obtain⟨c1,q1,rfl⟩:=Option.map_eq_some_iff.mp e1;obtain⟨c2,q2,rfl⟩:=Option.map_eq_some_iff.mp e2;rw[List.getElem?_zipWith,q1,q2];simp[aU,aA]
 ·obtain⟨xs,ys,h1,h2,r1,r2⟩:=two h;rw[len]at hi;have l1:=r1.length;have l2:=r2.length;rw[aY,List.length_map]at l1 l2;exact⟨xs,ys,h1,h2,by left⟩
theorem Hr{n:Nat}(hΦ:Φ n=uq){sc:Scope}{bl:ak}{k:Nat}(L:PX X sc bl k){e:Expr}(he:fR sc bl e=some args)(ht:fQ tg=true)(hs:kg X F Φ cs args)
  {pins:aj} {s:Shared} {xs:ab} {d:D} (I:Inv X pins σ H s) (Si:SI X F R τ ρ σ H) (cc:cz Φ cs ρ=ok xs) (ed:Φ n xs=ok d) (ei:kF d=ok items) (Rr:It->Hp->Prop)
  (hR:∀J H2 vs,aM H H2->cv X.K (gP X F) R τ (cW cs) H H2 vs xs->Hi X.K J H2 vs xs items->Rr J H2) :
  wpAny (model X.prog X.w) X.A (eval e X.env) (λv s1=>wpAny (model X.prog X.w) X.A (pyIter v) (zp X pins σ tg Rr) X.xe s1) X.xe s:=by
 obtain⟨p,pos,a,b,rfl,rfl,h1,h2⟩:=kU he;cases tg<;>try (cases ht;done)
 obtain⟨_,pa,s1,s2⟩:=fj hs;refine IE (L.gl h1) (L.bl _ h2) pa s1 s2 pins s σ H Rr I ⟨R,τ,ρ,xs,Si,cc,λvs H1 e1 rv=>?_⟩;have Sk:=rv;obtain⟨τt,fr,rs⟩:=rv;rw[hΦ]at ed;unfold uq at ed;split at ed
 ·cases ed;cases ei;obtain⟨v,w,rfl,rx,ry⟩:=rs.two;cases rx with
  |lst hx _=>cases ry with
   |lst hy _=>exact⟨_,_,rfl,⟨_,hx.sq⟩,⟨_,hy.sq⟩,hR _ H1 _ e1 Sk Dc⟩
 ·cases ed
section
variable {X:Cx}
end
def iz(f:Str)(sc:Scope)(bl:ak)(e:Expr):Option (au):=match dP e with
 |some z=>match one z.2 with
  |some _=>if z.1=f/\gq sc z.1=true/\z.1∈bl then some z.2 else none
  |none=>none
 |none=>none
theorem pG{f:Str}{sc:Scope}{bl:ak}{e:Expr}(h:iz f sc bl e=some args):∃p pos a,e=.Call (.Name f p) [a] [] pos/\args=[a]/\gq sc f=true/\f∈bl:=by
 unfold iz at h;cases hv:dP e with
 |none=>rw[hv]at h;exact nk h
 |some z =>
  obtain⟨x,as⟩:=z;rw[hv]at h;obtain⟨p,pos,rfl⟩:=cS hv;have h:(match one as with|some _=>if x=f/\gq sc x=true/\x∈bl then some as else none|none=>none)=some args:=h;cases hw:one as with
  |none=>rw[hw]at h;exact nk h
  |some a =>
   rw[hw]at h;have h:(if x=f/\gq sc x=true/\x∈bl then some as else none)=some args:=h;obtain rfl:=cf hw;by_cases hc:x=f/\gq sc x=true/\x∈bl
   ·rw[if_pos hc]at h;cases h;obtain⟨rfl,h1,h2⟩:=hc;exact⟨_,_,_,rfl,rfl,h1,h2⟩
   ·rw[if_neg hc]at h;cases h
section
variable {prog:aF}{w:World}{A:aE}{E:aw}{s:Shared}
def rH(h:Heap)(vs:ao)(nss:ag):Prop:=vs.length=nss.length/\∀(i:Nat) (ns:aa),nss[i]?=some ns->∃t aK,vs[i]?=some (.ref t)/\IsTup h t aK.toArray/\IntsAre aK ns/\ns≠[]
theorem sX{fin:Bool}{Q:Bool->Shared->Prop}:∀{aK EC:ao} {ns ms:aa} (i:Nat),IntsAre aK ns->IntsAre EC ms->fin=decide (aK.length<EC.length)->Q (HT.lexLt ns ms) s->PySem.W.KatLex prog w A true fin Q (aK.zip EC) i s
 |_,_,_,_,i,.nil,.nil,hf,h=>by subst hf;exact h
 |_,_,_,_,i,.nil,.cons _ _ _,hf,h=>by subst hf;exact h
 |_,_,_,_,i,.cons _ _ _,.nil,hf,h=>by subst hf;exact h
 |_,_,_,_,i,.cons (ns:=ns) a t h1,.cons (ns:=ms) b u h2,hf,h=>by
  rw[HT.dt]at h;refine PySem.W.kat_cons (wpAny_eqBool_int (PySem.W.kat_go (λe=>?_) λe=>?_))
  ·have e:a=b:=by simpa using e
   rw[if_pos e]at h;exact PySem.W.kat_yes (sX (i+1) h1 h2 (by rw[hf];simp) h)
  ·have e:¬ a=b:=by simpa using e
   rw[if_neg e]at h;refine PySem.W.kat_no ?_;rw[Bool.true_and];cases i==0 with
   |true=>exact oneLt_int h
   |false=>exact PySem.W.kat_one _ _ (lt_int h)
theorem rH.mono{h:Heap}{vs:ao}{nss:ag}(k:∀b o,h.get? b=some o->h'.get? b=some o)(t:rH h vs nss):rH h' vs nss :=
 ⟨t.1,λi ns e=>let ⟨a,aK,e1,⟨o,ho,r⟩,e3⟩:=t.2 i ns e;⟨a,aK,e1,⟨o,k _ _ ho,r⟩,e3⟩⟩
end
noncomputable def cK(ns:aa):D:=.tup (ns.map D.int)
theorem eu{p a:Addr}{ys:ae}{o:HO}(hp:H p=some (.lst xs))(h:aR K H a ys):aR K (upd H p o) a ys:=by
 rcases h with (h|⟨o',h⟩)|h
 ·exact .inl (.inl (by rw[aW (λz=>by subst z;rw[hp]at h;cases h)];exact h))
 ·exact .inl (.inr ⟨o',by rw[aW (λz=>by subst z;rw[hp]at h;cases h)];exact h⟩)
 ·exact .inr h
theorem l9{n i:Nat}{xs:ab}{r:Fo×ba}(ev:uW Φ n i (mX cs xs ρ)=ok r)(ha:aL bp xs=false):∃d d',ρ[i]?=some (some d)/\Φ n (d::xs)=ok d'/\r=(.nx,ρ.set i (some d')):=by
 unfold mX at ev;rw[if_neg (by rw[ha];exact Bool.false_ne_true)]at ev;unfold uW at ev;split at ev
 ·rename_i d hd;obtain⟨d',h1,h2⟩:=aB ev;cases h2;exact⟨d,d',hd,h1,rfl⟩
 ·cases ev
theorem qi{n i:Nat}{xs:ab}{r:Fo×ba}(ev:uW Φ n i (mX cs xs ρ)=ok r)(ha:aL bp xs=true):∃d d',Φ n (d::aA aV xs)=ok d':=by
 unfold mX at ev;rw[if_pos ha]at ev;unfold uW at ev;split at ev
 ·rename_i d hd;obtain⟨d',h1,h2⟩:=aB ev;exact⟨d,d',h1⟩
 ·cases ev
def wK:D->Option (ab)
 |.lst f ds=>if bX f then some ds else none
 |_=>none
theorem qf{d:D}(h:wK d=some ds):d=.lst .ow ds:=by
 cases d<;>first|exact nk h | (cases h;done)|skip
 rename_i f es;have h:(if bX f then some es else none)=some ds:=h;cases f<;>first | (cases h;rfl) | (cases h;done)
def i4(m:Str)(st:Stmt):Option (Expr×au):=match Mi st with
 |some c=>match jc c with
  |some z=>match lb z.1 with
   |some y=>if y.2.1=m/\z.2.2.1=[]/\(y.2.2.endLine==z.2.2.2.line)=true then some (y.1,z.2.1)else none
   |none=>none
  |none=>none
 |none=>none
theorem jD{m:Str}{as:au}(h:i4 m st=some (o,as)):∃p1 p2 pos,st=.Expr (.Call (.Attribute o m p1) as [] p2) pos/\(p1.endLine==p2.line)=true:=by
 unfold i4 at h;cases h1:Mi st with
 |none=>rw[h1]at h;exact nk h
 |some c =>
  obtain⟨pos,rfl⟩:=uy h1;rw[h1]at h;cases h2:jc c with
  |none=>simp only[h2]at h;cases h
  |some z =>
   obtain⟨f,Rq,ks,p2⟩:=z;obtain rfl:=iF h2;simp only[h2]at h;cases h3:lb f with
   |none=>simp only[h3]at h;cases h
   |some y =>
    obtain⟨o',a,p1⟩:=y;obtain rfl:=jE h3;simp only[h3]at h;by_cases hc:a=m/\ks=[]/\(p1.endLine==p2.line)=true
    ·rw[if_pos hc]at h;cases h;obtain⟨rfl,rfl,hl⟩:=hc;exact⟨p1,p2,pos,rfl,hl⟩
    ·rw[if_neg hc]at h;cases h
noncomputable def fZ(J:Nat)(d:D):Nat->ab->ab
 |_,[]=>[]
 |n,x::xs=>(if n=J then d else x)::fZ J d (n+1) xs
theorem az.fZ{T T':ka}{N N':gZ}{q:bq}{J:Nat}{d:D}(hT:∀p xs,T p xs->T' p xs)(hN:∀c m p xs f,m≠J->N (c++(m::q)) p xs f->N' (c++(m::q)) p xs f):∀{n:Nat} {vs:ae} {ds:ab},az T N q n vs ds->(∀k v,vs[k]?=some v->n+k=J->Rep T' N' (J::q) v d)->az T' N' q n vs (DI.fZ J d n ds)
 |_,_,_,.nil,_=>.nil
 |n,_,_,.cons (d:=x) h t,hj=>by
  refine .cons ?_ (az.fZ hT hN t λk v e z=>hj (k+1) v e (by left));by_cases hn:n=J
  ·rw[if_pos hn];subst hn;exact hj 0 _ rfl rfl
  ·rw[if_neg hn];exact h.imp (q:=n::q) (q':=n::q) hT λc p xs f h=>hN c n p xs f hn h
section
variable {X:Cx}{F R:ai}{τ:Addr->Option bq}{ρ:ba}{σ:St}{H:Hp}
theorem SI.Es{p a:Addr}{q q0:bq}{n:Nd}{f:Fl}{o:HO}(Si:SI X F R τ ρ σ H)(hp:H p=some (.lst xs))(ht:τ p=some q0)(hq:q≠q0)(h:nd X.K R (λ_=>False) τ H q a n f):nd X.K R (λ_=>False) τ (upd H p o) q a n f:=by
 have low:∀{a:Addr} {z:Nd},a≠p->dN H a z->dN (upd H p o) a z:=λne h=>h.at λu e=>by rw[aW ne];exact e
 cases f with
 |ow=>exact⟨low (λz=>by subst z;exact hq (aap (h.2.symm.trans ht))) h.1,h.2⟩
 |fz=>exact⟨low (λz=>by subst z;rw[Si.rt _ h.2]at ht;cases ht) h.1,h.2⟩
 |al=>exact h.2.elim
 |sc =>
  obtain⟨ys,rfl,h⟩:=h.Ae;exact h.elim (λ⟨o',w⟩=>.inl ⟨o',by rw[aW (λz=>by subst z;rw[hp]at w;cases w)];exact w⟩) .inr
theorem SI.Ri{i j:Nat}{d1:D}{p:Addr}{ys:ae}(Si:SI X F R τ ρ σ H)(hi:ρ[i]?=some (some d0))(hp:H p=some (.lst xs))(ht:τ p=some [j,i])
  {v:V} (hv:σ[i]?=some (some v)) (hb:Rep (aR X.K (upd H p (.lst ys))) (nd X.K R (λ_=>False) τ (upd H p (.lst ys))) [i] v d1):SI X F R τ (ρ.set i (some d1)) σ (upd H p (.lst ys)):=by
 have LN:i<ρ.length:=by
  by_cases z:i<ρ.length
  ·exact z
  ·rw[List.getElem?_eq_none (by left)]at hi;cases hi
 have there:∀a,H a≠none->upd H p (.lst ys) a≠none:=λa h=>by
  by_cases z:a=p
  ·rw[z,aS];simp
  ·rw[aW z];exact h
 refine⟨by simp[Si.len],λm d hm=>?_,Si.rt,λa ha=>there a (Si.rh a ha),Si.rf,λa q e=>there a (Si.th a q e),Si.t0,λa u e=>?_⟩
 ·by_cases z:m=i
  ·subst z;rw[List.getElem?_set_self LN]at hm;cases hm;exact⟨v,hv,hb⟩
  ·rw[List.getElem?_set_ne (Ne.symm z)]at hm;obtain⟨v,h1,h2⟩:=Si.rep m d hm;refine⟨v,h1,h2.imp (q:=[m]) (q':=[m]) (λ_ _ h=>eu hp h) λc a n f h=>Si.Es hp ht (λe=>?_) h⟩;have:=aaJ List.getLast? e;simp at this;exact z this
 ·rw[aW (λz=>by subst z;rw[Si.t0 _ _ ht]at e;cases e)];exact Si.same a u e
end
def lT(ds:ab)(j:Nat):Option (ab):=match ds[j]? with
 |some d=>match wK d with
  |some _=>some (fZ j (.lst .ow []) 0 ds)
  |none=>none
 |none=>none
theorem xH{es:ab}{j:Nat}(h:lT ds j=some es):∃gs,ds[j]?=some (.lst .ow gs)/\es=fZ j (.lst .ow []) 0 ds:=by
 unfold lT at h;cases h1:ds[j]? with
 |none=>rw[h1]at h;exact nk h
 |some d =>
  rw[h1]at h;have h:(match wK d with|some _=>some (fZ j (.lst .ow []) 0 ds)|none=>none)=some es:=h;cases h2:wK d with
  |none=>rw[h2]at h;exact nk h
  |some gs =>
   rw[h2]at h;cases h;exact⟨gs,by rw[qf h2],rfl⟩
def Ce(xs:ab):O D:=match two xs with
 |some z=>match z.2 with
  |.int k=>if 0<=k then(match z.1 with
   |.tup ds=>(match lT ds k.toNat with|some es=>ok (.tup es)|none=>none)
   |.lst f ds=>if bX f then(match lT ds k.toNat with|some es=>ok (.lst f es)|none=>none)else none
   |_=>none)else none
  |_=>none
 |none=>none
theorem xI{x y d:D}(h0:Ce [x,y]=ok d):∃(k:Int) (ds gs:ab),y=.int k/\0<=k/\ds[k.toNat]?=some (.lst .ow gs)/\((x=.tup ds/\d=.tup (fZ k.toNat (.lst .ow []) 0 ds))\/(x=.lst .ow ds/\d=.lst .ow (fZ k.toNat (.lst .ow []) 0 ds))):=by
 cases y<;>first|exact nk h0 | (cases h0;done)|skip
 rename_i k;by_cases hk:0<=k
 ·have h:(if 0<=k then(match x with
   |.tup ds=>(match lT ds k.toNat with|some es=>ok (.tup es)|none=>none)
   |.lst f ds=>if bX f then(match lT ds k.toNat with|some es=>ok (.lst f es)|none=>none)else none
   |_=>none)else none)=ok d:=h0
  rw[if_pos hk]at h;clear h0;cases x<;>first|exact nk h | (cases h;done)|skip
  ·rename_i ds;replace h:(match lT ds k.toNat with|some es=>ok (D.tup es)|none=>none)=ok d:=h;cases hc:lT ds k.toNat with
   |none=>rw[hc]at h;exact nk h
   |some es =>
    rw[hc]at h;cases h;obtain⟨gs,h1,rfl⟩:=xH hc;exact⟨k,ds,gs,rfl,hk,h1,.inl ⟨rfl,rfl⟩⟩
  ·rename_i f ds;replace h:(if bX f then(match lT ds k.toNat with|some es=>ok (D.lst f es)|none=>none)else none)=ok d:=h;by_cases hf:bX f=true
   ·rw[if_pos hf]at h;cases hc:lT ds k.toNat with
    |none=>rw[hc]at h;exact nk h
    |some es =>
     rw[hc]at h;cases h;obtain rfl:f=.ow:=by cases f<;>first|rfl | (cases hf;done)
     obtain⟨gs,h1,rfl⟩:=xH hc;exact⟨k,ds,gs,rfl,hk,h1,.inr ⟨rfl,rfl⟩⟩
   ·rw[if_neg hf]at h;cases h
 ·have h:(if 0<=k then(match x with
   |.tup ds=>(match lT ds k.toNat with|some es=>ok (.tup es)|none=>none)
   |.lst f ds=>if bX f then(match lT ds k.toNat with|some es=>ok (.lst f es)|none=>none)else none
   |_=>none)else none)=ok d:=h0
  rw[if_neg hk]at h;cases h
def q_(_:Scope)(_:ak)(st:Stmt):Option (Expr×au):=match i4 ("clear" : Str) st with
 |some z=>if z.2=[]then(match gU z.1 with
  |some y=>some (y.1,[y.2])
  |none=>none)else none
 |none=>none
theorem y3{sc:Scope}{bl:ak}(h:q_ sc bl st=some (o,args)):∃k p0 p1 p2 pos,args=[k]/\st=.Expr (.Call (.Attribute (.Subscript o k p0) ("clear" : Str) p1) [] [] p2) pos/\(p1.endLine==p2.line)=true:=by
 unfold q_ at h;cases h1:i4 ("clear" : Str) st with
 |none=>rw[h1]at h;exact nk h
 |some z =>
  obtain⟨b,as⟩:=z;rw[h1]at h;have h:(if as=[]then(match gU b with|some y=>some (y.1,[y.2])|none=>none)else none)=some (o,args):=h;by_cases ha:as=[]
  ·rw[if_pos ha]at h;cases h2:gU b with
   |none=>rw[h2]at h;exact nk h
   |some y =>
    obtain⟨a,k⟩:=y;rw[h2]at h;cases h;subst ha;obtain⟨p0,rfl⟩:=gw h2;obtain⟨p1,p2,pos,rfl,hl⟩:=jD h1;exact⟨k,p0,p1,p2,pos,rfl,rfl,hl⟩
  ·rw[if_neg ha]at h;cases h
theorem K3{n:Nat}(hΦ:Φ n=Ce){sc:Scope}{bl:ak}{k:Nat}(L:PX X sc bl k)(hN:X.N.Nodup)(qI:∀x,X.fn x=true){x:Str}(he:q_ sc bl st=some (.Name x pos,args))
  {i:Nat} (hi:X.N[i]?=some x) (hl:L2.Loc X.env.scope x) (pe:PE X (.Name x pos) (n9 i)) (hs:kg X F Φ cs args):PS X st (km X F Φ (.mut n i cs)):=by
 obtain⟨ke,p0,p1,p2,pos',rfl,rfl,qG⟩:=y3 he;cases cs with
 |nil=>exact hs.elim
 |cons c cs=>cases cs with
  |cons _ _=>exact hs.2.2.2.elim
  |nil =>
   refine PS.imp (jM (IJ aaZ PySem.F.slot_list_clear PySem.F.type_list_clear A1 (sR (qx.or Bc) pe hs.1 hs.2.2.1) (hline:=qG))) λD σ H hq=>?_;obtain⟨R,τ,ρ,r,Si,ev,hq⟩:=hq;obtain⟨xs,cc,ev⟩:=aB ev;obtain⟨y,ey,cc⟩:=aB cc;cases cc;have key:∃(k:Int) (d0 d1:DI.D) (ds gs:List DI.D),y=.int k/\ρ[i]?=some (some d0)/\0<=k/\ds[k.toNat]?=some (.lst .ow gs)/\((d0=.tup ds/\d1=.tup (fZ k.toNat (.lst .ow []) 0 ds))\/(d0=.lst .ow ds/\d1=.lst .ow (fZ k.toNat (.lst .ow []) 0 ds)))/\r=(.nx,ρ.set i (some d1)):=by
    cases hz:aL bp [y]with
    |true =>
     obtain⟨d,d',h⟩:=qi ev hz;rw[hΦ]at h;obtain⟨k,ds,gs,h3,_⟩:=xI h;cases y<;>first|exact nk h3 | (cases h3;done) | (cases hz;done)
    |false =>
     obtain⟨d,d',h,h',rfl⟩:=l9 ev hz;rw[hΦ]at h';obtain⟨k,ds,gs,rfl,h3,h4,h5⟩:=xI h';exact⟨k,d,d',ds,gs,rfl,h,h3,h4,h5,rfl⟩
   obtain⟨k,d0,d1,ds,gs,rfl,ho,hk,hg,hd,rfl⟩:=key;obtain⟨v,hv,_⟩:=Si.rep i _ ho;refine⟨v,hv,tD.intro Si ey λu H1 e1 ru=>?_⟩;cases ru.isInt;have lU:=Si.go e1;obtain⟨v',GV,rv⟩:=lU.rep i _ ho;rw[hv]at GV;cases GV;have at_:∀{xs:ae},az (aR X.K H1) (nd X.K R (λ_=>False) τ H1) [i] 0 xs ds->∃(p:Addr) (zs:ae),xs[k.toNat]?=some (.ref p)/\H1 p=some (.lst zs)/\τ p=some [k.toNat,i]/\C2 xs k=some (.ref p):=by
    intro xs rs;obtain⟨w,hw,gy⟩:=rs.get hg;rw[Nat.zero_add]at gy;cases gy with
    | @lst _ p zs _ _ h _ =>
     refine⟨p,zs,hw,h.1,h.2,?_⟩;have fu:k.toNat<xs.length:=by
      by_cases z:k.toNat<xs.length
      ·exact z
      ·rw[List.getElem?_eq_none (by left)]at hw;cases hw
     unfold C2 L2.qz;rw[if_pos hk,if_pos (by left)];exact hw
   have go:∀{xs:ae} {p:Addr} {zs:ae},az (aR X.K H1) (nd X.K R (λ_=>False) τ H1) [i] 0 xs ds->xs[k.toNat]?=some (.ref p)->H1 p=some (.lst zs)->τ p=some [k.toNat,i]->az (aR X.K (upd H1 p (.lst []))) (nd X.K R (λ_=>False) τ (upd H1 p (.lst []))) [i] 0 xs (fZ k.toNat (.lst .ow []) 0 ds):=by
    intro xs p zs rs hx hp ht;refine az.fZ (λ_ _ h=>eu hp h) (λc m a n f hm h=>lU.Es hp ht (λz=>?_) h) rs λm w hw hm=>?_
    ·have:=aaJ List.reverse z;simp at this;exact hm this.1
    ·rw[Nat.zero_add]at hm;subst hm;rw[hx]at hw;cases hw;exact .lst ⟨aS,ht⟩ .nil
   rcases hd with ⟨rfl,rfl⟩|⟨rfl,rfl⟩
   ·cases rv with
    | @tup _ a xs _ hn rs =>
     obtain⟨p,zs,h1,h2,h3,h4⟩:=at_ rs;refine .inr ⟨a,xs,k,_,rfl,rfl,hn,h4,.inl ⟨rfl,_,cX.of h2⟩,p,zs,rfl,rfl,h2,?_⟩;exact hq σ _ R τ (lU.Ri ho h2 h3 hv (.tup (eu h2 hn) (go rs h1 h2 h3))) (gC (n:=.l _) lU e1 (λ_ h=>h) h2 h3)
   ·obtain⟨a,xs,rfl,hn,rs⟩:=rv.n6;obtain⟨p,zs,h1,h2,h3,h4⟩:=at_ rs;refine .inl ⟨a,xs,k,_,rfl,rfl,hn.sq,h4,.inl ⟨rfl,_,cX.of h2⟩,p,zs,rfl,rfl,h2,?_⟩;refine hq σ _ R τ (lU.Ri ho h2 h3 hv (.lst (lU.Es h2 h3 (λz=>?_) hn) (go rs h1 h2 h3))) (gC (n:=.l _) lU e1 (λ_ h=>h) h2 h3);have:=aaJ List.length z;simp at this
variable {ys:aP}
section
variable {prog:aF}{w:World}{A:aE}{E:aw}{s:Shared}
theorem rX{l:Addr}:∀{s:Shared} {i:Nat} {Q E:aw},s.heap.IsTupleIter it l i->(∀o,s.heap.get? it=some o->o.cls=.type "tuple_iterator" -> o.data=.fields #[.ref l,.int i 0]->wpAny (model prog w) A.in1 (Builtin.«tuple_iterator.__next__» ⟨[.ref it],[]⟩) (λfin s'=>∃v,fin=.done (.ret v)/\Q v s') E s)->wpAny (model prog w) A (Builtin.SmallTypes.nextOf (.ref it)) Q E s:=by
 intro s i Q E hit h;obtain⟨o,ho,hc,hd⟩:=id hit;unfold Builtin.SmallTypes.nextOf;exact aaa (aaK (name:=Str.ofString "__next__") hit.typeIs F.slot_tuple_iterator_next (aaD F.slot_tuple_iterator_next hit.typeIs F.entry_tuple_iterator_next (aaw (h o ho hc hd) (λfin s' ⟨v,e,q⟩=>⟨v,e,aab q⟩) λ_ _ e=>e) (F.args_tuple_iterator_next_1 _)))
def Ends(prog:aF)(w:World)(A:aE)(it:Addr)(S:Heap->Prop):Prop:=∀(s:Shared) (Q E:aw),S s.heap->(∀h' e,Heap.ExtBut it s.heap h'->(∃o,h'.get? e=some o/\o.cls=.type "StopIteration")->E (.ref e) { s with heap:=h' })->wpAny (model prog w) A (Builtin.SmallTypes.nextOf (.ref it)) Q E s
theorem oK(hh:A.handled=none){l:Addr}{items:aP}{i:Nat}(hi:items[i]?=none):Ends prog w A it (λh=>h.IsTupleIter it l i/\h.IsTuple l items):=by
 intro s Q E st hE;refine rX st.1 λo ho hc hd=>?_;obtain⟨ol,Ub,_,nl,QZ⟩:=id st.2;show wpAny _ _ (field (.ref it) 0 >>= _) _ _ _;refine aaa (aaB ho hd (x:=.ref l) rfl ?_);rw[if_neg (show ¬ (Value.ref l==Value.none)=true from Bool.false_ne_true)];refine aaa (aaB ho hd (x:=.int i 0) rfl (aaa (aaH Ub QZ ?_)));simp only[Int.toNat_natCast,hi];refine aaa (aa5 (aaa (ab5 ho hd (by simp) ?_)));show wpAny _ _ (newExc (.type "StopIteration") [] >>= _) _ _ _;refine aaa ?_;simp only[newExc,newTuple];refine aaa (aaX (aaa (m:=firstArgMember _ _) (wpAny_of_eq (a:=Value.none) (by first|rfl | (simp only[firstArgMember];rfl)) (aaX ?_ (by size_fits)))) (by size_fits));simp only[raiseNew];refine aaa (wpAny_handled ?_);rw[show A.in1.in1.handled=none from hh];exact aaa (aab (wpAny_throw (hE _ _ (((aaM ..).extBut.push _).push _) ⟨_,aan _ rfl,rfl⟩)))
theorem lA(hh:A.handled=none)(it l:Addr)(Bx:l≠it)(items:aP):Draws prog w A it [it,l] items.size (λi v=>items[i]?=some v) (λi h=>h.IsTupleIter it l i/\h.IsTuple l items):=by
 refine⟨λ_ _ st=>let ⟨o,ho,_⟩:=st.1;⟨o,ho⟩,λ_ _ _ st hk=>?_,λi s Q E hi st hQ=>?_,λs Q E st hE=>?_⟩
 ·obtain⟨⟨o,ho,r⟩,o',eH,r'⟩:=st;exact⟨⟨o,hk it (by simp) o ho,r⟩,o',hk l (by simp) o' eH,r'⟩
 ·refine rX st.1 λo ho hc hd=>?_;obtain⟨ol,Ub,_,nl,QZ⟩:=id st.2;show wpAny _ _ (field (.ref it) 0 >>= _) _ _ _;refine aaa (aaB ho hd (x:=.ref l) rfl ?_);rw[if_neg (show ¬ (Value.ref l==Value.none)=true from Bool.false_ne_true)];refine aaa (aaB ho hd (x:=.int i 0) rfl (aaa (aaH Ub QZ ?_)));simp only[Int.toNat_natCast,show items[i]?=some items[i] by simp[hi]];refine aaa (ab5 ho hd (by simp) (aab ⟨_,rfl,hQ _ _ s.toks (by simp[hi]) ⟨?_,st.2.extBut (aaM ..).extBut Bx⟩ (aaM ..)⟩));exact⟨_,aaO _ ho (Obj.isFreed_of_fields (Obj.data_mapFields hd _)),(Obj.cls_mapFields ..).trans hc,by rw[Obj.data_mapFields hd];simp[rawInt]⟩
 ·exact oK hh (by simp) s Q E st hE
structure vK(z TI TO i1 i2:Addr)(f1 f2:aO):Prop where
 n1:TI≠z/\TO≠z/\i1≠z/\i2≠z
 n2:TI≠TO/\TI≠i1/\TI≠i2/\TO≠i1/\TO≠i2/\i1≠i2
 f1:z∉f1/\TO∉f1/\i2∉f1
 f2:z∉f2/\TO∉f2/\i1∉f2
theorem dX{c:Addr}{n i:Nat}{P:Nat->Value->Prop}{St:Nat->Heap->Prop}{h:Heap}(D:Draws prog w A it fp n P St)(hs:Heap.SameBut c h h')(hc:c∉fp)(st:St i h):St i h':=D.frame i h h' st λb hb o e=>hs.extBut b o (λz=>hc (z▸hb)) e
section
variable {z TI TO i1 i2:Addr}{f1 f2:aO}{n1 n2 k:Nat}{P1 P2:Nat->Value->Prop}{S1 S2:Nat->Heap->Prop}{a b:Value}
theorem x6{Q:aw}(D1:Draws prog w A i1 f1 n1 P1 S1)(D2:Draws prog w A i2 f2 n2 P2 S2)(ap:vK z TI TO i1 i2 f1 f2)(hz:IsZip s.heap z TI TO .none)(w8:IsPair s.heap TI (.ref i1) (.ref i2))(CV:IsPair s.heap TO a b)(Gp:S1 k s.heap)(DC:S2 k s.heap)(l1:k<n1)(l2:k<n2)
  (hQ:∀x y h' tk,P1 k x->P2 k y->IsZip h' z TI TO (rawInt s.heap.objs.size)->IsPair h' TO x y->S1 (k+1) h'->S2 (k+1) h'->IsPair h' s.heap.objs.size x y->(∀c o,c≠z->c≠TO->c≠i1->c≠i2->s.heap.get? c=some o->h'.get? c=some o)->Q (.ref s.heap.objs.size) { s with heap:=h',toks:=tk }) :
  wpAny (model prog w) A (Builtin.«zip.__next__» ⟨[.ref z],[]⟩) (λfin s'=>∃v,fin=.done (.ret v)/\Q v s') E s:=by
 obtain⟨⟨TIz,TOz,i1z,i2z⟩,⟨TITO,TIi1,TIi2,TOi1,TOi2,i12⟩,⟨zf1,TOf1,i2f1⟩,zf2,TOf2,i1f2⟩:=ap;show wpAny _ _ (field (.ref z) 2 >>= _) _ _ _;refine aaa (aaB hz rfl (x:=.bool false) rfl (aaa (aaB hz rfl (x:=.ref TI) rfl (aaa (aaH w8 rfl ?_)))));show wpAny _ _ (Builtin.SmallTypes.ownedTupleIsFree (.ref z) >>= _) _ _ _;unfold Builtin.SmallTypes.ownedTupleIsFree;refine aaa (aaa (aaB hz rfl (x:=.none) rfl (aab ?_)));simp only[if_true];refine aaa (aa5 (aaa (aaB hz rfl (x:=.ref TO) rfl (aaa (aa2 hz (by simp) λg1 z1 e1=>aaa ?_)))));replace z1:IsZip g1 z TI TO .ellipsis:=z1;simp only[List.zipIdx_cons,List.zipIdx_nil,List.forIn_cons,List.forIn_nil];refine aaa (aaa (ace ?_));show wpAny _ _ (Builtin.SmallTypes.nextOf (.ref i1) >>= _) _ _ _;refine aaa (D1.item k _ _ _ l1 (dX D1 e1 zf1 Gp) λx g2 tk p1 MI e2=>aab ?_);have t2:IsPair g2 TO a b:=e2.extBut _ _ TOi1 (e1.extBut _ _ TOz CV);refine aaa (aaH t2 rfl (aaa (abU t2 λg3 t3 e3=>aaa (wpAny_letGo (aab (aaa (aaa (ace ?_))))))));replace t3:IsPair g3 TO x b:=t3;show wpAny _ _ (Builtin.SmallTypes.nextOf (.ref i2) >>= _) _ _ _;refine aaa (D2.item k _ _ _ l2 (dX D2 e3 TOf2 (dX D2 e2 i1f2 (dX D2 e1 zf2 DC))) λy g4 RL p2 Sa e4=>aab ?_);have t4:IsPair g4 TO x b:=e4.extBut _ _ TOi2 t3;refine aaa (aaH t4 rfl (aaa (abU t4 λg5 t5 e5=>aaa (wpAny_letGo (aab (aab ?_))))));replace t5:IsPair g5 TO x y:=t5;refine aaa (aaH t5 rfl (aaa (wpAny_newTuple ?_)));have sz:g5.objs.size=s.heap.objs.size:=by rw[e5.1,e4.1,e3.1,e2.1,e1.1]
 have kp:∀c o,c≠z->c≠TO->c≠i1->c≠i2->s.heap.get? c=some o->g5.get? c=some o:=λc o c1 c2 c3 c4 e=>e5.extBut _ _ c2 (e4.extBut _ _ c4 (e3.extBut _ _ c2 (e2.extBut _ _ c3 (e1.extBut _ _ c1 e))));have z5:IsZip g5 z TI TO .ellipsis:=e5.extBut _ _ (aaC TOz) (e4.extBut _ _ (aaC i2z) (e3.extBut _ _ (aaC TOz) (e2.extBut _ _ (aaC i1z) z1)));have zl:z<g5.objs.size:=aah z5;show wpAny _ _ (Builtin.SmallTypes.ownedTupleHandOut (.ref z) (.ref g5.objs.size) >>= _) _ _ _;unfold Builtin.SmallTypes.ownedTupleHandOut;refine aaa (aaa (aa2 (aag _ z5) (by simp) λg7 z7 e7=>?_));replace z7:IsZip g7 z TI TO (rawInt g5.objs.size):=z7;refine aa2 z7 (by simp) λg8 z8 e8=>aab ⟨_,rfl,?_⟩;replace z8:IsZip g8 z TI TO (rawInt g5.objs.size):=z8;have up:∀c o,c≠z->g5.get? c=some o->g8.get? c=some o:=λc o c1 e=>e8.extBut _ _ c1 (e7.extBut _ _ c1 (aag _ e));have t8:IsPair g8 g5.objs.size x y:=e8.extBut _ _ (aas zl) (e7.extBut _ _ (aas zl) (aan _ rfl));have f8:∀{fp:aO},z∉fp->∀c∈fp,∀o,g5.get? c=some o->g8.get? c=some o:=λhf c hc o e=>up c o (λq=>hf (q▸hc)) e;have s1:S1 (k+1) g8:=D1.frame _ _ _ (dX D1 e5 TOf1 (dX D1 e4 i2f1 (dX D1 e3 TOf1 MI))) (f8 zf1);have s2:S2 (k+1) g8:=D2.frame _ _ _ (dX D2 e5 TOf2 Sa) (f8 zf2);show Q (.ref g5.objs.size) _;rw[sz]at z8 t8 ⊢;exact hQ x y g8 RL p1 p2 z8 (up _ _ TOz t5) s1 s2 t8 λc o c1 c2 c3 c4 e=>up c o c1 (kp c o c1 c2 c3 c4 e)
theorem zy{Q:PySem.Fin->Shared->Prop}(D1:Draws prog w A i1 f1 n1 P1 S1)(D2:Draws prog w A i2 f2 n2 P2 S2)(ap:vK z TI TO i1 i2 f1 f2)(hz:IsZip s.heap z TI TO .none)(w8:IsPair s.heap TI (.ref i1) (.ref i2))(CV:IsPair s.heap TO a b)(Gp:S1 k s.heap)(DC:S2 k s.heap)(hl:Ends prog w A i1 (S1 k)\/(k<n1/\Ends prog w A i2 (S2 k)))
  (hE:∀h' e tk,(∀c o,c≠z->c≠TO->c≠i1->c≠i2->s.heap.get? c=some o->h'.get? c=some o)->(∃o,h'.get? e=some o/\o.cls=.type "StopIteration")->E (.ref e) { s with heap:=h',toks:=tk }) :
  wpAny (model prog w) A (Builtin.«zip.__next__» ⟨[.ref z],[]⟩) Q E s:=by
 obtain⟨⟨TIz,TOz,i1z,i2z⟩,⟨TITO,TIi1,TIi2,TOi1,TOi2,i12⟩,⟨zf1,TOf1,i2f1⟩,zf2,TOf2,i1f2⟩:=ap;have ends:∀{g:Heap} {e:Addr} {tk:Nat},IsZip g z TI TO .ellipsis->(∃o,g.get? e=some o/\o.cls=.type "StopIteration")->(∀c o,c≠z->c≠TO->c≠i1->c≠i2->s.heap.get? c=some o->g.get? c=some o)->wpAny (model prog w) A (setField (.ref z) 0 .none) (λ_ s'=>E (.ref e) s') E ({ s with heap:=g,toks:=tk }:Shared):=by
  intro g e tk zg ⟨o,ho,hc⟩ kp;refine aa2 zg (by simp) λg' _ e'=>hE g' e tk (λc o c1 c2 c3 c4 x=>e'.extBut _ _ c1 (kp c o c1 c2 c3 c4 x)) ⟨o,e'.extBut _ _ (λq=>?_) ho,hc⟩;subst q;rw[zg]at ho;cases ho;simp at hc
 show wpAny _ _ (field (.ref z) 2 >>= _) _ _ _;refine aaa (aaB hz rfl (x:=.bool false) rfl (aaa (aaB hz rfl (x:=.ref TI) rfl (aaa (aaH w8 rfl ?_)))));show wpAny _ _ (Builtin.SmallTypes.ownedTupleIsFree (.ref z) >>= _) _ _ _;unfold Builtin.SmallTypes.ownedTupleIsFree;refine aaa (aaa (aaB hz rfl (x:=.none) rfl (aab ?_)));simp only[if_true];refine aaa (aa5 (aaa (aaB hz rfl (x:=.ref TO) rfl (aaa (aa2 hz (by simp) λg1 z1 e1=>aaa ?_)))));replace z1:IsZip g1 z TI TO .ellipsis:=z1;simp only[List.zipIdx_cons,List.zipIdx_nil,List.forIn_cons,List.forIn_nil];refine aaa (aaa (ace ?_));show wpAny _ _ (Builtin.SmallTypes.nextOf (.ref i1) >>= _) _ _ _;rcases hl with d1|⟨l1,d2⟩
 ·exact aaa (d1 _ _ _ (dX D1 e1 zf1 Gp) λg2 e e2 he=>ends (e2 _ _ (aaC i1z) z1) he λc o c1 _ c3 _ x=>e2 _ _ c3 (e1.extBut _ _ c1 x))
 ·refine aaa (D1.item k _ _ _ l1 (dX D1 e1 zf1 Gp) λx g2 tk p1 MI e2=>aab ?_);have t2:IsPair g2 TO a b:=e2.extBut _ _ TOi1 (e1.extBut _ _ TOz CV);refine aaa (aaH t2 rfl (aaa (abU t2 λg3 t3 e3=>aaa (wpAny_letGo (aab (aaa (aaa (ace ?_))))))));show wpAny _ _ (Builtin.SmallTypes.nextOf (.ref i2) >>= _) _ _ _;exact aaa (d2 _ _ _ (dX D2 e3 TOf2 (dX D2 e2 i1f2 (dX D2 e1 zf2 DC))) λg4 e e4 he=>ends (e4 _ _ (aaC i2z) (e3.extBut _ _ (aaC TOz) (e2.extBut _ _ (aaC i1z) z1))) he λc o c1 c2 c3 c4 x=>e4 _ _ c4 (e3.extBut _ _ c2 (e2.extBut _ _ c3 (e1.extBut _ _ c1 x))))
end
theorem S_(l1 l2:Addr)(xs ys:aP):Meets (Builtin.«zip.__new__» ⟨[.type "zip",.ref l1,.ref l2],[]⟩) (λ_ R s=>s.heap.IsTuple l1 xs/\s.heap.IsList l2 ys /\
   ∀h',IsZip h' (s.heap.objs.size+4) (s.heap.objs.size+2) (s.heap.objs.size+3) .none->IsPair h' (s.heap.objs.size+2) (.ref s.heap.objs.size) (.ref (s.heap.objs.size+1))->IsPair h' (s.heap.objs.size+3) .none .none->h'.IsTupleIter s.heap.objs.size l1 0->h'.IsListIter (s.heap.objs.size+1) l2 0->(∀c o,s.heap.get? c=some o->h'.get? c=some o) ->
   R (.ok (.ret (.ref (s.heap.objs.size+4)))) { s with heap:=h' }) :=
 .of_wp λprog w A R s h=>by
  obtain⟨hp,g,d,tk,os⟩:=s;obtain⟨w6,tu,h⟩:=h;have Ot:=sub_zip;have a1:Heap.IsTuple (Shared.heap ⟨hp,g,d,tk,os⟩) l1 xs:=w6;have a2:Heap.IsList (Shared.heap ⟨hp.push { cls:=.type "tuple_iterator",data:=.fields #[.ref l1,.int 0 0] },g,d,tk,os⟩) l2 ys:=Heap.IsList.push tu _
  wp_walk using wpAny_pyIter_tuple a1,wpAny_pyIter_list a2
  refine⟨_,rfl,?_⟩;have q:∀(h:Heap) (o:Obj),(h.push o).objs.size=h.objs.size+1:=λh o=>Heap.size_push ..;simp only[q]at h ⊢;have at_:∀{h:Heap} {o:Obj} {n:Nat},h.objs.size=n->o.isFreed=false->(h.push o).get? n=some o:=λe f=>by subst e;exact aan _ f
  have up:∀{h:Heap} {o o':Obj} {n:Nat},h.get? n=some o->(h.push o').get? n=some o:=λe=>aag _ e;refine h _ (at_ (by simp only[q]) rfl) (up (up (at_ (by simp only[q]) rfl))) (up (at_ (by simp only[q]) rfl)) ⟨_,up (up (up (up (at_ rfl rfl)))),rfl,rfl⟩ ⟨_,up (up (up (at_ (by simp only[q]) rfl))),rfl,rfl⟩ λc o e=>up (up (up (up (up e))))
theorem y7{xs:aP}{Q:aw}(h1:s.heap.IsTuple l1 xs)(h2:s.heap.IsList l2 ys)
  (h:∀h',IsZip h' (s.heap.objs.size+4) (s.heap.objs.size+2) (s.heap.objs.size+3) .none->IsPair h' (s.heap.objs.size+2) (.ref s.heap.objs.size) (.ref (s.heap.objs.size+1))->IsPair h' (s.heap.objs.size+3) .none .none->h'.IsTupleIter s.heap.objs.size l1 0->h'.IsListIter (s.heap.objs.size+1) l2 0->(∀c o,s.heap.get? c=some o->h'.get? c=some o)->Q (.ref (s.heap.objs.size+4)) { s with heap:=h' }) :
  wpAny (model prog w) A (call (.type "zip") [.ref l1,.ref l2]) Q E s :=
 callType_new F.called_zip (by decide) (F.typeCall_zip_2 _ _) (F.newCall_zip_2 _ _) (λobj=>F.args_object_init_3 obj _ _) F.entry_zip_new (S_ l1 l2 xs ys) ⟨h1,h2,λh' z t o a b k=>⟨⟨_,z,rfl⟩,h h' z t o a b k⟩⟩
end
def VM(K:aq)(a b:Addr):It :=
  ⟨λi H=>∃xs ys x y,aR K H a xs/\cX K H b ys/\xs[i]?=some x/\ys[i]?=some y,
   λi H v H'=>∃T x y,(∀xs,aR K H a xs->xs[i]?=some x)/\(∀ys,cX K H b ys->ys[i]?=some y)/\H T=none/\v=.ref T/\H'=upd H T (.tup [x,y]),
   λi H=>∃xs ys,aR K H a xs/\cX K H b ys/\(xs.length<=i\/ys.length<=i)⟩
theorem ya{tp:Pos}{a b z TI TO:Addr}(UN:TI≠TO)(vq:i1≠i2)(Zb:a≠TO):
  Turn P w K (.Tuple elts n1 tp) (VM K a b) [z,TI,TO,i1,i2] z (λi h=>IsZip h z TI TO .none/\IsPair h TI (.ref i1) (.ref i2)/\(∃x y,IsPair h TO x y)/\h.IsTupleIter i1 a i/\h.IsListIter i2 b i):=by
 have apart:∀{h:Heap} {x y:Value} {xs ys:aP} {i:Nat},IsZip h z TI TO .none->IsPair h TI (.ref i1) (.ref i2)->IsPair h TO x y->h.IsTupleIter i1 a i->h.IsListIter i2 b i->h.IsTuple a xs->h.IsList b ys->vK z TI TO i1 i2 [i1,a] [i2,b]/\a≠i1/\b≠i2:=by
  intro h x y xs ys i hz hI hO ⟨o1,e1,c1,_⟩ ⟨o2,e2,c2,_⟩ ⟨oa,ea,ca,_⟩ ⟨ob,eb,cb,_⟩;have u1:a≠i1:=bD ea e1 (by rw[ca,c1];simp);have u2:b≠i2:=bD eb e2 (by rw[cb,c2];simp);have v1:a≠z:=bD ea hz (by rw[ca];simp);have v2:a≠i2:=bD ea e2 (by rw[ca,c2];simp);have v3:b≠z:=bD eb hz (by rw[cb];simp);have v4:b≠TO:=bD eb hO (by rw[cb];simp);have v5:b≠i1:=bD eb e1 (by rw[cb,c1];simp);have w1:i1≠z:=bD e1 hz (by rw[c1];simp);have w2:i2≠z:=bD e2 hz (by rw[c2];simp);have w3:TO≠i1:=bD hO e1 (by rw[c1];simp);have w4:TO≠i2:=bD hO e2 (by rw[c2];simp);have no:∀{c p q:Addr},c≠p->c≠q->c∉[p,q]:=λh1 h2 m=>by
   simp only[List.mem_cons,List.not_mem_nil,or_false]at m;exact m.elim h1 h2
  exact⟨⟨⟨bD hI hz (by simp),bD hO hz (by simp),w1,w2⟩,⟨UN,bD hI e1 (by rw[c1];simp),bD hI e2 (by rw[c2];simp),w3,w4,vq⟩,⟨no (aaC w1) (aaC v1),no w3 (aaC Zb),no (aaC vq) (aaC v2)⟩,no (aaC w2) (aaC v3),no w4 (aaC v4),no vq (aaC v5)⟩,u1,u2⟩
 refine⟨by simp,λi h st c hc=>?_,λi h h' st k=>?_,?_,?_,λA i s Q E st hQ=>abn st.1 hQ⟩
 ·obtain⟨hz,hI,⟨x,y,hO⟩,⟨o1,e1,_,d1⟩,⟨o2,e2,_,d2⟩⟩:=st;simp only[List.mem_cons,List.not_mem_nil,or_false]at hc;rcases hc with rfl|rfl|rfl|rfl|rfl
  ·exact⟨_,hz,λv q=>by cases q⟩
  ·exact⟨_,hI,λv q=>by cases q⟩
  ·exact⟨_,hO,λv q=>by cases q⟩
  ·exact⟨o1,e1,λv q=>by rw[d1]at q;cases q⟩
  ·exact⟨o2,e2,λv q=>by rw[d2]at q;cases q⟩
 ·obtain⟨hz,hI,⟨x,y,hO⟩,⟨o,ho,r⟩,l2⟩:=st;exact⟨k z (by simp) _ hz,k TI (by simp) _ hI,⟨x,y,k TO (by simp) _ hO⟩,⟨o,k i1 (by simp) o ho,r⟩,l2.at λo e=>k i2 (by simp) o e⟩
 ·intro X hP hw hK hc i pins s σ H E I hf st hg;subst hP hw hK;obtain⟨xs,ys,x,y,q1,q2,ex,ey⟩:=hg;obtain⟨hz,hI,⟨x0,y0,hO⟩,l1,l2⟩:=st;obtain⟨aK,rv,p,_⟩:=I.tuple q1;obtain⟨its',uj,p',_⟩:=I.list q2;obtain⟨u,hu,ru⟩:=rv.get ex;obtain⟨u',qC,Sn⟩:=uj.get ey;obtain⟨ap,n1,n2⟩:=apart hz hI hO l1 l2 p p'.isList;have hh:X.A.in1.handled=none:=I.ok.hd hc;have lt:∀{vs:ao} {v:Value},vs[i]?=some v->i<vs.toArray.size:=λ{vs v} e=>by
   by_cases z:i<vs.length
   ·simpa using z
   ·rw[List.getElem?_eq_none (by left)]at e;cases e
  have hT:s.TypeIs (.ref z) "zip":=⟨_,hz,rfl⟩
  unfold pyNext;refine aaa (abo (aaK (name:=Str.ofString "__next__") hT abV (aaD abV hT F.entry_zip_next (x6 (lA hh i1 a n1 aK.toArray) (Draws.list hh i2 b n2 its'.toArray) ap hz hI hO ⟨l1,p⟩ ⟨l2,p'.isList⟩ (lt hu) (lt qC) λv v' h1 tk w1 w2 z1 o1 a1 b1 t1 k1=>aab ⟨_,rfl,?_⟩) (F.args_zip_next_1 _))));obtain rfl:u=v:=by simpa [hu]using w1
  obtain rfl:u'=v':=by simpa [qC]using w2
  refine wpAny_letOwnedTupleGo_zip z1 λh2 z2 yh=>?_;have RC:s.heap.objs.size≠z:=aas (aah hz);have kk:∀c o,c∉[z,TI,TO,i1,i2]->s.heap.get? c=some o->h2.get? c=some o:=λc o hc e=>by
   simp only[List.mem_cons,List.not_mem_nil,or_false,not_or]at hc;exact yh.extBut c o hc.1 (k1 c o hc.1 hc.2.2.1 hc.2.2.2.1 hc.2.2.2.2 e)
  have hT:h2.get? s.heap.objs.size=some { cls:=.type "tuple",data:=.seq #[u,u'] }:=yh.extBut _ _ RC t1;have hn:H s.heap.objs.size=none:=I.cQ.fresh (aai _);refine⟨.ref s.heap.objs.size,upd H s.heap.objs.size (.tup [x,y]),vT (s:=s) (h':=h2) (t':=tk) I hf kk (aai _) (pR ru Sn hT),rfl,⟨_,x,y,λzs hz=>by rw[I.kC hz q1];exact ex,λzs hz=>by rw[I.ip hz q2];exact ey,hn,rfl,rfl⟩,⟨z2,yh.extBut _ _ ap.n1.1 (k1 _ _ ap.n1.1 ap.n2.1 ap.n2.2.1 ap.n2.2.2.1 hI),⟨_,_,yh.extBut _ _ ap.n1.2.1 o1⟩,?_,b1.1.extBut yh.extBut ap.n1.2.2.2⟩,λc hc=>?_⟩
  ·obtain⟨o,ho,r⟩:=a1.1;exact⟨o,yh.extBut _ _ ap.n1.2.2.1 ho,r⟩
  ·rw[aW]
   ·exact(hf c hc).1
   ·intro z;subst z;simp only[List.mem_cons,List.not_mem_nil,or_false]at hc;rcases hc with e|e|e|e|e
    ·exact absurd (aah hz) (by rw[<- e];exact aat _)
    ·exact absurd (aah hI) (by rw[<- e];exact aat _)
    ·exact absurd (aah hO) (by rw[<- e];exact aat _)
    ·obtain⟨_,w,_⟩:=l1;exact absurd (aah w) (by rw[<- e];exact aat _)
    ·obtain⟨_,w,_⟩:=l2;exact absurd (aah w) (by rw[<- e];exact aat _)
 ·intro X hP hw hK hc i pins s σ H E I hf st hg;subst hP hw hK;obtain⟨xs,ys,q1,q2,hl⟩:=hg;obtain⟨hz,hI,⟨x0,y0,hO⟩,l1,l2⟩:=st;obtain⟨aK,rv,p,_⟩:=I.tuple q1;obtain⟨its',uj,p',_⟩:=I.list q2;have e1:xs.length=aK.toArray.size:=by rw[rv.length];simp
  have e2:ys.length=its'.toArray.size:=by rw[uj.length];simp
  obtain⟨ap,n1,n2⟩:=apart hz hI hO l1 l2 p p'.isList;have hh:X.A.in1.handled=none:=I.ok.hd hc;have hT:s.TypeIs (.ref z) "zip":=⟨_,hz,rfl⟩
  unfold pyNext;refine aaa (abo (aaK (name:=Str.ofString "__next__") hT abV (aaD abV hT F.entry_zip_next (zy (lA hh i1 a n1 aK.toArray) (Draws.list hh i2 b n2 its'.toArray) ap hz hI hO ⟨l1,p⟩ ⟨l2,p'.isList⟩ (by
   by_cases z:aK.toArray.size<=i
   ·exact .inl (oK hh (abh z))
   ·exact .inr ⟨by left,λs Q E st hE=>abL hh st.1 st.2 (abh (by left)) hE⟩) λh1 e tk k1 he=>?_) (F.args_zip_next_1 _))))
  obtain⟨o,ho,hc⟩:=he;refine aaa (aa9 (T:="StopIteration") (b:=true) ⟨o,ho,hc⟩ isSubtype_stop (aab ⟨rfl,vS (t':=tk) I hf λc o hc e=>?_⟩));simp only[List.mem_cons,List.not_mem_nil,or_false,not_or]at hc;exact k1 c o hc.1 hc.2.2.1 hc.2.2.2.1 hc.2.2.2.2 e
theorem D8{tp p:Pos}(hg:Gl X "zip")(hm:X.mg "zip" = none)(ha:PA X [e1,e2] ta)(hs:∀es,starEach (e1::es) X.env=(false,eval e1 X.env)::starEach es X.env)(GW:∀es,starEach (e2::es) X.env=(false,eval e2 X.env)::starEach es X.env):
  PI X (.Tuple elts n1 tp) (.Call (.Name "zip" p) [e1,e2] [] pos) (λσ H R=>ta σ H λvs H1=>∃a b,vs=[.ref a,.ref b]/\(∃xs,aR X.K H1 a xs)/\(∃ys,cX X.K H1 b ys)/\R (VM X.K a b) H1):=by
 intro pins s σ H R I h;refine Call_ (dS I hg hm boot_zip (aau (cJ (ha pos pins s σ H _ I h) λus s1 bL=>?_) (hs _) (by rw[GW];rfl)));obtain⟨vs,H1,I1,r1,q1⟩:=bL;obtain⟨a,b,e,⟨xs,q1⟩,⟨ys,q2⟩,q⟩:=q1;subst e;obtain⟨u,v,rfl,ru,rv⟩:=vals2 r1;cases ru;cases rv;obtain⟨aK,_,p1,_⟩:=I1.tuple q1;obtain⟨its',_,p2,_⟩:=I1.list q2;have la:a<s1.heap.objs.size:=by obtain⟨o,ho,_⟩:=p1;exact aah ho
 refine y7 p1 p2.isList λh' z t o l1 l2 k=>abn z ?_;refine⟨s1.heap.objs.size+4,[s1.heap.objs.size+4,s1.heap.objs.size+2,s1.heap.objs.size+3,s1.heap.objs.size,s1.heap.objs.size+1],_,_,H1,rfl,I1.kept (t':=s1.toks) k,ya (aam (aaT _)) (aam (aaT _)) (aam (aaj la (aci ..))),⟨z,t,⟨_,_,o⟩,l1,l2⟩,λb hb=>?_,q⟩;have m7:s1.heap.objs.size<=b:=by
  simp only[List.mem_cons,List.not_mem_nil,or_false]at hb;rcases hb with rfl|rfl|rfl|rfl|rfl<;>first|exact aci .. |exact aai _
 exact I1.yQ m7 (I1.cQ.fresh m7)
noncomputable def rQ:aC
 |[.tup a,.lst _ b]=>ok (.lst .ow (List.zipWith (λx y=>.tup [x,y]) a b))
 |_=>none
theorem zA{p q:Addr}{a b:ab}:Hi K (VM K p q) H2 [.ref p,.ref q] [.tup a,.lst g b] (aA aV (List.zipWith (λx y=>.tup [x,y]) a b)):=by
 have len:(aA aV (List.zipWith (λx y=>D.tup [x,y]) a b)).length=min a.length b.length:=by rw[aY];simp
 have two:∀{H':Hp} {R':ai},az (aR K H') (nd K R' (λ_=>False) (λ_=>none) H') [] 0 [.ref p,.ref q] (aA aV [.tup a,.lst g b]) ->
   ∃xs ys,aR K H' p xs/\cX K H' q ys/\az (aR K H') (nd K R' (λ_=>False) (λ_=>none) H') [0] 0 xs (aA aV a)/\az (aR K H') (nd K R' (λ_=>False) (λ_=>none) H') [1] 0 ys (aA aV b):=by
  intro H' R' h;rw[aA,aU,aA,aU,aA]at h;cases h with
  |cons h t=>cases t with
   |cons h' t=>cases h with
    |tup h r=>cases h' with
     |lst h' r'=>exact⟨_,_,h,h'.sq,r,r'⟩
 refine⟨λi H' R' _ h hi=>?_,λi H' R' x lF _ h hi hy=>?_,λi H' R' _ h hi=>?_⟩
 ·obtain⟨xs,ys,h1,h2,r1,r2⟩:=two h;rw[len]at hi;have l1:=r1.length;have l2:=r2.length;rw[aY,List.length_map]at l1 l2;exact⟨xs,ys,xs[i]'(by left),ys[i]'(by left),h1,h2,aal _,aal _⟩
 ·obtain⟨xs,ys,h1,h2,r1,r2⟩:=two h;obtain⟨T,u,v,g1,g2,hn,rfl,rfl⟩:=hy;obtain⟨d1,e1,p1⟩:=r1.tI (g1 xs h1);obtain⟨d2,e2,p2⟩:=r2.tI (g2 ys h2);have es:aM H' (upd H' T (.tup [u,v])):=aM.upd hn;refine⟨es,.tup [d1,d2],?_,.tup (aR.of aS) (.cons (p1.Qp es) (.cons (p2.Qp es) .nil))⟩;rw[aY,List.getElem?_map]at e1 e2 ⊢;obtain⟨c1,q1,rfl⟩:=Option.map_eq_some_iff.mp e1;obtain⟨c2,q2,rfl⟩:=Option.map_eq_some_iff.mp e2;rw[List.getElem?_zipWith,q1,q2];simp[aU,aA]
 ·obtain⟨xs,ys,h1,h2,r1,r2⟩:=two h;rw[len]at hi;have l1:=r1.length;have l2:=r2.length;rw[aY,List.length_map]at l1 l2;exact⟨xs,ys,h1,h2,by left⟩
theorem C_{n:Nat}(hΦ:Φ n=rQ){sc:Scope}{bl:ak}{k:Nat}(L:PX X sc bl k){e:Expr}(he:fR sc bl e=some args)(ht:fQ tg=true)(hs:kg X F Φ cs args)
  {pins:aj} {s:Shared} {xs:ab} {d:D} (I:Inv X pins σ H s) (Si:SI X F R τ ρ σ H) (cc:cz Φ cs ρ=ok xs) (ed:Φ n xs=ok d) (ei:kF d=ok items) (Rr:It->Hp->Prop)
  (hR:∀J H2 vs,aM H H2->cv X.K (gP X F) R τ (cW cs) H H2 vs xs->Hi X.K J H2 vs xs items->Rr J H2) :
  wpAny (model X.prog X.w) X.A (eval e X.env) (λv s1=>wpAny (model X.prog X.w) X.A (pyIter v) (zp X pins σ tg Rr) X.xe s1) X.xe s:=by
 obtain⟨p,pos,a,b,rfl,rfl,h1,h2⟩:=kU he;cases tg<;>try (cases ht;done)
 obtain⟨_,pa,s1,s2⟩:=fj hs;refine D8 (L.gl h1) (L.bl _ h2) pa s1 s2 pins s σ H Rr I ⟨R,τ,ρ,xs,Si,cc,λvs H1 e1 rv=>?_⟩;have Sk:=rv;obtain⟨τt,fr,rs⟩:=rv;rw[hΦ]at ed;unfold rQ at ed;split at ed
 ·cases ed;cases ei;obtain⟨v,w,rfl,rx,ry⟩:=rs.two;cases rx with
  |tup hx _=>cases ry with
   |lst hy _=>exact⟨_,_,rfl,⟨_,hx⟩,⟨_,hy.sq⟩,hR _ H1 _ e1 Sk zA⟩
 ·cases ed
noncomputable abbrev rG(h:Heap)(z TI TO a:Addr)(f:Bool):Prop :=
 h.get? z=some { cls:=.type "zip",dict:=none,data:=.fields #[rawInt a,.bool f,.bool false,.ref TI,.ref TO],slots:=#[] }
variable {oa:Obj}
section
variable {prog:aF}{w:World}{A:aE}{E:aw}{s:Shared}
theorem zw{a:Addr}{o:Obj}{Q:Option Obj->Shared->Prop}(ho:s.heap.get? a=some o)(h:Q (some o) s):wpAny (model prog w) A (loadIfAlive a) Q E s:=by
 have h':Q (s.heap.get? a) s:=by rw[ho];exact h
 exact λ_ _ _=>h'
theorem vL{z TI TO a:Addr}{f:Bool}{Q:Bool->Shared->Prop}(hz:rG s.heap z TI TO a f)(ha:s.heap.get? a=some oa)(hQ:∀h',rG h' z TI TO a true->Heap.SameBut z s.heap h'->Q false { s with heap:=h' }):
  wpAny (model prog w) A (Builtin.SmallTypes.ownedTupleIsFree (.ref z)) Q E s:=by
 unfold Builtin.SmallTypes.ownedTupleIsFree;refine aaa (aaB hz rfl (x:=rawInt a) rfl ?_);show wpAny _ _ (loadIfAlive ((a:Int).toNat) >>= _) _ _ _;rw[Int.toNat_natCast];refine aaa (zw ha ?_);simp only[Option.isNone_some,Bool.false_eq_true,if_false];refine aaa (aaB hz rfl (x:=.bool f) rfl ?_);cases f with
 |true =>
  rw[if_neg (show ¬ ((Value.bool true != Value.bool true)=true) from Bool.false_ne_true)];exact aab (hQ s.heap hz (Heap.SameBut.refl _ _))
 |false =>
  rw[if_pos (show(Value.bool false != Value.bool true)=true from rfl)];exact aaa (aa2 hz (by simp) λh₃ OP lr=>aab (hQ h₃ OP lr))
theorem rP{z TI TO a:Addr}{f:Bool}{xs:aP}{x y:Value}{Q:aw}(D:ZipApart z TI TO i1 i2 l1 l2)
  (hz:rG s.heap z TI TO a f) (ha:s.heap.get? a=some oa) (w8:IsPair s.heap TI (.ref i1) (.ref i2))
  (h1:s.heap.IsListIter i1 l1 k1) (h2:s.heap.IsListIter i2 l2 k2) (w6:s.heap.IsList l1 xs) (tu:s.heap.IsList l2 ys) (hx:xs[k1]?=some x) (hy:ys[k2]?=some y)
  (hQ:∀h',rG h' z TI TO a true->h'.IsListIter i1 l1 (k1+1)->h'.IsListIter i2 l2 (k2+1)->IsPair h' s.heap.objs.size x y->h'.objs.size=s.heap.objs.size+1 ->
   (∀c o,c≠z->c≠i1->c≠i2->s.heap.get? c=some o->h'.get? c=some o)->Q (.ref s.heap.objs.size) { s with heap:=h' }) :
  wpAny (model prog w) A (Builtin.«zip.__next__» ⟨[.ref z],[]⟩) (λfin s'=>∃v,fin=.done (.ret v)/\Q v s') E s:=by
 show wpAny _ _ (field (.ref z) 2 >>= _) _ _ _;refine aaa (aaB hz rfl (x:=.bool false) rfl ?_);show wpAny _ _ (field (.ref z) 3 >>= _) _ _ _;refine aaa (aaB hz rfl (x:=.ref TI) rfl ?_);refine aaa (aaH w8 rfl ?_);show wpAny _ _ (Builtin.SmallTypes.ownedTupleIsFree (.ref z) >>= _) _ _ _;refine aaa (vL hz ha λh₁ GR ft=>?_);simp only[Bool.false_eq_true,if_false];refine aaa ?_;rw[<- Array.forIn_toList];simp only[List.forIn_cons,List.forIn_nil];refine aaa (aaa (aaG ?_));show wpAny _ _ (Builtin.SmallTypes.nextOf (.ref i1) >>= _) _ _ _;refine aaa (abD (h1.extBut ft.extBut D.i1z) (w6.extBut ft.extBut D.l1z) hx λh₂ GZ ir=>aab ?_);refine aab ?_;refine aaa (aaa (aaG ?_));show wpAny _ _ (Builtin.SmallTypes.nextOf (.ref i2) >>= _) _ _ _;refine aaa (abD ((h2.extBut ft.extBut D.i2z).extBut ir.extBut D.i12.symm) ((tu.extBut ft.extBut D.l2z).extBut ir.extBut D.l2i1) hy λh₃ O_ lr=>aab ?_);refine aab ?_;refine aab ?_;have hsz:h₃.objs.size=s.heap.objs.size:=by rw[lr.1,ir.1,ft.1]
 refine aaa (wpAny_newTuple ?_ (by show 2<=_;rw[sizeLine_eq];decide));refine aab ⟨_,rfl,?_⟩;show Q (.ref h₃.objs.size) _;have fu:∀{c o},h₃.get? c=some o->c≠h₃.objs.size:=λe=>aam (aah e);have hk:∀c o,c≠z->c≠i1->c≠i2->s.heap.get? c=some o->(h₃.push { cls:=.type "tuple",data:=.seq #[x,y] }).get? c=some o:=λc o c1 c2 c3 e=>aag _ (lr.extBut _ _ c3 (ir.extBut _ _ c2 (ft.extBut _ _ c1 e)));rw[hsz];refine hQ _ (aag _ (lr.extBut _ _ D.i2z.symm (ir.extBut _ _ D.i1z.symm GR))) ((GZ.extBut lr.extBut D.i12).at λo e=>aag _ e) (O_.at λo e=>aag _ e) ?_ (by rw[Heap.size_push,hsz]) hk;rw[<- hsz];exact aan _ rfl
theorem uo{z TI TO a:Addr}{f:Bool}{xs:aP}{Q:Fin->Shared->Prop}(hh:A.handled=none)(D:ZipApart z TI TO i1 i2 l1 l2)
  (hz:rG s.heap z TI TO a f) (ha:s.heap.get? a=some oa) (w8:IsPair s.heap TI (.ref i1) (.ref i2))
  (h1:s.heap.IsListIter i1 l1 k1) (h2:s.heap.IsListIter i2 l2 k2) (w6:s.heap.IsList l1 xs) (tu:s.heap.IsList l2 ys) (tx:xs[k1]?=none\/ys[k2]?=none)
  (hE:∀h' e,(∀c o,c≠z->c≠i1->c≠i2->s.heap.get? c=some o->h'.get? c=some o)->(∃o,h'.get? e=some o/\o.cls=.type "StopIteration")->E (.ref e) { s with heap:=h' }) :
  wpAny (model prog w) A (Builtin.«zip.__next__» ⟨[.ref z],[]⟩) Q E s:=by
 show wpAny _ _ (field (.ref z) 2 >>= _) _ _ _;refine aaa (aaB hz rfl (x:=.bool false) rfl ?_);show wpAny _ _ (field (.ref z) 3 >>= _) _ _ _;refine aaa (aaB hz rfl (x:=.ref TI) rfl ?_);refine aaa (aaH w8 rfl ?_);show wpAny _ _ (Builtin.SmallTypes.ownedTupleIsFree (.ref z) >>= _) _ _ _;refine aaa (vL hz ha λh₁ GR ft=>?_);simp only[Bool.false_eq_true,if_false];refine aaa ?_;rw[<- Array.forIn_toList];simp only[List.forIn_cons,List.forIn_nil];refine aaa (aaa (aaG ?_));show wpAny _ _ (Builtin.SmallTypes.nextOf (.ref i1) >>= _) _ _ _;cases hx:xs[k1]? with
 |none =>
  refine aaa (abL hh (h1.extBut ft.extBut D.i1z) (w6.extBut ft.extBut D.l1z) hx λh₂ e ir he=>?_);exact hE h₂ e (λc o c1 c2 c3 x=>ir _ _ c2 (ft.extBut _ _ c1 x)) he
 |some x =>
  have hy:ys[k2]?=none:=by rcases tx with h|h;rw[hx]at h;cases h;exact h
  refine aaa (abD (h1.extBut ft.extBut D.i1z) (w6.extBut ft.extBut D.l1z) hx λh₂ GZ ir=>aab ?_);refine aab ?_;refine aaa (aaa (aaG ?_));show wpAny _ _ (Builtin.SmallTypes.nextOf (.ref i2) >>= _) _ _ _;refine aaa (abL hh ((h2.extBut ft.extBut D.i2z).extBut ir.extBut D.i12.symm) ((tu.extBut ft.extBut D.l2z).extBut ir.extBut D.l2i1) hy λh₃ e lr he=>?_);exact hE h₃ e (λc o c1 c2 c3 x=>lr _ _ c3 (ir.extBut _ _ c2 (ft.extBut _ _ c1 x))) he
theorem my{z TI TO a:Addr}{f:Bool}{xs:aP}{x y:Value}{Q:Option Value->Shared->Prop}(D:ZipApart z TI TO i1 i2 l1 l2)
  (hz:rG s.heap z TI TO a f) (ha:s.heap.get? a=some oa) (w8:IsPair s.heap TI (.ref i1) (.ref i2))
  (h1:s.heap.IsListIter i1 l1 k1) (h2:s.heap.IsListIter i2 l2 k2) (w6:s.heap.IsList l1 xs) (tu:s.heap.IsList l2 ys) (hx:xs[k1]?=some x) (hy:ys[k2]?=some y)
  (hQ:∀h',rG h' z TI TO a true->h'.IsListIter i1 l1 (k1+1)->h'.IsListIter i2 l2 (k2+1)->IsPair h' s.heap.objs.size x y->h'.objs.size=s.heap.objs.size+1 ->
   (∀c o,c≠z->c≠i1->c≠i2->s.heap.get? c=some o->h'.get? c=some o)->Q (some (.ref s.heap.objs.size)) { s with heap:=h' }) :
  wpAny (model prog w) A (pyNext (.ref z)) Q E s:=by
 have hT:s.TypeIs (.ref z) "zip":=⟨_,hz,rfl⟩
 unfold pyNext;exact aaa (abo (aaK (name:=Str.ofString "__next__") hT abi
  (aaD abi hT PySem.F.entry_zip_next
   (rP D hz ha w8 h1 h2 w6 tu hx hy λh' a1 a2 a3 a4 a5 a6=>aab (hQ h' a1 a2 a3 a4 a5 a6)) (PySem.F.args_zip_next_1 _))))
theorem n4{z TI TO a:Addr}{f:Bool}{xs:aP}{Q:Option Value->Shared->Prop}(hh:A.handled=none)(D:ZipApart z TI TO i1 i2 l1 l2)
  (hz:rG s.heap z TI TO a f) (ha:s.heap.get? a=some oa) (w8:IsPair s.heap TI (.ref i1) (.ref i2))
  (h1:s.heap.IsListIter i1 l1 k1) (h2:s.heap.IsListIter i2 l2 k2) (w6:s.heap.IsList l1 xs) (tu:s.heap.IsList l2 ys) (tx:xs[k1]?=none\/ys[k2]?=none)
  (hQ:∀h',(∀c o,c≠z->c≠i1->c≠i2->s.heap.get? c=some o->h'.get? c=some o)->Q none { s with heap:=h' }):wpAny (model prog w) A (pyNext (.ref z)) Q E s:=by
 have hT:s.TypeIs (.ref z) "zip":=⟨_,hz,rfl⟩
 unfold pyNext;refine aaa (abo (aaK (name:=Str.ofString "__next__") hT abi
  (aaD abi hT PySem.F.entry_zip_next (uo hh D hz ha w8 h1 h2 w6 tu tx λh' e hk he=>?_) (PySem.F.args_zip_next_1 _))))
 obtain⟨o,ho,hc⟩:=he;refine aaa (aa9 (T:="StopIteration") (b:=true) ⟨o,ho,hc⟩ isSubtype_stop ?_);exact aab (hQ _ hk)
end
theorem Hq:typeLookup (.type "zip") "__len__" = pure none:=by rw[typeLookup_type,builtinLookup_eq_fast];kernel_rfl
theorem L8:typeLookup (.type "zip") "__length_hint__" = pure none:=by rw[typeLookup_type,builtinLookup_eq_fast];kernel_rfl
section
variable {prog:aF}{w:World}{A:aE}{E:aw}{s:Shared}
theorem C7{z:Addr}(hT:s.TypeIs (.ref z) "zip"){Q:Bool->Shared->Prop}(h:Q true s):wpAny (model prog w) A (Builtin.List.listLengthHint (.ref z)) Q E s:=by
 unfold Builtin.List.listLengthHint;refine aaa (abe hT Hq ?_);refine wpAny_ite_split (λqK=>absurd qK (by decide)) (λ_=>?_);refine wpAny_ite_split (λqK=>absurd qK (by decide)) (λ_=>?_);refine aaa (abe hT L8 ?_);exact aab h
end
structure Zl(h:Heap)(z TI TO i1 i2 l1 l2 S:Addr)(xs ys:aP)(i:Nat):Prop where
 st:(IsZip h z TI TO .none/\∃a b,IsPair h TO a b)\/∃a f oa,rG h z TI TO a f/\h.get? a=some oa/\S<a
 ti:IsPair h TI (.ref i1) (.ref i2)
 w1:h.IsListIter i1 l1 i
 w2:h.IsListIter i2 l2 i
 q1:h.IsList l1 xs
 q2:h.IsList l2 ys
structure Below(z TI TO i1 i2 l1 l2 S:Addr):Prop where
 D:ZipApart z TI TO i1 i2 l1 l2
 z:z<S
 TI:TI<S
 TO:TO<S
 i1:i1<S
 i2:i2<S
 l1:l1<S
 l2:l2<S
section
variable {prog:aF}{w:World}{A:aE}{E:aw}{s:Shared}{z TI TO i1 i2 l1 l2 S:Addr}{xs ys:aP}{i:Nat}
theorem Zl.keep{h:Heap}(B:Below z TI TO i1 i2 l1 l2 S)(Z:Zl h z TI TO i1 i2 l1 l2 S xs ys i)(hk:∀b o,b≠S->h.get? b=some o->h'.get? b=some o):Zl h' z TI TO i1 i2 l1 l2 S xs ys i:=by
 have n:∀{b},b<S->b≠S:=λh=>aam h;refine⟨?_,hk _ _ (n B.TI) Z.ti,Z.w1.at λo e=>hk _ o (n B.i1) e,Z.w2.at λo e=>hk _ o (n B.i2) e,Z.q1.at λo e=>hk _ o (n B.l1) e,Z.q2.at λo e=>hk _ o (n B.l2) e⟩;rcases Z.st with ⟨h1,a,b,h2⟩|⟨a,f,oa,h1,h2,h3⟩
 ·exact .inl ⟨hk _ _ (n B.z) h1,a,b,hk _ _ (n B.TO) h2⟩
 ·exact .inr ⟨a,f,oa,hk _ _ (n B.z) h1,hk _ _ (aas h3) h2,h3⟩
theorem C5{x y:Value}{Q:Option Value->Shared->Prop}(B:Below z TI TO i1 i2 l1 l2 S)(Z:Zl s.heap z TI TO i1 i2 l1 l2 S xs ys i)(hS:S<s.heap.objs.size)(hx:xs[i]?=some x)(hy:ys[i]?=some y)
  (hQ:∀h',Zl h' z TI TO i1 i2 l1 l2 S xs ys (i+1)->IsPair h' s.heap.objs.size x y->h'.objs.size=s.heap.objs.size+1->(∀c o,c≠z->c≠TO->c≠i1->c≠i2->s.heap.get? c=some o->h'.get? c=some o)->Q (some (.ref s.heap.objs.size)) { s with heap:=h' }) :
  wpAny (model prog w) A (pyNext (.ref z)) Q E s:=by
 have D:=B.D;rcases Z.st with ⟨hz,a,b,CV⟩|⟨a,f,oa,hz,ha,hSa⟩
 ·refine wpAny_pyNext_zip_item D hz Z.ti CV Z.w1 Z.w2 Z.q1 Z.q2 hx hy λh' z1 o1 a1 b1 t1 Qr k1=>hQ h' ?_ t1 Qr k1;exact⟨.inr ⟨s.heap.objs.size,false,_,z1,t1,hS⟩,k1 _ _ D.TIz D.TITO D.TIi1 D.TIi2 Z.ti,a1,b1,Z.q1.at λo e=>k1 _ o D.l1z D.l1TO D.l1i1 D.l1i2 e,Z.q2.at λo e=>k1 _ o D.l2z D.l2TO D.l2i1 D.l2i2 e⟩
 ·refine my D hz ha Z.ti Z.w1 Z.w2 Z.q1 Z.q2 hx hy λh' z1 a1 b1 t1 Qr k1=>hQ h' ?_ t1 Qr λc o c1 _ c3 c4 e=>k1 c o c1 c3 c4 e;have n:∀{b},b<S->a≠b:=λh=>aas (abj h hSa);exact⟨.inr ⟨a,true,oa,z1,k1 _ _ (n B.z) (n B.i1) (n B.i2) ha,hSa⟩,k1 _ _ D.TIz D.TIi1 D.TIi2 Z.ti,a1,b1,Z.q1.at λo e=>k1 _ o D.l1z D.l1i1 D.l1i2 e,Z.q2.at λo e=>k1 _ o D.l2z D.l2i1 D.l2i2 e⟩
theorem C8{Q:Option Value->Shared->Prop}(hh:A.handled=none)(B:Below z TI TO i1 i2 l1 l2 S)(Z:Zl s.heap z TI TO i1 i2 l1 l2 S xs ys i)(tx:xs[i]?=none\/ys[i]?=none)
  (hQ:∀h',(∀c o,c≠z->c≠TO->c≠i1->c≠i2->s.heap.get? c=some o->h'.get? c=some o)->Q none { s with heap:=h' }):wpAny (model prog w) A (pyNext (.ref z)) Q E s:=by
 have D:=B.D;rcases Z.st with ⟨hz,a,b,CV⟩|⟨a,f,oa,hz,ha,hSa⟩
 ·exact wpAny_pyNext_zip_end hh D hz Z.ti CV Z.w1 Z.w2 Z.q1 Z.q2 tx hQ
 ·exact n4 hh D hz ha Z.ti Z.w1 Z.w2 Z.q1 Z.q2 tx λh' k=>hQ h' λc o c1 _ c3 c4 e=>k c o c1 c3 c4 e
end
structure Qc(xs ys:aP)(lo:Addr)(h:Heap)(as:aO):Prop where
 above:∀a∈as,lo<a
 nd:as.Nodup
 pairs:∀(j:Nat) (a:Addr),as[j]?=some a->∃x y,xs[j]?=some x/\ys[j]?=some y/\IsPair h a x y
section
variable {prog:aF}{w:World}{A:aE}{s:Shared}{R:Result->Shared->Prop}{z TI TO i1 i2 l1 l2 S:Addr}{xs ys:aP}
theorem C4(hh:A.handled=none)(B:Below z TI TO i1 i2 l1 l2 S)(hn:min xs.size ys.size<=sizeLine)(res:Value) 
  (hR:∀h' tk acc c as,(∀b o,b≠S->b≠z->b≠TO->b≠i1->b≠i2->h₁.get? b=some o->h'.get? b=some o)->h'.get? S=some { cls:=.type "list",dict:=none,data:=.seq acc c,slots:=#[] }->as.length=min xs.size ys.size->Qc xs ys S h' as ->
   acc.toList=as.map Value.ref->R (.ok (.ret res)) { s with heap:=h',toks:=tk }) :
  ∀(k i:Nat) (h:Heap) (tk c:Nat) (acc:aP) (as:aO),min xs.size ys.size - i=k->i<=min xs.size ys.size->Zl h z TI TO i1 i2 l1 l2 S xs ys i->(∀b o,b≠S->b≠z->b≠TO->b≠i1->b≠i2->h₁.get? b=some o->h.get? b=some o) ->
   h.get? S=some { cls:=.type "list",dict:=none,data:=.seq acc c,slots:=#[] }->acc.toList=as.map Value.ref->as.length=i->Qc xs ys S h as ->
   codeAny (model prog w) A (.builtin "list.extend.loop" ⟨[.ref S,.ref z,res],[]⟩) R { s with heap:=h,toks:=tk }:=by
 have nz:S≠z:=aas B.z;have nO:S≠TO:=aas B.TO;have n1:S≠i1:=aas B.i1;have n2:S≠i2:=aas B.i2;have VS:∀{a:Addr},S<a->a≠z/\a≠TO/\a≠i1/\a≠i2:=λh=>⟨aas (abj B.z h),aas (abj B.TO h),aas (abj B.i1 h),aas (abj B.i2 h)⟩
 intro k;induction k with
 |zero =>
  intro i h tk c acc as hk hi Z Bz hS fG O3 hG;refine abq PySem.F.entry_extend_loop ?_;rw[Around.under_plainId PySem.F.plain_extend_loop _];show wpAny _ A.in1 (pyNext (.ref z) >>= _) _ _ _;have tx:xs[i]?=none\/ys[i]?=none:=by
   rcases Nat.le_total xs.size ys.size with q|q
   ·exact .inl (abh (by left))
   ·exact .inr (abh (by left))
  refine aaa (C8 (s:={ s with heap:=h,toks:=tk }) (A:=A.in1) hh B Z tx λh' he=>?_);refine aab (hR h' tk acc c as (λb o h1 h2 h3 h4 h5 e=>he b o h2 h3 h4 h5 (Bz b o h1 h2 h3 h4 h5 e)) (he S _ nz nO n1 n2 hS) (by left) ⟨hG.above,hG.nd,λj a hj=>?_⟩ fG);obtain⟨x,y,e1,e2,e3⟩:=hG.pairs j a hj;obtain⟨a1,a2,a3,a4⟩:=VS (hG.above a (aaq hj));exact⟨x,y,e1,e2,he a _ a1 a2 a3 a4 e3⟩
 |succ k ih =>
  intro i h tk c acc as hk hi Z Bz hS fG O3 hG;have fu:i<min xs.size ys.size:=by left
  have hx:xs[i]?=some (xs[i]'(by left)):=aa6 _;have hy:ys[i]?=some (ys[i]'(by left)):=aa6 _;have hsz:acc.size=i:=by rw[<- Array.length_toList,fG,List.length_map,O3]
  have UO:S<h.objs.size:=aah hS;refine abq PySem.F.entry_extend_loop ?_;rw[Around.under_plainId PySem.F.plain_extend_loop _];show wpAny _ A.in1 (pyNext (.ref z) >>= _) _ _ _;refine aaa (C5 (s:={ s with heap:=h,toks:=tk }) B Z UO hx hy λh' Z' ht hz LM=>?_);dsimp only at ht hz LM ⊢;have yO:=LM S _ nz nO n1 n2 hS;have up:∀b o,b≠S->h'.get? b=some o->(h'.update S (Obj.mapSeq (·.push (Value.ref h.objs.size)))).get? b=some o:=λb o hb e=>(aaL _ _ (aaC hb)).trans e;show wpAny _ A.in1 (updateSeq S (·.push (Value.ref h.objs.size)) >>= _) _ _ _;refine aaa ?_;refine abW yO rfl (aab ⟨plainId_quiet PySem.F.plain_extend_loop _,ih (i+1) _ tk _ (acc.push (Value.ref h.objs.size)) (as++[h.objs.size]) (by left) fu (Z'.keep B up)
   (λb o h1 h2 h3 h4 h5 e=>up b o h1 (LM b o h2 h3 h4 h5 (Bz b o h1 h2 h3 h4 h5 e))) (aaO _ yO rfl) (by rw[Array.toList_push,fG,List.map_append];rfl) (by rw[List.length_append,O3];rfl) ⟨?_,?_,?_⟩⟩) (by rw[hsz];left) (by show(acc.push (Value.ref h.objs.size)).size<=sizeLine+1;rw[Array.size_push,hsz];left)
  ·intro a ha;rcases List.mem_append.mp ha with ha|ha
   ·exact hG.above a ha
   ·rw[List.mem_singleton.mp ha];exact UO
  ·refine List.nodup_append.mpr ⟨hG.nd,List.nodup_cons.mpr ⟨List.not_mem_nil,aaQ⟩,λa ha b hb e=>?_⟩;rw[List.mem_singleton.mp hb]at e;subst e;obtain⟨j,hj⟩:=List.mem_iff_getElem?.mp ha;obtain⟨_,_,_,_,e⟩:=hG.pairs j _ hj;exact absurd (aah e) (aat _)
  ·intro j b hj;rcases Nat.lt_trichotomy j as.length with q|q|q
   ·rw[List.getElem?_append_left q]at hj;obtain⟨x',y',e1,e2,e3⟩:=hG.pairs j b hj;have hb:=hG.above b (aaq hj);obtain⟨a1,a2,a3,a4⟩:=VS hb;exact⟨x',y',e1,e2,up b _ (aas hb) (LM b _ a1 a2 a3 a4 e3)⟩
   ·subst q;have hb:h.objs.size=b:=by simpa using hj
    subst hb;exact⟨_,_,by rw[O3];exact hx,by rw[O3];exact hy,up _ _ (aas UO) ht⟩
   ·have OF:(as++[h.objs.size])[j]?=none:=List.getElem?_eq_none (by rw[List.length_append,List.length_singleton];left);rw[OF]at hj;exact nk hj
theorem x5(hh:A.handled=none)(B:Below z TI TO i1 i2 l1 l2 S)(hn:min xs.size ys.size<=sizeLine)(Z:Zl s.heap z TI TO i1 i2 l1 l2 S xs ys 0)(GS:IsZip s.heap z TI TO .none)(res:Value)(c₀:Nat)(hS:s.heap.get? S=some { cls:=.type "list",data:=.seq #[] c₀ })
  (hR:∀h' tk acc c as,(∀b o,b≠S->b≠z->b≠TO->b≠i1->b≠i2->s.heap.get? b=some o->h'.get? b=some o)->h'.get? S=some { cls:=.type "list",dict:=none,data:=.seq acc c,slots:=#[] }->as.length=min xs.size ys.size->Qc xs ys S h' as ->
   acc.toList=as.map Value.ref->R (.ok (.ret res)) { s with heap:=h',toks:=tk }) :
  wpAny (model prog w) A.in1 (Builtin.List.listExtendWith (.ref S) (.ref z) res)
   (λfin s'=>match fin with|.done f=>R (.ok f) s'|.again c'=>c'.quiet=true/\codeAny (model prog w) A c' R s') (λe s'=>R (.error e) s') s:=by
 have Zi:S≠z:=aas B.z;have hT:s.TypeIs (.ref z) "zip":=⟨_,GS,rfl⟩
 unfold Builtin.List.listExtendWith;refine aaa (wpAny_typeOf (T:="zip") hT ?_);have h1:Builtin.List.listSameRef (.ref S) (.ref z)=false:=by simp[Builtin.List.listSameRef,Zi]
 have h2:(Value.type "zip" == Value.type "list")=false:=by decide
 have h3:(Value.type "zip" == Value.type "tuple")=false:=by decide
 simp only[h1,h2,h3,Bool.or_false,Bool.false_eq_true,if_false];refine aaa (abn GS ?_);refine aaa (aaG (C7 hT ?_));refine wpAny_ite_split (λ_=>?_) (λqK=>absurd rfl qK);refine aaa (aa5 ?_);refine aaa ?_;show wpAny _ _ (updateSeq S (·.push .none) >>= λ_=>updateSeq S (·.pop)) _ _ _;refine aaa (abW hS rfl ?_);have w9:=aaO (Obj.mapSeq (·.push Value.none)) hS rfl;refine abW (hz:=by seq_fits) w9 rfl ?_;have O5:=aaO (Obj.mapSeq (·.pop)) w9 rfl;have Lu:∀b o,b≠S->s.heap.get? b=some o->((s.heap.update S (Obj.mapSeq (·.push Value.none))).update S (Obj.mapSeq (·.pop))).get? b=some o:=λb o hb e=>(aaL _ _ (aaC hb)).trans ((aaL _ _ (aaC hb)).trans e);refine aab ⟨plainId_quiet PySem.F.plain_extend_loop _,?_⟩;exact C4 hh B hn res (s:=s) (h₁:=s.heap) hR (min xs.size ys.size) 0 _ s.toks _ #[] [] (Nat.sub_zero _) (aaF _) (Z.keep B Lu) (λb o h1 _ _ _ _ e=>Lu b o h1 e) O5 rfl rfl ⟨(λ_ ha=>nomatch ha),aaQ,λj a hj=>by simp at hj⟩
theorem C6(hh:A.handled=none)(B:Below z TI TO i1 i2 l1 l2 S)(hn:min xs.size ys.size<=sizeLine)(Z:Zl s.heap z TI TO i1 i2 l1 l2 S xs ys 0)(GS:IsZip s.heap z TI TO .none)(hS:s.heap.get? S=some { cls:=.type "list",data:=.seq #[] })
  (hR:∀h' tk acc c as,(∀b o,b≠S->b≠z->b≠TO->b≠i1->b≠i2->s.heap.get? b=some o->h'.get? b=some o)->h'.get? S=some { cls:=.type "list",dict:=none,data:=.seq acc c,slots:=#[] }->as.length=min xs.size ys.size->Qc xs ys S h' as ->
   acc.toList=as.map Value.ref->R (.ok (.ret .none)) { s with heap:=h',toks:=tk }) :
  wpAny (model prog w) A.in1 (Builtin.«list.__init__» ⟨[.ref S,.ref z],[]⟩)
   (λfin s'=>match fin with|.done f=>R (.ok f) s'|.again c'=>c'.quiet=true/\codeAny (model prog w) A c' R s') (λe s'=>R (.error e) s') s:=by
 show wpAny _ _ (do let old <- Builtin.List.listItems (.ref S);Builtin.List.listUpdate (.ref S) (λ_=>#[]);letGo old.toList.reverse;Builtin.List.listExtendWith (.ref S) (.ref z) .none) _ _ s;refine aaa ?_;unfold Builtin.List.listItems;refine aaa (aaH hS rfl (aab ?_));show wpAny _ _ (updateSeq S (λ_=>#[]) >>= λ_=>letGo (#[]:aP).toList.reverse >>= λ_=>Builtin.List.listExtendWith (.ref S) (.ref z) .none) _ _ s;refine aaa (abW hS rfl ?_);have w9:=aaO (Obj.mapSeq (λ_=>(#[]:aP))) hS rfl;have Lu:∀b o,b≠S->s.heap.get? b=some o->(s.heap.update S (Obj.mapSeq (λ_=>(#[]:aP)))).get? b=some o :=
  λb o hb e=>(aaL _ _ (aaC hb)).trans e
 refine aaa (wpAny_letGo ?_);refine x5 hh B hn (Z.keep B Lu) (Lu _ _ (aam B.z) GS) .none _ w9 λh' tk acc c as hk yO hl hG fG=>?_;exact hR h' tk acc c as (λb o h1 h2 h3 h4 h5 e=>hk b o h1 h2 h3 h4 h5 (Lu b o h1 e)) yO hl hG fG
end
section
variable {prog:aF}{w:World}{A:aE}{E:aw}{s:Shared}{z TI TO i1 i2 l1 l2:Addr}{xs ys:aP}
theorem C9{Q:aw}(hh:A.handled=none)(D:ZipApart z TI TO i1 i2 l1 l2)(hn:min xs.size ys.size<=sizeLine)(hz:IsZip s.heap z TI TO .none)(w8:IsPair s.heap TI (.ref i1) (.ref i2)){a b:Value}(CV:IsPair s.heap TO a b)(h1:s.heap.IsListIter i1 l1 0)(h2:s.heap.IsListIter i2 l2 0)(q1:s.heap.IsList l1 xs)(q2:s.heap.IsList l2 ys)
  (hQ:∀h' tk acc c as,(∀b o,b≠z->b≠TO->b≠i1->b≠i2->s.heap.get? b=some o->h'.get? b=some o)->h'.get? s.heap.objs.size=some { cls:=.type "list",dict:=none,data:=.seq acc c,slots:=#[] }->as.length=min xs.size ys.size->Qc xs ys s.heap.objs.size h' as ->
   acc.toList=as.map Value.ref->Q (.ref s.heap.objs.size) { s with heap:=h',toks:=tk }) :
  wpAny (model prog w) A (call (.type "list") [.ref z]) Q E s:=by
 refine callType_codes (Q₁:=λobj s₁=>obj=.ref s.heap.objs.size/\s₁={ s with heap:=s.heap.push { cls:=.type "list",data:=.seq #[] } }) PySem.F.called_list (PySem.F.typeCall_list_1 _) PySem.F.entry_list_init
  (code_list_new _ ⟨rfl,rfl⟩) λobj s₁ h₁=>?_
 obtain⟨rfl,rfl⟩:=h₁;have hS:(s.heap.push { cls:=.type "list",data:=.seq #[] }).get? s.heap.objs.size=some { cls:=.type "list",data:=.seq #[] }:=aan _ rfl;have up:∀b o,s.heap.get? b=some o->(s.heap.push { cls:=.type "list",data:=.seq #[] }).get? b=some o:=λb o e=>aag _ e;have B:Below z TI TO i1 i2 l1 l2 s.heap.objs.size:=⟨D,aah hz,aah w8,aah CV,(by obtain⟨_,e,_⟩:=h1;exact aah e),(by obtain⟨_,e,_⟩:=h2;exact aah e),(by obtain⟨_,e,_⟩:=q1;exact aah e),(by obtain⟨_,e,_⟩:=q2;exact aah e)⟩
 refine⟨⟨_,hS,rfl⟩,PySem.F.args_list_init_2 _ _,C6 (A:=A.in1) hh B hn ⟨.inl ⟨up _ _ hz,a,b,up _ _ CV⟩,up _ _ w8,h1.at λo e=>up _ o e,h2.at λo e=>up _ o e,q1.at λo e=>up _ o e,q2.at λo e=>up _ o e⟩ (up _ _ hz) hS λh' tk acc c as hk yO hl hG fG=>?_⟩;exact⟨rfl,hQ h' tk acc c as (λb o h2 h3 h4 h5 e=>hk b o (aam (aah e)) h2 h3 h4 h5 (up b o e)) yO hl hG fG⟩
end
theorem Inv.N8{pins:aj}{s:Shared}(I:Inv X pins σ H s)(k:∀b u,s.heap.get? b=some u->h'.get? b=some u)(up:∀b u,H b=some u->H' b=some u)
  (nw:∀b u,H' b=some u->H b=some u\/(s.heap.objs.size<=b/\cD X.prog X.w H' h' b u)):Inv X pins σ H' { s with heap:=h',toks:=t' }:=by
 refine I.step (g':=s.gens) (d':=s.drawn) (ch:=[]) (λb hb=>nomatch hb) (λb o _ _ _ e _=>k b o e) (λb o _ _ _ e _=>⟨o.slots,k b o e⟩) (λb u _ e n=>?_)
  (λb o _ e=>⟨o,k b o e⟩) (λ_ _ e=>up _ _ e) (λ_ _ _ e=>up _ _ e) (λb ps e=>⟨#[],by rw[up _ _ e];simp⟩) (λm hm=>?_) (λb u e=>?_) I.bare
 ·cases q:H' b with
  |none=>rfl
  |some v =>
   rcases nw b v q with z|⟨z,_⟩
   ·rw[n]at z;exact nk z
   ·exact absurd (aah e) (Nat.not_lt.mpr z)
 ·obtain⟨o,es,ep,ho,r⟩:=hm;exact⟨o,es,ep,k _ o ho,r⟩
 ·rcases nw b u e with e|⟨_,e⟩
  ·exact(I.cQ b u e).jJ (λc v _ q=>k c v q) (λ_ q=>up _ _ q) λ_ _ q=>up _ _ q
  ·exact e
def ou(H:Hp):List (Addr×V×V)->Hp
 |[]=>H
 |q::r=>upd (ou H r) q.1 (.tup [q.2.1,q.2.2])
theorem jS{H:Hp}{b:Addr}{u:HO}(e:H b=some u):∀{r:List (Addr×V×V)},(∀q∈r,H q.1=none)->ou H r b=some u
 |[],_=>e
 |q::r,h=>by
  have hn:b≠q.1:=λz=>by rw[z,h q List.mem_cons_self]at e;cases e
  show upd (ou H r) q.1 _ b=_;rw[aW hn];exact jS e λq hq=>h q (aad _ hq)
theorem wY{H:Hp}:∀{r:List (Addr×V×V)},(r.map (·.1)).Nodup->∀q∈r,ou H r q.1=some (.tup [q.2.1,q.2.2])
 |[],_,_,h=>nomatch h
 |q'::r,hn,q,h=>by
  show upd (ou H r) q'.1 _ q.1=_;have tq:=List.nodup_cons.mp hn;rcases List.mem_cons.mp h with rfl|h
  ·exact aS
  ·have:q.1≠q'.1:=λz=>tq.1 (by show q'.1∈_;rw[<- z];exact aav h);rw[aW this];exact wY tq.2 q h
theorem sY{H:Hp}{b:Addr}{u:HO}:∀{r:List (Addr×V×V)},ou H r b=some u->H b=some u\/∃q∈r,q.1=b/\u=.tup [q.2.1,q.2.2]
 |[],e=>.inl e
 |q::r,e=>by
  replace e:upd (ou H r) q.1 (.tup [q.2.1,q.2.2]) b=some u:=e;by_cases z:b=q.1
  ·subst z;rw[aS]at e;cases e;exact .inr ⟨q,aaf,rfl,rfl⟩
  ·rw[aW z]at e;rcases sY e with h|⟨q',h1,h2⟩
   ·exact .inl h
   ·exact .inr ⟨q',aad _ h1,h2⟩
def XQ(K:aq)(ta:TA):TE:=λσ H Q=>ta σ H λvs H1=>∃a b xs ys,vs=[.ref a,.ref b]/\cX K H1 a xs/\cX K H1 b ys /\
 ∀(l:Addr) (r:List (Addr×V×V)),H1 l=none->(∀q∈r,H1 q.1=none)->(r.map (·.1)).Nodup->l∉r.map (·.1)->r.map (·.2)=xs.zip ys->Q (.ref l) (upd (ou H1 r) l (.lst (r.map λq=>V.ref q.1)))
theorem Ea{p:Pos}(hc:X.calm=true)(yH:Gl X "list")(Ul:X.mg "list" = none)(hg:Gl X "zip")(hm:X.mg "zip" = none)(ha:PA X [e1,e2] ta)(hs:∀es,starEach (e1::es) X.env=(false,eval e1 X.env)::starEach es X.env)(GW:∀es,starEach (e2::es) X.env=(false,eval e2 X.env)::starEach es X.env):
  PE X (.Call (.Name "list" p') [.Call (.Name "zip" p) [e1,e2] [] pos] [] pos') (XQ X.K ta):=by
 intro pins s σ H Q I h;refine aaU (dS I yH Ul boot_list ?_);refine aau ?_;show wpAny _ _ (spliced ((false,eval (.Call (.Name "zip" p) [e1,e2] [] pos) X.env)::backTo pos' (starEach [] X.env))) _ _ s;refine abu ?_;refine Call_ (dS I hg hm boot_zip (aau (cJ (ha pos pins s σ H _ I h) λus s1 bL=>?_) (hs _) (by rw[GW];rfl)));obtain⟨vs,H1,I1,r1,q1⟩:=bL;obtain⟨a,b,xs,ys,e,q1,q2,hq⟩:=q1;subst e;obtain⟨u,v,rfl,ru,rv⟩:=vals2 r1;cases ru;cases rv;obtain⟨aK,rx,p1,Wu⟩:=I1.list q1;obtain⟨its',ry,p2,QS⟩:=I1.list q2;refine call_zip_2 p1.isList p2.isList λh' z t o l1 l2 sz k=>abA ?_;have w6:h'.IsList a aK.toArray:=p1.isList.at λo e=>k _ o e;have tu:h'.IsList b its'.toArray:=p2.isList.at λo e=>k _ o e;have cls:∀{x y:Addr} {o u:Obj},h'.get? x=some o->h'.get? y=some u->o.cls≠u.cls->x≠y:=λh1 h2 h3=>bD h1 h2 h3;have al:@LT.lt Nat _ a s1.heap.objs.size:=by obtain⟨_,e,_⟩:=p1.isList;exact aah e
 have bl:@LT.lt Nat _ b s1.heap.objs.size:=by obtain⟨_,e,_⟩:=p2.isList;exact aah e
 have D:ZipApart (s1.heap.objs.size+4) (s1.heap.objs.size+2) (s1.heap.objs.size+3) s1.heap.objs.size (s1.heap.objs.size+1) a b:=by
  constructor<;>first|exact aam (by left)|exact aas (by left)
 have lx:=rx.length;have ly:=ry.length;have hn:min aK.toArray.size its'.toArray.size<=sizeLine:=by simp;left
 refine C9 (s:={ s1 with heap:=h' }) (I1.ok.hd hc) D hn z t o l1 l2 w6 tu λZz tk acc c as hk hS hl hG fG=>?_;dsimp only at hk hS hG ⊢;have hlen:as.length=(xs.zip ys).length:=by rw[hl,List.length_zip];simp;left
 have keep:∀b o,s1.heap.get? b=some o->Zz.get? b=some o:=λb o e=>by
  have:@LT.lt Nat _ b s1.heap.objs.size:=aah e;exact hk b o (aam (by left)) (aam (by left)) (aam (by left)) (aam (by left)) (k b o e)
 have fresh:∀c,s1.heap.objs.size<=c->H1 c=none:=λc h=>I1.cQ.fresh h;have hS5:h'.objs.size=s1.heap.objs.size+5:=sz
 let r:List (Addr×V×V):=as.zip (xs.zip ys)
 have r1:r.map (·.1)=as:=List.map_fst_zip (by left);have r2:r.map (·.2)=xs.zip ys:=List.map_snd_zip (by left);have qK:∀c∈as,@LT.lt Nat _ h'.objs.size c:=hG.above;have T5:∀q∈r,H1 q.1=none:=λq hq=>fresh _ (by have:=qK q.1 (by rw[<- r1];exact aav hq);left);have qG:H1 h'.objs.size=none:=fresh _ (by left);have JR:h'.objs.size∉r.map (·.1):=by rw[r1];exact λz=>absurd (qK _ z) (aat _)
 have zk:(r.map (·.1)).Nodup:=by rw[r1];exact hG.nd
 have By:(as.map V.ref)=r.map λq=>V.ref q.1:=by rw[<- r1,List.map_map];rfl
 refine⟨.ref h'.objs.size,upd (ou H1 r) h'.objs.size (.lst (r.map λq=>V.ref q.1)),?_,rfl,hq _ r qG T5 zk JR r2⟩;refine Inv.N8 (s:=s1) (t':=tk) I1 keep (λb u e=>?_) λb u e=>?_
 ·rw[aW λz=>by rw[z,qG]at e;cases e];exact jS e T5
 ·by_cases zb:b=h'.objs.size
  ·subst zb;rw[aS]at e;cases e;refine .inr ⟨by left,?_,acc.toList,c,?_,by rw[Array.toArray_toList];exact hS⟩
   ·rw[<- By,List.length_map,hlen,List.length_zip];left
   ·rw[<- By,fG];clear fG By hG hl hlen r1 qK zk r r2 T5 JR hS hk keep;induction as with
    |nil=>exact .nil
    |cons a as ih=>exact .cons rfl ih
  ·rw[aW zb]at e;rcases sY e with e|⟨q,hq,rfl,rfl⟩
   ·exact .inl e
   ·have hm:q.1∈as:=by rw[<- r1];exact aav hq
    refine .inr ⟨by have:=qK _ hm;left,?_⟩;obtain⟨j,hj⟩:=List.mem_iff_getElem?.mp hq;have Uv:as[j]?=some q.1/\(xs.zip ys)[j]?=some q.2:=by
     have:=List.getElem?_zip_eq_some.mp hj;exact this
    obtain⟨x,y,ex,ey,hp⟩:=hG.pairs j q.1 Uv.1;obtain⟨e1,e2⟩:xs[j]?=some q.2.1/\ys[j]?=some q.2.2:=List.getElem?_zip_eq_some.mp Uv.2;obtain⟨u1,T3,Sl⟩:=rx.get e1;obtain⟨u2,YH,MY⟩:=ry.get e2;rw[List.getElem?_toArray,T3]at ex;rw[List.getElem?_toArray,YH]at ey;cases ex;cases ey;exact pR Sl MY hp
noncomputable def pairD(x y:D):D:=.tup [x,y]
def NZ(xs:ab):O D:=match two xs with
 |some z=>match z.1 with
  |.lst _ a=>match z.2 with
   |.lst _ b=>ok (.lst .ow (aA bj (List.zipWith pairD a b)))
   |_=>none
  |_=>none
 |none=>none
theorem Jk{x y d:D}(h:NZ [x,y]=ok d):∃f a g b,x=.lst f a/\y=.lst g b/\d=.lst .ow (aA bj (List.zipWith pairD a b)):=by
 cases x<;>first|exact nk h | (cases h;done)|skip
 cases y<;>first|exact nk h | (cases h;done)|skip
 cases h;exact⟨_,_,_,_,rfl,rfl,rfl⟩
def xJ(sc:Scope)(bl:ak)(e:Expr):Option (au):=match dP e with
 |some z=>match one z.2 with
  |some i=>if z.1=("list" : Str)/\gq sc z.1=true/\z.1∈bl then fR sc bl i else none
  |none=>none
 |none=>none
theorem Cj{sc:Scope}{bl:ak}{e:Expr}(h:xJ sc bl e=some args):∃p pos i,e=.Call (.Name ("list" : Str) p) [i] [] pos/\gq sc ("list" : Str)=true/\("list" : Str)∈bl/\fR sc bl i=some args:=by
 unfold xJ at h;cases hv:dP e with
 |none=>rw[hv]at h;exact nk h
 |some z =>
  obtain⟨x,as⟩:=z;rw[hv]at h;obtain⟨p,pos,rfl⟩:=cS hv;have h2:(match one as with|some i=>if x=("list" : Str)/\gq sc x=true/\x∈bl then fR sc bl i else none|none=>none)=some args:=h;clear h;cases hw:one as with
  |none=>rw[hw]at h2;exact nk h2
  |some a =>
   rw[hw]at h2;have h3:(if x=("list" : Str)/\gq sc x=true/\x∈bl then fR sc bl a else none)=some args:=h2;clear h2;obtain rfl:=cf hw;by_cases hc:x=("list" : Str)/\gq sc x=true/\x∈bl
   ·rw[if_pos hc]at h3;obtain⟨rfl,h1,h2⟩:=hc;exact⟨_,_,_,rfl,h1,h2,h3⟩
   ·rw[if_neg hc]at h3;cases h3
theorem sG{T:ka}{N:gZ}(hN:∀k k' p xs f,N k p xs f->N k' p xs f):∀{r:List (Addr×V×V)} {xs ys:ae} {a b:ab} {k1 k2 k:bq} {n1 n2 n:Nat},az T N k1 n1 xs a->az T N k2 n2 ys b->r.map (·.2)=xs.zip ys->(∀q∈r,T q.1 [q.2.1,q.2.2])->az T N k n (r.map λq=>V.ref q.1) (List.zipWith pairD a b)
 |[],xs,ys,a,b,_,_,_,_,_,_,r1,r2,e,_=>by
  have l1:=r1.length;have l2:=r2.length;have e':=aaJ List.length e;rw[List.length_zip]at e';have:List.zipWith pairD a b=[]:=List.eq_nil_of_length_eq_zero (by rw[List.length_zipWith];simp at e';left);rw[this];exact .nil
 |q::r,xs,ys,a,b,k1,k2,k,n1,n2,n,r1,r2,e,ht=>by
  cases r1 with
  |nil=>cases e
  |cons h1 t1=>cases r2 with
   |nil=>cases e
   |cons h2 t2 =>
    have e1:q.2=(_,_):=(abb e).1;have e2:=(abb e).2;refine .cons (.tup (ht q aaf) ?_) (sG hN t1 t2 e2 λq hq=>ht q (aad _ hq));rw[e1];have m1:=Rep.il (T':=T) (N':=N) (g:=id) (λ_ _ h=>h) hN h1 (0::n::k);have m2:=Rep.il (T':=T) (N':=N) (g:=id) (λ_ _ h=>h) hN h2 (1::n::k);rw[dH]at m1 m2;exact .cons m1 (.cons m2 .nil)
theorem eG(g:Fl->Fl):∀a b:ab,aA g (List.zipWith pairD a b)=List.zipWith pairD (aA g a) (aA g b)
 |[],_=>by cases ‹ab› <;> rfl
 |_::_,[]=>rfl
 |x::a,y::b=>by
  show aU g (pairD x y)::aA g (List.zipWith pairD a b)=_;rw[eG g a b];rfl
theorem NY{n:Nat}(hΦ:Φ n=NZ){sc:Scope}{bl:ak}{k:Nat}(L:PX X sc bl k){e:Expr}(he:xJ sc bl e=some args)(hs:kg X F Φ cs args):PE X e (tD X F Φ (.bR n cs))/\PT X e (gh X F Φ (.bR n cs)):=by
 obtain⟨p,pos,i,rfl,h1,h2,hz⟩:=Cj he;obtain⟨p',pos',a,b,rfl,rfl,h3,h4⟩:=kU hz;obtain⟨⟨c,d,rfl,_,_⟩,pa,s1,s2⟩:=fj hs;have this:PE X (.Call (.Name ("list" : Str) p) [.Call (.Name ("zip" : Str) p') [a,b] [] pos'] [] pos) (tD X F Φ (.bR n [c,d])):=by
  refine PE.imp (Ea L.calm (L.gl h1) (L.bl _ h2) (L.gl h3) (L.bl _ h4) pa s1 s2) λσ H Q hq=>?_;obtain⟨R,τ,ρ,d',Si,ev,hq⟩:=hq;obtain⟨xs,cc,ev⟩:=aB ev;rw[hΦ]at ev;refine⟨R,τ,ρ,xs,Si,cc,λvs H1 e1 r1=>?_⟩;obtain⟨τt,fr,rs⟩:=r1;have hl:∃x y,xs=[x,y]:=by
   unfold NZ at ev;cases hw:two xs with
   |none=>rw[hw]at ev;exact nk ev
   |some z=>exact⟨z.1,z.2,fO hw⟩
  obtain⟨x,y,rfl⟩:=hl;obtain⟨f,da,g,db,rfl,rfl,rfl⟩:=Jk ev;obtain⟨v,w,rfl,rx,ry⟩:=rs.two;cases rx with
  |lst hx ax=>cases ry with
   |lst hy ay =>
    refine⟨_,_,_,_,rfl,hx.sq,hy.sq,λl r hl hr hn JR hz=>hq _ _ ?_ ?_⟩
    ·intro b o e;have e':=e1 b o e;rw[aW λz=>by rw[z,hl]at e';cases e'];exact jS e' hr
    ·have sm:aM H1 (upd (ou H1 r) l (.lst (r.map λq=>V.ref q.1))):=λb o e=>by
      rw[aW λz=>by rw[z,hl]at e;cases e];exact jS e hr
     refine bT.qh (e1.free hl) (e1.trans sm) aS ?_;rw[eG];refine sG nd.nc ((ax.eV Si fr (k':=[]) (n':=0)).imp (λ_ _ h=>aR.same sm h) λ_ _ _ _ h=>nd.same sm h) ((ay.eV Si fr (k':=[]) (n':=0)).imp (λ_ _ h=>aR.same sm h) λ_ _ _ _ h=>nd.same sm h) hz λq hq=>?_;have wZ:q.1≠l:=λz=>JR (by rw[<- z];exact aav hq);exact aR.of (by rw[aW wZ];exact wY hn q hq)
 exact⟨this,cE this λ_=>rfl⟩
noncomputable def oI(n:Int):aa:=(List.range n.toNat).map λ(k:Nat)=>(k:Int)
def LB(xs:ab):O D:=match one xs with
 |some x=>match x with
  |.int n=>if n<=cg /\ -cg<=n then ok (.lst .ow ((oI n).map D.int))else none
  |_=>none
 |none=>none
theorem Jn{xs:ab}{d:D}(h:LB xs=ok d):∃n:Int,xs=[.int n]/\n<=cg /\ -cg<=n/\d=.lst .ow ((oI n).map D.int):=by
 unfold LB at h;cases hw:one xs with
 |none=>rw[hw]at h;exact nk h
 |some x =>
  obtain rfl:=cf hw;rw[hw]at h;cases x<;>first|exact nk h | (cases h;done)|skip
  rename_i n;obtain⟨⟨h1,h2⟩,h3⟩:=me h;exact⟨n,rfl,h1,h2,h3.symm⟩
def xK(sc:Scope)(bl:ak)(e:Expr):Option (au):=match dP e with
 |some z=>match one z.2 with
  |some i=>if z.1=("list" : Str)/\gq sc z.1=true/\z.1∈bl then iz ("range" : Str) sc bl i else none
  |none=>none
 |none=>none
theorem Ck{sc:Scope}{bl:ak}{e:Expr}(h:xK sc bl e=some args):∃p pos i,e=.Call (.Name ("list" : Str) p) [i] [] pos/\gq sc ("list" : Str)=true/\("list" : Str)∈bl/\iz ("range" : Str) sc bl i=some args:=by
 unfold xK at h;cases hv:dP e with
 |none=>rw[hv]at h;exact nk h
 |some z =>
  obtain⟨x,as⟩:=z;rw[hv]at h;obtain⟨p,pos,rfl⟩:=cS hv;have h2:(match one as with|some i=>if x=("list" : Str)/\gq sc x=true/\x∈bl then iz ("range" : Str) sc bl i else none|none=>none)=some args:=h;clear h;cases hw:one as with
  |none=>rw[hw]at h2;exact nk h2
  |some a =>
   rw[hw]at h2;have h3:(if x=("list" : Str)/\gq sc x=true/\x∈bl then iz ("range" : Str) sc bl a else none)=some args:=h2;clear h2;obtain rfl:=cf hw;by_cases hc:x=("list" : Str)/\gq sc x=true/\x∈bl
   ·rw[if_pos hc]at h3;obtain⟨rfl,h1,h2⟩:=hc;exact⟨_,_,_,rfl,h1,h2,h3⟩
   ·rw[if_neg hc]at h3;cases h3
def XR(ta:TA):TE:=λσ H Q=>ta σ H λvs H1=>∃n:Int,vs=[.int n]/\n<=cg /\ -cg<=n/\∀l,H1 l=none->Q (.ref l) (upd H1 l (.lst ((oI n).map V.int)))
theorem rT:∀{ns:aa} {us:ao},us.length=ns.length->(∀(i:Nat) (u:Value),us[i]?=some u->∃t,u=.int (ns.getD i 0) t)->Vals (ns.map V.int) us
 |[],[],_,_=>.nil
 |[],_::_,h,_=>by simp at h
 |_::_,[],h,_=>by simp at h
 |n::ns,u::us,h,hu=>.cons (hu 0 u rfl) (rT (by simpa using h) λi v hv=>hu (i+1) v hv)
theorem yo{p:Pos}(hc:X.calm=true)(yH:Gl X "list")(Ul:X.mg "list" = none)(hg:Gl X "range")(hm:X.mg "range" = none)(ha:PA X [e1] ta)(hs:starEach [e1] X.env=[(false,eval e1 X.env)]):
  PE X (.Call (.Name "list" p') [.Call (.Name "range" p) [e1] [] pos] [] pos') (XR ta):=by
 intro pins s σ H Q I h;refine aaU (dS I yH Ul boot_list ?_);refine aau ?_;show wpAny _ _ (spliced ((false,eval (.Call (.Name "range" p) [e1] [] pos) X.env)::backTo pos' (starEach [] X.env))) _ _ s;refine abu ?_;refine Call_ (dS I hg hm boot_range (aau (cJ (ha pos pins s σ H _ I h) λus s1 bL=>?_) hs rfl));obtain⟨vs,H1,I1,r1,q1⟩:=bL;obtain⟨n,e,n1,n2,hq⟩:=q1;subst e;have n1':n<=1000000:=n1;have n2':-1000000<=n:=n2;cases r1 with
 |cons r rr =>
  cases rr;obtain⟨t,rfl⟩:=r;refine call_range_1 (abA ?_);have e2:Builtin.Range.rangeSize 0 n 1=((n.toNat:Nat):Int):=by rw[rangeSize_one];split<;>left
  refine call_list_range (I1.ok.hd hc) (IsRange.new ..) (small_one (by left) (by left) (by left) (by left)) e2 (by left) λh' tk Ld c' hk hS fG=>?_;have keep:∀b o,s1.heap.get? b=some o->h'.get? b=some o:=λb o e=>hk b o (aag _ e);have hsz:Ld.size=n.toNat:=fG.1;refine⟨.ref _,upd H1 _ (.lst ((oI n).map V.int)),I1.laid (t':=tk) keep ?_ ⟨?_,Ld.toList,c',?_,?_⟩,rfl,hq _ (I1.cQ.fresh ?_)⟩
  ·show s1.heap.objs.size<=(s1.heap.push _).objs.size;simp[Heap.push]
  ·rw[sizeLine_eq];simp[oI];left
  ·refine rT (by simp[oI,hsz]) λi u hu=>?_;have qC:Ld[i]?=some u:=by simpa using hu
   have hi:i<n.toNat:=by rw[<- hsz];exact(Array.getElem?_eq_some_iff.mp qC).1
   obtain⟨t,rfl⟩:=fG.2 i u qC;refine⟨t,?_⟩;have:(oI n).getD i 0=(i:Int):=by unfold oI;simp[List.getD,hi]
   rw[this];congr 1;left
  ·rw[Array.toArray_toList];exact hS
  ·show s1.heap.objs.size<=(s1.heap.push _).objs.size;simp[Heap.push]
theorem N0{n:Nat}(hΦ:Φ n=LB){sc:Scope}{bl:ak}{k:Nat}(L:PX X sc bl k){e:Expr}(he:xK sc bl e=some args)(hs:kg X F Φ cs args):PE X e (tD X F Φ (.bR n cs))/\PT X e (gh X F Φ (.bR n cs)):=by
 obtain⟨p,pos,i,rfl,h1,h2,hz⟩:=Ck he;obtain⟨p',pos',a,rfl,rfl,h3,h4⟩:=pG hz;cases cs with
 |nil=>exact hs.elim
 |cons c cs=>cases cs with
  |cons _ _=>exact hs.2.2.2.elim
  |nil =>
   have pa:PA X [a] (se X F Φ [c]):=PA.imp (cA hs.1 (PA.imp dF λ_ _ _ h=>jH h) (hs.2.1 _)) λ_ _ _ h=>gf h;have this:PE X (.Call (.Name ("list" : Str) p) [.Call (.Name ("range" : Str) p') [a] [] pos'] [] pos) (tD X F Φ (.bR n [c])):=by
    refine PE.imp (yo L.calm (L.gl h1) (L.bl _ h2) (L.gl h3) (L.bl _ h4) pa (hs.2.1 _)) λσ H Q hq=>?_;obtain⟨R,τ,ρ,d,Si,ev,hq⟩:=hq;obtain⟨xs,cc,ev⟩:=aB ev;rw[hΦ]at ev;obtain⟨m,rfl,m1,m2,rfl⟩:=Jn ev;refine⟨R,τ,ρ,_,Si,cc,λvs H1 e1 r1=>?_⟩;obtain⟨τt,fr,rs⟩:=r1;obtain⟨v,rfl,rv⟩:=rs.one;cases rv;refine⟨m,rfl,m1,m2,λl hl=>hq _ _ ?_ ?_⟩
    ·intro b o e;have e':=e1 b o e;rw[aW λz=>by rw[z,hl]at e';cases e'];exact e'
    ·refine bT.qh (e1.free hl) (λb o e=>?_) aS (dW _);have e':=e1 b o e;rw[aW λz=>by rw[z,hl]at e';cases e'];exact e'
   exact⟨this,cE this λ_=>rfl⟩
theorem az.G8{T:ka}{N:gZ}{k:bq}:∀(j:Nat) {n:Nat} {vs:ae} {ds:ab},az T N k n vs ds->az T N k (n+j) (vs.drop j) (ds.drop j)
 |0,_,_,_,h=>h
 |j+1,_,_,_,.nil=>.nil
 |j+1,n,_,_,.cons h t=>by
  rw[show n+(j+1)=n+1+j by left];exact az.G8 j t
theorem az.Gh{T:ka}{N:gZ}{k:bq}:∀(j:Nat) {n:Nat} {vs:ae} {ds:ab},az T N k n vs ds->az T N k n (vs.take j) (ds.take j)
 |0,_,_,_,_=>by rw[List.take_zero,List.take_zero];exact .nil
 |j+1,_,_,_,.nil=>.nil
 |j+1,n,_,_,.cons h t=>.cons h (az.Gh j t)
noncomputable def oz{α:Type}(b:Bool)(k:Nat)(xs:List α):List α:=if b then xs.drop k else xs.take k
def M4(K:aq)(b:Bool):V->Option Int->Option Int->Hp->VK->Prop:=λx lo hi H Q=>∃(a:Addr) (xs:ae) (k:Nat),x=.ref a/\cX K H a xs/\lo=(if b then some (k:Int)else none)/\hi=(if b then none else some (k:Int))/\k<=xs.length/\∀p,H p=none->Q (.ref p) (upd H p (.lst (oz b k xs)))
theorem wa(b:Bool):VG X (M4 X.K b):=by
 intro pins s σ H x v vl vu lo hi sl Q I rx hs pl pu h;obtain⟨a,xs,k,rfl,hx,rfl,rfl,hk,q⟩:=h;cases rx;obtain⟨aK,r,GB,hz⟩:=I.list hx;have hl:=eB GB;have hlen:aK.length=xs.length:=r.length.symm;refine⟨"list",_,slot_list_getitem.lookup,hl.typeIs,wpAny_getItem_list_slice hl hs pl pu .none (by simp) ?_ (by rw[List.size_toArray,hlen];exact hz)⟩;have e:slicePick aK.toArray (if b then some (k:Int)else none) (if b then none else some (k:Int)) none=(oz b k aK).toArray:=by
  cases b with
  |true=>exact slicePick_from aK.toArray k (by simp;left)
  |false=>exact slicePick_upto aK.toArray k (by simp;left)
 have rc:Vals (oz b k xs) (oz b k aK):=by
  cases b with
  |true=>exact r.drop k
  |false=>exact r.take k
 have lc:(oz b k xs).length<=xs.length:=by
  cases b with
  |true=>show(xs.drop k).length<=_;rw[List.length_drop];left
  |false=>show(xs.take k).length<=_;rw[List.length_take];left
 rw[e];exact⟨.ref s.heap.objs.size,_,I.Jq (t':=s.toks) rc (aax lc hz),rfl,q _ I.fresh⟩
def cutD(b:Bool)(xs:ab):O D:=match two xs with
 |some z=>match z.1 with
  |.lst _ ds=>match z.2 with
   |.int k=>if 0<=k/\k<=ds.length then ok (.lst .ow (aA bj (oz b k.toNat ds)))else none
   |_=>none
  |_=>none
 |none=>none
theorem FG{b:Bool}{x y d:D}(h:cutD b [x,y]=ok d):∃(f:Fl) (ds:ab) (k:Nat),x=.lst f ds/\y=.int k/\k<=ds.length/\d=.lst .ow (aA bj (oz b k ds)):=by
 cases x<;>first|exact nk h | (cases h;done) | (cases y<;>first|exact nk h | (cases h;done)|skip)
 obtain⟨⟨h1,h2⟩,h3⟩:=me h;rename_i f ds k;exact⟨f,ds,k.toNat,rfl,by rw[Int.toNat_of_nonneg h1],by left,h3.symm⟩
noncomputable def Dm(b:Bool)(e:Expr):Option Expr:=match e with
 |.Slice lo hi st _=>match st with
  |none=>match b with
   |true=>match hi with
    |none=>lo
    |some _=>none
   |false=>match lo with
    |none=>hi
    |some _=>none
  |some _=>none
 |_=>none
theorem Dl{b:Bool}{e k:Expr}(h:Dm b e=some k):∃p,e=.Slice (if b then some k else none) (if b then none else some k) none p:=by
 cases e<;>first|exact nk h | (cases h;done)|skip
 rename_i lo hi st p;cases st with
 |some _=>cases h
 |none=>cases b with
  |true=>cases hi with
   |some _=>cases h
   |none=>cases h;exact⟨p,rfl⟩
  |false=>cases lo with
   |some _=>cases h
   |none=>cases h;exact⟨p,rfl⟩
def qY(b:Bool)(_:Scope)(_:ak)(e:Expr):Option (au):=match gU e with
 |some z=>match Dm b z.2 with
  |some k=>some [z.1,k]
  |none=>none
 |none=>none
theorem y2{b:Bool}{sc:Scope}{bl:ak}{e:Expr}(h:qY b sc bl e=some args):∃a k p pos,e=.Subscript a (.Slice (if b then some k else none) (if b then none else some k) none p) pos/\args=[a,k]:=by
 unfold qY at h;cases hv:gU e with
 |none=>rw[hv]at h;exact nk h
 |some z =>
  obtain⟨a,s⟩:=z;rw[hv]at h;obtain⟨pos,rfl⟩:=gw hv;have h:(match Dm b s with|some k=>some [a,k]|none=>none)=some args:=h;cases hw:Dm b s with
  |none=>rw[hw]at h;exact nk h
  |some k =>
   rw[hw]at h;cases h;obtain⟨p,rfl⟩:=Dl hw;exact⟨a,k,p,pos,rfl,rfl⟩
theorem K0{b:Bool}{n:Nat}(hΦ:Φ n=cutD b){sc:Scope}{bl:ak}{k:Nat}(L:PX X sc bl k){e:Expr}(he:qY b sc bl e=some args)(hs:kg X F Φ cs args):PE X e (tD X F Φ (.bR n cs))/\PT X e (gh X F Φ (.bR n cs)):=by
 obtain⟨a,ke,p,pos,rfl,rfl⟩:=y2 he;cases cs with
 |nil=>exact hs.elim
 |cons c cs=>cases cs with
  |nil=>exact hs.2.2.2.elim
  |cons c' cs=>cases cs with
   |cons _ _=>exact hs.2.2.2.2.2.2.elim
   |nil =>
    obtain⟨h1,_,_,h2,_,_,_⟩:=hs;have this:PE X (.Subscript a (.Slice (if b then some ke else none) (if b then none else some ke) none p) pos) (tD X F Φ (.bR n [c,c'])):=by
     have go:∀{tl th:TO},PO X (if b then some ke else none) tl->PO X (if b then none else some ke) th->(∀(H1:Hp) (R:ai) (τ:Addr->Option bq) (ρ:ba) (k:Nat) (σ:St) (Q:Option Int->Option Int->Hp->Prop),SI X F R τ ρ σ H1->bC Φ c' ρ=ok (.int k)->(∀H2,aM H1 H2->Q (if b then some (k:Int)else none) (if b then none else some (k:Int)) H2)->tl σ H1 λl H2=>th σ H2 λu H3=>Q l u H3)->PE X (.Subscript a (.Slice (if b then some ke else none) (if b then none else some ke) none p) pos) (tD X F Φ (.bR n [c,c'])):=by
      intro tl th pl pu hh;refine PE.imp (AA (wa b) h1 pl pu) λσ H Q hq=>?_;obtain⟨R,τ,ρ,d,Si,ev,hq⟩:=hq;obtain⟨xs,cc,ev⟩:=aB ev;obtain⟨x,ex,cc⟩:=aB cc;obtain⟨ys,nr,cc⟩:=aB cc;cases cc;obtain⟨y,ey,nr⟩:=aB nr;cases nr;rw[hΦ]at ev;obtain⟨f,ds,j,rfl,rfl,hj,rfl⟩:=FG ev;refine tD.intro Si ex λv H1 e1 r1=>hh H1 R τ ρ j σ (λl u H3=>M4 X.K b v l u H3 Q) (Si.go e1) ey λH2 e2=>?_;have r2:=(r1.go e2).mono (fv':=gR (.bR n [c,c'])) λi hi=>aaA _ hi;obtain⟨τt,fr,rp⟩:=r2;obtain⟨q,xs,rfl,hn,rs⟩:=rp.n6;have ee:=e1.trans e2;refine⟨q,xs,j,rfl,hn.sq,rfl,rfl,by rw[rs.length];exact hj,λl hl=>hq _ _ (ee.trans (aM.upd hl)) (bT.qh (ee.free hl) (ee.trans (aM.upd hl)) aS ?_)⟩;have rc:∃n',az (aR X.K H2) (nd X.K R (iY (gP X F) τ (gR (.bR n [c,c']))) τt H2) [] n' (oz b j xs) (oz b j ds):=by
       cases b with
       |true=>exact⟨_,rs.G8 j⟩
       |false=>exact⟨_,rs.Gh j⟩
      obtain⟨n',rc⟩:=rc;exact(rc.eV Si fr).imp (λ_ _ h=>aR.same (aM.upd hl) h) λ_ _ _ _ h=>nd.same (aM.upd hl) h
     cases b with
     |true =>
      refine go (wt h2) wu λH1 R τ ρ k σ Q Si ek hk=>tD.intro Si ek λv H2 e2 r2=>?_;cases r2.isInt;exact⟨k,rfl,hk H2 e2⟩
     |false =>
      refine go wu (wt h2) λH1 R τ ρ k σ Q Si ek hk=>tD.intro Si ek λv H2 e2 r2=>?_;cases r2.isInt;exact⟨k,rfl,hk H2 e2⟩
    exact⟨this,cE this λ_=>by cases b<;>rfl⟩
section
open PySem.SeqAt
open PySem.AutoSeq1 (wpAny_loadPart')
open PySem.MeetsSeq PySem.MeetsSeq2 PySem.MeetsSeq3
theorem Aj(A:aE)(s:Shared)(a:Int)(t:Tok)(c:Int)(u:Tok)(prog:aF)(w:World)(E:aw)(Q:aw)(h:Q (.bool (decide (a ≥ c))) s):wpAny (model prog w) A (richCompare .GtE (.int a t) (.int c u)) Q E s :=
 (PyProof.Rows.ge_int h:wpAny (model prog w) A (compareOp .GtE (.int a t) (.int c u)) Q E s)
theorem EA{vs ws:ao}{ms:aa}{m n:Nat}(h1:IntsAre vs ns)(h2:IntsAre ws ms)(hz:vs.zip ws=[])(hl:ns.length+n=ms.length+m):(!HT.lexLt ns ms)=decide (m ≥ n):=by
 cases h1 with
 |nil=>cases h2 with
  |nil=>simp only[List.length_nil]at hl;exact(aa7 (by left)).symm
  |cons c u h=>simp only[List.length_nil,List.length_cons]at hl;exact(aaV (by left)).symm
 |cons a t h=>cases h2 with
  |nil=>simp only[List.length_nil,List.length_cons]at hl;exact(aa7 (by left)).symm
  |cons c u h=>rw[List.zip_cons_cons]at hz;cases hz
theorem n8(l b:Addr)(items di:aP)(n n2:Nat)(dd xE:Option Addr)(sl wb:Array (Option Value))(ns ms:aa)(hi:IntsAre items.toList ns)(hj:IntsAre di.toList ms):
  Meets (Builtin.«tuple.__ge__» ⟨[.ref l,.ref b],[]⟩) (λ_ R s=>s.heap.get? l=some { cls:=.type "tuple",dict:=dd,data:=.seq items n,slots:=sl }/\s.heap.get? b=some { cls:=.type "tuple",dict:=xE,data:=.seq di n2,slots:=wb }/\R (.ok (.ret (.bool (!HT.lexLt ns ms)))) s) :=
 .of_wp λprog w A R s h=>by
  obtain⟨hp,g,d,tk,os⟩:=s;obtain⟨hl,hb,h⟩:=h;have f2:=AutoSeq1.sub_tuple_tuple;have z1:items.size=ns.length:=by rw[<- hi.length];simp
  have z2:di.size=ms.length:=by rw[<- hj.length];simp
  wp_walk using wpAny_loadPart' hl,wpAny_loadPart' hb,wpAny_forIn_list _ (λrest b s'=>b.1=none/\s'=⟨hp,g,d,tk,os⟩/\∃(vs ws:ao) (ko zj:aa),rest=vs.zip ws/\IntsAre vs ko/\IntsAre ws zj/\ko.length+di.size=zj.length+items.size/\R (.ok (.ret (.bool (!HT.lexLt ko zj)))) ⟨hp,g,d,tk,os⟩) _
  case turn =>
   rintro ⟨y,x⟩ rest b s' ⟨m7,rfl,vs,ws,ko,zj,hz,JI,GU,hlen,hR⟩;cases JI with
   |nil=>rw[List.zip_nil_left]at hz;cases hz
   |cons a t hvi'=>cases GU with
    |nil=>rw[List.zip_nil_right]at hz;cases hz
    |cons c u hwi' =>
     rw[List.zip_cons_cons]at hz;injection hz with TQ Bu
     injection TQ with hy hx
     subst hy hx;rw[HT.dt]at hR;simp only[List.length_cons]at hlen;obtain⟨e,he,BA⟩:=HT.tO A.in1 ⟨hp,g,d,tk,os⟩ a t c u;refine aaa (he prog w _ _ ?_);cases e with
     |true =>
      rw[if_pos (BA.mp rfl)]at hR
      wp_walk
      exact⟨rfl,rfl,_,_,_,_,Bu,hvi',hwi',by left,hR⟩
     |false =>
      have Bx:¬ a=c:=λq=>absurd (BA.mpr q) aae;rw[if_neg Bx,show(!decide (a<c))=decide (a ≥ c) by by_cases q:a<c<;>simp[q]<;>left]at hR;have T6:=Aj A.in1 ⟨hp,g,d,tk,os⟩ a t c u prog w
      wp_walk using T6
      exact⟨_,rfl,by simpa using hR⟩
  case fin =>
   rintro ⟨b1,b2⟩ s' ⟨m7,rfl,vs,ws,ko,zj,hz,JI,GU,hlen,hR⟩;simp only at m7;subst m7;rw[EA JI GU hz.symm hlen]at hR
   wp_walk
   exact⟨_,rfl,by simpa [Builtin.Tuple.tupleCompareSizes]using hR⟩
  case h=>exact⟨rfl,rfl,items.toList,di.toList,ns,ms,rfl,hi,hj,by left,h⟩
end
def M3(K:aq):R2:=λx y H Q=>∃a b ns ms,x=.ref a/\y=.ref b/\aR K H a (ns.map V.int)/\aR K H b (ms.map V.int)/\Q (.bl (!HT.lexLt ns ms)) H
theorem AH(hu:X.A.units<cLine):js X (compareOp .GtE) (M3 X.K):=by
 intro pins s σ H x y v u Q I rx ry h;obtain⟨a,b,ns,ms,rfl,rfl,ha,hb,q⟩:=h;cases rx;cases ry;obtain⟨aK,r1,⟨⟨cls,dd,data,sl⟩,ho,hc,n,hd⟩,_⟩:=I.tuple ha;obtain⟨vg,r2,⟨⟨FI,xE,data2,wb⟩,qE,hc2,n2,hd2⟩,_⟩:=I.tuple hb;simp only at hc hd hc2 hd2;subst hc hd hc2 hd2;exact richCompare_meets_room (op:=.GtE) ⟨_,ho,rfl⟩ ⟨_,qE,rfl⟩ PySem.F.slot_tuple_ge PySem.F.entry_tuple_ge (PySem.F.args_tuple_ge_2 _ _) (n8 a b aK.toArray vg.toArray n n2 dd xE sl wb ns ms (intsAre_of r1) (intsAre_of r2))
  ⟨ho,qE,show Value.bool (!HT.lexLt ns ms)≠Value.notImplemented/\EP X pins σ Q (.bool (!HT.lexLt ns ms)) s from⟨(λx=>nomatch x),⟨.bl _,H,I,rfl,q⟩⟩⟩ hu
def LS(xs:ab):O D:=match two xs with
 |some z=>match z.1 with
  |.tup a=>match z.2 with
   |.tup b=>match intsOf a with
    |some ns=>match intsOf b with
     |some ms=>ok (.bl (!HT.lexLt ns ms))
     |none=>none
    |none=>none
   |_=>none
  |_=>none
 |none=>none
theorem Ka{x y d:D}(h:LS [x,y]=ok d):∃ns ms:aa,x=.tup (ns.map D.int)/\y=.tup (ms.map D.int)/\d=.bl (!HT.lexLt ns ms):=by
 cases x<;>first|exact nk h | (cases h;done) | (cases y<;>first|exact nk h | (cases h;done)|skip)
 rename_i a b;have h:(match intsOf a with|some ns=>(match intsOf b with|some ms=>ok (D.bl (!HT.lexLt ns ms))|none=>none)|none=>none)=ok d:=h;cases h1:intsOf a with
 |none=>rw[h1]at h;exact nk h
 |some ns=>cases h2:intsOf b with
  |none=>rw[h1,h2]at h;cases h
  |some ms =>
   rw[h1,h2]at h;cases h;exact⟨ns,ms,by rw[c_ h1],by rw[c_ h2],rfl⟩
def xM(_:Scope)(_:ak)(e:Expr):Option (au):=match Dq e with
 |some z=>match one z.2.2 with
  |some r=>if z.2.1=[.GtE]then some [z.1,r]else none
  |none=>none
 |none=>none
theorem Cm{sc:Scope}{bl:ak}{e:Expr}(h:xM sc bl e=some args):∃l r p,e=.Compare l [.GtE] [r] p/\args=[l,r]:=by
 unfold xM at h;cases hv:Dq e with
 |none=>rw[hv]at h;exact nk h
 |some z =>
  obtain⟨l,os,rs⟩:=z;rw[hv]at h;obtain⟨p,rfl⟩:=vP hv;replace h:(match one rs with|some r=>if os=[.GtE]then some [l,r]else none|none=>none)=some args:=h;cases hw:one rs with
  |none=>rw[hw]at h;exact nk h
  |some r =>
   rw[hw]at h;replace h:(if os=[.GtE]then some [l,r]else none)=some args:=h;obtain rfl:=cf hw;by_cases hc:os=[.GtE]
   ·rw[if_pos hc]at h;cases h;subst hc;exact⟨l,r,p,rfl,rfl⟩
   ·rw[if_neg hc]at h;cases h
theorem Ph{n:Nat}(hΦ:Φ n=LS){sc:Scope}{bl:ak}{k:Nat}(L:PX X sc bl k){e:Expr}(he:xM sc bl e=some args)(hs:kg X F Φ cs args):PE X e (tD X F Φ (.bR n cs))/\PT X e (gh X F Φ (.bR n cs)):=by
 obtain⟨l,r,p,rfl,rfl⟩:=Cm he;have hu:X.A.units<cLine:=by have:=L.room.units;left
 cases cs with
 |nil=>exact hs.elim
 |cons c cs=>cases cs with
  |nil=>exact hs.2.2.2.elim
  |cons c' cs=>cases cs with
   |cons _ _=>exact hs.2.2.2.2.2.2.elim
   |nil =>
    obtain⟨h1,_,_,h2,_,_,_⟩:=hs;have key:∀{σ:St} {H:Hp} {R:ai} {τ:Addr->Option bq} {ρ:ba} {d:D} {Q:VK},SI X F R τ ρ σ H->bC Φ (.bR n [c,c']) ρ=ok d->(∀b H2,d=.bl b->aM H H2->Q (.bl b) H2)->Gj (M3 X.K) (tD X F Φ c) (tD X F Φ c') σ H Q:=by
     intro σ H R τ ρ d Q Si ev hq;obtain⟨xs,cc,ev⟩:=aB ev;obtain⟨x,ex,cc⟩:=aB cc;obtain⟨ys,nr,cc⟩:=aB cc;cases cc;obtain⟨y,ey,nr⟩:=aB nr;cases nr;rw[hΦ]at ev;obtain⟨ns,ms,rfl,rfl,rfl⟩:=Ka ev;refine tD.intro Si ex λv H1 e1 r1=>tD.intro (Si.go e1) ey λu H2 e2 r2=>?_;obtain⟨_,_,p1⟩:=r1.go e2;obtain⟨_,_,p2⟩:=r2;cases p1 with
     |tup t1 s1=>cases p2 with
      |tup t2 s2 =>
       cases s1.ofInts;cases s2.ofInts;exact⟨_,_,ns,ms,rfl,rfl,t1,t2,hq _ H2 rfl (e1.trans e2)⟩
    refine⟨PE.imp (wH (AH hu) h1 h2 (AO _)) λσ H Q hq=>?_,PT.imp (wo (AH hu) h1 h2 (AO _)) λσ H Q hq=>?_⟩
    ·obtain⟨R,τ,ρ,d,Si,ev,hq⟩:=hq;exact key Si ev λb H2 e es=>hq _ H2 es (by subst e;exact .bl)
    ·obtain⟨R,τ,ρ,b,Si,ev,hq⟩:=hq;obtain⟨d,ed,et⟩:=aB ev;refine key Si ed λb' H2 e es=>?_;subst e;cases et;exact⟨_,rfl,hq H2 es⟩
section
variable {X:Cx}
end
end DI
end
section
namespace DI
open PySem PySem.Spec PyProof.Rows L2 PySem.W
noncomputable def cR{α:Type}(lt:Nat->Nat->Bool):KasT α->α
 |.ret a=>a
 |.ask i j k=>cR lt (k (lt i j))
theorem gk{α β:Type}(lt:Nat->Nat->Bool)(f:α->KasT β):∀t:KasT α,cR lt (t.bind f)=cR lt (f (cR lt t))
 |.ret a=>rfl
 |.ask i j k=>gk lt f (k (lt i j))
section
noncomputable def i3{α:Type}(n:Nat)(lt:Nat->Nat->Bool):KasT α->Prop
 |.ret _=>True
 |.ask i j k=>i<n/\j<n/\i3 n lt (k (lt i j))
end
theorem xV{α:Type}{cmp:Nat->Nat->(Bool->Shared->Prop)->Shared->Prop}{lt:Nat->Nat->Bool}{s:Shared}{n:Nat}(hc:∀i j C,i<n->j<n->C (lt i j) s->cmp i j C s){Q:α->Shared->Prop}:
  ∀(t:KasT α),i3 n lt t->Q (cR lt t) s->t.kasWp cmp Q s
 |.ret a,_,h=>h
 |.ask i j k,⟨h1,h2,h3⟩,h=>hc i j _ h1 h2 (xV hc (k (lt i j)) h3 h)
theorem fe{α β:Type}{lt:Nat->Nat->Bool}{n:Nat}{f:α->KasT β}:∀{t:KasT α},i3 n lt t->i3 n lt (f (cR lt t))->i3 n lt (t.bind f)
 |.ret _,_,h=>h
 |.ask i j k,⟨h1,h2,h3⟩,h=>⟨h1,h2,fe h3 h⟩
structure Ord(lt:Nat->Nat->Bool)(n:Nat):Prop where
 tr:∀a b c,a<n->b<n->c<n->lt a b=true->lt b c=true->lt a c=true
 as:∀a b,a<n->b<n->lt a b=true->lt b a=false
 Qn:∀a b,a<n->b<n->a≠b->lt a b=true\/lt b a=true
structure Arr(p:Array Nat)(n:Nat):Prop where
 sz:p.size=n
 pm:p.toList.Perm (List.range n)
section
variable {lt:Nat->Nat->Bool}{n:Nat}{p:Array Nat}
theorem Arr.bd(h:Arr p n){i:Nat}(hi:i<n):p.getD i 0<n:=by
 have mf:i<p.size:=by rw[h.sz];exact hi
 have:p.getD i 0=p[i]:=by simp[Array.getD,mf]
 rw[this];have hm:p[i]∈p.toList:=Array.getElem_mem_toList mf;exact List.mem_range.mp (h.pm.mem_iff.mp hm)
theorem Arr.inj(h:Arr p n){i j:Nat}(hi:i<n)(hj:j<n)(e:p.getD i 0=p.getD j 0):i=j:=by
 have mf:i<p.toList.length:=by rw[Array.length_toList,h.sz];exact hi
 have Uv:j<p.toList.length:=by rw[Array.length_toList,h.sz];exact hj
 have nd:p.toList.Nodup:=h.pm.nodup_iff.mpr List.nodup_range;have e1:p.getD i 0=p.toList[i]:=by simp[Array.getD,show i<p.size by rw[h.sz];exact hi]
 have e2:p.getD j 0=p.toList[j]:=by simp[Array.getD,show j<p.size by rw[h.sz];exact hj]
 rw[e1,e2]at e;exact(ach nd).mp e
def Up(lt:Nat->Nat->Bool)(p:Array Nat)(k:Nat):Prop:=∀i j,i<j->j<k->lt (p.getD i 0) (p.getD j 0)=true
def Dn(lt:Nat->Nat->Bool)(p:Array Nat)(k:Nat):Prop:=∀i j,i<j->j<k->lt (p.getD j 0) (p.getD i 0)=true
theorem Up.snoc(O:Ord lt n)(h:Arr p n){k:Nat}(hk:k<n)(h1:1<=k)(u:Up lt p k)(hl:lt (p.getD (k - 1) 0) (p.getD k 0)=true):Up lt p (k+1):=λi j gQ hj=>by
 by_cases e:j=k
 ·subst e;by_cases e2:i=j - 1
  ·subst e2;exact hl
  ·exact O.tr _ _ _ (h.bd (by left)) (h.bd (by left)) (h.bd hk) (u i (j - 1) (by left) (by left)) hl
 ·exact u i j gQ (by left)
theorem Dn.snoc(O:Ord lt n)(h:Arr p n){k:Nat}(hk:k<n)(h1:1<=k)(u:Dn lt p k)(hl:lt (p.getD k 0) (p.getD (k - 1) 0)=true):Dn lt p (k+1):=λi j gQ hj=>by
 by_cases e:j=k
 ·subst e;by_cases e2:i=j - 1
  ·subst e2;exact hl
  ·exact O.tr _ _ _ (h.bd hk) (h.bd (by left)) (h.bd (by left)) hl (u i (j - 1) (by left) (by left))
 ·exact u i j gQ (by left)
theorem rF(O:Ord lt n)(h:Arr p n):∀(f k:Nat),1<=k->k+f<=n->Up lt p k->i3 n lt (kas_asc p f k)/\k<=cR lt (kas_asc p f k)/\cR lt (kas_asc p f k)<=k+f/\Up lt p (cR lt (kas_asc p f k))
 |0,k,_,_,u=>⟨trivial,aai _,aai _,u⟩
 |f+1,k,h1,hf,u=>by
  have a1:p.getD k 0<n:=h.bd (by left);have a2:p.getD (k - 1) 0<n:=h.bd (by left);cases c:lt (p.getD k 0) (p.getD (k - 1) 0)with
  |true =>
   have e:cR lt (kas_asc p (f+1) k)=k:=by
    show cR lt (if lt (p.getD k 0) (p.getD (k - 1) 0)=true then .ret k else kas_asc p f (k+1))=k;rw[c];rfl
   refine⟨⟨a1,a2,?_⟩,by rw[e];exact aai _,by rw[e];left,by rw[e];exact u⟩;show i3 n lt (if lt (p.getD k 0) (p.getD (k - 1) 0)=true then .ret k else kas_asc p f (k+1));rw[c];trivial
  |false =>
   have e:cR lt (kas_asc p (f+1) k)=cR lt (kas_asc p f (k+1)):=by
    show cR lt (if lt (p.getD k 0) (p.getD (k - 1) 0)=true then .ret k else kas_asc p f (k+1))=_;rw[c];rfl
   have hl:lt (p.getD (k - 1) 0) (p.getD k 0)=true:=by
    rcases O.Qn _ _ a2 a1 (λz=>absurd (h.inj (by left) (by left) z) (by left))with z|z
    ·exact z
    ·rw[c]at z;cases z
   obtain⟨b1,b2,b3,b4⟩:=rF O h f (k+1) (by left) (by left) (u.snoc O h (by left) h1 hl);refine⟨⟨a1,a2,?_⟩,by rw[e];left,by rw[e];left,by rw[e];exact b4⟩;show i3 n lt (if lt (p.getD k 0) (p.getD (k - 1) 0)=true then .ret k else kas_asc p f (k+1));rw[c];exact b1
theorem xC(O:Ord lt n)(h:Arr p n):∀(f k:Nat),1<=k->k+f<=n->Dn lt p k->i3 n lt (kas_desc f p k 0)/\∃m,cR lt (kas_desc f p k 0)=(p,m,0)/\k<=m/\m<=k+f/\Dn lt p m
 |0,k,_,_,u=>⟨trivial,k,rfl,aai _,aai _,u⟩
 |f+1,k,h1,hf,u=>by
  have a1:p.getD k 0<n:=h.bd (by left);have a2:p.getD (k - 1) 0<n:=h.bd (by left);cases c:lt (p.getD k 0) (p.getD (k - 1) 0)with
  |true =>
   obtain⟨b1,m,b2,b3,b4,b5⟩:=xC O h f (k+1) (by left) (by left) (u.snoc O h (by left) h1 c);have e:kas_desc (f+1) p k 0=.ask (p.getD k 0) (p.getD (k - 1) 0) λc=>if c=true then(if (0:Nat)>0 then kas_desc f (kas_rev p (k - (0+1)) k) (k+1) 0 else kas_desc f p (k+1) 0)else .ask (p.getD (k - 1) 0) (p.getD k 0) λd=>if d=true then .ret (p,k,0)else kas_desc f p (k+1) (0+1):=rfl
   rw[e];refine⟨⟨a1,a2,?_⟩,m,?_,by left,by left,b5⟩
   ·rw[c];exact b1
   ·show cR lt (if lt (p.getD k 0) (p.getD (k - 1) 0)=true then _ else _)=_;rw[c];exact b2
  |false =>
   have hl:lt (p.getD (k - 1) 0) (p.getD k 0)=true:=by
    rcases O.Qn _ _ a2 a1 (λz=>absurd (h.inj (by left) (by left) z) (by left))with z|z
    ·exact z
    ·rw[c]at z;cases z
   have e:kas_desc (f+1) p k 0=.ask (p.getD k 0) (p.getD (k - 1) 0) λc=>if c=true then(if (0:Nat)>0 then kas_desc f (kas_rev p (k - (0+1)) k) (k+1) 0 else kas_desc f p (k+1) 0)else .ask (p.getD (k - 1) 0) (p.getD k 0) λd=>if d=true then .ret (p,k,0)else kas_desc f p (k+1) (0+1):=rfl
   rw[e];refine⟨⟨a1,a2,?_⟩,k,?_,aai _,by left,u⟩
   ·rw[c];exact⟨a2,a1,by rw[hl];trivial⟩
   ·show cR lt (if lt (p.getD k 0) (p.getD (k - 1) 0)=true then _ else _)=_;rw[c];show cR lt (if lt (p.getD (k - 1) 0) (p.getD k 0)=true then _ else _)=_;rw[hl];rfl
theorem mh{p q:Array Nat}{i j:Nat}(h:p[i]?=q[j]?):p.getD i 0=q.getD j 0:=by
 rw[Array.getD_eq_getD_getElem?,Array.getD_eq_getD_getElem?,h]
theorem Ij(h:Arr p n){m:Nat}(hm:m<=n):Arr (kas_rev p 0 m) n/\(Dn lt p m->Up lt (kas_rev p 0 m) m):=by
 have hs:(kas_rev p 0 m).size=p.size:=mirror_size _ _ _ _;refine⟨⟨by rw[hs];exact h.sz,?_⟩,λu i j gQ hj=>?_⟩
 ·have:=(mirror_perm p 0 m ((m - 0) / 2)).toList;exact this.trans h.pm
 ·have g:∀k,k<m->(kas_rev p 0 m).getD k 0=p.getD (m - 1 - k) 0:=λk hk=>by
   refine mh ?_;rw[show kas_rev p 0 m=mirror p 0 m ((m - 0) / 2) from rfl,getElem?_mirror_all (by rw[h.sz];exact hm),if_pos ⟨Nat.zero_le _,hk⟩];congr 1;left
  rw[g i (by left),g j hj];exact u (m - 1 - j) (m - 1 - i) (by left) (by left)
theorem zQ(O:Ord lt n)(h:Arr p n){m:Nat}(h1:1<=m)(hm:m<=n)(u:Dn lt p m):i3 n lt (kas_tail3 m n p)/\∃r,cR lt (kas_tail3 m n p)=r/\Arr r.2 n/\1<=r.1/\r.1<=n/\Up lt r.2 r.1:=by
 obtain⟨a1,a2⟩:=Ij (lt:=lt) h hm;obtain⟨b1,b2,b3,b4⟩:=rF O a1 (n - m) m h1 (by left) (a2 u);unfold kas_tail3;refine⟨fe b1 trivial,_,rfl,?_⟩;rw[gk];exact⟨a1,aax h1 b2,by show cR lt _<=n;left,b4⟩
theorem Cd(O:Ord lt n)(h:Arr p n)(hn:2<=n):i3 n lt (kas_count n p)/\∃r,cR lt (kas_count n p)=r/\Arr r.2 n/\1<=r.1/\r.1<=n/\Up lt r.2 r.1:=by
 obtain⟨b1,b2,b3,b4⟩:=rF O h (n - 1) 1 (aai _) (by left) (λi j _ _=>by left);generalize hk:cR lt (kas_asc p (n - 1) 1)=k at *;have key:∀t:KasT (Nat×Array Nat),t=(if (k==n)=true then .ret (k,p)else if k>1 then .ask (p.getD 0 0) (p.getD (k - 1) 0) λc=>if c=true then .ret (k,p)else kas_descPart k n (kas_rev p 0 k)else kas_descPart k n p) ->
   i3 n lt t/\∃r,cR lt t=r/\Arr r.2 n/\1<=r.1/\r.1<=n/\Up lt r.2 r.1:=by
  intro t ht;by_cases e:k=n
  ·rw[if_pos (by simpa using e)]at ht;subst ht;exact⟨trivial,(k,p),rfl,h,b2,by show k<=n;left,b4⟩
  ·rw[if_neg (by simpa using e)]at ht;by_cases e1:k>1
   ·rw[if_pos e1]at ht;subst ht;have hl:lt (p.getD 0 0) (p.getD (k - 1) 0)=true:=b4 0 (k - 1) (by left) (by left);refine⟨⟨h.bd (by left),h.bd (by left),by rw[hl];trivial⟩,(k,p),?_,h,b2,by left,b4⟩;show cR lt (if lt (p.getD 0 0) (p.getD (k - 1) 0)=true then _ else _)=_;rw[hl];rfl
   ·rw[if_neg e1]at ht;have Uu:k=1:=by left
    subst Uu;subst ht;have hl:lt (p.getD 1 0) (p.getD 0 0)=true:=by
     have a1:p.getD 1 0<n:=h.bd (by left);have a0:p.getD 0 0<n:=h.bd (by left);cases c:lt (p.getD 1 0) (p.getD 0 0)with
     |true=>rfl
     |false =>
      exfalso;obtain⟨f,hf⟩:∃f,n - 1=f+1:=⟨n - 2,by left⟩
      rw[hf]at hk;have e':cR lt (kas_asc p (f+1) 1)=cR lt (kas_asc p f 2):=by
       show cR lt (if lt (p.getD 1 0) (p.getD (1 - 1) 0)=true then .ret 1 else kas_asc p f 2)=_;rw[show(1 - 1:Nat)=0 from rfl,c];rfl
      rw[e']at hk;have u2:Up lt p 2:=λi j gQ hj=>by
       have:i=0/\j=1:=by left
       obtain⟨rfl,rfl⟩:=this;rcases O.Qn _ _ a0 a1 (λz=>absurd (h.inj (by left) (by left) z) (by left))with z|z
       ·exact z
       ·rw[c]at z;cases z
      obtain⟨_,c2,_,_⟩:=rF O h f 2 (by left) (by left) u2;left
    have d2:Dn lt p 2:=λi j gQ hj=>by
     have:i=0/\j=1:=by left
     obtain⟨rfl,rfl⟩:=this;exact hl
    obtain⟨c1,m,c2,c3,c4,c5⟩:=xC O h (n - 2) 2 (by left) (by left) d2;obtain⟨t1,r,t2,t3⟩:=zQ O h (m:=m) (by left) (by left) c5;unfold kas_descPart;refine⟨fe c1 ?_,r,?_,t3⟩
    ·rw[show(1+1:Nat)=2 from rfl,show n - 2=n - 2 from rfl,c2];exact t1
    ·rw[gk,show(1+1:Nat)=2 from rfl,c2];exact t2
 have e:=key _ rfl;refine⟨?_,?_⟩
 ·unfold kas_count;exact fe b1 (by rw[hk];exact e.1)
 ·unfold kas_count;rw[gk,hk];exact e.2
theorem Arr.or(O:Ord lt n)(h:Arr p n){i j:Nat}(hi:i<n)(hj:j<n)(e:i≠j)(c:lt (p.getD i 0) (p.getD j 0)=false):lt (p.getD j 0) (p.getD i 0)=true:=by
 rcases O.Qn _ _ (h.bd hi) (h.bd hj) (λz=>e (h.inj hi hj z))with z|z
 ·rw[c]at z;cases z
 ·exact z
theorem mL(O:Ord lt n)(h:Arr p n){k:Nat}(hk:k<n)(u:Up lt p k):∀(f l r:Nat),l<=r->r<=k->r - l<=f->(∀i,i<l->lt (p.getD i 0) (p.getD k 0)=true)->(∀i,r<=i->i<k->lt (p.getD k 0) (p.getD i 0)=true) ->
  i3 n lt (kas_place p k f l r)/\∃m,cR lt (kas_place p k f l r)=m/\m<=k/\(∀i,i<m->lt (p.getD i 0) (p.getD k 0)=true)/\∀i,m<=i->i<k->lt (p.getD k 0) (p.getD i 0)=true
 |0,l,r,hl,hr,hf,a,b=>by
  have:l=r:=by left
  subst this;exact⟨trivial,l,rfl,hr,a,b⟩
 |f+1,l,r,hl,hr,hf,a,b=>by
  have e:kas_place p k (f+1) l r=if l ≥ r then .ret l else .ask (p.getD k 0) (p.getD ((l+r) / 2) 0) λc=>if c=true then kas_place p k f l ((l+r) / 2)else kas_place p k f ((l+r) / 2+1) r:=rfl
  rw[e];by_cases JR:l ≥ r
  ·rw[if_pos JR];have:l=r:=by left
   subst this;exact⟨trivial,l,rfl,hr,a,b⟩
  ·rw[if_neg JR];have hm:l<=(l+r) / 2/\(l+r) / 2<r:=by left
   generalize (l+r) / 2=m at *;have b1:p.getD k 0<n:=h.bd hk;have b2:p.getD m 0<n:=h.bd (by left);cases c:lt (p.getD k 0) (p.getD m 0)with
   |true =>
    obtain⟨c1,m',c2,c3⟩:=mL O h hk u f l m hm.1 (by left) (by left) a λi h1 h2=>by
     by_cases e:i=m
     ·subst e;exact c
     ·exact O.tr _ _ _ b1 b2 (h.bd (by left)) c (u m i (by left) h2)
    refine⟨⟨b1,b2,by rw[c];exact c1⟩,m',?_,c3⟩;show cR lt (if lt (p.getD k 0) (p.getD m 0)=true then _ else _)=_;rw[c];exact c2
   |false =>
    have nY:=h.or O hk (by left) (by left) c;obtain⟨c1,m',c2,c3⟩:=mL O h hk u f (m+1) r (by left) hr (by left) (λi hi=>by
     by_cases e:i=m
     ·subst e;exact nY
     ·exact O.tr _ _ _ (h.bd (by left)) b2 b1 (u i m (by left) (by left)) nY) b
    refine⟨⟨b1,b2,by rw[c];exact c1⟩,m',?_,c3⟩;show cR lt (if lt (p.getD k 0) (p.getD m 0)=true then _ else _)=_;rw[c];exact c2
theorem zc(h:Arr p n){k m:Nat}(hk:k<n)(hm:m<=k)(u:Up lt p k)(a:∀i,i<m->lt (p.getD i 0) (p.getD k 0)=true)(b:∀i,m<=i->i<k->lt (p.getD k 0) (p.getD i 0)=true):
  Arr (bubble p k (k - m)) n/\Up lt (bubble p k (k - m)) (k+1):=by
 have hs:(bubble p k (k - m)).size=p.size:=bubble_size _ _ _;refine⟨⟨by rw[hs];exact h.sz,(bubble_perm p k (k - m)).toList.trans h.pm⟩,λi j gQ hj=>?_⟩;have g:∀t,(bubble p k (k - m)).getD t 0=if t=m then p.getD k 0 else if m<t/\t<=k then p.getD (t - 1) 0 else p.getD t 0:=λt=>by
  have e:=getElem?_bubble (xs:=p) (src:=k) (by rw[h.sz];exact hk) (k - m) (Nat.sub_le _ _) t;rw[show k - (k - m)=m by left]at e;by_cases h1:t=m
  ·rw[if_pos h1]at e ⊢;exact mh e
  ·rw[if_neg h1]at e ⊢;by_cases h2:m<t/\t<=k
   ·rw[if_pos h2]at e ⊢;exact mh e
   ·rw[if_neg h2]at e ⊢;exact mh e
 rw[g i,g j];by_cases i1:i=m
 ·rw[if_pos i1,if_neg (by left),if_pos (by left)];exact b (j - 1) (by left) (by left)
 ·rw[if_neg i1];by_cases i2:m<i/\i<=k
  ·rw[if_pos i2,if_neg (by left),if_pos (by left)];exact u (i - 1) (j - 1) (by left) (by left)
  ·rw[if_neg i2];by_cases j1:j=m
   ·rw[if_pos j1];exact a i (by left)
   ·rw[if_neg j1];by_cases j2:m<j/\j<=k
    ·rw[if_pos j2];by_cases e:i=j - 1
     ·left
     ·exact u i (j - 1) (by left) (by left)
    ·rw[if_neg j2];exact u i j gQ (by left)
end
theorem Ct{lt:Nat->Nat->Bool}{n:Nat}(O:Ord lt n):∀(f:Nat) {p:Array Nat} {k:Nat},Arr p n->k+f=n->Up lt p k->i3 n lt (kas_bin f p k)/\Arr (cR lt (kas_bin f p k)) n/\Up lt (cR lt (kas_bin f p k)) n
 |0,p,k,h,hk,u=>⟨trivial,h,by rw[<- hk];exact u⟩
 |f+1,p,k,h,hk,u=>by
  obtain⟨a1,m,a2,a3,a4,a5⟩:=mL O h (k:=k) (by left) u k 0 k (aaF _) (aai _) (aai _) (λi hi=>by left) (λi h1 h2=>by left);obtain⟨b1,b2⟩:=zc h (by left) a3 u a4 a5;obtain⟨c1,c2,c3⟩:=Ct O f b1 (by left) b2;have e:kas_bin (f+1) p k=(kas_place p k k 0 k).bind λl=>kas_bin f (bubble p k (k - l)) (k+1):=rfl;rw[e];refine⟨fe a1 (by rw[a2];exact c1),?_⟩;rw[gk,a2];exact⟨c2,c3⟩
theorem DH{lt:Nat->Nat->Bool}{n:Nat}(O:Ord lt n)(hn:2<=n):i3 n lt (kas_sort n)/\Arr (cR lt (kas_sort n)) n/\Up lt (cR lt (kas_sort n)) n:=by
 have h0:Arr (List.toArray (List.range n)) n:=⟨by simp,by simp⟩
 obtain⟨a1,r,a2,a3,a4,a5,a6⟩:=Cd O h0 hn;unfold kas_sort;have key:∀t,t=(if r.1<n then kas_bin (n - max r.1 1) r.2 (max r.1 1)else .ret r.2)->i3 n lt t/\Arr (cR lt t) n/\Up lt (cR lt t) n:=by
  intro t ht;by_cases h:r.1<n
  ·rw[if_pos h]at ht;subst ht;rw[show max r.1 1=r.1 by left];exact Ct O _ a3 (by left) a6
  ·rw[if_neg h]at ht;subst ht;have:r.1=n:=by left
   exact⟨trivial,a3,by rw[this]at a6;exact a6⟩
 have e:=key _ rfl;refine⟨fe a1 (by rw[a2];exact e.1),?_⟩;rw[gk,a2];exact e.2
end DI
end
section
namespace DI
open PySem PySem.Spec PyProof.Rows L2
def oB(h:Heap)(vs:ao)(nss:ag):Prop:=vs.length=nss.length/\∀(i:Nat) (ns:aa),nss[i]?=some ns->∃t aK,vs[i]?=some (.ref t)/\IsTup h t aK.toArray/\IntsAre aK ns
variable {h':Heap}{nss:ag}{vs:ao}
theorem oB.mono{h:Heap}(k:∀b o,h.get? b=some o->h'.get? b=some o)(t:oB h vs nss):oB h' vs nss :=
 ⟨t.1,λi ns e=>let ⟨a,aK,e1,⟨o,ho,r⟩,e3⟩:=t.2 i ns e;⟨a,aK,e1,⟨o,k _ _ ho,r⟩,e3⟩⟩
theorem oB.mem{h:Heap}(t:oB h vs nss){v:Value}(hv:v∈vs):∃a aK ns,v=.ref a/\IsTup h a aK.toArray/\IntsAre aK ns:=by
 obtain⟨i,hi⟩:=List.mem_iff_getElem?.mp hv;have hl:i<nss.length:=by rw[<- t.1];exact(List.getElem?_eq_some_iff.mp hi).1
 obtain⟨a,aK,e1,e2,e3⟩:=t.2 i _ (aal hl);rw[hi]at e1;cases e1;exact⟨a,aK,_,rfl,e2,e3⟩
section
variable {prog:aF}{w:World}{A:aE}{E:aw}{s:Shared}
theorem nq:∀{vs:ao} {nss:ag} {Q:List (Option Value)->Shared->Prop},oB s.heap vs nss->(∀fs:List (Option Value),fs.length=vs.length->(∀f∈fs,∀v,f=some v->∃n t,v=.int n t)->Q fs s)->wpAny (model prog w) A (vs.mapM firstOfTuple') Q E s
 |[],_,_,_,h=>by rw[List.mapM_nil];exact aab (h [] rfl λ_ h=>nomatch h)
 |v::vs,[],_,t,_=>by have:=t.1;simp at this
 |v::vs,ns::nss,Q,t,h=>by
  obtain⟨a,aK,e,⟨o,ho,hc,n,hd⟩,hi⟩:=t.2 0 ns rfl;cases e;rw[List.mapM_cons];refine aaa ?_;rw[PySem.W.kas_first_eq];refine aaa (PySem.W.Looks.here (show PySem.W.Looks (model prog w) s.heap (typeOf (.ref a)) o.cls from(PySem.W.Looks.ld ho).andThen .now) ?_);rw[hc,if_neg (by first|decide|simp)];refine aaa (listItems_at ho hd (aab ?_));refine aaa (nq (vs:=vs) (nss:=nss) ⟨by simpa using t.1,λi ms e=>t.2 (i+1) ms e⟩ λfs h1 h2=>aab (h _ (by simp[h1]) λf hf v hv=>?_));rcases List.mem_cons.mp hf with rfl|hf
  ·cases hi with
   |nil=>simp at hv
   |cons a' tk hi=>simp at hv;exact⟨_,_,hv.symm⟩
  ·exact h2 f hf v hv
def Ho(κ:SortKind):Prop:=κ=tuples' true\/κ=general'\/κ=oneType'
theorem kind_any{Q:SortKind->Shared->Prop}(t:oB s.heap vs nss)(Bx:vs≠[])(h:∀κ,Ho κ->Q κ s):wpAny (model prog w) A (keyKind' vs.toArray) Q E s:=by
 obtain⟨v0,vr,rfl⟩:∃v0 vr,vs=v0::vr:=by
  cases vs with
  |nil=>exact absurd rfl Bx
  |cons v0 vr=>exact⟨v0,vr,rfl⟩
 rw[kat_kind_eq,List.mapM_toArray,map_eq_pure_bind];refine aaa (aaa (nq t λfs hl hf=>aab ?_));by_cases ha:(fs.toArray.all λx=>x.isSome)=true
 ·rw[if_pos ha];refine aaa (aa5 ?_);obtain⟨gs,hg,hgi⟩:∃gs:ao,fs=gs.map some/\∀v∈gs,∃n t,v=.int n t:=by
   clear h hl t;induction fs with
   |nil=>exact⟨[],rfl,λ_ h=>nomatch h⟩
   |cons f fs ih =>
    simp only[List.all_toArray,List.all_cons,Bool.and_eq_true]at ha;obtain⟨gs,e1,e2⟩:=ih (λf OO=>hf f (aad _ OO)) (by simpa using ha.2);cases f with
    |none=>simp at ha
    |some v =>
     exact⟨v::gs,by rw[e1];rfl,λu hu=>by
      rcases List.mem_cons.mp hu with rfl|hu
      ·exact hf _ aaf _ rfl
      ·exact e2 u hu⟩
  subst hg;obtain⟨g0,gr,rfl⟩:∃g0 gr,gs=g0::gr:=by
   cases gs with
   |nil=>simp at hl
   |cons a b=>exact⟨a,b,rfl⟩
  have Y2:(((g0::gr).map some).toArray.filterMap id)=(g0::gr).toArray:=by simp
  rw[Y2,oneTypeOnly'_eq,List.mapM_toArray,map_eq_pure_bind];refine aaa (aaa (aaa (PySem.W.kas_mapM (r:=Value.type "int") _ (λv hv Q' hq=>by
   obtain⟨n,t,rfl⟩:=hgi v hv;exact(PySem.W.Looks.of_pure (M:=model prog w) rfl).here hq) (aab ?_))))
  have BG:((List.map (λ_=>Value.type "int") (g0::gr)).toArray.all λx=>x==Value.type "int")=true:=by
   simp only[List.all_toArray,List.all_map,List.all_eq_true];intro _ _;show(Value.type "int" == Value.type "int")=true;decide
  have h0:(List.map (λ_=>Value.type "int") (g0::gr)).toArray[0]?=some (Value.type "int"):=by simp
  rw[h0];simp only[BG,if_true];exact aab (aab (h _ (.inl rfl)))
 ·rw[if_neg ha];by_cases hb:((fs.toArray[0]?.bind id).isSome)=true
  ·rw[if_pos hb];exact aab (h _ (.inr (.inl rfl)))
  ·rw[if_neg hb];rw[oneTypeOnly'_eq,List.mapM_toArray,map_eq_pure_bind];refine aaa (aaa (aaa (PySem.W.kas_mapM (r:=Value.type "tuple") _ (λv hv Q' hq=>by
    obtain⟨a,aK,ns,rfl,⟨o,ho,hc,_⟩,_⟩:=t.mem hv;refine PySem.W.Looks.here (show PySem.W.Looks (model prog w) s.heap (typeOf (.ref a)) o.cls from(PySem.W.Looks.ld ho).andThen .now) ?_;rw[hc];exact hq) (aab ?_))))
   have BG:((List.map (λ_=>Value.type "tuple") (v0::vr)).toArray.all λx=>x==Value.type "tuple")=true:=by
    simp only[List.all_toArray,List.all_map,List.all_eq_true];intro _ _;show(Value.type "tuple" == Value.type "tuple")=true;decide
   have h0:(List.map (λ_=>Value.type "tuple") (v0::vr)).toArray[0]?=some (Value.type "tuple"):=by simp
   rw[h0];simp only[BG,if_true];exact aab (aab (h _ (.inr (.inr rfl))))
theorem Jl{κ:SortKind}(hk:Ho κ)(hu:A.units<cLine){a b:Addr}{aK EC:ao}{ns ms:aa}{Q:Bool->Shared->Prop}(ha:IsTup s.heap a aK.toArray)(hb:IsTup s.heap b EC.toArray)(hi:IntsAre aK ns)(hj:IntsAre EC ms)(h:Q (HT.lexLt ns ms) s):
  wpAny (model prog w) A (keyLt' κ (.ref a) (.ref b)) Q E s:=by
 rcases hk with rfl|rfl|rfl
 ·obtain⟨o,ho,_,n,hd⟩:=ha;obtain⟨o',eH,_,n',CT⟩:=hb;exact PySem.W.kat_lt ho hd eH CT (sX 0 hi hj (by simp) h)
 ·exact PySem.W.kat_one _ _ (HT.u_ ha hb (by simpa using hi) (by simpa using hj) hu h)
 ·show wpAny (model prog w) A (oneLt' true (.ref a) (.ref b)) Q E s;rw[oneLt'_eq];simp only[if_true];refine aaa (wpAny_cRoomFor hu ?_);obtain⟨⟨cls,dd,data,sl⟩,ho,hc,n,hd⟩:=id ha;obtain⟨⟨FI,xE,data2,wb⟩,qE,hc2,n2,hd2⟩:=id hb;simp only at hc hd hc2 hd2;subst hc hd hc2 hd2;refine aaa (wpAny_callSpecialIfBound?_slot (name:=Str.ofString "__lt__") ⟨_,ho,rfl⟩ abK (abm abK ⟨_,ho,rfl⟩ PySem.F.entry_tuple_lt (PySem.F.args_tuple_lt_2 _ _) (HT.i5 a b _ _ n n2 dd xE sl wb ns ms (by simpa using hi) (by simpa using hj)) ⟨ho,qE,?_⟩));exact aaR h
end
def rJ(h:Heap)(d:Addr)(es:Array DictEntry)(ep:Nat):Prop:=∃o,h.get? d=some o/\o.ExactDict/\o.data=.dict es ep
variable {Q:Value->Shared->Prop}
section
variable {prog:aF}{w:World}{A:aE}{E:aw}{s:Shared}{d it:Addr}{es:Array DictEntry}{ep i:Nat}
theorem rJ.typeIs(h:rJ s.heap d es ep):s.TypeIs (.ref d) "dict":=let ⟨o,ho,hx,_⟩:=h;⟨o,ho,hx.1⟩
theorem xB(hd:(d==sysModules)=false)(hm:rJ s.heap d es ep)
  (hQ:Q (.ref s.heap.objs.size) { s with heap:=s.heap.push { cls:=.type "dict_keyiterator",data:=.fields #[.ref d,.int 0 0,.int es.size 0,.int ep 0] } }):wpAny (model prog w) A (pyIter (.ref d)) Q E s:=by
 have hT:=hm.typeIs;obtain⟨o,ho,hx,OS⟩:=hm;refine wpAny_pyIter_slot hT PySem.F.slot_dict_iter (aaD PySem.F.slot_dict_iter hT PySem.F.entry_dict_iter ?_ (PySem.F.args_dict_iter_1 _));unfold Builtin.«dict.__iter__» Builtin.Dict.dictSlotNone;refine aaa (aaa (wpAny_notOrdered_dict hT (aab ?_)));show wpAny _ _ (Builtin.Dict.showsAll d >>= _) _ _ s;unfold Builtin.Dict.showsAll;rw[if_neg (by rw[hd];exact Bool.false_ne_true)];refine aaa (aab (aaa (abB ho OS (aaa (wpAny_dictEpoch ho OS ?_)))));exact aaa (aaX (aab ⟨_,rfl,"dict_keyiterator",_,⟨_,aan _ rfl,rfl⟩,PySem.F.slot_dict_keyiterator_next.lookup,hQ⟩))
theorem xA{Q:Option Value->Shared->Prop}(hit:s.heap.IsKeyIter it d i es.size ep)(hm:rJ s.heap d es ep)(fu:i<es.size)
  (hQ:∀h',h'.IsKeyIter it d (i+1) es.size ep->Heap.SameBut it s.heap h'->Q (some es[i].key) { s with heap:=h' }):wpAny (model prog w) A (pyNext (.ref it)) Q E s:=by
 obtain⟨o,ho,hc,hd⟩:=id hit;obtain⟨od,OD,yK,yJ⟩:=hm;unfold pyNext;refine aaa (abo (aaK (name:=Str.ofString "__next__") hit.typeIs aaS (aaD aaS hit.typeIs PySem.F.entry_dict_keyiterator_next ?_ (PySem.F.args_dict_keyiterator_next_1 _))));refine aaa (aab (aaa (aaa ?_)))
 first|refine aaa (aaY hit.typeIs (aab ?_))|refine aaa (aa_ hit.typeIs (aab ?_))
 refine aaa (wpAny_fieldsOf ho hd ?_);simp only[show Builtin.Dict_items.ownsTuple "dict_keyiterator" = false by decide,Bool.false_eq_true,if_false];show wpAny _ _ (if (Value.ref d==Value.none)=true then _ else _) _ _ s;rw[if_neg (show ¬ ((Value.ref d==Value.none)=true) from Bool.false_ne_true)];refine aaa (aab (aaa (abB OD yJ ?_)));rw[if_neg (by simp)];refine aaa (aab (aaa (wpAny_dictEpoch OD yJ ?_)));rw[if_neg (by simp)];refine aab ?_;simp only[show ¬ ((i:Int)<0) from by left,if_false,Int.toNat_natCast,Array.getElem?_eq_getElem fu];refine aaa ?_
 first|refine aaa (aaY hit.typeIs (aab ?_))|refine aaa (aa_ hit.typeIs (aab ?_))
 refine aaa (wpAny_isOneOf_keyiter hit.typeIs ?_);show wpAny _ _ (setField (.ref it) 1 (rawInt ((i:Int)+1)) >>= _) _ _ s;refine aaa (ab5 ho hd (by simp) ?_);have ES:(s.heap.update it (Obj.mapFields (·.setIfInBounds 1 (rawInt ((i:Int)+1))))).IsKeyIter it d (i+1) es.size ep :=
  ⟨_,aaO _ ho (Obj.isFreed_of_fields (Obj.data_mapFields hd _)),(Obj.cls_mapFields ..).trans hc,by rw[Obj.data_mapFields hd];simp[rawInt]⟩
 refine aaa (aaG (aaa (wpAny_isOneOf_keyiter (s:={ s with heap:=s.heap.update it (Obj.mapFields (·.setIfInBounds 1 (rawInt ((i:Int)+1)))) }) ES.typeIs ?_)));show wpAny _ _ (pure es[i].key) _ _ _;exact aab (aab ⟨_,rfl,aab (hQ _ ES (aaM ..))⟩)
theorem B_{Q:Option Value->Shared->Prop}(hh:A.handled=none)(hit:s.heap.IsKeyIter it d i es.size ep)(hm:rJ s.heap d es ep)(Y0:es.size<=i)
  (hQ:∀h',Heap.ExtBut it s.heap h'->Q none { s with heap:=h' }):wpAny (model prog w) A (pyNext (.ref it)) Q E s:=by
 obtain⟨o,ho,hc,hd⟩:=id hit;obtain⟨od,OD,yK,yJ⟩:=hm;unfold pyNext;refine aaa (abo (aaK (name:=Str.ofString "__next__") hit.typeIs aaS (aaD aaS hit.typeIs PySem.F.entry_dict_keyiterator_next ?_ (PySem.F.args_dict_keyiterator_next_1 _))));refine aaa (aab (aaa (aaa ?_)))
 first|refine aaa (aaY hit.typeIs (aab ?_))|refine aaa (aa_ hit.typeIs (aab ?_))
 refine aaa (wpAny_fieldsOf ho hd ?_);simp only[show Builtin.Dict_items.ownsTuple "dict_keyiterator" = false by decide,Bool.false_eq_true,if_false];show wpAny _ _ (if (Value.ref d==Value.none)=true then _ else _) _ _ s;rw[if_neg (show ¬ ((Value.ref d==Value.none)=true) from Bool.false_ne_true)];refine aaa (aab (aaa (abB OD yJ ?_)));rw[if_neg (by simp)];refine aaa (aab (aaa (wpAny_dictEpoch OD yJ ?_)));rw[if_neg (by simp)];refine aab ?_;simp only[show ¬ ((i:Int)<0) from by left,if_false,Int.toNat_natCast,Array.getElem?_eq_none Y0];refine aaa ?_
 first|refine aaa (aaY hit.typeIs (aab ?_))|refine aaa (aa_ hit.typeIs (aab ?_))
 show wpAny _ _ (setField (.ref it) 0 .none >>= _) _ _ s;refine aaa (ab5 ho hd (by simp) ?_);show wpAny _ _ (newExc (.type "StopIteration") [] >>= _) _ _ _;refine aaa ?_;simp only[newExc,newTuple];refine aaa (aaX ?_ (by size_fits));refine aaa (m:=firstArgMember _ _) (wpAny_of_eq (a:=Value.none) (by first|rfl | (simp only[firstArgMember];rfl)) ?_);refine aaX ?_ (by size_fits);simp only[raiseNew];refine aaa (wpAny_handled ?_);rw[show A.in1.handled=none from hh];refine aaa (aab (wpAny_throw ?_));refine aaa (aa9 (T:="StopIteration") (b:=true) ⟨_,aan _ rfl,rfl⟩ isSubtype_stop ?_);exact aab (hQ _ (((aaM ..).extBut.push _).push _))
end
theorem vf:∀a b c:aa,HT.lexLt a b=true->HT.lexLt b c=true->HT.lexLt a c=true
 |[],[],_,h,_=>by rw[HT.i6]at h;cases h
 |[],_::_,[],_,h=>by rw[HT.cU]at h;cases h
 |[],_::_,_::_,_,_=>rfl
 |_::_,[],_,h,_=>by rw[HT.cU]at h;cases h
 |_::_,_::_,[],_,h=>by rw[HT.cU]at h;cases h
 |x::a,y::b,z::c,h1,h2=>by
  rw[HT.dt]at *;by_cases e1:x=y
  ·subst e1;rw[if_pos rfl]at h1;by_cases e2:x=z
   ·subst e2;rw[if_pos rfl]at h2 ⊢;exact vf a b c h1 h2
   ·rw[if_neg e2]at h2 ⊢;exact h2
  ·rw[if_neg e1]at h1;have l1:x<y:=aac h1;by_cases e2:y=z
   ·subst e2;rw[if_neg (by left)];exact aa7 l1
   ·rw[if_neg e2]at h2;have l2:y<z:=aac h2;rw[if_neg (by left)];exact aa7 (by left)
theorem qu:∀a b:aa,HT.lexLt a b=true->HT.lexLt b a=false
 |[],[],_=>rfl
 |[],_::_,_=>rfl
 |_::_,[],h=>by rw[HT.cU]at h;cases h
 |x::a,y::b,h=>by
  rw[HT.dt]at *;by_cases e:x=y
  ·subst e;rw[if_pos rfl]at h ⊢;exact qu a b h
  ·rw[if_neg e]at h;have l:x<y:=aac h;rw[if_neg (by left)];exact aaV (by left)
theorem md:∀a b:aa,a≠b->HT.lexLt a b=true\/HT.lexLt b a=true
 |[],[],h=>absurd rfl h
 |[],_::_,_=>.inl rfl
 |_::_,[],_=>.inr rfl
 |x::a,y::b,h=>by
  rw[HT.dt,HT.dt];by_cases e:x=y
  ·subst e;rw[if_pos rfl,if_pos rfl];exact md a b λz=>h (by rw[z])
  ·rw[if_neg e,if_neg (Ne.symm e)];rcases Int.lt_or_gt_of_ne e with l|l
   ·exact .inl (aa7 l)
   ·exact .inr (aa7 l)
def bc(nss:ag):ag:=nss.mergeSort λa b=>!HT.lexLt b a
def vI(nss:ag):Prop:=nss.Pairwise λa b=>HT.lexLt a b=true
theorem we:∀{l m:ag},vI l->vI m->l.Perm m->l=m
 |[],m,_,_,p=>(List.perm_nil.mp p.symm).symm
 |a::l,[],_,_,p=>by have:=p.length_eq;simp at this
 |a::l,b::m,h1,h2,p=>by
  have e:a=b:=by
   have ha:a∈b::m:=p.mem_iff.mp aaf;have hb:b∈a::l:=p.mem_iff.mpr aaf;rcases List.mem_cons.mp ha with e|ha
   ·exact e
   ·rcases List.mem_cons.mp hb with e|hb
    ·exact e.symm
    ·have l1:=(List.pairwise_cons.mp h2).1 a ha;have l2:=(List.pairwise_cons.mp h1).1 b hb;rw[qu _ _ l1]at l2;cases l2
  subst e;rw[we (List.pairwise_cons.mp h1).2 (List.pairwise_cons.mp h2).2 (List.perm_cons a |>.mp p)]
theorem gx(h:nss.Nodup):vI (bc nss):=by
 have p:(bc nss).Perm nss:=aay _ _;have nd:(bc nss).Nodup:=p.nodup_iff.mpr h;have sd:(bc nss).Pairwise λa b=>(!HT.lexLt b a)=true:=List.pairwise_mergeSort (λa b c h1 h2=>by
  cases e:HT.lexLt c a with
  |false=>rfl
  |true =>
   exfalso;by_cases qK:b=c
   ·subst qK;rw[e]at h1;cases h1
   ·rcases md b c qK with l|l
    ·rw[vf _ _ _ l e]at h1;cases h1
    ·rw[l]at h2;cases h2) (λa b=>by
  cases e:HT.lexLt b a with
  |false=>rfl
  |true=>rw[qu _ _ e];rfl) nss
 exact(sd.and nd).imp λ{a b} ⟨h1,h2⟩=>by
  rcases md a b h2 with l|l
  ·exact l
  ·rw[l]at h1;cases h1
theorem sg{l:ag}(h:nss.Nodup)(hr:vI l)(p:l.Perm nss):l=bc nss:=we hr (gx h) (p.trans (aay _ _).symm)
def ltN(nss:ag)(i j:Nat):Bool:=HT.lexLt (nss.getD i []) (nss.getD j [])
theorem IS(h:nss.Nodup):Ord (ltN nss) nss.length :=
 ⟨λa b c _ _ _ h1 h2=>vf _ _ _ h1 h2,λa b _ _ h=>qu _ _ h,λa b ha hb qK=>md _ _ λe=>qK (by
  have e1:nss.getD a []=nss[a]:=by simp[ha]
  have e2:nss.getD b []=nss[b]:=by simp[hb]
  rw[e1,e2]at e;exact(ach h).mp e)⟩
theorem oM(h:nss.Nodup){p:Array Nat}(ha:Arr p nss.length)(hu:Up (ltN nss) p nss.length):(p.toList.map λi=>nss.getD i [])=bc nss:=by
 refine sg h ?_ ?_
 ·refine List.pairwise_iff_getElem.mpr λi j hi hj gQ=>?_;simp only[List.length_map,Array.length_toList]at hi hj;have:=hu i j gQ (by rw[<- ha.sz];exact hj);unfold ltN at this;have e:∀k (hk:k<p.size),p.getD k 0=p[k]:=λk hk=>by simp[Array.getD,hk]
  rw[e i hi,e j hj]at this;simpa using this
 ·have e:nss=(List.range nss.length).map λi=>nss.getD i []:=by
   refine abI (by simp) λi h1 h2=>?_;simp[h1]
  refine(ha.pm.map λi=>nss.getD i []).trans ?_;rw[<- e]
variable {ep:Nat}
section
variable {prog:aF}{w:World}{A:aE}{E:aw}{s:Shared}
theorem z4{a:Addr}{n:Nat}{P:PySem.Fin->Shared->Prop}(hu:A.units<cLine)(ho:s.heap.get? a=some (seqObj "list" vs.toArray n))(rN:vs.length<64)(zk:nss.Nodup)
  (ht:oB (((s.heap.update a (Obj.mapSeq λ_=>#[])).push (seqObj "tuple" vs.toArray 0)).push (seqObj "list" #[] 0)) vs nss)
  (h:∀p:Array Nat,Arr p vs.length->(p.toList.map λi=>nss.getD i [])=bc nss->P (.done (.ret .none)) { s with heap:=sortedHeap s.heap a vs (List.toArray (p.toList.map λi=>vs.getD i Value.none)) }) :
  wpAny (model prog w) A (Builtin.«list.sort» ⟨[.ref a],[]⟩) P E s:=by
 rw[list_sort_plain];have ha:a<s.heap.objs.size:=aah ho;have hsz:vs.toArray.size=vs.length:=by simp
 have hz:vs.length<=sizeLine:=by rw[sizeLine_eq];left
 have hl:=ht.1;refine aaa (listItems_at ho rfl (aaa (listUpdate_at ho rfl ?_ (by rw[hsz];exact hz) (aaF _))));obtain⟨e1,GX⟩:∃e1,(s.heap.update a (Obj.mapSeq λ_=>#[])).get? a=some (seqObj "list" #[] e1):=⟨_,get?_update_seq ho (λ_=>#[])⟩
 refine aaa (seqEpoch_at GX rfl (aaa (wpAny_newTuple (aaa (acd (aaG ?_) (aaF _))) (by simpa using hz))));have WI:(((s.heap.update a (Obj.mapSeq λ_=>#[])).push (seqObj "tuple" vs.toArray 0)).push (seqObj "list" #[] 0)).get? a=some (seqObj "list" #[] e1):=aag _ (aag _ GX);show wpAny (model prog w) A _ P E ({ s with heap:=((s.heap.update a (Obj.mapSeq λ_=>#[])).push (seqObj "tuple" vs.toArray 0)).push (seqObj "list" #[] 0) }:Shared);dsimp only;have fin:∀(lH:SortSt) (p:Array Nat),Arr p vs.length->(p.toList.map λi=>nss.getD i [])=bc nss->(arrOf lH).map (·.2)=List.toArray (p.toList.map λi=>vs.getD i Value.none)->failedOf lH=none->wpAny (model prog w) A (do
   let touched:=(<- seqEpoch a) != e1
   Builtin.List.listUpdate (.ref a) λ_=>(arrOf lH).map (·.2)
   if let some e:=failedOf lH then rule "list.sort.comparison-raised";throw e
   if touched then rule "list.sort.modified";raiseError "ValueError" "list modified during sort"
   ret .none) P E ({ s with heap:=((s.heap.update a (Obj.mapSeq λ_=>#[])).push (seqObj "tuple" vs.toArray 0)).push (seqObj "list" #[] 0) }:Shared):=by
  intro lH p hp hs hA hF;refine aaa (seqEpoch_at WI rfl ?_);rw[hA];refine aaa (listUpdate_at WI rfl ?_ (aaF _) (by rw[List.size_toArray,List.length_map,Array.length_toList,hp.sz];exact acf hz));rw[hF];simp only[bne_self_eq_false,Bool.false_eq_true,if_false];exact aab (h p hp hs)
 by_cases h2:vs.toArray.size<2
 ·rw[if_pos h2,if_pos h2];refine aaa (aab ?_);rw[StateT.run_pure];refine aaa (aab ?_);rw[hsz]at h2;have UM:Arr (List.toArray (List.range vs.length)) vs.length:=⟨by simp,by simp⟩
  refine fin (SortSt.mk' general' (vs.toArray.zip vs.toArray) #[] 7 none) (List.toArray (List.range vs.length)) UM ?_ ?_ rfl
  ·rw[hl]at UM ⊢;exact oM zk UM λi j gQ hj=>by left
  ·apply Array.toList_inj.mp;show(Array.map (·.2) (vs.toArray.zip vs.toArray)).toList=_;rw[Array.toList_map,show(vs.toArray.zip vs.toArray)=pairsOf vs from rfl,pairsOf_toList,List.map_snd_zip (Nat.le_refl _)];refine abI (by simp) λi h1 h2=>?_;simp[h1]
 ·rw[if_neg h2,if_neg h2];rw[hsz]at h2;refine aaa (kind_any ht (λz=>by rw[z]at h2;simp at h2) λκ hk=>?_);have ok:=DH (IS zk) (by rw[<- hl];left);refine aaa (aaw (PySem.W.kat_run (ks:=vs) (vs:=vs) (κ:=κ) (Q:=λlH s'=>s'=({ s with heap:=((s.heap.update a (Obj.mapSeq λ_=>#[])).push (seqObj "tuple" vs.toArray 0)).push (seqObj "list" #[] 0) }:Shared)/\∃p,Arr p vs.length/\(p.toList.map λi=>nss.getD i [])=bc nss/\(arrOf lH).map (·.2)=List.toArray (p.toList.map λi=>vs.getD i Value.none)/\failedOf lH=none)
   (G:=λp s'=>s'=({ s with heap:=((s.heap.update a (Obj.mapSeq λ_=>#[])).push (seqObj "tuple" vs.toArray 0)).push (seqObj "list" #[] 0) }:Shared)/\Arr p vs.length/\(p.toList.map λi=>nss.getD i [])=bc nss) rfl (by left) rN (λp lH s' OA Za hf hG=>⟨hG.1,p,hG.2.1,hG.2.2,PySem.W.kat_snds rfl Za,hf⟩) ?_) (λr s' ⟨e,p,hp,hs,hA,hF⟩=>?_) λ_ _ e=>e)
  rotate_left
  ·subst e;exact fin r.2 p hp hs hA hF
  ·rw[hl];refine xV (lt:=ltN nss) (n:=nss.length) (λi j C hi hj hC=>?_) _ ok.1 ⟨rfl,ok.2.1,oM zk ok.2.1 ok.2.2⟩;obtain⟨x,aK,e1,i1,i2⟩:=ht.2 i _ (aal hi);obtain⟨y,EC,e2,j1,j2⟩:=ht.2 j _ (aal hj);unfold PySem.W.kas_ask;rw[show vs.getD i Value.none=.ref x by simp[e1],show vs.getD j Value.none=.ref y by simp[e2]];refine Jl hk hu i1 j1 i2 j2 ?_;have e3:nss.getD i []=nss[i]:=by simp[hi]
   have e4:nss.getD j []=nss[j]:=by simp[hj]
   have WZ:C (HT.lexLt (nss.getD i []) (nss.getD j [])) _:=hC;rw[e3,e4]at WZ;exact WZ
theorem B9{es:Array DictEntry}(hh:A.handled=none)(I d:Addr)(Bx:d≠I):Walks prog w A I [I,d] [I] es.size (λi v=>∃e,es[i]?=some e/\v=e.key) (λi h=>h.IsKeyIter I d i es.size ep/\rJ h d es ep) where
 sub:=λb hb=>by simp at hb;simp[hb]
 frame:=λ_ _ _ st hk=>⟨st.1.at λo e=>hk I (by simp) o e,let ⟨o,ho,r⟩:=st.2;⟨o,hk d (by simp) o ho,r⟩⟩
 item:=λi s Q E hi st hQ=>xA st.1 st.2 hi λh' ES yE=>hQ _ h' s.toks ⟨es[i],aa6 hi,rfl⟩ ⟨ES,let ⟨o,ho,r⟩:=st.2;⟨o,yE.extBut d o Bx ho,r⟩⟩ λb o hb e=>yE.extBut b o (λh=>hb (by simp[h])) e
 done:=λs Q E st hQ=>B_ hh st.1 st.2 (aai _) λh' Y3=>hQ h' s.toks λb o hb e=>Y3 b o (λh=>hb (by simp[h])) e
 self:=λ_ _ _ _ st hQ=>wpAny_pyIter_keyiter st.1 hQ
theorem KU{d:Addr}{es:Array DictEntry}(lo:(d==sysModules)=false):PySem.W.KdlSrc prog w "dict" d d es.size (λi v=>∃e,es[i]?=some e/\v=e.key) (λh=>rJ h d es ep) where
 type:=λ_ hm=>hm.typeIs
 there:=λ_ hm=>let ⟨_,ho,_⟩:=hm;⟨aah ho,aah ho⟩
 keep:=λ_ _ hm hk=>let ⟨o,ho,r⟩:=hm;⟨o,hk d (.inl rfl) o ho,r⟩
 notList:=by decide
 notTuple:=by decide
 hint:=λ_ _ _ _ hm hq=>PySem.W.kdl_hint_dict hm.typeIs hq
 iter:=λ_ _ hh hm=>⟨_,_,(λ_ _ hq=>xB lo hm hq),B9 hh _ d (let ⟨_,ho,_⟩:=hm;aam (aah ho)),⟨⟨_,aan _ rfl,rfl,rfl⟩,let ⟨o,ho,r⟩:=hm;⟨o,aag _ ho,r⟩⟩⟩
theorem sf{d:Addr}{es:Array DictEntry}(hh:A.handled=none)(hu:A.units+2<cLine)(lo:(d==sysModules)=false)(hm:rJ s.heap d es ep)(rN:es.size<64)(zk:nss.Nodup)(ht:oB s.heap (es.toList.map (·.key)) nss)
  (h:∀(S:Addr) (h':Heap) (tk e:Nat) (p:Array Nat),s.heap.get? S=none->(∀b o,s.heap.get? b=some o->h'.get? b=some o)->Arr p es.size->(p.toList.map λi=>nss.getD i [])=bc nss ->
   h'.get? S=some (seqObj "list" (List.toArray (p.toList.map λi=>(es.toList.map (·.key)).getD i Value.none)) e)->Q (.ref S) { s with heap:=h',toks:=tk }) :
  wpAny (model prog w) A (call (.builtin "sorted") [.ref d]) Q E s:=by
 refine Calls.call_function_entry kind_sorted plain_sorted entry_sorted (args_sorted1 _) ?_;unfold Builtin.«sorted»;have hz:es.size<=sizeLine:=by rw[sizeLine_eq];left
 refine aaa (m:=checkCount "sorted" 1 1 _) (aab (aaa (PySem.W.kdu_collect (A:=A.in1) (KU lo) hh hm hz λh1 tk acc hk fG=>?_)));have O4:acc.toList=es.toList.map (·.key):=by
  refine List.ext_getElem? λi=>?_;rw[List.getElem?_map,Array.getElem?_toList,Array.getElem?_toList];by_cases hi:i<es.size
  ·have OL:i<acc.size:=by rw[fG.1];exact hi
   obtain⟨e,he,hv⟩:=fG.2 i acc[i] (aa6 OL);rw[Array.getElem?_eq_getElem OL,he,hv];rfl
  ·rw[Array.getElem?_eq_none (by rw[fG.1];left),Array.getElem?_eq_none (by left)];rfl
 rw[O4];generalize TX:es.toList.map (·.key)=vs at *;have CN:vs.length=es.size:=by rw[<- TX];simp
 refine aaa (acd ?_ (by rw[CN];exact hz));show wpAny _ _ _ _ _ ({ s with heap:=h1.push (seqObj "list" vs.toArray 0),toks:=tk }:Shared);have OE:(h1.push (seqObj "list" vs.toArray 0)).get? h1.objs.size=some (seqObj "list" vs.toArray 0):=aan _ rfl;have k6:∀b o,s.heap.get? b=some o->((((h1.push (seqObj "list" vs.toArray 0)).update h1.objs.size (Obj.mapSeq λ_=>#[])).push (seqObj "tuple" vs.toArray 0)).push (seqObj "list" #[] 0)).get? b=some o:=λb o e=>by
  refine aag _ (aag _ ?_);rw[Heap.get?_update_other _ _ (Nat.ne_of_gt (Heap.lt_size (hk b o e)))];exact aag _ (hk b o e)
 have hle:s.heap.get? h1.objs.size=none:=by
  cases q:s.heap.get? h1.objs.size with
  |none=>rfl
  |some o=>exact absurd (aah (hk _ o q)) (aat _)
 refine aaa (aaG (aaD slot_list_sort ⟨_,OE,rfl⟩ entry_list_sort (z4 (s:={ s with heap:=h1.push (seqObj "list" vs.toArray 0),toks:=tk }) (nss:=nss) (show A.in1.in1.units<cLine by show A.units+1+1<cLine;left) OE (by rw[CN];exact rN) zk (ht.mono k6) λp hp hs=>⟨_,rfl,?_⟩) (args_list_sort _)));obtain⟨e,he⟩:=sortedHeap_at (out:=List.toArray (p.toList.map λi=>vs.getD i Value.none)) OE;refine aab ⟨_,rfl,h h1.objs.size _ tk e p hle (λb o e=>?_) (by rw[<- CN];exact hp) hs he⟩;have fu:=aah (hk b o e);rw[sortedHeap_old (Nat.ne_of_lt fu) (by rw[size_push'];exact Nat.lt_succ_of_lt fu)];exact aag _ (hk b o e)
end
section
variable {α β:Type}
noncomputable def bo:ag->List α->aa->Option α
 |c'::cs,v::vs,c=>if c'=c then some v else bo cs vs c
 |_,_,_=>none
noncomputable def setC:ag->List α->aa->α->List α
 |c'::cs,v'::vs,c,v=>(if c'=c then v else v')::setC cs vs c v
 |_,_,_,_=>[]
noncomputable def aI(cs:ag)(c:aa):ag:=if c∈cs then cs else cs++[c]
noncomputable def gG(cs:ag)(as:List α)(c:aa)(a:α):List α:=if c∈cs then as else as++[a]
def bh(cs:ag)(vs:List α)(c:aa)(v:α):List α:=if c∈cs then setC cs vs c v else vs++[v]
end
section
variable {zs:List (aa×Addr×Value)}{c:aa}
theorem fc:∀(zs:List (aa×Addr×Value)) (c:aa),(atKey zs c).map (·.2)=bo (zs.map (·.1)) (zs.map (·.2.2)) c
 |[],_=>rfl
 |z::zs,c=>by
  have ih:=fc zs c;unfold atKey at ih ⊢;rw[List.find?_cons];show _=if z.1=c then some z.2.2 else bo (zs.map (·.1)) (zs.map (·.2.2)) c
  by_cases e:z.1=c
  ·rw[decide_eq_true e,if_pos e];rfl
  ·rw[decide_eq_false e,if_neg e];exact ih
theorem dB:∀(zs:List (aa×Addr×Value)) (c:aa),(atKey zs c).isSome=true ↔ c∈zs.map (·.1)
 |[],c=>by simp[atKey]
 |z::zs,c=>by
  have ih:=dB zs c;unfold atKey at ih ⊢;rw[List.find?_cons,List.map_cons,List.mem_cons];by_cases e:z.1=c
  ·rw[decide_eq_true e];simp[e]
  ·rw[decide_eq_false e];rw[ih];exact⟨.inr,λh=>h.resolve_left λz=>e z.symm⟩
theorem fH(a:Addr)(v:Value):(storedH zs c a v).map (·.1)=aI (zs.map (·.1)) c:=by
 unfold storedH aI;by_cases h:c∈zs.map (·.1)
 ·rw[if_pos ((dB zs c).mpr h),if_pos h,List.map_map];refine aak λz _=>?_;show(putAt c v z).1=z.1;unfold putAt;split<;>rfl
 ·rw[if_neg (λz=>h ((dB zs c).mp z)),if_neg h,List.map_append];rfl
theorem lh(a:Addr)(v:Value):(storedH zs c a v).map (·.2.1)=gG (zs.map (·.1)) (zs.map (·.2.1)) c a:=by
 unfold storedH gG;by_cases h:c∈zs.map (·.1)
 ·rw[if_pos ((dB zs c).mpr h),if_pos h,List.map_map];refine aak λz _=>?_;show(putAt c v z).2.1=z.2.1;unfold putAt;split<;>rfl
 ·rw[if_neg (λz=>h ((dB zs c).mp z)),if_neg h,List.map_append];rfl
theorem sM(v:Value):∀zs:List (aa×Addr×Value),(zs.map (putAt c v)).map (·.2.2)=setC (zs.map (·.1)) (zs.map (·.2.2)) c v
 |[]=>rfl
 |z::zs=>by
  show(putAt c v z).2.2::((zs.map (putAt c v)).map (·.2.2))=(if z.1=c then v else z.2.2)::setC (zs.map (·.1)) (zs.map (·.2.2)) c v;rw[sM v zs];unfold putAt;by_cases e:z.1=c
  ·rw[if_pos e,if_pos e]
  ·rw[if_neg e,if_neg e]
theorem lg(a:Addr)(v:Value):(storedH zs c a v).map (·.2.2)=bh (zs.map (·.1)) (zs.map (·.2.2)) c v:=by
 unfold storedH bh;by_cases h:c∈zs.map (·.1)
 ·rw[if_pos ((dB zs c).mpr h),if_pos h];exact sM v zs
 ·rw[if_neg (λz=>h ((dB zs c).mp z)),if_neg h,List.map_append];rfl
end
theorem rR{c:aa}{v:V}{u:Value}(r:RelV v u):∀{cs:ag} {xs:ae} {us:ao},Vals xs us->Vals (setC cs xs c v) (setC cs us c u)
 |[],_,_,h=>by cases h<;>exact .nil
 |c'::cs,_,_,h=>by
  cases h with
  |nil=>exact .nil
  |cons h t =>
   refine .cons ?_ (rR r t);show RelV (if c'=c then v else _) (if c'=c then u else _);by_cases e:c'=c
   ·rw[if_pos e,if_pos e];exact r
   ·rw[if_neg e,if_neg e];exact h
theorem oG{v:V}{u:Value}(r:RelV v u):∀{xs:ae} {us:ao},Vals xs us->Vals (xs++[v]) (us++[u])
 |_,_,.nil=>.cons r .nil
 |_,_,.cons h t=>.cons h (oG r t)
theorem rS{cs:ag}{xs:ae}{us:ao}(h:Vals xs us){c:aa}{v:V}{u:Value}(r:RelV v u):Vals (bh cs xs c v) (bh cs us c u):=by
 unfold bh;by_cases e:c∈cs
 ·rw[if_pos e,if_pos e];exact rR r h
 ·rw[if_neg e,if_neg e];exact oG r h
theorem gd:∀{cs:ag} {xs:ae} {us:ao} (_:Vals xs us) (c:aa),kf (bo cs xs c) (bo cs us c)
 |[],_,_,_,_=>by cases ‹Vals _ _› <;> exact True.intro
 |c'::cs,_,_,h,c=>by
  cases h with
  |nil=>exact True.intro
  |cons h t =>
   show kf (if c'=c then some _ else _) (if c'=c then some _ else _);by_cases e:c'=c
   ·rw[if_pos e,if_pos e];exact h
   ·rw[if_neg e,if_neg e];exact gd t c
variable {pos pos':Pos}
section
variable {X:Cx}{pins:aj}{σ:St}{H:Hp}{s:Shared}{p b:Addr}{cs:ag}{as:aO}{xs:ae}{ep:Nat}{c:aa}{A:aE}{E:aw}
theorem items_int:∀{c:aa} {aK:ao},Vals (c.map V.int) aK->ItemsAre (intKind X.prog X.w) c aK
 |[],_,h=>by cases h;exact .nil
 |i::c,_,h=>by
  cases h with
  |cons h t =>
   obtain⟨t',rfl⟩:=h;exact .cons (by simp[intKind,Value.isInt]) (items_int t)
theorem mW(I:Inv X pins σ H s)(h:aR X.K H b (c.map V.int)):(tupleKind (intKind X.prog X.w)).is s.heap c b:=by
 obtain⟨aK,rv,⟨o,h1,h2,n,h3⟩,_⟩:=I.tuple h;exact⟨o,aK.toArray,n,h1,h2,h3,by simpa using items_int rv⟩
theorem qT(I:Inv X pins σ H s)(h:H p=some (.ext (DO p cs as xs ep)))(k:eL (aR X.K H) as cs):
  ∃(zs:List (aa×Addr×Value)) (o:Obj) (es:Array DictEntry),zs.map (·.1)=cs/\zs.map (·.2.1)=as/\Vals xs (zs.map (·.2.2))/\s.heap.get? p=some o/\o.ExactDict/\o.data=.dict es ep /\
   s.heap.DictOfH (tupleKind (intKind X.prog X.w)) p zs/\es.toList=zs.map (entryOfKey (tupleKind (intKind X.prog X.w)))/\cs.length<=sizeLine/\(p==sysModules)=false:=by
 obtain⟨⟨zs,o,es,e1,e2,e3,ho,hx,hd,he,hn,hl,hs⟩,_⟩:=(show cD X.prog X.w H s.heap p (.ext (DO p cs as xs ep)) from I.cQ p _ h)
 refine⟨zs,o,es,e1,e2,e3,ho,hx,hd,⟨o,es,ep,ho,hx,hd,he,λz hz=>?_,by rw[e1];exact hn⟩,he,hl,hs⟩;obtain⟨j,hj⟩:=List.mem_iff_getElem?.mp hz;exact mW I (k.tup j z.2.1 z.1 (by rw[<- e2,List.getElem?_map,hj];rfl) (by rw[<- e1,List.getElem?_map,hj];rfl))
theorem dict_cls(I:Inv X pins σ H s)(h:H p=some (.ext (DO p cs as xs ep))):s.TypeIs (.ref p) "dict" /\ ∀b,Value.ref p=.ref b->∃ob,s.heap.get? b=some ob/\ob.dict=none:=by
 obtain⟨⟨zs,o,es,e1,e2,e3,ho,hx,_⟩,_⟩:=(show cD X.prog X.w H s.heap p (.ext (DO p cs as xs ep)) from I.cQ p _ h)
 exact⟨⟨o,ho,hx.1⟩,λb q=>by cases q;exact⟨o,ho,hx.2.1⟩⟩
theorem FE{d:V}{r:Value}(hu:A.units+1<cLine)(I:Inv X pins σ H s)(h:H p=some (.ext (DO p cs as xs ep)))(k:eL (aR X.K H) as cs)(hb:aR X.K H b (c.map V.int))(rd:RelV d r)(hQ:∀w' s',Inv X pins σ H s'->RelV ((bo cs xs c).getD d) w'->Q w' s'):
  wpAny (model X.prog X.w) A (call (.builtin "dict.get") [.ref p,.ref b,r]) Q E s:=by
 obtain⟨zs,o,es,e1,e2,e3,ho,hx,hd,dd,_,hl,hs⟩:=qT I h k;refine call_meetsIn abk dd.typeIs PySem.F.entry_dict_get (PySem.F.args_dict_get_3 _ _ _) (meetsH_dict_get_default (tupleKind (intKind X.prog X.w)) p b hs r) ⟨ab9 hu,c,zs,mW I hb,dd,hQ _ _ (I.tok _) ?_⟩;rw[fc,e1];have hg:=gd (cs:=cs) e3 c;cases q:bo cs xs c with
 |none =>
  rw[q]at hg;rw[kf.none_of hg];exact rd
 |some v =>
  rw[q]at hg;obtain⟨u,qC,ru⟩:=kf.some_of hg;rw[qC];exact ru
theorem vD{v:V}{r:Value}{Q:Unit->Shared->Prop}(hu:A.units+1<cLine)(I:Inv X pins σ H s)(h:H p=some (.ext (DO p cs as xs ep)))(k:eL (aR X.K H) as cs)(hb:aR X.K H b (c.map V.int))(rv:RelV v r)(fu:cs.length<sizeLine)
  (hQ:∀gu s',Inv X pins σ (upd H p (.ext (DO p (aI cs c) (gG cs as c b) (bh cs xs c v) gu))) s'->Q () s') :
  wpAny (model X.prog X.w) A (setItem (.ref p) (.ref b) r) Q E s:=by
 obtain⟨zs,o,es,e1,e2,e3,ho,hx,hd,dd,_,hl,hs⟩:=qT I h k;have hz:zs.length<=sizeLine:=by rw[<- e1,List.length_map]at hl;exact hl
 refine wpAny_setItem_heap (hsz:=hz) (ab9 hu) (mW I hb) dd λh' PH yD=>?_;obtain⟨q,CZ,gu,hq,h2,h3,h4,_,h5⟩:=PH;refine hQ gu _ (I.write (x:=p) (e:=p) (by rw[h];exact True.intro) (.inl rfl) (λb q hb z=>(yD.2 b hb).trans z) ⟨q,hq⟩ ⟨⟨storedH zs c b r,q,CZ,?_,?_,?_,hq,h2,h3,h4,?_,?_,hs⟩,⟨q,hq⟩,?_⟩)
 ·rw[fH,e1]
 ·rw[lh,e1,e2]
 ·rw[lg,e1];exact rS e3 rv
 ·rw[<- e1,<- fH (zs:=zs) (c:=c) b r];exact h5
 ·unfold aI;split
  ·exact hl
  ·rw[List.length_append,List.length_singleton];left
 ·rintro h1 U1 ⟨F9,o',es'',f1,f2,f3,f4,f5⟩ kk;exact⟨F9,o',es'',f1,f2,f3,kk _ f4,f5⟩
theorem Ec:PE X (.Dict [] [] pos) (λ_ H Q=>∀p,H p=none->Q (.ref p) (upd H p (.ext (DO p [] [] [] 0)))):=λpins s σ H Q I h=>by
 have JY:sysModules<s.heap.objs.size:=abj (by decide) (show mainGlobals<s.heap.objs.size from(I.mod.glob.keeps I.bk).lt);refine wpAny_Dict_empty ⟨.ref s.heap.objs.size,_,I.laid (a:=s.heap.objs.size) (o:=.ext (DO s.heap.objs.size [] [] [] 0)) (t':=s.toks) (λ_ _ q=>aag _ q) (aai _) ?_,rfl,h _ (I.cQ.fresh (aai _))⟩;have hg:(s.heap.push { cls:=.type "dict",data:=.dict #[] }).get? s.heap.objs.size=some { cls:=.type "dict",data:=.dict #[] }:=aan _ rfl;refine⟨⟨[],_,#[],rfl,rfl,.nil,hg,⟨rfl,rfl,rfl⟩,rfl,rfl,aaQ,aaF _,beq_eq_false_iff_ne.mpr (aaC (aam JY))⟩,⟨_,hg⟩,?_⟩;rintro h1 U1 ⟨F9,o',es'',f1,f2,f3,f4,f5⟩ kk;exact⟨F9,o',es'',f1,f2,f3,kk _ f4,f5⟩
end
variable {N:gZ}{T:ka}
theorem dE{N':gZ}{k k':bq}{v:V}{d:D}(h:Rep T N k v d)(hf:aH anyF d=false):Rep T N' k' v d:=by
 have:=Rep.gen (T':=T) (N':=N') (g:=id) (P:=anyF) (C:=λ_ _=>True) (I:=λ_ _=>True) (λ_ _ h=>h) trivial (λ_ _ e=>e) (λ_ _ _ _ e _=>e) (λk k' p xs f _ hz _=>nomatch hz) h (k':=k') trivial hf;rw[dH]at this;exact this
theorem hZ{T:ka}{N:gZ}:∀{cs:ag} {k:bq} {n:Nat} {xs:ae} {ds:ab} (_:az T N k n xs ds) (c:aa),(bo cs xs c=none/\bo cs ds c=none)\/∃v d k',bo cs xs c=some v/\bo cs ds c=some d/\Rep T N k' v d/\d∈ds
 |[],_,_,_,_,_,_=>by cases ‹az _ _ _ _ _ _› <;> exact .inl ⟨rfl,rfl⟩
 |c'::cs,_,_,_,_,r,c=>by
  cases r with
  |nil=>exact .inl ⟨rfl,rfl⟩
  | @cons _ _ v d vs ds h t =>
   by_cases e:c'=c
   ·exact .inr ⟨v,d,_,aaN e,aaN e,h,aaf⟩
   ·have e1:∀{α:Type} (a:α) (l:List α),bo (c'::cs) (a::l) c=bo cs l c:=λa l=>abT e;rw[e1,e1];rcases hZ (cs:=cs) t c with h|⟨v',d',k',h1,h2,h3,h4⟩
    ·exact .inl h
    ·exact .inr ⟨v',d',k',h1,h2,h3,aad _ h4⟩
theorem kP{p:Fl->Bool}:∀{ds:ab},aL p ds=false->∀d∈ds,aH p d=false
 |[],_,_,h=>nomatch h
 |d::ds,h,d',hd=>by
  have h:=CM h;rcases List.mem_cons.mp hd with rfl|hd
  ·exact h.1
  ·exact kP h.2 d' hd
theorem sH{T:ka}{N:gZ}{c:aa}{v:V}{d:D}(hv:∀k,Rep T N k v d):∀{cs:ag} {k:bq} {n:Nat} {xs:ae} {ds:ab},az T N k n xs ds->az T N k n (setC cs xs c v) (setC cs ds c d)
 |[],_,_,_,_,r=>by cases r<;>exact .nil
 |c'::cs,_,_,_,_,r=>by
  cases r with
  |nil=>exact .nil
  |cons h t =>
   refine .cons ?_ (sH hv t);show Rep _ _ _ (if c'=c then v else _) (if c'=c then d else _);by_cases e:c'=c
   ·rw[if_pos e,if_pos e];exact hv _
   ·rw[if_neg e,if_neg e];exact h
theorem oR{T:ka}{N:gZ}{v:V}{d:D}(hv:∀k,Rep T N k v d):∀{k:bq} {n:Nat} {xs:ae} {ds:ab},az T N k n xs ds->az T N k n (xs++[v]) (ds++[d])
 |_,_,_,_,.nil=>.cons (hv _) .nil
 |_,_,_,_,.cons h t=>.cons h (oR hv t)
variable {ds xs:ab}
theorem sI{c:aa}{v:V}{d:D}(hv:∀k,Rep T N k v d){cs:ag}{k:bq}{n:Nat}{xs:ae}(r:az T N k n xs ds):az T N k n (bh cs xs c v) (bh cs ds c d):=by
 unfold bh;by_cases e:c∈cs
 ·rw[if_pos e,if_pos e];exact sH hv r
 ·rw[if_neg e,if_neg e];exact oR hv r
theorem Bb{as:aO}{cs:ag}(k:eL T as cs){b:Addr}{c:aa}(hb:T b (c.map V.int)):eL T (gG cs as c b) (aI cs c):=by
 unfold gG aI;by_cases e:c∈cs
 ·rw[if_pos e,if_pos e];exact k
 ·rw[if_neg e,if_neg e];refine⟨by rw[List.length_append,List.length_append,k.len];rfl,λj a c' ha hc=>?_⟩;by_cases hj:j<as.length
  ·rw[List.getElem?_append_left hj]at ha;rw[List.getElem?_append_left (by rw[<- k.len];exact hj)]at hc;exact k.tup j a c' ha hc
  ·rw[List.getElem?_append_right (by left)]at ha;rw[List.getElem?_append_right (by rw[<- k.len];left),<- k.len]at hc;cases hz:j - as.length with
   |zero =>
    rw[hz]at ha hc;cases ha;cases hc;exact hb
   |succ m=>rw[hz]at ha;cases ha
variable {F R:Addr->Prop}{H:Hp}{K:aq}{τ:Addr->Option bq}
theorem bT.newD{G:Addr->Prop}{fv:aQ}{H':Hp}{p:Addr}(hp:H p=none)(hl:H' p=some (.ext (DO p [] [] [] 0))):bT K G R τ fv H H' (.ref p) (.bV .ow [] []):=by
 refine⟨λq=>if q=p then some []else none,λq k hq=>?_,.bV (ep:=0) (as:=[]) (xs:=[]) ⟨hl,by simp⟩ ⟨rfl,λj a c h=>by simp at h⟩ .nil⟩;by_cases rM:q=p
 ·subst rM;exact hp
 ·simp[rM]at hq
noncomputable def xy(xs:ab):O D:=match xs with
 |[]=>ok (.bV .ow [] [])
 |_::_=>none
noncomputable def iO(_:Scope)(_:ak)(e:Expr):Option (au):=match e with
 |.Dict [] [] _=>some []
 |_=>none
variable {X:Cx}{args:au}{cs:aG}{Φ:a_}
theorem FA{n:Nat}(hΦ:Φ n=xy){sc:Scope}{bl:ak}{k:Nat}(L:PX X sc bl k){e:Expr}(he:iO sc bl e=some args)(hs:kg X F Φ cs args):PE X e (tD X F Φ (.bR n cs))/\PT X e (gh X F Φ (.bR n cs)):=by
 have h1:∃pos,e=.Dict [] [] pos/\args=[]:=by
  unfold iO at he;split at he
  ·cases he;exact⟨_,rfl,rfl⟩
  ·cases he
 obtain⟨pos,rfl,rfl⟩:=h1;cases cs with
 |cons _ _=>exact hs.elim
 |nil =>
  have this:PE X (.Dict [] [] pos) (tD X F Φ (.bR n [])):=by
   refine PE.imp (Ec (X:=X) (pos:=pos)) λσ H Q hq p hp=>?_;obtain⟨R,τ,ρ,d,Si,ev,hq⟩:=hq;have ev:Φ n []=ok d:=ev;rw[hΦ]at ev;cases ev;exact hq _ _ (aM.upd hp) (bT.newD hp aS)
  exact⟨this,cE this λ_=>rfl⟩
noncomputable def three{α:Type}:List α->Option (α×α×α)
 |[a,b,c]=>some (a,b,c)
 |_=>none
theorem mE{α:Type}{l:List α}{z:α×α×α}(h:three l=some z):l=[z.1,z.2.1,z.2.2]:=by
 unfold three at h;split at h
 ·cases h;rfl
 ·cases h
noncomputable def gm:D->Option (ag×ab)
 |.bV _ cs vs=>some (cs,vs)
 |_=>none
def keyOf:D->Option (aa)
 |.tup ks=>intsOf ks
 |_=>none
theorem j4{d:D}{z:ag×ab}(h:gm d=some z):∃f,d=.bV f z.1 z.2:=by
 cases d<;>first | (cases h;done) | (cases h;exact⟨_,rfl⟩)
theorem jV{d:D}{c:aa}(h:keyOf d=some c):d=.tup (c.map D.int):=by
 cases d<;>first | (cases h;done)|skip
 rw[c_ (show intsOf _=some c from h)]
def yX(xs:ab):O D:=match two xs with
 |some z=>match gm z.1 with
  |some d=>match keyOf z.2 with
   |some c=>match bo d.1 d.2 c with
    |some v=>if aH anyF v=false then ok v else none
    |none=>none
   |none=>none
  |none=>none
 |none=>none
theorem FC{r:D}(h:yX xs=ok r):∃f cs vs c,xs=[.bV f cs vs,.tup (c.map D.int)]/\bo cs vs c=some r/\aH anyF r=false:=by
 unfold yX at h;cases h1:two xs with
 |none=>rw[h1]at h;cases h
 |some z =>
  rw[h1]at h;have h:(match gm z.1 with|some d=>(match keyOf z.2 with|some c=>(match bo d.1 d.2 c with|some v=>if aH anyF v=false then ok v else none|none=>none)|none=>none)|none=>none)=ok r:=h;cases h2:gm z.1 with
  |none=>rw[h2]at h;cases h
  |some d =>
   rw[h2]at h;have h:(match keyOf z.2 with|some c=>(match bo d.1 d.2 c with|some v=>if aH anyF v=false then ok v else none|none=>none)|none=>none)=ok r:=h;cases h3:keyOf z.2 with
   |none=>rw[h3]at h;cases h
   |some c =>
    rw[h3]at h;have h:(match bo d.1 d.2 c with|some v=>if aH anyF v=false then ok v else none|none=>none)=ok r:=h;cases h4:bo d.1 d.2 c with
    |none=>rw[h4]at h;cases h
    |some v =>
     rw[h4]at h;obtain⟨hf,rfl⟩:=me (show(if aH anyF v=false then ok v else none)=ok r from h);obtain⟨f,e1⟩:=j4 h2;exact⟨f,d.1,d.2,c,by rw[fO h1,e1,jV h3],h4,hf⟩
def SA(K:aq):R2:=λx y H Q=>∃p b cs as xs ep c v,x=.ref p/\y=.ref b/\H p=some (.ext (DO p cs as xs ep))/\eL (aR K H) as cs/\aR K H b (c.map V.int)/\bo cs xs c=some v/\Q v H
theorem ED(hu:X.A.units+1<cLine):F4 X (SA X.K):=by
 intro value slice pins s σ H x y v u Q I rx ry h hs;obtain⟨p,b,cs,as,xs,ep,c,w,rfl,rfl,hp,hk,hb,hg,q⟩:=h;cases rx;cases ry;obtain⟨zs,o,es,e1,e2,e3,ho,hx,hd,dd,_,hl,Bt⟩:=qT I hp hk;have OM:=gd (cs:=cs) e3 c;rw[hg]at OM;obtain⟨u,qC,ru⟩:=kf.some_of OM;have:(atKey zs c).map (·.2)=some u:=by rw[fc,e1];exact qC
 obtain⟨q',T8,rfl⟩:=Option.map_eq_some_iff.mp this;exact abg (x:=q'.2) dd.typeIs PySem.F.slot_dict_getitem.lookup
  (wpAny_getItem_heap (Q:=λr s'=>r=q'.2/\EP X pins σ Q r s') (ab9 hu) (mW I hb) dd T8 ⟨rfl,w,H,I.tok _,ru,q⟩) hs
def kW(_:Scope)(_:ak)(e:Expr):Option (au):=match gU e with
 |some z=>some [z.1,z.2]
 |none=>none
theorem KW{n:Nat}(hΦ:Φ n=yX){sc:Scope}{bl:ak}{k:Nat}(L:PX X sc bl k){e:Expr}(he:kW sc bl e=some args)(hs:kg X F Φ cs args):PE X e (tD X F Φ (.bR n cs))/\PT X e (gh X F Φ (.bR n cs)):=by
 unfold kW at he;cases h1:gU e with
 |none=>rw[h1]at he;cases he
 |some z =>
  rw[h1]at he;cases he;obtain⟨pos,rfl⟩:=gw h1;obtain⟨⟨c1,c2,rfl,p1,p2⟩,_⟩:=fj hs;have this:PE X (.Subscript z.1 z.2 pos) (tD X F Φ (.bR n [c1,c2])):=by
   refine PE.imp (sR (ED (Bs L.room)) p1 p2 hs.2.2.2.2.2.1) λσ H Q hq=>?_;obtain⟨R,τ,ρ,d,Si,ev,hq⟩:=hq;obtain⟨xs,cc,ev⟩:=aB ev;rw[hΦ]at ev;obtain⟨f,cs,vs,c,rfl,hg,hf⟩:=FC ev;obtain⟨x,ex,cc⟩:=aB cc;obtain⟨ys,nr,cc⟩:=aB cc;obtain⟨y,ey,Fh⟩:=aB nr;cases Fh;cases cc;refine tD.intro Si ex λv H1 e1 r1=>tD.intro (Si.go e1) ey λu H2 e2 r2=>?_;obtain⟨τ1,f1,q1⟩:=r1;obtain⟨τ2,f2,q2⟩:=r2;cases q1 with
   |bV hn hk hr=>cases q2 with
    |tup ht Ox =>
     cases Ox.ofInts;rcases hZ hr c with ⟨_,hz⟩|⟨w,d',k',g1,g2,g3,_⟩
     ·rw[hg]at hz;cases hz
     ·rw[hg]at g2;cases g2;refine⟨_,_,_,_,_,_,c,w,rfl,rfl,e2 _ _ hn.dat,hk.imp λ_ _ h=>aR.same e2 h,ht,g1,hq w H2 (e1.trans e2) ⟨λ_=>none,λ_ _ h=>by simp at h,?_⟩⟩;exact(dE (N':=nd X.K R (iY (gP X F) τ (gR (.bR n [c1,c2]))) (λ_=>none) H1) (k':=[]) g3 hf).imp (λ_ _ h=>aR.same e2 h) λ_ _ _ _ h=>nd.same e2 h
  exact⟨this,cE this λ_=>rfl⟩
def pC(xs:ab):O D:=match three xs with
 |some z=>match gm z.1 with
  |some d=>match keyOf z.2.1 with
   |some c=>if aL anyF d.2=false/\aH anyF z.2.2=false then ok ((bo d.1 d.2 c).getD z.2.2)else none
   |none=>none
  |none=>none
 |none=>none
theorem Cb{r:D}(h:pC xs=ok r):∃f cs vs c x,xs=[.bV f cs vs,.tup (c.map D.int),x]/\aL anyF vs=false/\aH anyF x=false/\r=(bo cs vs c).getD x:=by
 unfold pC at h;cases h1:three xs with
 |none=>rw[h1]at h;cases h
 |some z =>
  rw[h1]at h;have h:(match gm z.1 with|some d=>(match keyOf z.2.1 with|some c=>if aL anyF d.2=false/\aH anyF z.2.2=false then ok ((bo d.1 d.2 c).getD z.2.2)else none|none=>none)|none=>none)=ok r:=h;cases h2:gm z.1 with
  |none=>rw[h2]at h;cases h
  |some d =>
   rw[h2]at h;have h:(match keyOf z.2.1 with|some c=>if aL anyF d.2=false/\aH anyF z.2.2=false then ok ((bo d.1 d.2 c).getD z.2.2)else none|none=>none)=ok r:=h;cases h3:keyOf z.2.1 with
   |none=>rw[h3]at h;cases h
   |some c =>
    rw[h3]at h;obtain⟨⟨hf,hx⟩,rfl⟩:=me (show(if aL anyF d.2=false/\aH anyF z.2.2=false then ok ((bo d.1 d.2 c).getD z.2.2)else none)=ok r from h);obtain⟨f,e1⟩:=j4 h2;exact⟨f,d.1,d.2,c,z.2.2,by rw[mE h1,e1,jV h3],hf,hx,rfl⟩
def iP(_:Scope)(_:ak)(e:Expr):Option (au):=match i4 ("get" : Str) (.Expr e ⟨0,0,0,0⟩)with
 |some z=>match two z.2 with
  |some y=>if isNm z.1=true then some [z.1,y.1,y.2]else none
  |none=>none
 |none=>none
theorem nJ{sc:Scope}{bl:ak}{e:Expr}(h:iP sc bl e=some args):∃x p p1 p2 a b,e=.Call (.Attribute (.Name x p) ("get" : Str) p1) [a,b] [] p2/\args=[.Name x p,a,b]/\(p1.endLine==p2.line)=true:=by
 unfold iP at h;cases h1:i4 ("get" : Str) (.Expr e ⟨0,0,0,0⟩)with
 |none=>rw[h1]at h;cases h
 |some z =>
  obtain⟨o,as⟩:=z;rw[h1]at h;have h2:(match two as with|some y=>if isNm o=true then some [o,y.1,y.2]else none|none=>none)=some args:=h;clear h;cases h3:two as with
  |none=>rw[h3]at h2;cases h2
  |some y =>
   rw[h3]at h2;have h4:(if isNm o=true then some [o,y.1,y.2]else none)=some args:=h2;clear h2;by_cases hn:isNm o=true
   ·rw[if_pos hn]at h4;cases h4;obtain⟨p1,p2,pos,e1,hl⟩:=jD h1;cases e1;cases o<;>first | (cases hn;done)|skip
    rw[fO h3];exact⟨_,_,_,_,_,_,rfl,rfl,hl⟩
   ·rw[if_neg hn]at h4;cases h4
theorem yp{x:Str}{p p1 p2:Pos}{a b:Expr}{td:TE}{ta:TA}(hu:X.A.units+1<cLine)(ho:PE X (.Name x p) td)(ha:PA X [a,b] ta)(s1:∀es,starEach (a::es) X.env=(false,eval a X.env)::starEach es X.env)(s2:∀es,starEach (b::es) X.env=(false,eval b X.env)::starEach es X.env)(hl:(p1.endLine==p2.line)=true):
  PE X (.Call (.Attribute (.Name x p) ("get" : Str) p1) [a,b] [] p2) (λσ H Q=>td σ H λv H1=>∃q cs as xs ep,v=.ref q/\H1 q=some (.ext (DO q cs as xs ep))/\ta σ H1 λys H2=>∃k c z,ys=[.ref k,z]/\H2 q=some (.ext (DO q cs as xs ep))/\eL (aR X.K H2) as cs/\aR X.K H2 k (c.map V.int)/\Q ((bo cs xs c).getD z) H2):=by
 intro pins s σ H Q I h;refine acg rfl (by rw[s1,s2];rfl) hl abz abk PySem.F.type_dict_get (cJ (ho pins s σ H _ I h) λu MW bL=>?_);obtain⟨v,H1,I1,rx,q,cs,as,xs,ep,ex,hd,q1⟩:=bL;subst ex;obtain rfl:u=Value.ref q:=rx;obtain⟨t1,t2⟩:=dict_cls I1 hd;refine⟨t1,t2,?_⟩;have hA:=ha p2 pins MW σ H1 _ I1 q1;rw[s1]at hA ⊢;refine aa1 (by show(false||(backTo p2 (starEach [b] X.env)).any (·.1))=false;rw[s2];rfl) (abl ?_);refine cJ hA λus s3 bL=>?_;obtain⟨ys,H2,I2,r2,k,c,z,ey,hd2,hk,hb,q2⟩:=bL;subst ey;obtain⟨w1,w2,rfl,MX,Lq⟩:=vals2 r2;cases MX;exact FE hu I2 hd2 hk hb Lq λw' s4 I4 gy=>⟨_,H2,I4,gy,q2⟩
theorem FD{n:Nat}(hΦ:Φ n=pC){sc:Scope}{bl:ak}{k:Nat}(L:PX X sc bl k){e:Expr}(he:iP sc bl e=some args)(hs:kg X F Φ cs args):PE X e (tD X F Φ (.bR n cs))/\PT X e (gh X F Φ (.bR n cs)):=by
 obtain⟨x,p,p1,p2,a,b,rfl,rfl,hl⟩:=nJ he;cases cs with
 |nil=>exact hs.elim
 |cons c0 cs =>
  obtain⟨h0,_,_,yE⟩:=hs;obtain⟨⟨c1,c2,rfl,_,_⟩,pa,s1,s2⟩:=fj yE;have this:PE X (.Call (.Attribute (.Name x p) ("get" : Str) p1) [a,b] [] p2) (tD X F Φ (.bR n [c0,c1,c2])):=by
   refine PE.imp (yp (Bs L.room) h0 pa s1 s2 hl) λσ H Q hq=>?_;obtain⟨R,τ,ρ,d,Si,ev,hq⟩:=hq;obtain⟨xs,cc,ev⟩:=aB ev;rw[hΦ]at ev;obtain⟨f,cs,vs,c,y,rfl,hf,hy,rfl⟩:=Cb ev;obtain⟨x0,ex,cc⟩:=aB cc;obtain⟨ys,nr,cc⟩:=aB cc;cases cc;refine tD.intro Si ex λv H1 e1 r1=>?_;obtain⟨τ1,f1,q1⟩:=r1;cases q1 with
   |bV hn hk hr =>
    refine⟨_,_,_,_,_,rfl,hn.dat,R,τ,ρ,_,Si.go e1,nr,λus H2 e2 r2=>?_⟩;obtain⟨τ2,f2,q2⟩:=r2;obtain⟨u1,u2,rfl,Sl,MY⟩:=q2.two;obtain⟨_,_,rfl,ht,Ox⟩:=Sl.x8;cases Ox.ofInts;refine⟨_,c,u2,rfl,e2 _ _ hn.dat,hk.imp λ_ _ h=>aR.same e2 h,ht,?_⟩;refine hq _ H2 (e1.trans e2) ⟨λ_=>none,λ_ _ h=>by simp at h,?_⟩;rcases hZ hr c with ⟨g1,g2⟩|⟨w,d',k',g1,g2,g3,g4⟩
    ·rw[g1,g2];exact dE (T:=aR X.K H2) MY hy
    ·rw[g1,g2];exact(dE (N':=nd X.K R (iY (gP X F) τ (gR (.bR n [c0,c1,c2]))) (λ_=>none) H1) (k':=[]) g3 (kP hf _ g4)).imp (λ_ _ h=>aR.same e2 h) λ_ _ _ _ h=>nd.same e2 h
  exact⟨this,cE this λ_=>rfl⟩
def pA(xs:ab):O D:=match three xs with
 |some z=>match z.1 with
  |.bV f cs vs=>match keyOf z.2.2 with
   |some c=>if bX f=true/\aH anyF z.2.1=false/\cs.length<cg then ok (.bV .ow (aI cs c) (bh cs vs c z.2.1))else none
   |none=>none
  |_=>none
 |none=>none
theorem tT{d:D}{r:D}(h:pA (d::xs)=ok r):∃cs vs c x,d=.bV .ow cs vs/\xs=[x,.tup (c.map D.int)]/\aH anyF x=false/\cs.length<cg/\r=.bV .ow (aI cs c) (bh cs vs c x):=by
 unfold pA at h;cases h1:three (d::xs)with
 |none=>rw[h1]at h;cases h
 |some z =>
  rw[h1]at h;have e0:=mE h1;obtain⟨d',x,y⟩:=z;obtain⟨rfl,rfl⟩:d=d'/\xs=[x,y]:=abb e0;cases d<;>first | (cases h;done)|skip
  rename_i f cs vs;have h:(match keyOf y with|some c=>if bX f=true/\aH anyF x=false/\cs.length<cg then ok (D.bV .ow (aI cs c) (bh cs vs c x))else none|none=>none)=ok r:=h;cases h3:keyOf y with
  |none=>rw[h3]at h;cases h
  |some c =>
   rw[h3]at h;obtain⟨⟨hf,hx,hl⟩,rfl⟩:=me (show(if bX f=true/\aH anyF x=false/\cs.length<cg then ok (D.bV .ow (aI cs c) (bh cs vs c x))else none)=ok r from h);cases f<;>first | (cases hf;done)|exact⟨cs,vs,c,x,rfl,by rw[jV h3],hx,hl,rfl⟩
def iN(_:Scope)(_:ak)(st:Stmt):Option (Expr×au):=match x_ st with
 |some z=>match one z.1 with
  |some t=>match gU t with
   |some y=>some (y.1,[z.2,y.2])
   |none=>none
  |none=>none
 |none=>none
variable {o tg value:Expr}{st:Stmt}
theorem nI{sc:Scope}{bl:ak}(h:iN sc bl st=some (o,args)):∃v i pos' pos,st=.Assign [.Subscript o i pos'] v pos/\args=[v,i]:=by
 unfold iN at h;cases h1:x_ st with
 |none=>rw[h1]at h;cases h
 |some z =>
  obtain⟨ts,v⟩:=z;rw[h1]at h;have h2:(match one ts with|some t=>(match gU t with|some y=>some (y.1,[v,y.2])|none=>none)|none=>none)=some (o,args):=h;clear h;cases h3:one ts with
  |none=>rw[h3]at h2;cases h2
  |some t =>
   rw[h3]at h2;have h4:(match gU t with|some y=>some (y.1,[v,y.2])|none=>none)=some (o,args):=h2;clear h2;cases h5:gU t with
   |none=>rw[h5]at h4;cases h4
   |some y =>
    rw[h5]at h4;cases h4;obtain⟨pos,rfl⟩:=lV h1;obtain rfl:=cf h3;obtain⟨p,rfl⟩:=gw h5;exact⟨_,_,_,_,rfl,rfl⟩
mutual
theorem any_map(g:Fl->Fl):∀d:D,aH anyF (aU g d)=aH anyF d
 |.cw=>rfl
 |.bl _=>rfl
 |.int _=>rfl
 |.tup ds=>uh g ds
 |.lst _ ds=>rfl
 |.bV _ _ ds=>rfl
 |.cL _ _ ds=>rfl
theorem uh(g:Fl->Fl):∀ds:ab,aL anyF (aA g ds)=aL anyF ds
 |[]=>rfl
 |d::ds=>by show(aH _ _||aL _ _)=(aH _ d||aL _ ds);rw[any_map g d,uh g ds]
end
mutual
theorem jq:∀d:D,aH anyF d=false->aH bp d=false
 |.cw,_=>rfl
 |.bl _,_=>rfl
 |.int _,_=>rfl
 |.tup ds,h=>xY ds h
 |.lst _ ds,h=>nomatch h
 |.bV _ _ ds,h=>nomatch h
 |.cL _ _ ds,h=>nomatch h
theorem xY:∀ds:ab,aL anyF ds=false->aL bp ds=false
 |[],_=>rfl
 |d::ds,h=>by
  have h:=CM h;show(aH _ d||aL _ ds)=false;rw[jq d h.1,xY ds h.2];rfl
end
theorem any_ints:∀c:aa,aL anyF (c.map D.int)=false
 |[]=>rfl
 |i::c=>any_ints c
theorem zX{i:Expr}{l:Nat}{env:Env}:swapsWith value (some (.Subscript o i pos')) l env=pure false:=by
 unfold swapsWith;cases value<;>rfl
theorem Ar{x:Str}{p0:Pos}{i:Expr}{tv to ti:TE}(hu:X.A.units+1<cLine)(hv:PE X value tv)(ho:PE X (.Name x p0) to)(hi:PE X i ti):
  PS X (.Assign [.Subscript (.Name x p0) i pos'] value pos) (λD σ H=>tv σ H λv H1=>to σ H1 λo H2=>ti σ H2 λy H3=>∃q b cs as xs ep c,o=.ref q/\y=.ref b/\H3 q=some (.ext (DO q cs as xs ep))/\eL (aR X.K H3) as cs/\aR X.K H3 b (c.map V.int)/\cs.length<sizeLine /\
   ∀gu,D.nx σ (upd H3 q (.ext (DO q (aI cs c) (gG cs as c b) (bh cs xs c v) gu)))):=by
 intro pins s σ H D I h;refine wpAny_Assign_Subscript (cJ (hv pins s σ H _ I h) λr s1 ⟨v,H1,I1,rv,q1⟩=>cJ (ho pins s1 σ H1 _ I1 q1) λu s2 ⟨o,H2,I2,rx,q2⟩=>cJ (hi pins s2 σ H2 _ I2 q2) λiv s3 bL=>?_) zX;obtain⟨y,H3,I3,ry,q,b,cs,as,xs,ep,c,eo,ey,hd,hk,hb,hl,q3⟩:=bL;subst eo ey;obtain rfl:u=Value.ref q:=rx;obtain rfl:iv=Value.ref b:=ry;exact vD hu I3 hd hk hb rv hl λgu s4 I4=>⟨σ,_,I4,q3 gu⟩
variable {ρ:ba}{σ:L2.St}
theorem SI.Nz{i:Nat}{cs:ag}(Si:SI X F R τ ρ σ H)(hi:ρ[i]?=some (some (.bV .ow cs ds))):
  ∃p as xs ep,σ[i]?=some (some (.ref p))/\H p=some (.ext (DO p cs as xs ep))/\τ p=some [i]/\eL (aR X.K H) as cs/\az (aR X.K H) (nd X.K R (λ_=>False) τ H) [i] 0 xs ds:=by
 obtain⟨v,hv,rp⟩:=Si.rep i _ hi;cases rp with
 |bV h k r=>exact⟨_,_,_,_,hv,h.1,h.2,k,r⟩
theorem Fy{n:Nat}(hΦ:Φ n=pA){sc:Scope}{bl:ak}{k:Nat}(L:PX X sc bl k)(hN:X.N.Nodup)(qI:∀x,X.fn x=true){x:Str}(he:iN sc bl st=some (.Name x pos,args))
  {i:Nat} (hi:X.N[i]?=some x) (hl:L2.Loc X.env.scope x) (pe:PE X (.Name x pos) (n9 i)) (hs:kg X F Φ cs args):PS X st (km X F Φ (.mut n i cs)):=by
 obtain⟨v,ix,p1,p2,rfl,rfl⟩:=nI he;obtain⟨⟨c1,c2,rfl,h1,h2⟩,_⟩:=fj hs;refine PS.imp (Ar (Bs L.room) h1 pe h2) λD σ H hq=>?_;obtain⟨R,τ,ρ,r,Si,ev,hq⟩:=hq;obtain⟨xs,cc,ev⟩:=aB ev;obtain⟨y,ey,cc⟩:=aB cc;obtain⟨ys,nr,cc⟩:=aB cc;cases cc;obtain⟨kd,ek,Fh⟩:=aB nr;cases Fh;have key:∃cs vs c,kd=.tup (c.map DI.D.int)/\ρ[i]?=some (some (.bV .ow cs vs))/\aH anyF y=false/\cs.length<cg/\r=(.nx,ρ.set i (some (.bV .ow (aI cs c) (bh cs vs c y)))):=by
  cases hz:aL bp [y,kd]with
  |true =>
   obtain⟨d,d',h⟩:=qi ev hz;rw[hΦ]at h;obtain⟨cs,vs,c,x',_,e1,e2,_⟩:=tT h;have e3:aU aV y=x'/\aU aV kd=.tup (c.map DI.D.int):=by
    have:=abb e1;exact⟨this.1,(abb this.2).1⟩
   have a1:aH bp y=false:=jq y (by rw[<- any_map aV y,e3.1];exact e2);have a2:aH bp kd=false:=jq kd (by rw[<- any_map aV kd,e3.2];exact any_ints c);have:aL bp [y,kd]=false:=by show(aH bp y||(aH bp kd||false))=false;rw[a1,a2];rfl
   rw[this]at hz;cases hz
  |false =>
   obtain⟨d,d',h,h',rfl⟩:=l9 ev hz;rw[hΦ]at h';obtain⟨cs,vs,c,x',rfl,e1,e2,e3,rfl⟩:=tT h';cases e1;exact⟨cs,vs,c,rfl,h,e2,e3,rfl⟩
 obtain⟨cs,vs,c,rfl,ho,hf,hc,rfl⟩:=key;obtain⟨p,as,zs,ep,hv,hd,ht,hk,rs⟩:=Si.Nz ho;refine tD.intro Si ey λu H1 e1 ru=>⟨.ref p,hv,tD.intro (Si.go e1) ek λw H2 e2 gy=>?_⟩
 obtain⟨τ1,f1,q1⟩:=ru;obtain⟨τ2,f2,q2⟩:=gy;cases q2 with
 | @tup _ b _ _ hb Ox =>
  cases Ox.ofInts;have es:=e1.trans e2;have lC:=Si.go es;have hd2:=es _ _ hd;have lQ:cg=1000000:=rfl;have hz:sizeLine=16777216:=aaP;refine⟨p,b,cs,as,zs,ep,c,rfl,rfl,hd2,hk.imp λ_ _ h=>aR.same es h,hb,by left,λgu=>?_⟩;have hn:dN H2 p (.d cs as zs ep):=hd2;have rk:gn X R τ H2 u y:=jL ((dE (N':=nd X.K R (λ_=>False) τ H1) (k':=[]) q1 hf).imp (λ_ _ h=>aR.same e2 h) λ_ _ _ _ h=>nd.same e2 h) hf;obtain⟨p',Rq,F9,ZF,GV,CT,WB,CQ,oq⟩:=lC.Nz ho;rw[hv]at GV;cases GV;rw[hd2]at CT;obtain⟨τ3,oD⟩:=lC.Iu (m:=0) (n':=.d (aI cs c) (gG cs as c b) (bh cs zs c u) gu) (o:=.ext (DO p (aI cs c) (gG cs as c b) (bh cs zs c u) gu)) (d1:=.bV .ow (aI cs c) (bh cs vs c y)) (xs':=bh cs zs c u) (ds':=bh cs vs c y) ho hv hn ht (rs.imp (λ_ _ h=>aR.same es h) λ_ _ _ _ h=>nd.same es h) rk aS
   (λhN r=>.bV hN (Bb ((hk.imp λ_ _ h=>aR.same es h).imp λ_ _ h=>hJ hn h) (hJ hn hb)) r) (λrs r=>sI (λk=>dE r hf) rs)
  exact hq σ _ R τ3 oD (gC lC es (λ_ h=>h) hn ht)
variable {P:aF}{w:World}
theorem Ja{h:Heap}{a:Addr}{o:HO}(x:cD P w H h a o):∃u,h.get? a=some u:=by
 cases o with
 |lst xs=>obtain⟨_,_,_,_,e⟩:=x;exact⟨_,e⟩
 |tup xs=>obtain⟨_,_,_,o,e,_⟩:=x;exact⟨_,e⟩
 |dK mV=>obtain⟨_,_,_,_,o,_,_,e,_⟩:=x;exact⟨_,e⟩
 |dT mV=>obtain⟨_,_,_,_,o,_,_,e,_⟩:=x;exact⟨_,e⟩
 |set S n=>obtain⟨o,_,_,_,e,_⟩:=x;exact⟨_,e⟩
 |ins C dx fs=>obtain⟨_,_,_,e,_⟩:=x;exact⟨_,e⟩
 |own y=>exact x
 |xd fs=>obtain⟨_,⟨o,_,_,e,_⟩,_⟩:=x;exact⟨_,e⟩
 |kn lo hi=>obtain⟨_,_,_,e⟩:=x;exact⟨_,e⟩
 |gY o u=>exact⟨_,x.1⟩
 |Gg ps=>exact⟨_,x⟩
 |met f y=>exact⟨_,x⟩
 |ext φ=>exact x.2.1
theorem Inv.N7{pins:aj}{s:Shared}{t':Nat}{a:Addr}{o:HO}(I:Inv X pins σ H s)(k:∀b u,s.heap.get? b=some u->h'.get? b=some u)(ha:s.heap.get? a=none)(new:cD X.prog X.w (upd H a o) h' a o):
  H a=none/\Inv X pins σ (upd H a o) { s with heap:=h',toks:=t' }:=by
 have hn:H a=none:=by
  cases q:H a with
  |none=>rfl
  |some u =>
   obtain⟨z,hz⟩:=Ja (I.cQ a u q);rw[ha]at hz;exact nk hz
 have up:∀b u,H b=some u->upd H a o b=some u:=λb u e=>by rw[aW (cx e hn)];exact e
 refine⟨hn,I.step (g':=s.gens) (d':=s.drawn) (ch:=[]) (λb hb=>nomatch hb) (λb o _ _ _ e _=>k b o e) (λb o _ _ _ e _=>⟨o.slots,k b o e⟩) (λb u _ e n=>?_)
  (λb o _ e=>⟨o,k b o e⟩) (λ_ _ e=>up _ _ e) (λ_ _ _ e=>up _ _ e) (λb ps e=>⟨#[],by rw[up _ _ e];simp⟩) (λm hm=>?_) (λb u e=>?_) I.bare⟩
 ·rw[aW λz=>by rw[z,ha]at e;cases e];exact n
 ·obtain⟨o,es,ep,ho,r⟩:=hm;exact⟨o,es,ep,k _ o ho,r⟩
 ·by_cases z:b=a
  ·subst z;rw[aS]at e;cases e;exact new
  ·rw[aW z]at e;exact(I.cQ b u e).jJ (λc v _ q=>k c v q) (λ_ q=>up _ _ q) λ_ _ q=>up _ _ q
section
variable {X:Cx}{pins:aj}{σ:St}{H:Hp}{s:Shared}{d:Addr}{cs:ag}{as:aO}{xs:ae}{ep:Nat}
theorem p9(I:Inv X pins σ H s)(h:H d=some (.ext (DO d cs as xs ep))):∃es:Array DictEntry,rJ s.heap d es ep/\es.size=as.length/\es.toList.map (·.key)=as.map Value.ref/\cs.Nodup/\as.length=cs.length/\(d==sysModules)=false:=by
 obtain⟨⟨zs,o,es,e1,e2,e3,ho,hx,hd,he,hn,hl,hs⟩,_⟩:=(show cD X.prog X.w H s.heap d (.ext (DO d cs as xs ep)) from I.cQ d _ h)
 refine⟨es,⟨o,ho,hx,hd⟩,?_,?_,hn,?_,hs⟩
 ·rw[<- Array.length_toList,he,<- e2,List.length_map,List.length_map]
 ·rw[he,<- e2,List.map_map,List.map_map];rfl
 ·rw[<- e1,<- e2,List.length_map,List.length_map]
noncomputable def Xv(d:Addr)(cs:ag)(as:aO)(xs:ae)(ep:Nat):It :=
 ⟨λi H=>H d=some (.ext (DO d cs as xs ep))/\i<as.length,λi H v H'=>H'=H/\∃a,as[i]?=some a/\v=.ref a,λi H=>H d=some (.ext (DO d cs as xs ep))/\as.length<=i⟩
theorem yc(d it:Addr)(cs:ag)(as:aO)(xs:ae)(ep:Nat):Turn P w K tg (Xv d cs as xs ep) [it] it (λi h=>h.IsKeyIter it d i as.length ep) where
 mem:=by simp
 obj:=λi h st b hb=>by
  have e:b=it:=by simpa using hb
  subst e;obtain⟨o,e,c,d⟩:=st;exact⟨o,e,λv z=>by rw[d]at z;cases z⟩
 keep:=λi h h' st k=>st.at λo e=>k it (by simp) o e
 item:=by
  intro X hP hw hK hc i pins s σ H E I hf st hg;subst hP hw hK;obtain⟨hd,hi⟩:=hg;obtain⟨es,hr,hz,lz,_⟩:=p9 I hd;obtain⟨f0,f1,f2,f3,f4,f5⟩:=hf it (by simp);have mf:i<es.size:=by rw[hz];exact hi
  have vm:es[i].key=.ref as[i]:=by
   have:=aaJ (λl=>l[i]?) lz;simp only[List.getElem?_map,Array.getElem?_toList]at this;rw[Array.getElem?_eq_getElem mf,List.getElem?_eq_getElem hi]at this;exact aap this
  rw[<- hz]at st;refine xA st hr mf λh' lH sb=>?_;have I1:Inv X pins σ H { s with heap:=h' }:=I.turned (t':=s.toks) (λb o hb e=>(sb.2 b hb).trans e) f0 f1 f3 f4 f5;obtain⟨o,e,c,d'⟩:=id lH;refine⟨_,rfl,xh (s:={ s with heap:=h' }) e c d' (by decide) ⟨.ref as[i],H,I1,by rw[vm];rfl,⟨rfl,as[i],aal hi,rfl⟩,?_,λb hb=>(hf b hb).1⟩⟩;rw[hz]at lH;exact lH
 done:=by
  intro X hP hw hK hc i pins s σ H E I hf st hg;subst hP hw hK;obtain⟨hd,hi⟩:=hg;obtain⟨es,hr,hz,lz,_⟩:=p9 I hd;obtain⟨f0,f1,f2,f3,f4,f5⟩:=hf it (by simp);rw[<- hz]at st;exact B_ (I.ok.hd hc) st hr (by rw[hz];exact hi) λh' eb=>⟨rfl,I.turned (t':=s.toks) (λb o hb e=>eb b o hb e) f0 f1 f3 f4 f5⟩
 self:=λ_ _ _ _ _ st h=>wpAny_pyIter_keyiter st h
end
def nE(xs:ab):O D:=match one xs with
 |some d=>match gm d with
  |some z=>ok (.lst .ow (z.1.map cK))
  |none=>none
 |none=>none
theorem yW{r:D}(h:nE xs=ok r):∃f cs vs,xs=[.bV f cs vs]/\r=.lst .ow (cs.map cK):=by
 unfold nE at h;cases h1:one xs with
 |none=>rw[h1]at h;exact nk h
 |some d =>
  rw[h1]at h;have h:(match gm d with|some z=>ok (D.lst .ow (z.1.map cK))|none=>none)=ok r:=h;cases h2:gm d with
  |none=>rw[h2]at h;exact nk h
  |some z =>
   rw[h2]at h;cases h;obtain⟨f,e⟩:=j4 h2;exact⟨f,z.1,z.2,by rw[cf h1,e],rfl⟩
theorem cT(g:Fl->Fl):∀cs:ag,aA g (cs.map cK)=cs.map cK
 |[]=>rfl
 |c::cs=>by
  show aU g (cK c)::aA g (cs.map cK)=_;rw[cT g cs];have:∀c:aa,aA g (c.map D.int)=c.map D.int:=λc=>by
   induction c with
   |nil=>rfl
   |cons i c ih=>show D.int i::aA g (c.map D.int)=_;rw[ih];rfl
  show D.tup (aA g (c.map D.int))::_=_;rw[this];rfl
theorem wg{k:bq}{a:Addr}{c:aa}(h:T a (c.map V.int)):Rep T N k (.ref a) (cK c):=.tup h (az.ints c)
def Cn(_:Scope)(_:ak)(e:Expr):Option (au):=if isNm e=true then some [e]else none
theorem B8{n:Nat}(hΦ:Φ n=nE){sc:Scope}{bl:ak}{k:Nat}(L:PX X sc bl k){e:Expr}(he:Cn sc bl e=some args)(ht:(decide (1100<=n)||fQ tg)=true)(hs:kg X F Φ cs args)
  {pins:aj} {s:Shared} {d:D} {items:ab} (I:Inv X pins σ H s) (Si:SI X F R τ ρ σ H) (cc:cz Φ cs ρ=ok xs) (ed:Φ n xs=ok d) (ei:kF d=ok items) (Rr:It->Hp->Prop)
  (hR:∀J H2 vs,aM H H2->cv X.K (gP X F) R τ (cW cs) H H2 vs xs->Hi X.K J H2 vs xs items->Rr J H2) :
  wpAny (model X.prog X.w) X.A (eval e X.env) (λv s1=>wpAny (model X.prog X.w) X.A (pyIter v) (zp X pins σ tg Rr) X.xe s1) X.xe s:=by
 unfold Cn at he;by_cases hn:isNm e=true
 ·rw[if_pos hn]at he;cases he;cases cs with
  |nil=>exact hs.elim
  |cons c cs=>cases cs with
   |cons _ _=>exact hs.2.2.2.elim
   |nil =>
    rw[hΦ]at ed;obtain⟨f,ks,vs,rfl,rfl⟩:=yW ed;cases ei;obtain⟨x,ex,cc⟩:=aB cc;cases cc;refine cJ (hs.1 pins s σ H _ I (tD.intro Si ex (Q:=λv H1=>aM H H1/\bT X.K (gP X F) R τ (gR c) H H1 v (.bV f ks vs)) λv H1 e1 r1=>⟨e1,r1⟩)) λu s1 bL=>?_;obtain⟨v,H1,I1,rv,e1,r1⟩:=bL;obtain⟨τt,fr,q1⟩:=id r1;cases q1 with
    | @bV _ p _ as ys ep _ _ zk hk hr =>
     cases rv;have hd:=zk.dat;obtain⟨es,JJ,hz,lz,OG,hlen,Bt⟩:=p9 I1 hd;refine xB Bt JJ ?_;have hb:s1.heap.objs.size<=s1.heap.objs.size:=aai _;refine⟨s1.heap.objs.size,[s1.heap.objs.size],_,Xv p ks as ys ep,H1,rfl,I1.kept (t':=s1.toks) (λb o e=>aag _ e),yc p s1.heap.objs.size ks as ys ep,⟨_,aan _ rfl,rfl,by rw[hz];rfl⟩,λb hb=>?_,hR _ H1 [.ref p] e1 (cv.cons e1 (aM.refl _) (r1.mono λj hj=>aaA _ hj) ⟨λ_=>none,λ_ _ h=>by simp at h,.nil⟩) ?_⟩
     ·have:b=s1.heap.objs.size:=by simpa using hb
      subst this;exact I1.yQ (aai _) (I1.cQ.fresh (aai _))
     ·rw[cT];have jJ:∀H',pM X.K H1 [.ref p] [.bV f ks vs] H'->H' p=some (.ext (DO p ks as ys ep)):=λH' st=>by
       obtain⟨R0,So,hl⟩:=st.n0;cases So with
       |cons h0 _=>cases h0 with
        |bV h1 _ _ =>
         cases f with
         |sc=>exact h1.elim
         |ow=>exact hl p _ h1.2 hd
         |fz=>exact hl p _ h1.2 hd
         |al=>exact hl p _ h1.2 hd
      refine⟨λi H' R' st rs hi=>⟨jJ H' st,by rw[List.length_map]at hi;left⟩,λi H' R' x lF st rs hi hy=>?_,λi H' R' st rs hi=>⟨jJ H' st,by rw[List.length_map]at hi;left⟩⟩;obtain⟨rfl,a,ha,rfl⟩:=hy;rw[List.length_map]at hi;refine⟨aM.refl _,cK ks[i],by rw[List.getElem?_map,List.getElem?_eq_getElem hi];rfl,wg (st.tp _ _ (hk.tup i a _ ha (aal hi)))⟩
 ·rw[if_neg hn]at he;cases he
theorem vH(hc:X.calm=true)(hu:X.A.units+2<cLine):fN X (.builtin "sorted") (λxs H Q=>∃(d:Addr) (cs:ag) (as:aO) (ys:ae) (ep:Nat),xs=[.ref d]/\H d=some (.ext (DO d cs as ys ep))/\eL (aR X.K H) as cs/\cs.length<64 /\
  ∀(l:Addr) (bs:aO),H l=none->eL (aR X.K H) bs (bc cs)->Q (.ref l) (upd H l (.lst (bs.map V.ref)))):=by
 intro pins s σ H xs us Q I r h;obtain⟨d,cs,as,ys,ep,rfl,hd,hk,rN,q⟩:=h;obtain⟨u,rfl,ru⟩:=r.one;cases ru;obtain⟨es,JJ,hz,lz,OG,hlen,Bt⟩:=p9 I hd;have ht:oB s.heap (es.toList.map (·.key)) cs:=by
  rw[lz];refine⟨by rw[List.length_map,hlen],λi ns e=>?_⟩;have hi:i<as.length:=by rw[hlen];exact(List.getElem?_eq_some_iff.mp e).1
  obtain⟨EC,rj,ij,_⟩:=I.tuple (hk.tup i as[i] ns (aal hi) e);exact⟨as[i],EC,by rw[List.getElem?_map,List.getElem?_eq_getElem hi];rfl,ij,dI rj⟩
 refine sf (I.ok.hd hc) hu Bt JJ (by rw[hz,hlen];exact rN) OG ht λS h' tk e p hS LM hp hs hl=>?_;rw[lz]at hl;have T_:(p.toList.map λi=>(as.map Value.ref).getD i Value.none)=(p.toList.map λi=>as.getD i 0).map Value.ref:=by
  rw[List.map_map];refine aak λi hi=>?_;have mf:i<as.length:=by
   have:=List.mem_range.mp (hp.pm.mem_iff.mp hi);left
  simp[mf]
 rw[T_]at hl;have UH:eL (aR X.K H) (p.toList.map λi=>as.getD i 0) (bc cs):=by
  rw[<- hs];refine⟨by simp,λj a c h1 h2=>?_⟩;rw[List.getElem?_map]at h1 h2;cases hj:p.toList[j]? with
  |none=>rw[hj]at h1;exact nk h1
  |some i =>
   rw[hj]at h1 h2;have mf:i<as.length:=by
    have:=List.mem_range.mp (hp.pm.mem_iff.mp (aaq hj));left
   cases h1;cases h2;exact hk.tup i _ _ (by simp[mf]) (by simp[show i<cs.length by left])
 have Ol:∀l:aO,Vals (l.map V.ref) (l.map Value.ref):=λl=>by
  induction l with
  |nil=>exact .nil
  |cons a l ih=>exact .cons rfl ih
 have hsz:sizeLine=16777216:=aaP;obtain⟨hn,I'⟩:=Inv.N7 (t':=tk) (o:=.lst ((p.toList.map λi=>as.getD i 0).map V.ref)) I LM hS ⟨by rw[List.length_map,List.length_map,Array.length_toList,hp.sz];left,_,e,Ol _,hl⟩;exact⟨.ref S,_,I',rfl,q S _ hn UH⟩
def kT(xs:ab):O D:=match one xs with
 |some d=>match gm d with
  |some z=>if z.1.length<64 then ok (.lst .ow ((bc z.1).map cK))else none
  |none=>none
 |none=>none
theorem yU{r:D}(h:kT xs=ok r):∃f cs vs,xs=[.bV f cs vs]/\cs.length<64/\r=.lst .ow ((bc cs).map cK):=by
 unfold kT at h;cases h1:one xs with
 |none=>rw[h1]at h;exact nk h
 |some d =>
  rw[h1]at h;have h:(match gm d with|some z=>if z.1.length<64 then ok (D.lst .ow ((bc z.1).map cK))else none|none=>none)=ok r:=h;cases h2:gm d with
  |none=>rw[h2]at h;exact nk h
  |some z =>
   rw[h2]at h;obtain⟨hl,rfl⟩:=me (show(if z.1.length<64 then ok (D.lst .ow ((bc z.1).map cK))else none)=ok r from h);obtain⟨f,e⟩:=j4 h2;exact⟨f,z.1,z.2,by rw[cf h1,e],hl,rfl⟩
theorem oS{T:ka}{N:gZ}:∀{bs:aO} {cs:ag} {k:bq} {n:Nat},eL T bs cs->az T N k n (bs.map V.ref) (cs.map cK)
 |[],[],_,_,_=>.nil
 |[],_::_,_,_,h=>by have:=h.len;simp at this
 |_::_,[],_,_,h=>by have:=h.len;simp at this
 |b::bs,c::cs,_,_,h=>.cons (wg (h.tup 0 b c rfl rfl)) (oS ⟨by have:=h.len;simpa using this,λj a c' h1 h2=>h.tup (j+1) a c' h1 h2⟩)
theorem B7{n:Nat}(hΦ:Φ n=kT){sc:Scope}{bl:ak}{k:Nat}(L:PX X sc bl k){e:Expr}(he:iz ("sorted" : Str) sc bl e=some args)(hs:kg X F Φ cs args):PE X e (tD X F Φ (.bR n cs))/\PT X e (gh X F Φ (.bR n cs)):=by
 obtain⟨p,pos,a,rfl,rfl,h1,h2⟩:=pG he;cases cs with
 |nil=>exact hs.elim
 |cons c cs=>cases cs with
  |cons _ _=>exact hs.2.2.2.elim
  |nil =>
   have pa:PA X [a] (se X F Φ [c]):=PA.imp (cA hs.1 (PA.imp dF λ_ _ _ h=>jH h) (hs.2.1 _)) λ_ _ _ h=>gf h;have hu:X.A.units+2<cLine:=aaz (ab4 (by decide:2<=64) _) L.room.units;have this:PE X (.Call (.Name ("sorted" : Str) p) [a] [] pos) (tD X F Φ (.bR n [c])):=by
    refine PE.imp (fi (vH L.calm hu) (L.gl h1) (L.bl _ h2) (by decide +kernel) pa (he:=hs.2.1 _)) λσ H Q hq=>?_;obtain⟨R,τ,ρ,d,Si,ev,hq⟩:=hq;obtain⟨xs,cc,ev⟩:=aB ev;rw[hΦ]at ev;obtain⟨f,ks,vs,rfl,hl,rfl⟩:=yU ev;refine⟨R,τ,ρ,_,Si,cc,λus H1 e1 r1=>?_⟩;obtain⟨τt,fr,rs⟩:=r1;obtain⟨v,rfl,rv⟩:=rs.one;cases rv with
    |bV hn hk hr =>
     refine⟨_,ks,_,_,_,rfl,hn.dat,hk,hl,λl bs nY UH=>hq _ _ (e1.trans (aM.upd nY)) (bT.qh (e1.free nY) (e1.trans (aM.upd nY)) aS ?_)⟩;exact oS (UH.imp λ_ _ h=>aR.same (aM.upd nY) h)
   exact⟨this,cE this λ_=>rfl⟩
section
variable {prog:aF}{w:World}{A:aE}{E:aw}{s:Shared}
end
end DI
end
section
namespace DI
open PySem (Str)
section
variable {α β:Type}
@[simp]theorem cC(a:α)(f:α->O β):bd (ok a) f=f a:=rfl
@[simp]theorem Rm(c:Nat)(f:α->O β):bd (some (.error c)) f=some (.error c):=rfl
noncomputable def Hh(f:α->O β)(x:O α):O β:=bd x f
@[simp]theorem Vy(f:α->O β)(a:α):Hh f (ok a)=f a:=rfl
@[simp]theorem Rv(f:α->O β)(c:Nat):Hh f (some (.error c))=some (.error c):=rfl
end
def P7(op:F8)(x y:O D):O D:=bd x λx=>bd y λy=>dy op x y
@[simp]theorem Rl(op:F8)(x y:D):P7 op (ok x) (ok y)=dy op x y:=rfl
def PL(op:zt)(x y:O D):O D:=bd x λx=>bd y λy=>iy op x y
@[simp]theorem Rh(op:zt)(x y:D):PL op (ok x) (ok y)=iy op x y:=rfl
def Wo(x y:O D):O D:=bd x λx=>bd y λy=>rL x y
@[simp]theorem Tr(x y:D):Wo (ok x) (ok y)=rL x y:=rfl
def NJ(x:O D):O D:=bd (bd x gW) λb=>ok (.bl (!b))
@[simp]theorem QL(b:Bool):NJ (ok (.bl b))=ok (.bl (!b)):=rfl
@[simp]theorem Mo(b:Bool):gW (.bl b)=ok b:=rfl
def uD(x:O D):O Bool:=bd x gW
@[simp]theorem Ql(b:Bool):uD (ok (.bl b))=ok b:=rfl
@[simp]theorem Mn(c:Nat):uD (some (.error c))=some (.error c):=rfl
def Wq(t:Ty)(x:O D):O D:=bd x λx=>ok (.bl (du t x))
@[simp]theorem TB(t:Ty)(x:D):Wq t (ok x)=ok (.bl (du t x)):=rfl
def Cp(m:aC)(xs:O (ab)):O D:=bd xs λxs=>bd (m (aA aV xs)) λr=>ok (aU jg r)
def U7(x:O D):O D:=bd x λr=>ok (aU jg r)
@[simp]theorem U6(r:D):U7 (ok r)=ok (aU jg r):=rfl
@[simp]theorem Q5(c:Nat):U7 (some (.error c))=some (.error c):=rfl
@[simp]theorem PU(m:aC)(xs:ab):Cp m (ok xs)=U7 (m (aA aV xs)):=rfl
@[simp]theorem L1(m:aC)(c:Nat):Cp m (some (.error c))=some (.error c):=rfl
noncomputable def xG(x:O D)(xs:O (ab)):O (ab):=bd x λx=>bd xs λxs=>ok (x::xs)
@[simp]theorem PK(x:D)(xs:ab):xG (ok x) (ok xs)=ok (x::xs):=rfl
@[simp]theorem LY(c:Nat)(xs:O (ab)):xG (some (.error c)) xs=some (.error c):=rfl
@[simp]theorem K1(x:D)(c:Nat):xG (ok x) (some (.error c))=some (.error c):=rfl
noncomputable def Ob(x:O Bool)(a b:O D):O D:=bd x λk=>if k then a else b
@[simp]theorem Tx(a b:O D):Ob (ok true) a b=a:=rfl
@[simp]theorem Tz(a b:O D):Ob (ok false) a b=b:=rfl
def FV(x y:O D):O D:=bd (bd x gW) λc=>if c then y else ok (.bl false)
@[simp]theorem Vz(y:O D):FV (ok (.bl true)) y=y:=rfl
@[simp]theorem VA(y:O D):FV (ok (.bl false)) y=ok (.bl false):=rfl
@[simp]theorem VB(a b:Bool):FV (ok (.bl a)) (ok (.bl b))=ok (.bl (a&&b)):=by cases a<;>rfl
def QH(x y:O D):O D:=bd (bd x gW) λc=>if c then ok (.bl true)else y
@[simp]theorem V4(y:O D):QH (ok (.bl true)) y=ok (.bl true):=rfl
@[simp]theorem V5(y:O D):QH (ok (.bl false)) y=y:=rfl
@[simp]theorem V6(a b:Bool):QH (ok (.bl a)) (ok (.bl b))=ok (.bl (a||b)):=by cases a<;>rfl
def A_(x:O D):O D:=bd (bd x gW) λc=>ok (.bl c)
@[simp]theorem N6(c:Bool):A_ (ok (.bl c))=ok (.bl c):=rfl
@[simp]theorem MN(d:D):v_ (some (some d))=ok (aU bj d):=rfl
section
variable (Φ:a_)(ρ:ba)
@[simp]theorem Xf:bC Φ .cw ρ=ok .cw:=rfl
@[simp]theorem ZQ(b:Bool):bC Φ (.bl b) ρ=ok (.bl b):=rfl
@[simp]theorem G5(i:Int):bC Φ (.int i) ρ=ok (.int i):=rfl
@[simp]theorem Xl(x:Str)(i:Int):bC Φ (.glo x i) ρ=ok (.int i):=rfl
@[simp]theorem Xk(x:Str)(zs:aa):bC Φ (.glt x zs) ρ=ok (.tup (zs.map D.int)):=rfl
@[simp]theorem e_v(i:Nat):bC Φ (.v i) ρ=v_ ρ[i]?:=rfl
@[simp]theorem Xn(op:F8)(a b:CE):bC Φ (.bin op a b) ρ=P7 op (bC Φ a ρ) (bC Φ b ρ):=rfl
@[simp]theorem Xm(op:zt)(a b:CE):bC Φ (.cmp op a b) ρ=PL op (bC Φ a ρ) (bC Φ b ρ):=rfl
@[simp]theorem Xh(a:CE):bC Φ (.neg a) ρ=Hh Er (bC Φ a ρ):=rfl
@[simp]theorem Xe(a:CE):bC Φ (.not a) ρ=NJ (bC Φ a ρ):=rfl
@[simp]theorem Xj(a:CE)(t:Ty):bC Φ (.o_ a t) ρ=Wq t (bC Φ a ρ):=rfl
@[simp]theorem Vk(f:Nat)(es:aG):bC Φ (.call f es) ρ=Cp (Φ f) (cz Φ es ρ):=rfl
@[simp]theorem ZR(f:Bf)(es:aG):bC Φ (.bf f es) ρ=Hh (nZ f) (cz Φ es ρ):=rfl
@[simp]theorem Xb(f:Nat)(es:aG):bC Φ (.bR f es) ρ=Hh (Φ f) (cz Φ es ρ):=rfl
@[simp]theorem ZP(a b:CE):bC Φ (.ix a b) ρ=Wo (bC Φ a ρ) (bC Φ b ρ):=rfl
@[simp]theorem Vi(a:CE):bC Φ (.je a) ρ=Hh wU (bC Φ a ρ):=rfl
@[simp]theorem Xa(es:aG):bC Φ (.tup es) ρ=Hh (λxs=>ok (.tup xs)) (cz Φ es ρ):=rfl
@[simp]theorem Xi(es:aG):bC Φ (.lst es) ρ=Hh (λxs=>ok (.lst .ow xs)) (cz Φ es ρ):=rfl
@[simp]theorem Xo(es:aG):bC Φ (.and es) ρ=pz Φ es ρ:=rfl
@[simp]theorem ZO(es:aG):bC Φ (.or es) ρ=yT Φ es ρ:=rfl
@[simp]theorem Vm(e:CE):pz Φ [e] ρ=A_ (bC Φ e ρ):=rfl
@[simp]theorem Vl(e e':CE)(es:aG):pz Φ (e::e'::es) ρ=FV (bC Φ e ρ) (pz Φ (e'::es) ρ):=rfl
@[simp]theorem Xd(e:CE):yT Φ [e] ρ=A_ (bC Φ e ρ):=rfl
@[simp]theorem Xc(e e':CE)(es:aG):yT Φ (e::e'::es) ρ=QH (bC Φ e ρ) (yT Φ (e'::es) ρ):=rfl
@[simp]theorem Xg:cz Φ [] ρ=ok []:=rfl
@[simp]theorem Vj(e:CE)(es:aG):cz Φ (e::es) ρ=xG (bC Φ e ρ) (cz Φ es ρ):=rfl
@[simp]theorem e_T(e:CE):yS Φ e ρ=uD (bC Φ e ρ):=rfl
theorem Vp(e:CE):bd (bC Φ e ρ) gW=uD (bC Φ e ρ):=rfl
@[simp]theorem Vo:gS Φ [] ρ=ok true:=rfl
@[simp]theorem Vn(e:CE):gS Φ [e] ρ=uD (bC Φ e ρ):=by
 rw[gS,Vp];cases h:uD (bC Φ e ρ)with
 |none=>rfl
 |some r=>cases r with
  |error c=>rfl
  |ok b=>cases b<;>simp[gS,bd,ok]
end
def qN(is:aQ):Nat->ba->ba
 |_,[]=>[]
 |n,d::ρ=>(if n∈is then d.map (aU aV)else d)::qN is (n+1) ρ
theorem G3(is:aQ):∀(ρ:ba) (n:Nat),ρ.mapIdx (λi d=>if i+n∈is then d.map (aU aV)else d)=qN is n ρ
 |[],_=>rfl
 |d::ρ,n=>by
  rw[List.mapIdx_cons,qN,<- G3 is ρ (n+1)];simp only[Nat.zero_add,Nat.add_assoc,Nat.add_comm 1 n]
theorem BS(is:aQ)(ρ:ba):gY is ρ=qN is 0 ρ:=by rw[<- G3];rfl
@[simp]theorem Pj(is:aQ)(n:Nat):qN is n []=[]:=rfl
@[simp]theorem LU(is:aQ)(n:Nat)(d:aJ)(ρ:ba):qN is n (d::ρ)=(if n∈is then d.map (aU aV)else d)::qN is (n+1) ρ:=rfl
def dg(e:CE)(ρ:ba)(x:O D):O (D×ba):=bd x λd=>ok (keep e d ρ)
variable {ρ ρ1:ba}
@[simp]theorem jW{e:CE}{d:D}(h:aH bp d=false):dg e ρ (ok d)=ok (d,ρ):=by
 show ok (keep e d ρ)=_;rw[keep,h];rfl
@[simp]theorem N9{e:CE}{d:D}(h:aH bp d=true):dg e ρ (ok d)=ok (aU aV d,qN (gR e) 0 ρ):=by
 show ok (keep e d ρ)=_;rw[keep,h,<- BS];rfl
@[simp]theorem LC(e:CE)(ρ:ba)(c:Nat):dg e ρ (some (.error c))=some (.error c):=rfl
def A2(i:Nat)(ρ:ba)(o:Option (aJ)):O (D×ba):=match o with
 |some (some d)=>if aH bX d then ok (d,ρ.set i none)else ok (d,ρ)
 |_=>none
@[simp]theorem NP{i:Nat}{d:D}(h:aH bX d=true):A2 i ρ (some (some d))=ok (d,ρ.set i none):=aaN h
@[simp]theorem NQ{i:Nat}{d:D}(h:aH bX d=false):A2 i ρ (some (some d))=ok (d,ρ):=abT (by rw[h];exact aae)
@[simp]theorem k_v(Φ:a_)(i:Nat)(ρ:ba):ji Φ (.v i) ρ=A2 i ρ ρ[i]?:=rfl
noncomputable def Yy:CE->Bool
 |.v _=>true
 |_=>false
@[simp]theorem Wk(Φ:a_)(ρ:ba)(op:F8)(a b:CE):ji Φ (.bin op a b) ρ=dg (.bin op a b) ρ (bC Φ (.bin op a b) ρ):=rfl
@[simp]theorem Wj(Φ:a_)(ρ:ba)(op:zt)(a b:CE):ji Φ (.cmp op a b) ρ=dg (.cmp op a b) ρ (bC Φ (.cmp op a b) ρ):=rfl
@[simp]theorem Tn(Φ:a_)(ρ:ba)(f:Nat)(es:aG):ji Φ (.call f es) ρ=dg (.call f es) ρ (bC Φ (.call f es) ρ):=rfl
@[simp]theorem Yv(Φ:a_)(ρ:ba)(f:Bf)(es:aG):ji Φ (.bf f es) ρ=dg (.bf f es) ρ (bC Φ (.bf f es) ρ):=rfl
@[simp]theorem Wd(Φ:a_)(ρ:ba)(f:Nat)(es:aG):ji Φ (.bR f es) ρ=dg (.bR f es) ρ (bC Φ (.bR f es) ρ):=rfl
@[simp]theorem Yt(Φ:a_)(ρ:ba)(a b:CE):ji Φ (.ix a b) ρ=dg (.ix a b) ρ (bC Φ (.ix a b) ρ):=rfl
@[simp]theorem Wc(Φ:a_)(ρ:ba)(es:aG):ji Φ (.tup es) ρ=dg (.tup es) ρ (bC Φ (.tup es) ρ):=rfl
@[simp]theorem Wh(Φ:a_)(ρ:ba)(es:aG):ji Φ (.lst es) ρ=dg (.lst es) ρ (bC Φ (.lst es) ρ):=rfl
@[simp]theorem GO(Φ:a_)(ρ:ba)(i:Int):ji Φ (.int i) ρ=dg (.int i) ρ (bC Φ (.int i) ρ):=rfl
@[simp]theorem Yu(Φ:a_)(ρ:ba)(i:Bool):ji Φ (.bl i) ρ=dg (.bl i) ρ (bC Φ (.bl i) ρ):=rfl
@[simp]theorem Wf(Φ:a_)(ρ:ba): ji Φ (.cw) ρ=dg (.cw) ρ (bC Φ (.cw) ρ):=rfl
@[simp]theorem Wg(Φ:a_)(ρ:ba)(a:CE):ji Φ (.neg a) ρ=dg (.neg a) ρ (bC Φ (.neg a) ρ):=rfl
@[simp]theorem We(Φ:a_)(ρ:ba)(a:CE):ji Φ (.not a) ρ=dg (.not a) ρ (bC Φ (.not a) ρ):=rfl
@[simp]theorem Wl(Φ:a_)(ρ:ba)(es:aG):ji Φ (.and es) ρ=dg (.and es) ρ (bC Φ (.and es) ρ):=rfl
@[simp]theorem Ys(Φ:a_)(ρ:ba)(es:aG):ji Φ (.or es) ρ=dg (.or es) ρ (bC Φ (.or es) ρ):=rfl
@[simp]theorem Tj(Φ:a_)(ρ:ba)(n:Nat)(t:Tg)(caps:aQ)(ik:IK)(es bM:aG)(elt:CE):ji Φ (.comp n t caps ik es bM elt) ρ=dg (.comp n t caps ik es bM elt) ρ (bC Φ (.comp n t caps ik es bM elt) ρ):=rfl
@[simp]theorem Wi(Φ:a_)(ρ:ba)(a:CE)(t:Ty):ji Φ (.o_ a t) ρ=dg (.o_ a t) ρ (bC Φ (.o_ a t) ρ):=rfl
@[simp]theorem Ti(Φ:a_)(ρ:ba)(a:CE):ji Φ (.je a) ρ=dg (.je a) ρ (bC Φ (.je a) ρ):=rfl
theorem N_(Φ:a_)(e:CE)(ρ:ba)(h:Yy e=false):ji Φ e ρ=dg e ρ (bC Φ e ρ):=by cases e<;>first|rfl|cases h
@[simp]theorem Lp(ρ:ba):gO [] [] ρ=ok ρ:=rfl
variable {ds xs:ab}{is:aQ}
@[simp]theorem HX{i:Nat}{d:D}(h:i<ρ.length):gO (i::is) (d::ds) ρ=gO is ds (ρ.set i (some d)):=aaN h
@[simp]theorem Qw{i:Nat}{d:D}(h:i<ρ.length):cy (.nm i) d ρ=ok (ρ.set i (some d)):=aaN h
@[simp]theorem Qv(h:aL bX ds=false):cy (.tp is) (.tup ds) ρ=gO is ds ρ:=abT (by rw[h];exact aae)
def K8(i:Nat)(r:O (D×ba)):O (Fo×ba):=bd r λr=>bd (cy (.nm i) r.1 r.2) λρ'=>ok (.nx,ρ')
@[simp]theorem xW{i:Nat}{d:D}(h:i<ρ.length):K8 i (ok (d,ρ))=ok (.nx,ρ.set i (some d)):=by
 show bd (cy (.nm i) d ρ) _=_;rw[cy,if_pos h];rfl
@[simp]theorem Qa(i:Nat)(c:Nat):K8 i (some (.error c))=some (.error c):=rfl
def P_(is:aQ)(r:O (D×ba)):O (Fo×ba):=bd r λr=>bd (cy (.tp is) r.1 r.2) λρ'=>ok (.nx,ρ')
@[simp]theorem Rp(h:aL bX ds=false):P_ is (ok (.tup ds,ρ))=bd (gO is ds ρ) λρ'=>ok (.nx,ρ'):=by
 show bd (cy (.tp is) (.tup ds) ρ) _=_;rw[cy,h];rfl
noncomputable def retS(r:O (D×ba)):O (Fo×ba):=bd r λr=>ok (.rt r.1,r.2)
@[simp]theorem Qx(d:D)(ρ:ba):retS (ok (d,ρ))=ok (.rt d,ρ):=rfl
@[simp]theorem M0(c:Nat):retS (some (.error c))=some (.error c):=rfl
noncomputable def Vc(ρ:ba)(x:O D):O (Fo×ba):=bd x λ_=>ok (.nx,ρ)
@[simp]theorem Vb(ρ:ba)(d:D):Vc ρ (ok d)=ok (.nx,ρ):=rfl
@[simp]theorem Q_(ρ:ba)(c:Nat):Vc ρ (some (.error c))=some (.error c):=rfl
noncomputable def mF(Φ:a_)(ss:ah)(r:O (Fo×ba)):O (Fo×ba):=bd r λr=>match r with
 | (.nx,ρ')=>bA Φ ss ρ'
 |r=>ok r
@[simp]theorem rZ(Φ:a_)(ss:ah)(ρ:ba):mF Φ ss (ok (.nx,ρ))=bA Φ ss ρ:=rfl
@[simp]theorem Mr(Φ:a_)(ss:ah)(d:D)(ρ:ba):mF Φ ss (ok (.rt d,ρ))=ok (.rt d,ρ):=rfl
@[simp]theorem Mt(Φ:a_)(ss:ah)(ρ:ba):mF Φ ss (ok (.bk,ρ))=ok (.bk,ρ):=rfl
@[simp]theorem Ms(Φ:a_)(ss:ah)(ρ:ba):mF Φ ss (ok (.ct,ρ))=ok (.ct,ρ):=rfl
@[simp]theorem Lo(Φ:a_)(ss:ah)(c:Nat):mF Φ ss (some (.error c))=some (.error c):=rfl
noncomputable def EF(Φ:a_)(a b:ah)(ρ:ba)(x:O Bool):O (Fo×ba):=bd x λk=>if k then bA Φ a ρ else bA Φ b ρ
@[simp]theorem Tu(Φ:a_)(a b:ah)(ρ:ba):EF Φ a b ρ (ok true)=bA Φ a ρ:=rfl
@[simp]theorem Tv(Φ:a_)(a b:ah)(ρ:ba):EF Φ a b ρ (ok false)=bA Φ b ρ:=rfl
@[simp]theorem Oa(Φ:a_)(a b:ah)(ρ:ba)(c:Nat):EF Φ a b ρ (some (.error c))=some (.error c):=rfl
def Qb(i:Nat)(r:O (D×ba)):O (Fo×ba):=bd r λr=>match uT r.2[i]? with
  |some ds=>if ds.length<cg then ok (.nx,r.2.set i (some (.lst .ow (ds++[r.1]))))else none
  |none=>none
@[simp]theorem Rt{i:Nat}{d:D}(h:ρ[i]?=some (some (.lst .ow ds)))(hl:ds.length<cg):Qb i (ok (d,ρ))=ok (.nx,ρ.set i (some (.lst .ow (ds++[d])))):=by
 show(match uT ρ[i]? with|some ds=>_|none=>_)=_;rw[h];exact aaN hl
section
variable (Φ:a_)(ρ:ba)
@[simp]theorem VR:bA Φ [] ρ=ok (.nx,ρ):=rfl
@[simp]theorem bK(s:CS)(ss:ah):bA Φ (s::ss) ρ=mF Φ ss (jh Φ s ρ):=rfl
@[simp]theorem F_(i:Nat)(e:CE):jh Φ (.asg (.nm i) e) ρ=K8 i (ji Φ e ρ):=rfl
@[simp]theorem RD(is:aQ)(e:CE):jh Φ (.asg (.tp is) e) ρ=P_ is (ji Φ e ρ):=rfl
@[simp]theorem VQ(e:CE):jh Φ (.ret e) ρ=retS (ji Φ e ρ):=rfl
theorem oF(c:CE)(b:ah):jh Φ (.Hx c b) ρ=ff (λρ=>bd (yS Φ c ρ) λk=>if k then bd (bA Φ b ρ) λr=>match r with
   | (.nx,ρ')=>ok (.inl ρ')
   | (.ct,ρ')=>ok (.inl ρ')
   | (.bk,ρ')=>ok (.inr (.nx,ρ'))
   | (.rt d,ρ')=>ok (.inr (.rt d,ρ'))
  else ok (.inr (.nx,ρ))) ρ:=rfl
theorem L_(i j:Nat)(a b:CE):jh Φ (.par i j a b) ρ=bd (bC Φ a ρ) λx=>bd (bC Φ b ρ) λy=>if aH anyF x=false/\aH anyF y=false/\i<ρ.length/\j<ρ.length then ok (.nx,(ρ.set i (some x)).set j (some y))else none:=rfl
@[simp]theorem XD(c:Nat):jh Φ (.rs c) ρ=some (.error c):=rfl
@[simp]theorem XE(e:CE):jh Φ (.ex e) ρ=Vc ρ (bC Φ e ρ):=rfl
@[simp]theorem Mb(c:CE)(a b:ah):jh Φ (.ifs c a b) ρ=EF Φ a b ρ (uD (bC Φ c ρ)):=rfl
@[simp]theorem Ga(i:Nat)(e:CE):jh Φ (.app i e) ρ=Qb i (ji Φ e ρ):=rfl
end
noncomputable def mk(Φ:a_)(ar n:Nat)(b:ah):aC:=λds=>if ds.length=ar then p7 Φ n b ds else none
noncomputable def kS(r:O (Fo×ba)):O D:=bd r λr=>match r.1 with
 |.nx=>ok .cw
 |.rt d=>ok d
 |_=>none
@[simp]theorem Rc(ρ:ba):kS (ok (.nx,ρ))=ok .cw:=rfl
@[simp]theorem Rb(d:D)(ρ:ba):kS (ok (.rt d,ρ))=ok d:=rfl
@[simp]theorem Pw(c:Nat):kS (some (.error c))=some (.error c):=rfl
variable {ar:Nat}{Φ:a_}
theorem mk_eq{n:Nat}{b:ah}(h:ds.length=ar):mk Φ ar n b ds=kS (bA Φ b (ds.map some++List.replicate (n - ds.length) none)):=aaN h
theorem uX{n:Nat}{b:ah}(ds:ab)(r:D)(h:mk Φ ar n b ds=ok r):ds.length=ar/\p7 Φ n b ds=ok r:=by
 unfold mk at h;split at h
 ·rename_i hl;exact⟨hl,h⟩
 ·cases h
theorem Int.beq_eq_decide_eq(i j:Int):(i==j)=decide (i=j):=rfl
section
variable (g:Fl->Fl)(p:Fl->Bool)
@[simp]theorem Ey(b:Bool):aU g (.bl b)=.bl b:=rfl
@[simp]theorem sW(b:Int):aU g (.int b)=.int b:=rfl
@[simp]theorem NV:aU g .cw=.cw:=rfl
@[simp]theorem NT(ds:ab):aU g (.tup ds)=.tup (aA g ds):=rfl
@[simp]theorem NW(f:Fl)(ds:ab):aU g (.lst f ds)=.lst (g f) (aA g ds):=rfl
@[simp]theorem NU(f:Fl)(ks:ag)(vs:ab):aU g (.cL f ks vs)=.cL (g f) ks (aA g vs):=rfl
@[simp]theorem NX(f:Fl)(ks:ag)(vs:ab):aU g (.bV f ks vs)=.bV (g f) ks (aA g vs):=rfl
@[simp]theorem Ly:aA g []=[]:=rfl
@[simp]theorem Jh(d:D)(ds:ab):aA g (d::ds)=aU g d::aA g ds:=rfl
@[simp]theorem LA(a b:ab):aA g (a++b)=aA g a++aA g b:=by simp only[aY,List.map_append]
@[simp]theorem Lz(ds:ab):(aA g ds).length=ds.length:=by rw[aY,List.length_map]
theorem b_{α:Type}{e:α->D}(h:∀x,aU g (e x)=e x)(xs:List α):aA g (xs.map e)=xs.map e:=by
 rw[aY,List.map_map];exact aak λx _=>h x
theorem bH{α:Type}{e:α->D}(h:∀x,aH p (e x)=false):∀xs:List α,aL p (xs.map e)=false
 |[]=>by rw[List.map_nil,aL]
 |x::xs=>by rw[List.map_cons,aL,h x,bH h xs];rfl
@[simp]theorem Fc(b:Bool):aH p (.bl b)=false:=abM rfl
@[simp]theorem jY(b:Int):aH p (.int b)=false:=abM rfl
@[simp]theorem O1:aH p .cw=false:=abM rfl
@[simp]theorem OZ(ds:ab):aH p (.tup ds)=aL p ds:=abM rfl
@[simp]theorem BF(f:Fl)(ds:ab):aH p (.lst f ds)=(p f||aL p ds):=abM rfl
@[simp]theorem O0(f:Fl)(ks:ag)(vs:ab):aH p (.cL f ks vs)=(p f||aL p vs):=abM rfl
@[simp]theorem O2(f:Fl)(ks:ag)(vs:ab):aH p (.bV f ks vs)=(p f||aL p vs):=abM rfl
@[simp]theorem LR:aL p []=false:=abM rfl
@[simp]theorem J1(d:D)(ds:ab):aL p (d::ds)=(aH p d||aL p ds):=abM rfl
@[simp]theorem yN:∀a b:ab,aL p (a++b)=(aL p a||aL p b)
 |[],b=>by simp
 |d::a,b=>by simp[yN a b,Bool.or_assoc]
@[simp]theorem mR(ns:aa):aA g (ns.map D.int)=ns.map D.int:=b_ g (sW g) ns
@[simp]theorem m8(ns:aa):aL p (ns.map D.int)=false:=bH p (jY p) ns
@[simp]theorem yr(ns:List Bool):aA g (ns.map D.bl)=ns.map D.bl:=b_ g (Ey g) ns
@[simp]theorem yM(ns:List Bool):aL p (ns.map D.bl)=false:=bH p (Fc p) ns
@[simp]theorem LD(t:Ty)(d:D):du t (aU g d)=du t d:=by cases d<;>cases t<;>rfl
end
@[simp]theorem Kl:bj .ow=.al:=rfl
@[simp]theorem Km:bj .fz=.fz:=rfl
@[simp]theorem Kn:bj .al=.al:=rfl
@[simp]theorem Kk:bj .sc=.sc:=rfl
@[simp]theorem Kh:aV .ow=.fz:=rfl
@[simp]theorem Ki:aV .fz=.fz:=rfl
@[simp]theorem Kj:aV .al=.fz:=rfl
@[simp]theorem Kg:aV .sc=.sc:=rfl
@[simp]theorem KC:jg .ow=.ow:=rfl
@[simp]theorem KD:jg .fz=.al:=rfl
@[simp]theorem KG:jg .al=.al:=rfl
@[simp]theorem KA:jg .sc=.sc:=rfl
@[simp]theorem Kx:bp .ow=false:=rfl
@[simp]theorem Ky:bp .fz=false:=rfl
@[simp]theorem Kz:bp .al=true:=rfl
@[simp]theorem Kw:bp .sc=false:=rfl
@[simp]theorem Kt:bX .ow=true:=rfl
@[simp]theorem Ku:bX .fz=false:=rfl
@[simp]theorem Kv:bX .al=false:=rfl
@[simp]theorem Ks:bX .sc=false:=rfl
@[simp]theorem Ko:vi .ow=false:=rfl
@[simp]theorem Kq:vi .fz=false:=rfl
@[simp]theorem Kr:vi .al=false:=rfl
noncomputable def af(ns:aa):ab:=ns.map D.int
noncomputable def rn(ns:List Bool):ab:=ns.map D.bl
@[simp]theorem LI(ns:aa):(af ns).length=ns.length:=aaW ..
@[simp]theorem P6(ns:List Bool):(rn ns).length=ns.length:=aaW ..
@[simp]theorem LH:af []=[]:=rfl
@[simp]theorem JH(n:Int)(ns:aa):af (n::ns)=.int n::af ns:=rfl
@[simp]theorem JG(ns:aa)(n:Int):af ns++[.int n]=af (ns++[n]):=by simp[af]
@[simp]theorem pb(ns:aa)(i:Nat):(af ns)[i]?=ns[i]?.map D.int:=List.getElem?_map ..
@[simp]theorem cF(g:Fl->Fl)(ns:aa):aA g (af ns)=af ns:=mR g ns
@[simp]theorem tF(p:Fl->Bool)(ns:aa):aL p (af ns)=false:=m8 p ns
@[simp]theorem Ji(g:Fl->Fl)(ns:List Bool):aA g (rn ns)=rn ns:=yr g ns
@[simp]theorem J2(p:Fl->Bool)(ns:List Bool):aL p (rn ns)=false:=yM p ns
@[simp]theorem Xs(i j:Int):dy .add (.int i) (.int j)=ok (.int (i+j)):=rfl
@[simp]theorem Xq(i j:Int):dy .sub (.int i) (.int j)=ok (.int (i - j)):=rfl
theorem i_{i j:Int}(h:ic i j=true):dy .mul (.int i) (.int j)=ok (.int (i*j)):=aaN h
theorem rC{i j:Int}(h:pB j=true):dy .fdiv (.int i) (.int j)=ok (.int (i.fdiv j)):=aaN h
@[simp]theorem Hg{i j:Int}(h:j≠0):dy .mod (.int i) (.int j)=ok (.int (i.fmod j)):=aaN h
@[simp]theorem Xr{i j:Int}(h:0<=j):dy .shr (.int i) (.int j)=ok (.int (i / 2 ^ j.toNat)):=aaN h
theorem Hf{i j:Int}(h:wq i j=true):dy .pow (.int i) (.int j)=ok (.int (i ^ j.toNat)):=aaN h
@[simp]theorem V_(i:Int):Er (.int i)=ok (.int (-i)):=rfl
theorem mulOk_of{i j:Int}(h:i.natAbs<2 ^ 9000)(h':j.natAbs<2 ^ 9000):ic i j=true:=by
 simp only[ic,big,h,h',decide_true,Bool.and_self,Bool.or_true]
theorem va{n:Nat}(h:n<2 ^ 64):n<2 ^ 9000:=aaj h (aar (by decide) (by decide))
theorem qj{i:Int}(j:Int)(h:i.natAbs<2 ^ 64):ic i j=true:=by simp only[ic,h,decide_true,Bool.true_or]
theorem Et{j:Int}(i:Int)(h:j.natAbs<2 ^ 64):ic i j=true:=by simp only[ic,h,decide_true,Bool.true_or,Bool.or_true]
theorem j3{j:Int}(h0:j≠0)(h:j.natAbs<2 ^ 9000):pB j=true:=by
 simp only[pB,big,h,decide_true,Bool.and_true,decide_eq_true_eq];exact h0
@[simp]theorem Rn{i j:Int}(h:j.natAbs<2 ^ 64):dy .mul (.int i) (.int j)=ok (.int (i*j)):=i_ (Et i h)
@[simp]theorem Ro{i j:Int}(h:i.natAbs<2 ^ 64):dy .mul (.int i) (.int j)=ok (.int (i*j)):=i_ (qj j h)
@[simp]theorem P8{i j:Int}(h0:j≠0)(h:j.natAbs<2 ^ 64):dy .fdiv (.int i) (.int j)=ok (.int (i.fdiv j)):=rC (j3 h0 (va h))
theorem Vq{a b:D}(ha:cO 40 a=true)(hb:cO 40 b=true):iy .eq a b=ok (.bl (ku a b)):=by
 show(if cO 40 a&&cO 40 b then _ else _)=_;rw[ha,hb];rfl
theorem PZ{a b:D}(ha:cO 40 a=true)(hb:cO 40 b=true):iy .ne a b=ok (.bl (!ku a b)):=by
 show(if cO 40 a&&cO 40 b then _ else _)=_;rw[ha,hb];rfl
@[simp]theorem gz(n:Nat)(i:Int):cO n (.int i)=true:=by cases n<;>rfl
@[simp]theorem S5(n:Nat)(i:Bool):cO n (.bl i)=true:=by cases n<;>rfl
@[simp]theorem QJ(n:Nat):cO n .cw=true:=by cases n<;>rfl
@[simp]theorem l6(n:Nat)(ds:ab):cO (n+1) (.tup ds)=ds.all (cO n):=rfl
@[simp]theorem l7(n:Nat)(f:Fl)(ds:ab):cO (n+1) (.lst f ds)=ds.all (cO n):=rfl
@[simp]theorem SG(i j:Int):iy .eq (.int i) (.int j)=ok (.bl (decide (i=j))):=by rw[Vq (gz _ _) (gz _ _)];show ok (D.bl (i==j))=_;rw[Int.beq_eq_decide_eq]
@[simp]theorem SF(i j:Int):iy .ne (.int i) (.int j)=ok (.bl (!decide (i=j))):=by rw[PZ (gz _ _) (gz _ _)];show ok (D.bl (!(i==j)))=_;rw[Int.beq_eq_decide_eq]
@[simp]theorem Yf(i j:Int):iy .lt (.int i) (.int j)=ok (.bl (decide (i<j))):=rfl
@[simp]theorem Yg(i j:Int):iy .le (.int i) (.int j)=ok (.bl (decide (i<=j))):=rfl
@[simp]theorem Yh(i j:Int):iy .gt (.int i) (.int j)=ok (.bl (decide (j<i))):=rfl
@[simp]theorem Yi(i j:Int):iy .ge (.int i) (.int j)=ok (.bl (decide (j<=i))):=rfl
@[simp]theorem Ws(ds:ab)(i:Int):rL (.tup ds) (.int i)=nM ds i:=rfl
@[simp]theorem Wt(f:Fl)(ds:ab)(i:Int):rL (.lst f ds) (.int i)=nM ds i:=rfl
theorem nL{n:Nat}{d:D}(h:ds[n]?=some d):nM ds (n:Int)=ok (aU bj d):=by
 have hn:n<ds.length:=(List.getElem?_eq_some_iff.mp h).1;have e:qz ds.length (n:Int)=some n:=by unfold qz;rw[if_pos (by left),if_pos (by left)];rfl
 unfold nM;rw[e,Option.bind_some,h]
theorem at_of{i:Int}{d:D}(h0:0<=i)(h:ds[i.toNat]?=some d):nM ds i=ok (aU bj d):=by
 have:=nL h
 rwa [show((i.toNat:Nat):Int)=i by left]at this
@[simp]theorem Z2(d:D)(ds:ab):nM (d::ds) 0=ok (aU bj d):=nL (n:=0) rfl
@[simp]theorem Z1(a d:D)(ds:ab):nM (a::d::ds) 1=ok (aU bj d):=nL (n:=1) rfl
@[simp]theorem Z0(a b d:D)(ds:ab):nM (a::b::d::ds) 2=ok (aU bj d):=nL (n:=2) rfl
@[simp]theorem Q8(ds:ab):nZ .len [.tup ds]=ok (.int ds.length):=rfl
@[simp]theorem Q9(f:Fl)(ds:ab):nZ .len [.lst f ds]=ok (.int ds.length):=rfl
@[simp]theorem W5(i:Int):nZ .abs [.int i]=ok (.int i.natAbs):=by
 show ok (D.int (if i<0 then -i else i))=_;congr 2;split<;>left
@[simp]theorem Pq(f:Fl)(ds:ab):nZ .list1 [.lst f ds]=ok (.lst .ow (aA bj ds)):=rfl
@[simp]theorem Pp(ds:ab):nZ .list1 [.tup ds]=ok (.lst .ow (aA bj ds)):=rfl
@[simp]theorem Q7(f:Fl)(ds:ab):nZ .tuple1 [.lst f ds]=ok (.tup (aA bj ds)):=rfl
@[simp]theorem Q6(ds:ab):nZ .tuple1 [.tup ds]=ok (.tup (aA bj ds)):=rfl
@[simp]theorem W3(f:Fl)(ns:aa):nZ .mH [.lst f (af ns)]=ok (.int ns.sum):=by
 show(match intsOf (ns.map D.int)with|some ns=>_|none=>_)=_;rw[br]
@[simp]theorem W4(f:Fl)(bs:List Bool):nZ .all1 [.lst f (rn bs)]=ok (.bl (bs.all id)):=by
 show(match i9 (bs.map D.bl)with|some ns=>_|none=>_)=_;rw[pH]
variable {ns ws:aa}
@[simp]theorem qR(h:ns.length<64):nZ .cN [.tup (af ns)]=ok (.lst .ow (af (sortI ns))):=by
 show oN _=_;unfold oN af;rw[br];exact aaN h
@[simp]theorem KH(h:ns.length<4000):wU (.tup (af ns))=ok (.int (tU ns).length):=by
 show(match intsOf (ns.map D.int)with|some ns=>_|none=>_)=_;rw[br];exact aaN h
@[simp]theorem xu(i j:Int):ku (.int i) (.int j)=decide (i=j):=by show(i==j)=_;rw[Int.beq_eq_decide_eq]
@[simp]theorem Vg(i j:Bool):ku (.bl i) (.bl j)=(i==j):=rfl
@[simp]theorem Fs(a b:ab):ku (.tup a) (.tup b)=dC a b:=rfl
@[simp]theorem Ra(f g:Fl)(a b:ab):ku (.lst f a) (.lst g b)=dC a b:=rfl
@[simp]theorem B1:dC [] []=true:=rfl
@[simp]theorem kR(a b:D)(as bs:ab):dC (a::as) (b::bs)=(ku a b&&dC as bs):=rfl
theorem nA:∀{as bs:ab},dC as bs=true->as.length=bs.length
 |[],[],_=>rfl
 |[],_::_,h=>(aae h).elim
 |_::_,[],h=>(aae h).elim
 |a::as,b::bs,h=>by
  replace h:(_&&_)=true:=h;rw[Bool.and_eq_true]at h;rw[List.length_cons,List.length_cons,nA h.2]
theorem j0{α:Type}{e:α->D}[DecidableEq α](h:∀x y,ku (e x) (e y)=decide (x=y)):∀xs ys:List α,dC (xs.map e) (ys.map e)=decide (xs=ys)
 |[],[]=>by simp
 |[],y::ys=>by
  cases z:dC ([].map e) ((y::ys).map e)with
  |true=>have:=nA z;simp at this
  |false=>simp
 |x::xs,[]=>by
  cases z:dC ((x::xs).map e) ([].map e)with
  |true=>have:=nA z;simp at this
  |false=>simp
 |x::xs,y::ys=>by
  rw[List.map_cons,List.map_cons,kR,h,j0 h xs ys];by_cases e1:x=y<;>by_cases e2:xs=ys<;>simp[e1,e2]
theorem l8{α:Type}{e:α->D}{n:Nat}(h:∀x,cO n (e x)=true)(xs:List α):(xs.map e).all (cO n)=true:=by
 rw[List.all_map];exact List.all_eq_true.mpr λx _=>h x
theorem cB{bind:D->O ba}{test:ba->O Bool}{el:ba->O D}{α:Type}{e:α->D}{g:α->D}:∀{xs:List α},(∀x∈xs,∃ρ,bind (e x)=ok ρ/\test ρ=ok true/\el ρ=ok (g x))->gT bind test el (xs.map e)=ok (xs.map g)
 |[],_=>rfl
 |x::xs,h=>by
  obtain⟨ρ,h1,h2,h3⟩:=h x (aaf ..);have ih:=cB (xs:=xs) λy hy=>h y (aad _ hy);rw[List.map_cons,gT,h1,cC,h2,cC,if_pos rfl,h3,cC,ih];rfl
theorem lB{bind:D->O ba}{test:ba->O Bool}{el:ba->O D}{α:Type}{e:α->D}{g:α->D}{t:α->Bool}:∀{xs:List α},(∀x∈xs,∃ρ,bind (e x)=ok ρ/\test ρ=ok (t x)/\(t x=true->el ρ=ok (g x)))->gT bind test el (xs.map e)=ok ((xs.filter t).map g)
 |[],_=>rfl
 |x::xs,h=>by
  obtain⟨ρ,h1,h2,h3⟩:=h x (aaf ..);have ih:=lB (xs:=xs) λy hy=>h y (aad _ hy);rw[List.map_cons,gT,h1,cC,h2,cC,List.filter_cons];cases ht:t x with
  |true=>rw[if_pos rfl,h3 ht,cC,ih,if_pos rfl];rfl
  |false=>rw[if_neg Bool.false_ne_true,ih,if_neg Bool.false_ne_true]
section
variable {Φ:a_}{n:Nat}{t:Tg}{caps:aQ}{ik:IK}{es bM:aG}{elt:CE}{ρ:ba}{xs items ds:ab}
theorem dM(h1:cz Φ es ρ=ok xs)(h2:dU Φ ik xs=ok items)
  (h3:gT (λd=>cy t d (bP n caps ρ)) (λρ'=>gS Φ bM ρ') (λρ'=>bC Φ elt ρ') items=ok ds) (hl:ds.length<=cg):bC Φ (.comp n t caps ik es bM elt) ρ=ok (.lst .ow (aA jg ds)):=by
 show bd (cz Φ es ρ) _=_;rw[h1,cC,h2,cC,h3,cC,if_pos hl]
end
theorem qA(Φ:a_)(ds:ab):dU Φ .seq [.tup ds]=ok (aA aV ds):=rfl
theorem eY(Φ:a_)(f:Fl)(ds:ab):dU Φ .seq [.lst f ds]=ok (aA aV ds):=rfl
theorem EE(Φ:a_){n:Int}(h0:0<=n)(h:n<=1000000):dU Φ .kn [.int n]=ok ((List.range n.toNat).map λ(k:Nat)=>D.int (k:Int)):=by
 show(if n<=(cg:Int) /\ -(cg:Int)<=n then _ else _)=_;have:(cg:Int)=1000000:=rfl;rw[if_pos (by left)]
theorem cP{n:Nat}(h:n<=1000000):n<=cg:=h
theorem eU{t:Tg}{it:CI}{b:ah}{items:ab}{r:O (Fo×ba)}(h:cM Φ it ρ=ok (items,ρ1))(h':dJ (λd ρ=>cy t d ρ) (λρ=>bA Φ b ρ) items ρ1=r):jh Φ (.fr t it b) ρ=r:=by
 show bd (cM Φ it ρ) _=_;rw[h];exact h'
theorem qQ(bind:D->ba->O ba)(body:ba->O (Fo×ba))(ρ:ba):dJ bind body [] ρ=ok (.nx,ρ):=rfl
theorem dj{bind:D->ba->O ba}{body:ba->O (Fo×ba)}{x:D}{ρ2:ba}{r:O (Fo×ba)}(h1:bind x ρ=ok ρ1)(h2:body ρ1=ok (.nx,ρ2))(h3:dJ bind body xs ρ2=r):dJ bind body (x::xs) ρ=r:=by
 rw[dJ,h1,cC,h2];exact h3
theorem yv{a:CE}{n:Int}(h:bC Φ a ρ=ok (.int n))(h0:0<=n)(h1:n<=1000000):cM Φ (.kn a) ρ=ok ((List.range n.toNat).map λ(k:Nat)=>D.int (k:Int),ρ):=by
 show bd (bC Φ a ρ) _=_;rw[h];show(if n<=(cg:Int) /\ -(cg:Int)<=n then _ else _)=_;have:(cg:Int)=1000000:=rfl;rw[if_pos (by left)]
theorem Be{a:CE}{f:Fl}(h:bC Φ a ρ=ok (.lst f ds)):cM Φ (.seq a) ρ=ok (aA aV ds,if (bp f||aL bp ds)then qN (gR a) 0 ρ else ρ):=by
 show bd (bC Φ a ρ) _=_;rw[h,<- BS];show ok (_,if aH bp (.lst f ds)then _ else _)=_;rw[BF]
noncomputable def fD(t b:Int):Int:=if b<0 then -(Int.gcd t b:Int)else(Int.gcd t b:Int)
def Jb(t b:Int):Int:=t.fdiv (fD t b)
def Jc(t b:Int):Int:=b.fdiv (fD t b)
theorem xj{t b:Int}(h:b≠0):0<Int.gcd t b:=Int.gcd_pos_of_ne_zero_right t h
theorem jl{t b:Int}(h:b≠0):fD t b≠0:=by
 have:=xj (t:=t) h;unfold fD;split<;>left
theorem Kb{t b:Int}(h:b≠0):Int.gcd t b<=b.natAbs:=abc (by left) (Nat.gcd_dvd_right _ _)
theorem Fx{t b:Int}(h:b≠0):(fD t b).natAbs<=b.natAbs:=by
 have:=Kb (t:=t) h;unfold fD;split<;>left
theorem mN{t b:Int}(h:b≠0):∃t' b':Int,t=fD t b*t'/\b=fD t b*b'/\Jb t b=t'/\Jc t b=b'/\1<=b'/\Int.gcd t' b'=1:=by
 have hg:=xj (t:=t) h;obtain⟨t1,ht⟩:(Int.gcd t b:Int)∣t:=Int.gcd_dvd_left ..;obtain⟨b1,hb⟩:(Int.gcd t b:Int)∣b:=Int.gcd_dvd_right ..;have hc:Int.gcd t1 b1=1:=by
  have e:Int.gcd ((Int.gcd t b:Int)*t1) ((Int.gcd t b:Int)*b1)=Int.gcd t b*Int.gcd t1 b1:=by
   rw[Int.gcd_mul_left];simp
  rw[<- ht,<- hb]at e;have:Int.gcd t b*1=Int.gcd t b*Int.gcd t1 b1:=by rw[Nat.mul_one];exact e
  exact(Nat.eq_of_mul_eq_mul_left hg this).symm
 by_cases hn:b<0
 ·have ed:fD t b = -(Int.gcd t b:Int):=by simp[fD,hn]
  have e1:t=fD t b*(-t1):=by rw[ed,Int.neg_mul_neg];exact ht
  have e2:b=fD t b*(-b1):=by rw[ed,Int.neg_mul_neg];exact hb
  refine⟨-t1,-b1,e1,e2,?_,?_,?_,by rw[Int.gcd_neg,Int.neg_gcd];exact hc⟩
  ·unfold Jb
   conv=>lhs;arg 1;rw[e1]
   exact aba _ (jl h)
  ·unfold Jc
   conv=>lhs;arg 1;rw[e2]
   exact aba _ (jl h)
  ·have:b1<0:=by
    by_cases UJ:b1<0
    ·exact UJ
    ·have:0<=(Int.gcd t b:Int)*b1:=Int.mul_nonneg (by left) (by left);left
   left
 ·have ed:fD t b=(Int.gcd t b:Int):=by simp[fD,hn]
  have e1:t=fD t b*t1:=by rw[ed];exact ht
  have e2:b=fD t b*b1:=by rw[ed];exact hb
  refine⟨t1,b1,e1,e2,?_,?_,?_,hc⟩
  ·unfold Jb
   conv=>lhs;arg 1;rw[e1]
   exact aba _ (jl h)
  ·unfold Jc
   conv=>lhs;arg 1;rw[e2]
   exact aba _ (jl h)
  ·have:0<b1:=by
    by_cases UJ:0<b1
    ·exact UJ
    ·have:(Int.gcd t b:Int)*b1<=0:=Int.mul_nonpos_of_nonneg_of_nonpos (by left) (by left);left
   left
noncomputable def qD(q:Rat):D:=.tup [.int q.num,.int q.den]
@[simp]theorem uZ(g:Fl->Fl)(q:Rat):aU g (qD q)=qD q:=by unfold qD;simp
@[simp]theorem fA(g:Fl->Bool)(q:Rat):aH g (qD q)=false:=by unfold qD;simp
noncomputable def bI(qs:av):ab:=qs.map qD
@[simp]theorem QB(qs:av):(bI qs).length=qs.length:=aaW ..
@[simp]theorem QA:bI []=[]:=rfl
@[simp]theorem M7(q:Rat)(qs:av):bI (q::qs)=qD q::bI qs:=rfl
@[simp]theorem M6(qs:av)(q:Rat):bI qs++[qD q]=bI (qs++[q]):=by simp[bI]
@[simp]theorem DW(qs:av)(i:Nat):(bI qs)[i]?=qs[i]?.map qD:=List.getElem?_map ..
@[simp]theorem Qz(qs:av)(i:Nat)(q:Rat):(bI qs).set i (qD q)=bI (qs.set i q):=by unfold bI;rw[List.map_set]
@[simp]theorem A3(g:Fl->Fl)(qs:av):aA g (bI qs)=bI qs:=b_ g (uZ g) qs
@[simp]theorem OY(g:Fl->Bool)(qs:av):aL g (bI qs)=false:=bH g (fA g) qs
theorem GF(n:Nat)(q:Rat):cO (n+1) (qD q)=true:=by
 unfold qD;rw[l6,List.all_cons,List.all_cons,gz,gz];rfl
theorem G4(p q:Rat):ku (qD p) (qD q)=decide (p=q):=by
 unfold qD;rw[Fs,kR,kR,B1,xu,xu,Bool.and_true];by_cases h:p=q
 ·subst h;simp
 ·rw[decide_eq_false h];cases e1:decide (p.num=q.num)with
  |false=>rfl
  |true =>
   cases e2:decide ((p.den:Int)=(q.den:Int))with
   |false=>rfl
   |true =>
    refine absurd (Rat.ext (by simpa using e1) ?_) h;have:(p.den:Int)=q.den:=by simpa using e2
    left
@[simp]theorem Wn(q:Rat):rL (qD q) (.int 0)=ok (.int q.num):=by unfold qD;simp
@[simp]theorem Wm(q:Rat):rL (qD q) (.int 1)=ok (.int q.den):=by unfold qD;simp
theorem qP{t b:Int}(hb:b≠0):t.fdiv (fD t b)=(Rat.divInt t b).num/\b.fdiv (fD t b)=((Rat.divInt t b).den:Int):=by
 obtain⟨t',b',e1,e2,h1,h2,h3,h4⟩:=mN (t:=t) hb;have hd:=jl (t:=t) hb;have e:Rat.divInt t b=Rat.divInt t' b':=by
  generalize fD t b=d at *;rw[e1,e2];exact Rat.divInt_mul_left hd
 obtain⟨n,rfl⟩:∃n:Nat,b'=(n:Int):=⟨b'.toNat,by left⟩
 have hc:t'.natAbs.Coprime n:=by
  have:Nat.gcd t'.natAbs n=1:=by simpa [Int.gcd]using h4
  exact this
 have hn:n≠0:=by left
 have e3:Rat.divInt t' (n:Int)=⟨t',n,hn,hc⟩:=Rat.mk_eq_divInt.symm;rw[e,e3];exact⟨h1,h2⟩
theorem iV(q:Rat):(q.den:Int)≠0:=by have:=q.den_pos;left
theorem M9(q:Rat):(1:Int)<=q.den:=by have:=q.den_pos;left
theorem fP(q:Rat):Rat.divInt q.num q.den=q:=Rat.num_divInt_den q
theorem l4{t b:Int}(hb:b≠0):(Rat.divInt t b).num.natAbs<=t.natAbs/\(Rat.divInt t b).den<=b.natAbs:=by
 obtain⟨t',b',e1,e2,h1,h2,h3,h4⟩:=mN (t:=t) hb;obtain⟨g1,g2⟩:=qP (t:=t) hb;have hd:1<=(fD t b).natAbs:=by have:=jl (t:=t) hb;left
 rw[show t.fdiv (fD t b)=t' from h1]at g1;rw[show b.fdiv (fD t b)=b' from h2]at g2;refine⟨?_,?_⟩
 ·rw[<- g1];have:t.natAbs=(fD t b).natAbs*t'.natAbs:=by rw[<- Int.natAbs_mul,<- e1]
  rw[this];exact Nat.le_mul_of_pos_left _ hd
 ·have hz:(Rat.divInt t b).den=b'.natAbs:=by left
  rw[hz];have:b.natAbs=(fD t b).natAbs*b'.natAbs:=by rw[<- Int.natAbs_mul,<- e2]
  rw[this];exact Nat.le_mul_of_pos_left _ hd
theorem Gz(p q:Rat):p+q=Rat.divInt (p.num*q.den+q.num*p.den) (p.den*q.den):=by
 conv=>lhs;rw[<- fP p,<- fP q]
 exact Rat.divInt_add_divInt _ _ (iV p) (iV q)
theorem M8(p q:Rat):p - q=Rat.divInt (p.num*q.den - q.num*p.den) (p.den*q.den):=by
 conv=>lhs;rw[<- fP p,<- fP q]
 exact Rat.divInt_sub_divInt _ _ (iV p) (iV q)
theorem Gx(p q:Rat):p*q=Rat.divInt (p.num*q.num) (p.den*q.den):=by
 conv=>lhs;rw[<- fP p,<- fP q]
 exact Rat.divInt_mul_divInt _ _
theorem M_(p q:Rat):p / q=Rat.divInt (p.num*q.den) (p.den*q.num):=by
 rw[Rat.div_def]
 conv=>lhs;rw[<- fP p,<- fP q,Rat.inv_divInt]
 exact Rat.divInt_mul_divInt _ _
def Sm(k:Nat)(q:Rat):Prop:=q.num.natAbs<2 ^ k/\q.den<2 ^ k
theorem Sm.mono{k l:Nat}{q:Rat}(h:Sm k q)(hl:k<=l):Sm l q :=
 ⟨aaj h.1 (aar (by decide) hl),aaj h.2 (aar (by decide) hl)⟩
theorem bJ{a b k l:Nat}(h:a<2 ^ k)(h':b<2 ^ l):a*b<2 ^ (k+l):=by
 rw[Nat.pow_add];exact Nat.mul_lt_mul'' h h'
theorem FY(a b:Int):(a+b).natAbs<=a.natAbs+b.natAbs:=by left
theorem FX(a b:Int):(a - b).natAbs<=a.natAbs+b.natAbs:=by left
section
variable {k l:Nat}{p q:Rat}
theorem Sm.den(h:Sm k p)(h':Sm l q):((p.den:Int)*q.den).natAbs<2 ^ (k+l):=by
 rw[Int.natAbs_mul];exact bJ (by simpa using h.2) (by simpa using h'.2)
theorem Sm.add(h:Sm k p)(h':Sm l q):Sm (k+l+1) (p+q):=by
 have hb:(p.den:Int)*q.den≠0:=abr (iV p) (iV q);obtain⟨g1,g2⟩:=l4 (t:=p.num*q.den+q.num*p.den) hb;rw[<- Gz]at g1 g2;have n1:(p.num*q.den).natAbs<2 ^ (k+l):=by rw[Int.natAbs_mul];exact bJ h.1 (by simpa using h'.2)
 have n2:(q.num*p.den).natAbs<2 ^ (k+l):=by rw[Int.natAbs_mul,Nat.add_comm];exact bJ h'.1 (by simpa using h.2)
 have:=FY (p.num*q.den) (q.num*p.den);have e:2 ^ (k+l+1)=2 ^ (k+l)*2:=Nat.pow_succ ..;have d:=h.den h';exact⟨by left,by left⟩
theorem Sm.sub(h:Sm k p)(h':Sm l q):Sm (k+l+1) (p - q):=by
 have hb:(p.den:Int)*q.den≠0:=abr (iV p) (iV q);obtain⟨g1,g2⟩:=l4 (t:=p.num*q.den - q.num*p.den) hb;rw[<- M8]at g1 g2;have n1:(p.num*q.den).natAbs<2 ^ (k+l):=by rw[Int.natAbs_mul];exact bJ h.1 (by simpa using h'.2)
 have n2:(q.num*p.den).natAbs<2 ^ (k+l):=by rw[Int.natAbs_mul,Nat.add_comm];exact bJ h'.1 (by simpa using h.2)
 have:=FX (p.num*q.den) (q.num*p.den);have e:2 ^ (k+l+1)=2 ^ (k+l)*2:=Nat.pow_succ ..;have d:=h.den h';exact⟨by left,by left⟩
theorem Sm.mul(h:Sm k p)(h':Sm l q):Sm (k+l) (p*q):=by
 have hb:(p.den:Int)*q.den≠0:=abr (iV p) (iV q);obtain⟨g1,g2⟩:=l4 (t:=p.num*q.num) hb;rw[<- Gx]at g1 g2;have n1:(p.num*q.num).natAbs<2 ^ (k+l):=by rw[Int.natAbs_mul];exact bJ h.1 h'.1
 have d:=h.den h';exact⟨by left,by left⟩
theorem Ip(h:q≠0):q.num≠0:=λz=>h (by rw[<- fP q,z];simp)
theorem Sm.big(h:Sm k p)(hk:k<=9000):p.num.natAbs<2 ^ 9000/\(p.den:Int).natAbs<2 ^ 9000:=by
 have:=h.mono hk;exact⟨this.1,by simpa using this.2⟩
end
theorem oO{t b:Int}{k:Nat}(hb:b≠0)(h1:t.natAbs<2 ^ k)(h2:b.natAbs<2 ^ k):Sm k (Rat.divInt t b):=by
 obtain⟨g1,g2⟩:=l4 (t:=t) hb;exact⟨by left,by left⟩
def dD(d:D):Bool:=du .int d&&!du .bool d
def dZ(m:aC):Prop:=∀d,m [d]=ok (.bl (dD d))
noncomputable def gE:ah:=[.ret (.and [(.o_ (.v 0) .int),(.not (.o_ (.v 0) .bool))])]
theorem uN(Φ:a_):dZ (mk Φ 1 1 gE):=by
 intro d;simp[mk_eq,gE,dD]
theorem ni(a:Int){b:Int}(h:b≠0):(a.fmod b).natAbs<b.natAbs:=by
 rcases Int.lt_or_gt_of_ne h with hb|hb
 ·have e:=Int.neg_fmod_neg a b;have h1:=abE (-a) (show 0 < -b by left);have h2:=ab_ (-a) (show 0 < -b by left);left
 ·have h1:=abE a hb;have h2:=ab_ a hb;left
theorem BP(a b:Int):Int.gcd b (a.fmod b)=Int.gcd a b:=by
 rw[Int.fmod_def,Int.gcd_sub_mul_left_right,Int.gcd_comm]
def bF(m:aC):Prop:=∀a b:Int,m [.int a,.int b]=ok (.int (Int.gcd a b))
noncomputable def zC:CS:=.Hx (.cmp .ne (.v 1) (.int 0)) [.asg (.nm 2) (.bin .mod (.v 0) (.v 1)),.asg (.nm 0) (.v 1),.asg (.nm 1) (.v 2)]
def de:ah:=[zC,.ret (.bf .abs [(.v 0)])]
theorem FJ(Φ:a_):∀(n:Nat) (a b:Int) (r:aJ),b.natAbs<=n->∃(g:Int) (r':aJ),jh Φ zC [some (.int a),some (.int b),r]=ok (.nx,[some (.int g),some (.int 0),r'])/\g.natAbs=Int.gcd a b:=by
 intro n;induction n with
 |zero =>
  intro a b r h;have hb:b=0:=by left
  subst hb;refine⟨a,r,?_,by simp⟩;rw[zC,oF];exact gv (by simp)
 |succ n ih =>
  intro a b r h;by_cases hb:b=0
  ·subst hb;refine⟨a,r,?_,by simp⟩;rw[zC,oF];exact gv (by simp)
  ·have fu:=ni a hb;obtain⟨g,r',e,hg⟩:=ih b (a.fmod b) (some (.int (a.fmod b))) (by left);refine⟨g,r',?_,by rw[hg,BP]⟩;rw[zC,oF]at e ⊢;rw[<- e];exact mC (by simp[hb])
theorem kI(Φ:a_):bF (mk Φ 2 3 de):=by
 intro a b;obtain⟨g,r',e,hg⟩:=FJ Φ b.natAbs a b none (aai _);have e1:(g.natAbs:Int)=(Int.gcd a b:Int):=by left
 simp[mk_eq,de,e,e1]
def gI(m:aC):Prop:=∀t b:Int,b≠0->b.natAbs<2 ^ 9000->m [.int t,.int b]=ok (qD (Rat.divInt t b))
def eE(m:aC):Prop:=gI m/\∀t:Int,m [.int t,.int 0]=some (.error 0)
noncomputable def cI:ah:=[.ifs (.cmp .eq (.v 1) (.int 0)) [.rs 0] [],.asg (.nm 2) (.call 1 [(.v 0),(.v 1)]),.ifs (.cmp .lt (.v 1) (.int 0)) [.asg (.nm 2) (.neg (.v 2))] [],.ret (.tup [(.bin .fdiv (.v 0) (.v 2)),(.bin .fdiv (.v 1) (.v 2))])]
theorem mj{t b:Int}(hb:b≠0)(h:b.natAbs<2 ^ 9000)(x:Int):dy .fdiv (.int x) (.int (fD t b))=ok (.int (x.fdiv (fD t b))) :=
 rC (j3 (jl hb) (aaz (Fx hb) h))
theorem oo(Φ:a_)(h1:bF (Φ 1)):eE (mk Φ 2 3 cI):=by
 refine⟨λt b hb h=>?_,λt=>by simp[mk_eq,cI]⟩;obtain⟨e1,e2⟩:=qP (t:=t) hb;unfold bF at h1;have d1:=mj (t:=t) hb h t;have d2:=mj (t:=t) hb h b;rw[qD,<- e1,<- e2];by_cases hn:b<0
 ·have ed:-(Int.gcd t b:Int)=fD t b:=by simp[fD,hn]
  simp[mk_eq,cI,hb,h1,hn,ed,d1,d2]
 ·have ed:(Int.gcd t b:Int)=fD t b:=by simp[fD,hn]
  simp[mk_eq,cI,hb,h1,hn,ed,d1,d2]
noncomputable def dQ:D->Bool
 |.tup [.int a,.int b]=>decide (1<=b)&&decide (Int.gcd a b=1)
 |_=>false
theorem xp(q:Rat):dQ (qD q)=true:=by
 have h1:=M9 q;have h2:Int.gcd q.num q.den=1:=by
  have:=q.reduced;simpa [Int.gcd]using this
 simp[qD,dQ,h1,h2]
def eD(m:aC):Prop:=∀d,m [d]=ok (.bl (dQ d))
noncomputable def b9:ah:=[.ifs (.or [(.not (.o_ (.v 0) .tuple)),(.cmp .ne (.bf .len [(.v 0)]) (.int 2))]) [.ret (.bl false)] [],.ifs (.or [(.not (.call 0 [(.ix (.v 0) (.int 0))])),(.not (.call 0 [(.ix (.v 0) (.int 1))]))]) [.ret (.bl false)] [],.ret (.and [(.cmp .ge (.ix (.v 0) (.int 1)) (.int 1)),(.cmp .eq (.call 1 [(.ix (.v 0) (.int 0)),(.ix (.v 0) (.int 1))]) (.int 1))])]
theorem k_(g:Fl->Fl)(d:D):dD (aU g d)=dD d:=by simp[dD]
theorem mB{d:D}(h:dD d=true):∃i,d=.int i:=by
 cases d<;>simp[dD,du]at h ⊢
theorem pw{x y:D}(h:dD x=false\/dD y=false):dQ (.tup [x,y])=false:=by
 cases x<;>cases y<;>simp[dD,du]at h<;>rfl
theorem yP(h:ds.length≠2):dQ (.tup ds)=false:=by
 unfold dQ;split
 ·rename_i e;cases e;simp at h
 ·rfl
theorem om(Φ:a_)(h0:dZ (Φ 0))(h1:bF (Φ 1)):eD (mk Φ 1 1 b9):=by
 intro d;unfold dZ at h0;unfold bF at h1;cases d with
 |tup ds =>
  by_cases hl:ds.length=2
  ·match ds,hl with
   |[x,y],_ =>
    by_cases hx:dD x=true
    ·by_cases hy:dD y=true
     ·obtain⟨a,rfl⟩:=mB hx;obtain⟨b,rfl⟩:=mB hy;simp[mk_eq,b9,h0,h1,hx,hy,du,dQ];by_cases hg:a.gcd b=1
      ·simp[hg]
      ·simp[hg];left
     ·simp[mk_eq,b9,h0,hx,hy,du,k_,pw (.inr (by simpa using hy))]
    ·simp[mk_eq,b9,h0,hx,du,k_,pw (.inl (by simpa using hx))]
  ·have nY:¬ (ds.length:Int)=2:=by left
   simp[mk_eq,b9,du,nY,yP hl]
 |_=>simp[mk_eq,b9,du,dQ]
def Hk(m:aC):Prop:=∀p q,Sm 4000 p->Sm 4000 q->m [qD p,qD q]=ok (qD (p+q))
def kb(m:aC):Prop:=∀p q,Sm 4000 p->Sm 4000 q->m [qD p,qD q]=ok (qD (p*q))
def Lh(m:aC):Prop:=(∀p q,Sm 4000 p->Sm 4000 q->q≠0->m [qD p,qD q]=ok (qD (p / q)))/\∀p,Sm 4000 p->m [qD p,qD 0]=some (.error 0)
def F1(m:aC):Prop:=∀p q,Sm 4000 p->Sm 4000 q->m [qD p,qD q]=ok (.bl (decide (p<q)))
noncomputable def xR(f:Nat):ah:=[.ret (.call f [(.bin .add (.bin .mul (.ix (.v 0) (.int 0)) (.ix (.v 1) (.int 1))) (.bin .mul (.ix (.v 1) (.int 0)) (.ix (.v 0) (.int 1)))),(.bin .mul (.ix (.v 0) (.int 1)) (.ix (.v 1) (.int 1)))])]
noncomputable def iS(f:Nat):ah:=[.ret (.call f [(.bin .mul (.ix (.v 0) (.int 0)) (.ix (.v 1) (.int 0))),(.bin .mul (.ix (.v 0) (.int 1)) (.ix (.v 1) (.int 1)))])]
noncomputable def Cv(f:Nat):ah:=[.ret (.call f [(.bin .mul (.ix (.v 0) (.int 0)) (.ix (.v 1) (.int 1))),(.bin .mul (.ix (.v 0) (.int 1)) (.ix (.v 1) (.int 0)))])]
section
variable (Φ:a_){f:Nat}(h2:gI (Φ f))
theorem PF{p q:Rat}(hp:Sm 4000 p)(hq:Sm 4000 q):(p.den:Int)*q.den≠0/\((p.den:Int)*q.den).natAbs<2 ^ 9000 :=
 ⟨abr (iV p) (iV q),aaj (hp.den hq) (aar (by decide) (by decide))⟩
theorem Eu{p q:Rat}(hp:Sm 4000 p)(hq:Sm 4000 q):dy .mul (.int p.num) (.int q.den)=ok (.int (p.num*q.den))/\dy .mul (.int p.num) (.int q.num)=ok (.int (p.num*q.num))/\dy .mul (.int p.den) (.int q.den)=ok (.int (p.den*q.den))/\dy .mul (.int p.den) (.int q.num)=ok (.int (p.den*q.num)):=by
 obtain⟨a,b⟩:=hp.big (by decide);obtain⟨c,d⟩:=hq.big (by decide);exact⟨i_ (mulOk_of a d),i_ (mulOk_of a c),i_ (mulOk_of b d),i_ (mulOk_of b c)⟩
include h2
theorem MS:Hk (mk Φ 2 2 (xR f)):=by
 intro p q hp hq;obtain⟨a,b,c,d⟩:=Eu hp hq;obtain⟨a',b',c',d'⟩:=Eu hq hp;obtain⟨n,k⟩:=PF hp hq;have e:=h2 (p.num*q.den+q.num*p.den) _ n k;rw[<- Gz]at e;simp[mk_eq,xR,a,a',c,e]
theorem wc:kb (mk Φ 2 2 (iS f)):=by
 intro p q hp hq;obtain⟨a,b,c,d⟩:=Eu hp hq;obtain⟨n,k⟩:=PF hp hq;have e:=h2 (p.num*q.num) _ n k;rw[<- Gx]at e;simp[mk_eq,iS,b,c,e]
omit h2 in
theorem s_by(h2:eE (Φ f)):Lh (mk Φ 2 2 (Cv f)):=by
 refine⟨λp q hp hq h0=>?_,λp hp=>?_⟩
 ·obtain⟨a,b,c,d⟩:=Eu hp hq;have n:(p.den:Int)*q.num≠0:=abr (iV p) (Ip h0);have k:((p.den:Int)*q.num).natAbs<2 ^ 9000:=by
   rw[Int.natAbs_mul];exact aaj (bJ (by simpa using hp.2) hq.1) (aar (by decide) (by decide))
  have e:=h2.1 (p.num*q.den) _ n k;rw[<- M_]at e;simp[mk_eq,Cv,a,d,e]
 ·have e:=h2.2 p.num;simp[mk_eq,Cv,e]
end
theorem tX{bind:D->O ba}{test:ba->O Bool}{el:ba->O D}{g:D->D}(h:∀x∈xs,∃ρ,bind x=ok ρ/\test ρ=ok true/\el ρ=ok (g x)):gT bind test el xs=ok (xs.map g):=by
 have:=cB (bind:=bind) (test:=test) (el:=el) (e:=λd=>d) (g:=g) (xs:=xs) h
 rwa [List.map_id']at this
theorem ng(g:Fl->Fl)(d:D):dQ (aU g d)=dQ d:=by
 cases d with
 |tup ds =>
  match ds with
  |[]=>simp
  |[_]=>simp[dQ]
  |[x,y]=>cases x<;>cases y<;>simp[dQ]
  |_::_::_::_=>simp[dQ]
 |_=>simp[dQ]
def zd(d:D)(n:Int):Bool:=match d with
 |.lst _ ds=>decide ((ds.length:Int)=n)&&ds.all dQ
 |_=>false
def FL(d:D):Prop:=match d with
 |.lst _ ds=>ds.length<=1000000
 |.tup ds=>ds.length<64
 |_=>True
def eQ(m:aC):Prop:=∀d n,FL d->m [d,.int n]=ok (.bl (zd d n))
noncomputable def cm:ah:=[.ifs (.or [(.not (.o_ (.v 0) .list)),(.cmp .ne (.bf .len [(.v 0)]) (.v 1))]) [.ret (.bl false)] [],.ret (.bf .all1 [(.comp 1 (.nm 0) [] .seq [(.v 0)] [] (.call 3 [(.v 0)]))])]
theorem lK(Φ:a_)(h3:eD (Φ 3)):eQ (mk Φ 2 2 cm):=by
 intro d n hc;unfold eD at h3;cases d with
 |lst f ds =>
  by_cases hn:(ds.length:Int)=n
  ·have pf:bC Φ (.comp 1 (.nm 0) [] .seq [(.v 0)] [] (.call 3 [(.v 0)])) [some (.lst f ds),some (.int n)]=ok (.lst .ow (rn (ds.map dQ))):=by
    rw[dM (xs:=[.lst (bj f) (aA bj ds)]) (by simp) (eY ..) (tX (g:=λd=>.bl (dQ d)) λx _=>⟨[some x],by simp[bP],by simp,by simp[h3,ng]⟩) (by simp;exact cP hc)];simp[aY,Function.comp_def,ng,rn]
   simp[mk_eq,cm,du,hn,pf,zd]
  ·simp[mk_eq,cm,du,hn,zd]
 |_=>simp[mk_eq,cm,du,zd]
theorem K9(f:Fl)(qs:av)(n:Int):zd (.lst f (bI qs)) n=decide ((qs.length:Int)=n):=by
 unfold zd;have:(bI qs).all dQ=true:=by unfold bI;rw[List.all_map];exact List.all_eq_true.mpr λq _=>xp q
 simp[this]
noncomputable def bW(qs:av):Nat:=qs.foldl (λb q=>Nat.lcm b q.den) 1
theorem A8(b:Nat)(q:Rat):(b:Int).fdiv (Int.gcd b q.den)*q.den=(Nat.lcm b q.den:Nat):=by
 have hg:0<Nat.gcd b q.den:=Nat.gcd_pos_of_pos_right _ q.den_pos;have e:Int.gcd (b:Int) (q.den:Int)=Nat.gcd b q.den:=by simp[Int.gcd]
 rw[e,Int.fdiv_eq_ediv_of_nonneg _ (by left)];have:((b:Int) / (Nat.gcd b q.den:Nat))=((b / Nat.gcd b q.den:Nat):Int):=(Int.natCast_ediv ..).symm;rw[this,Nat.lcm];have hd:Nat.gcd b q.den∣b:=Nat.gcd_dvd_left ..;rw[Nat.mul_comm b,Nat.mul_div_assoc _ hd,Nat.mul_comm];exact(Int.natCast_mul ..).symm
theorem lcm_pos{b:Nat}(hb:0<b)(q:Rat):0<Nat.lcm b q.den:=Nat.lcm_pos hb q.den_pos
theorem wX:∀(qs:av) (b k j:Nat),0<b->b<2 ^ j->(∀q∈qs,Sm k q)->0<qs.foldl (λb q=>Nat.lcm b q.den) b/\qs.foldl (λb q=>Nat.lcm b q.den) b<2 ^ (j+k*qs.length)/\b∣qs.foldl (λb q=>Nat.lcm b q.den) b/\∀q∈qs,q.den∣qs.foldl (λb q=>Nat.lcm b q.den) b
 |[],b,k,j,h0,h1,_=>⟨h0,by simpa using h1,Nat.dvd_refl _,λq hq=>nomatch hq⟩
 |q::qs,b,k,j,h0,h1,hs=>by
  have hq:=hs q aaf;have h2:Nat.lcm b q.den<2 ^ (j+k):=aaz (Nat.lcm_le_mul h0 q.den_pos) (bJ h1 hq.2);obtain⟨g1,g2,g3,g4⟩:=wX qs (Nat.lcm b q.den) k (j+k) (lcm_pos h0 q) h2 λp hp=>hs p (aad _ hp);have e:j+k*(q::qs).length=j+k+k*qs.length:=by rw[List.length_cons,Nat.mul_succ];left
  refine⟨g1,by rw[e];exact g2,Nat.dvd_trans (Nat.dvd_lcm_left ..) g3,λp hp=>?_⟩;rcases List.mem_cons.mp hp with rfl|hp
  ·exact Nat.dvd_trans (Nat.dvd_lcm_right ..) g3
  ·exact g4 p hp
structure rO(k:Nat)(qs:av):Prop where
 sm:∀q∈qs,Sm k q
 kr:k*qs.length<=3000
 len:qs.length<=1000
variable {qs:av}
theorem rO.lcm{k:Nat}(h:rO k qs):0<bW qs/\bW qs<2 ^ (1+k*qs.length)/\∀q∈qs,q.den∣bW qs:=by
 obtain⟨g1,g2,_,g4⟩:=wX qs 1 k 1 (by decide) (by decide) h.sm;exact⟨g1,g2,g4⟩
theorem vb{n j:Nat}(h:n<2 ^ j)(hj:j<=9000):n<2 ^ 9000:=aaj h (aar (by decide) hj)
def eP(m:aC):Prop:=∀f qs k,rO k qs->m [.lst f (bI qs)]=ok (.int (bW qs))
noncomputable def ck:ah:=[.asg (.nm 1) (.bin .mul (.bin .fdiv (.v 1) (.call 1 [(.v 1),(.ix (.v 2) (.int 1))])) (.ix (.v 2) (.int 1)))]
def cH:ah:=[.asg (.nm 1) (.int 1),.fr (.nm 2) (.seq (.v 0)) ck,.ret (.v 1)]
theorem xO(Φ:a_)(h1:bF (Φ 1))(x:aJ):∀(qs:av) (b k j:Nat) (z:aJ),0<b->b<2 ^ j->j+k*qs.length<=8000->(∀q∈qs,Sm k q) ->
  ∃z',dJ (λd ρ=>cy (.nm 2) d ρ) (λρ=>bA Φ ck ρ) (bI qs) [x,some (.int b),z]=ok (.nx,[x,some (.int (qs.foldl (λb q=>Nat.lcm b q.den) b:Nat)),z'])
 |[],b,k,j,z,_,_,_,_=>⟨z,rfl⟩
 |q::qs,b,k,j,z,h0,hb,hj,hs=>by
  have hq:=hs q aaf;have h2:Nat.lcm b q.den<2 ^ (j+k):=aaz (Nat.lcm_le_mul h0 q.den_pos) (bJ hb hq.2);have e:j+k*(q::qs).length=j+k+k*qs.length:=by rw[List.length_cons,Nat.mul_succ];left
  obtain⟨z',ih⟩:=xO Φ h1 x qs (Nat.lcm b q.den) k (j+k) (some (qD q)) (lcm_pos h0 q) h2 (by left) λp hp=>hs p (aad _ hp);have hg:0<Nat.gcd b q.den:=Nat.gcd_pos_of_pos_right _ q.den_pos;have eg:Int.gcd (b:Int) (q.den:Int)=Nat.gcd b q.den:=by simp[Int.gcd]
  have yH:Nat.gcd b q.den<=b:=abc h0 (Nat.gcd_dvd_left ..);have WS:b<2 ^ 9000:=vb hb (by left);have d1:dy .fdiv (.int b) (.int (Nat.gcd b q.den:Nat))=ok (.int ((b:Int).fdiv (Nat.gcd b q.den:Nat))):=rC (j3 (by left) (by simpa using Nat.lt_of_le_of_lt yH WS));have hm:((b:Int).fdiv (Nat.gcd b q.den:Nat)).natAbs<=b:=by
   rw[Int.fdiv_eq_ediv_of_nonneg _ (by left),<- Int.natCast_ediv];simp;exact abX ..
  have d2:dy .mul (.int ((b:Int).fdiv (Nat.gcd b q.den:Nat))) (.int q.den)=ok (.int (Nat.lcm b q.den:Nat)):=by
   have:=A8 b q;rw[eg]at this;rw[i_ (mulOk_of (Nat.lt_of_le_of_lt hm WS) (hq.big (by
    rw[e]at hj;have:k<=j+k+k*qs.length:=by left
    left)).2),this]
  unfold bF at h1;refine⟨z',dj (ρ1:=[x,some (.int b),some (qD q)]) (by simp) (ρ2:=[x,some (.int (Nat.lcm b q.den:Nat)),some (qD q)]) ?_ ih⟩;simp[ck,h1,d1,d2]
theorem lJ(Φ:a_)(h1:bF (Φ 1)):eP (mk Φ 1 3 cH):=by
 intro f qs k hs;have hit:cM Φ (.seq (.v 0)) [some (.lst f (bI qs)),some (.int 1),none]=ok (bI qs,if (bp (bj f)||false)then[some (.lst (aV f) (bI qs)),some (.int 1),none]else[some (.lst f (bI qs)),some (.int 1),none]):=by
  rw[Be (f:=bj f) (ds:=bI qs) (by simp)];simp[show gR (.v 0)=[0] from rfl]
 have hk:=hs.kr;have hx:∀x:aJ,∃z',dJ (λd ρ=>cy (.nm 2) d ρ) (λρ=>bA Φ ck ρ) (bI qs) [x,some (.int (1:Nat)),none]=ok (.nx,[x,some (.int (bW qs)),z']):=λx=>xO Φ h1 x qs 1 k 1 none (by decide) (by decide) (by left) hs.sm;cases hf:(bp (bj f)||false)with
 |true =>
  rw[hf]at hit;obtain⟨z',e⟩:=hx (some (.lst (aV f) (bI qs)));have:=eU (t:=.nm 2) (b:=ck) hit e;simp[mk_eq,cH,this]
 |false =>
  rw[hf]at hit;obtain⟨z',e⟩:=hx (some (.lst f (bI qs)));have:=eU (t:=.nm 2) (b:=ck) hit e;simp[mk_eq,cH,this]
noncomputable def bz(b:Nat)(q:Rat):Int:=q.num*(b:Int).fdiv q.den
theorem oV(q:Rat):(q.num:Rat)=q*(q.den:Rat):=by
 have h:(q.den:Rat)≠0:=by
  have:=q.den_pos;intro z;have:((q.den:Int):Rat)=0:=by rw[Rat.intCast_natCast];exact z
  rw[Rat.intCast_eq_zero_iff]at this;left
 have e:q=(q.num:Rat) / (q.den:Rat):=by
  conv=>lhs;rw[<- fP q,Rat.divInt_eq_div,Rat.intCast_natCast]
 grind
theorem fg{b:Nat}{q:Rat}(h:q.den∣b):((bz b q:Int):Rat)=q*(b:Rat):=by
 obtain⟨c,rfl⟩:=h;have hd:(q.den:Int)≠0:=iV q;unfold bz;rw[Int.natCast_mul,Int.mul_fdiv_cancel_left _ hd,Rat.intCast_mul,oV,Rat.natCast_mul,Rat.intCast_natCast];grind
theorem jG{b:Nat}:∀{qs:av},(∀q∈qs,q.den∣b)->(((qs.map (bz b)).sum:Int):Rat)=qs.sum*(b:Rat)
 |[],_=>by simp
 |q::qs,h=>by
  rw[List.map_cons,List.sum_cons,List.sum_cons,Rat.intCast_add,fg (h q List.mem_cons_self),jG λp hp=>h p (List.mem_cons_of_mem _ hp)];grind
def iB(m:aC):Prop:=∀f qs k (b:Nat),rO k qs->b<2 ^ 8000->m [.lst f (bI qs),.int b]=ok (.lst .ow (af (qs.map (bz b))))
noncomputable def fK:ah:=[.ret (.comp 1 (.nm 0) [1] .seq [(.v 0)] [] (.bin .mul (.ix (.v 0) (.int 0)) (.bin .fdiv (.v 1) (.ix (.v 0) (.int 1)))))]
theorem DJ{k:Nat}(h:rO k qs){q:Rat}(hq:q∈qs):Sm 3000 q:=by
 refine(h.sm q hq).mono ?_;have h1:=h.kr;have h2:0<qs.length:=List.length_pos_of_mem hq;have:k*1<=k*qs.length:=aaE _ h2;left
theorem sC(Φ:a_):iB (mk Φ 2 2 fK):=by
 intro f qs k b hs hb;have pf:bC Φ (.comp 1 (.nm 0) [1] .seq [(.v 0)] [] (.bin .mul (.ix (.v 0) (.int 0)) (.bin .fdiv (.v 1) (.ix (.v 0) (.int 1))))) [some (.lst f (bI qs)),some (.int b)]=ok (.lst .ow (af (qs.map (bz b)))):=by
  rw[dM (xs:=[.lst (bj f) (bI qs)]) (items:=bI qs) (ds:=qs.map λq=>.int (bz b q)) (by simp) (by rw[eY];simp) (cB λq hq=>?_) (by have:=hs.len;simp;exact cP (by left))]
  ·have:(qs.map λq=>D.int (bz b q))=af (qs.map (bz b)):=by simp[af]
   rw[this,cF]
  ·refine⟨[some (qD q),some (.int b)],by simp[bP],by simp,?_⟩;have h3:=DJ hs hq;obtain⟨g1,g2⟩:=h3.big (by decide);have d1:dy .fdiv (.int b) (.int q.den)=ok (.int ((b:Int).fdiv q.den)):=rC (j3 (iV q) g2);have d2:dy .mul (.int q.num) (.int ((b:Int).fdiv q.den))=ok (.int (q.num*(b:Int).fdiv q.den)):=by
    refine i_ (mulOk_of g1 ?_);rw[Int.fdiv_eq_ediv_of_nonneg _ (by left),<- Int.natCast_ediv];have:=abX b q.den;have h9:=vb hb (by decide);rw[Int.natAbs_natCast];exact aaz this h9
   simp[d1,d2,bz]
 simp[mk_eq,fK,pf]
def nP(m:aC):Prop:=∀f qs k,rO k qs->m [.lst f (bI qs)]=ok (.tup [.int (bW qs),.lst .ow (af (qs.map (bz (bW qs))))])
noncomputable def gD:ah:=[.asg (.nm 1) (.call 9 [(.v 0)]),.ret (.tup [(.v 1),(.call 10 [(.v 0),(.v 1)])])]
theorem rO.Jr{k:Nat}(h:rO k qs):bW qs<2 ^ 8000:=aaj h.lcm.2.1 (aar (by decide) (by have:=h.kr;left))
theorem uM(Φ:a_)(h9:eP (Φ 9))(J_:iB (Φ 10)):nP (mk Φ 1 2 gD):=by
 intro f qs k hs;have e1:=λf=>h9 f qs k hs;have e2:=λf=>J_ f qs k (bW qs) hs hs.Jr;simp[mk_eq,gD,e1,e2]
def gH(m:aC):Prop:=∀f qs k,rO k qs->m [.lst f (bI qs)]=ok (qD qs.sum)
noncomputable def e9:ah:=[.asg (.nm 1) (.call 41 [(.v 0)]),.ret (.call 2 [(.bf .mH [(.ix (.v 1) (.int 1))]),(.ix (.v 1) (.int 0))])]
theorem Dw{b:Nat}(h0:0<b)(h:∀q∈qs,q.den∣b):Rat.divInt (qs.map (bz b)).sum b=qs.sum:=by
 have hb:((b:Nat):Rat)≠0:=by
  intro z;have:((b:Int):Rat)=0:=by rw[Rat.intCast_natCast];exact z
  rw[Rat.intCast_eq_zero_iff]at this;left
 rw[Rat.divInt_eq_div,jG h,Rat.intCast_natCast];grind
theorem p5(Φ:a_)(h2:eE (Φ 2))(Zu:nP (Φ 41)):gH (mk Φ 1 2 e9):=by
 intro f qs k hs;have e1:=λf=>Zu f qs k hs;obtain⟨g1,g2,g3⟩:=hs.lcm;have e2:=h2.1 (qs.map (bz (bW qs))).sum (bW qs) (by left) (by have:=vb hs.Jr (by decide);simpa using this);rw[Dw g1 g3]at e2;simp[mk_eq,e9,e1,e2]
noncomputable def dw(n:Int):D->Bool
 |.int i=>decide (0<=i)&&decide (i<n)
 |_=>false
theorem tm(g:Fl->Fl)(n:Int)(d:D):dw n (aU g d)=dw n d:=by
 cases d<;>simp[dw]
theorem lu{n:Int}:∀{ds:ab},ds.all (dw n)=true->∃ns:aa,ds=af ns
 |[],_=>⟨[],rfl⟩
 |d::ds,h=>by
  simp only[List.all_cons,Bool.and_eq_true]at h;obtain⟨ns,rfl⟩:=lu h.2;cases d with
  |int i=>exact⟨i::ns,rfl⟩
  |_=>simp[dw]at h
def numsOf(ds:ab):aa:=(intsOf ds).getD []
theorem lp(ns:aa):numsOf (af ns)=ns:=by unfold numsOf af;rw[br];rfl
def iK(d:D)(n:Int):Bool:=match d with
 |.tup ds=>ds.all (dw n)&&decide ((tU (numsOf ds)).length=ds.length)
 |_=>false
def kc(m:aC):Prop:=∀d n,FL d->m [d,.int n]=ok (.bl (iK d n))
noncomputable def df:ah:=[.ifs (.not (.o_ (.v 0) .tuple)) [.ret (.bl false)] [],.ifs (.not (.bf .all1 [(.comp 1 (.nm 0) [1] .seq [(.v 0)] [] (.and [(.call 0 [(.v 0)]),(.cmp .ge (.v 0) (.int 0)),(.cmp .lt (.v 0) (.v 1))]))])) [.ret (.bl false)] [],.ret (.cmp .eq (.je (.v 0)) (.bf .len [(.v 0)]))]
theorem p6(Φ:a_)(h0:dZ (Φ 0)):kc (mk Φ 2 2 df):=by
 intro d n hc;unfold dZ at h0;cases d with
 |tup ds =>
  have hl:ds.length<64:=hc;have pf:bC Φ (.comp 1 (.nm 0) [1] .seq [(.v 0)] [] (.and [(.call 0 [(.v 0)]),(.cmp .ge (.v 0) (.int 0)),(.cmp .lt (.v 0) (.v 1))])) [some (.tup ds),some (.int n)]=ok (.lst .ow (rn (ds.map (dw n)))):=by
   rw[dM (xs:=[.tup (aA bj ds)]) (by simp) (qA ..) (tX (g:=λd=>.bl (dw n d)) λx _=>⟨[some x,some (.int n)],by simp[bP],by simp,?_⟩) (by simp;exact cP (by left))]
   ·simp[aY,Function.comp_def,tm,rn]
   ·cases x with
    |int i =>
     simp[h0,dD,du,dw]
    |_=>simp[h0,dD,du,dw]
  cases ha:ds.all (dw n)with
  |true =>
   obtain⟨ns,rfl⟩:=lu ha;have nY:ns.length<4000:=by simp at hl;left
   have e:(List.all (List.map (dw n) (af ns)) id)=true:=by rw[List.all_map];exact ha
   simp[mk_eq,df,du,pf,e,KH nY,iK,ha,lp];simp[Int.natCast_inj]
  |false =>
   have e:(List.all (List.map (dw n) ds) id)=false:=by rw[List.all_map];exact ha
   simp only[mk_eq,df,List.length_cons,List.length_nil];simp[du,pf,e,iK,ha]
 |_=>simp[mk_eq,df,du,iK]
def C3(n:Nat)(l:aa):Prop:=l.Pairwise (· < ·)/\∀h∈l,0<=h/\h<(n:Int)
theorem xD:∀(l m:aa),(∀x∈l,x∉m)->l.Nodup->l.foldl (λ(m:aa) (k:Int)=>if m.any (· == k)then m else m++[k]) m=m++l
 |[],m,_,_=>by simp
 |x::l,m,h,hn=>by
  have hx:m.any (· == x)=false:=by
   rw[List.any_eq_false];intro y hy z;have:y=x:=by simpa using z
   exact h x aaf (this▸hy)
  rw[List.foldl_cons,hx,if_neg Bool.false_ne_true,xD l (m++[x])]
  ·simp
  ·intro y hy z;rcases List.mem_append.mp z with z|z
   ·exact h y (aad _ hy) z
   ·have:y=x:=by simpa using z
    subst this;exact(List.nodup_cons.mp hn).1 hy
  ·exact(List.nodup_cons.mp hn).2
theorem C3.nodup{n:Nat}{l:aa}(h:C3 n l):l.Nodup:=h.1.imp λz=>by left
noncomputable def j6(ns:aa)(k:Int):Int :=
 let c:=if k<ns.length then ns.getD k.toNat 0 else 0
 if (10:Int) ^ 18<=c then(c - 10 ^ 18).fmod (10 ^ 60)else
  let n:=(c*48271+k*69621+11).fmod 2147483629
  let n:=(n*n).fmod 2147483587
  n*2147483563+(n*n).fmod 2147483563
def nS(m:aC):Prop:=∀(ns:aa) (k:Int),0<=k->m [.lst .sc (af ns),.int k]=ok (.int (j6 ns k))
noncomputable def eO:ah:=[.asg (.nm 2) (.int 0),.ifs (.cmp .lt (.v 1) (.bf .len [(.v 0)])) [.asg (.nm 2) (.ix (.v 0) (.v 1))] [],.ifs (.cmp .ge (.v 2) (.bin .pow (.int 10) (.int 18))) [.ret (.bin .mod (.bin .sub (.v 2) (.bin .pow (.int 10) (.int 18))) (.bin .pow (.int 10) (.int 60)))] [],.asg (.nm 3) (.bin .mod (.bin .add (.bin .add (.bin .mul (.v 2) (.int 48271)) (.bin .mul (.v 1) (.int 69621))) (.int 11)) (.int 2147483629)),.asg (.nm 3) (.bin .mod (.bin .mul (.v 3) (.v 3)) (.int 2147483587)),.ret (.bin .add (.bin .mul (.v 3) (.int 2147483563)) (.bin .mod (.bin .mul (.v 3) (.v 3)) (.int 2147483563)))]
theorem eZ(a:Int){b:Int}(h:0<b):0<=a.fmod b/\a.fmod b<b:=⟨abE a h,ab_ a h⟩
theorem y6(Φ:a_)(x:D)(k c:Int)(hx:du .list x=true)(o:aJ):kS (bA Φ (eO.drop 2) [some x,some (.int k),some (.int c),o])=ok (.int (if (10:Int) ^ 18<=c then(c - 10 ^ 18).fmod (10 ^ 60)else
  let n:=(c*48271+k*69621+11).fmod 2147483629
  let n:=(n*n).fmod 2147483587
  n*2147483563+(n*n).fmod 2147483563)):=by
 have p1:dy .pow (.int 10) (.int 18)=ok (.int (10 ^ 18)):=Hf (by decide);have p2:dy .pow (.int 10) (.int 60)=ok (.int (10 ^ 60)):=Hf (by decide);by_cases h:(10:Int) ^ 18<=c
 ·have h':(1000000000000000000:Int)<=c:=h;simp[eO,p1,p2,h']
 ·have h':¬ (1000000000000000000:Int)<=c:=h;obtain⟨a1,a2⟩:=eZ (c*48271+k*69621+11) (b:=2147483629) (by decide);generalize hn:(c*48271+k*69621+11).fmod 2147483629=n at *;obtain⟨a3,a4⟩:=eZ (n*n) (b:=2147483587) (by decide);have m1:dy .mul (.int n) (.int n)=ok (.int (n*n)):=i_ (qj _ (by left));generalize hm:(n*n).fmod 2147483587=m at *;have m2:dy .mul (.int m) (.int m)=ok (.int (m*m)):=i_ (qj _ (by left));simp[eO,p1,h',hn,m1,hm,m2]
theorem Ih(Φ:a_):nS (mk Φ 2 4 eO):=by
 intro ns k hk;have:=λc=>y6 Φ (.lst .sc (af ns)) k c rfl none;by_cases h:k<ns.length
 ·have hg:nM (af ns) k=ok (.int (ns.getD k.toNat 0)):=by
   have hl:k.toNat<ns.length:=by left
   rw[at_of hk (d:=.int (ns.getD k.toNat 0)) (by rw[pb,List.getElem?_eq_getElem hl,Option.map_some,List.getD_eq_getElem?_getD,List.getElem?_eq_getElem hl];rfl)];simp
  have e:kS (bA Φ eO ([some (D.lst Fl.sc (af ns)),some (D.int k)]++[none,none]))=kS (bA Φ (eO.drop 2) [some (.lst .sc (af ns)),some (.int k),some (.int (ns.getD k.toNat 0)),none]):=by
   rw[eO,bK,F_];simp only[GO,G5,jW,jY];simp only[List.cons_append,List.nil_append,xW,List.length_cons,List.length_nil,Nat.reduceAdd,Nat.reduceLT,rZ,List.set_cons_succ,List.set_cons_zero];rw[bK,Mb];simp[h,hg]
  rw[mk_eq (ar:=2) (ds:=[_,_]) rfl];refine(show _=_ from e).trans ?_;rw[this,j6,if_pos h]
 ·have e:kS (bA Φ eO ([some (D.lst Fl.sc (af ns)),some (D.int k)]++[none,none]))=kS (bA Φ (eO.drop 2) [some (.lst .sc (af ns)),some (.int k),some (.int 0),none]):=by
   rw[eO,bK,F_];simp only[GO,G5,jW,jY];simp only[List.cons_append,List.nil_append,xW,List.length_cons,List.length_nil,Nat.reduceAdd,Nat.reduceLT,rZ,List.set_cons_succ,List.set_cons_zero];rw[bK,Mb];simp[h]
  rw[mk_eq (ar:=2) (ds:=[_,_]) rfl];refine(show _=_ from e).trans ?_;rw[this,j6,if_neg h]
noncomputable def jC:CS:=.Hx (.cmp .gt (.v 3) (.int 0)) [.par 2 3 (.v 3) (.bin .mod (.v 2) (.v 3))]
def j7:ah:=[.asg (.nm 2) (.bf .abs [(.v 0)]),.asg (.nm 3) (.bf .abs [(.v 1)]),jC,.ifs (.cmp .lt (.v 1) (.int 0)) [.asg (.nm 2) (.bin .sub (.int 0) (.v 2))] [],.ret (.tup [(.bin .fdiv (.v 0) (.v 2)),(.bin .fdiv (.v 1) (.v 2))])]
theorem vd(Φ:a_)(x y:aJ):∀(n:Nat) (a b:Nat),b<=n->jh Φ jC [x,y,some (.int a),some (.int b)]=ok (.nx,[x,y,some (.int (Nat.gcd a b)),some (.int 0)]):=by
 intro n;induction n with
 |zero =>
  intro a b h;have hb:b=0:=by left
  subst hb;rw[jC,oF];exact gv (by simp)
 |succ n ih =>
  intro a b h;by_cases hb:b=0
  ·subst hb;rw[jC,oF];exact gv (by simp)
  ·have fu:=Nat.mod_lt a (show 0<b by left);have e:=ih b (a % b) (by left);have eg:Nat.gcd b (a % b)=Nat.gcd a b:=by rw[Nat.gcd_comm a b,Nat.gcd_rec b a,Nat.gcd_comm]
   rw[eg]at e;rw[jC,oF]at e ⊢;rw[<- e];have m7:0<b:=by left
   have em:((a:Int)).fmod (b:Int)=((a % b:Nat):Int):=by
    rw[Int.fmod_eq_emod_of_nonneg _ (by left)];exact(Int.natCast_emod a b).symm
   have ep:jh Φ (.par 2 3 (.v 3) (.bin .mod (.v 2) (.v 3))) [x,y,some (.int a),some (.int b)]=ok (.nx,[x,y,some (.int b),some (.int ((a % b:Nat):Int))]):=by
    rw[L_];simp[hb,em]
   exact mC (by simp[m7,ep])
theorem DP(Φ:a_):gI (mk Φ 2 4 j7):=by
 intro t b hb h;obtain⟨e1,e2⟩:=qP (t:=t) hb;have d1:=mj (t:=t) hb h t;have d2:=mj (t:=t) hb h b;have hl:=vd Φ (some (.int t)) (some (.int b)) b.natAbs t.natAbs b.natAbs (aai _);rw[qD,<- e1,<- e2];by_cases hn:b<0
 ·have ed:0 - (Nat.gcd t.natAbs b.natAbs:Int)=fD t b:=by simp[fD,hn,Int.gcd]
  have ZM:-(Nat.gcd t.natAbs b.natAbs:Int)=fD t b:=by simp[fD,hn,Int.gcd]
  simp[mk_eq,j7,hl,hn,ZM,d1,d2]
 ·have ed:(Nat.gcd t.natAbs b.natAbs:Int)=fD t b:=by simp[fD,hn,Int.gcd]
  simp[mk_eq,j7,hl,hn,ed,d1,d2]
noncomputable def um(qs:av)(h:Int):Rat:=qs.getD h.toNat 0
theorem mq{h:Int}(h0:0<=h)(h1:h<qs.length):qs[h.toNat]?=some (um qs h)/\um qs h∈qs:=by
 have hl:h.toNat<qs.length:=by left
 have e:qs[h.toNat]?=some (um qs h):=by
  unfold um;rw[List.getD_eq_getElem?_getD,List.getElem?_eq_getElem hl];rfl
 exact⟨e,aaq e⟩
theorem P9{h:Int}(h0:0<=h)(h1:h<qs.length):nM (bI qs) h=ok (qD (um qs h)):=by
 rw[at_of h0 (d:=qD (um qs h)) (by rw[DW,(mq h0 h1).1];rfl)];simp
theorem Fq(ps qs:av):dC (bI ps) (bI qs)=decide (ps=qs):=j0 G4 ps qs
theorem I_(n:Nat)(f:Fl)(qs:av):cO (n+2) (.lst f (bI qs))=true:=l8 (GF n) qs
theorem oU{q:Rat}(h:0<q):0<q.num:=by
 have:=(Rat.lt_iff 0 q).mp h;simpa using this
theorem C3.len{n:Nat}{l:aa}(h:C3 n l):l.length<=n:=by
 have hn:(l.map Int.toNat).Nodup:=by
  unfold List.Nodup;rw[List.pairwise_map];refine h.1.imp_of_mem λha hb z e=>?_;have:=h.2 _ ha;have:=h.2 _ hb;left
 have hs:(l.map Int.toNat) ⊆ List.range n:=λx hx=>by
  obtain⟨y,hy,rfl⟩:=List.mem_map.mp hx;have:=h.2 y hy;rw[List.mem_range];left
 have:=hn.length_le_of_subset hs;simpa using this
theorem C3.cg{n:Nat}{l:aa}(h:C3 n l)(hn:n<=12):FL (.tup (af l)):=by
 have:=h.len;show(af l).length<64;simp;left
theorem sj{t b:Int}{k:Nat}(h0:b≠0)(h1:t.natAbs<2 ^ k)(h2:b.natAbs<2 ^ k):Sm k (Rat.divInt t b):=oO h0 h1 h2
theorem jm{t b:Int}(ht:0<t)(hb:0<b):0<Rat.divInt t b:=by
 rw[Rat.divInt_eq_div];have h1:(0:Rat)<(t:Rat):=by
  have:=abF (a:=0) (b:=t);simpa using this.mpr ht
 have h2:(0:Rat)<(b:Rat):=by
  have:=abF (a:=0) (b:=b);simpa using this.mpr hb
 rw[Rat.div_def];exact Rat.mul_pos h1 (Rat.inv_pos.mpr h2)
theorem Sm.neg{k:Nat}{q:Rat}(h:Sm k q):Sm k (-q):=⟨by simpa using h.1,h.2⟩
theorem Sm.zero(k:Nat)(h:1<=k):Sm k 0:=by
 have:Sm 1 (0:Rat):=by constructor<;>decide
 exact this.mono h
theorem Sm.sum{k:Nat}:∀{qs:av},(∀q∈qs,Sm k q)->Sm (1+(k+1)*qs.length) qs.sum
 |[],_=>Sm.zero _ (by simp)
 |q::qs,h=>by
  have h1:=h q aaf;have h2:=Sm.sum (qs:=qs) λp hp=>h p (aad _ hp);rw[List.sum_cons];refine(h1.add h2).mono ?_;rw[List.length_cons,Nat.mul_succ];left
noncomputable def R_(l:aa)(f:Int->Rat):Rat:=(l.map f).sum
@[simp]theorem MG(f:Int->Rat):R_ [] f=0:=rfl
noncomputable abbrev Row:=Rat×aa
abbrev aD:=List Row
def rD(r:Row):D:=.tup [qD r.1,.tup (af r.2)]
@[simp]theorem Jj(g:Fl->Fl)(r:Row):aU g (rD r)=rD r:=by unfold rD;simp
@[simp]theorem J3(g:Fl->Bool)(r:Row):aH g (rD r)=false:=by unfold rD;simp
noncomputable def bU(rs:aD):ab:=rs.map rD
@[simp]theorem DS(rs:aD):(bU rs).length=rs.length:=aaW ..
@[simp]theorem ig(g:Fl->Fl)(rs:aD):aA g (bU rs)=bU rs:=b_ g (Jj g) rs
@[simp]theorem OX(g:Fl->Bool)(rs:aD):aL g (bU rs)=false:=bH g (J3 g) rs
theorem NG(n:Nat)(r:Row):cO (n+2) (rD r)=true:=by
 unfold rD;rw[l6,List.all_cons,List.all_cons,GF n];have:cO (n+1) (.tup (af r.2))=true:=by
  rw[l6];exact l8 (λ_=>by cases n<;>rfl) r.2
 rw[this];rfl
theorem B2(a b:aa):dC (af a) (af b)=decide (a=b):=j0 (λx y=>by show(x==y)=_;rfl) a b
theorem Pu(r s:Row):ku (rD r) (rD s)=decide (r=s):=by
 unfold rD;show(ku (qD r.1) (qD s.1)&&(dC (af r.2) (af s.2)&&true))=_;rw[G4,B2,Bool.and_true];have:decide (r=s)=decide (r.1=s.1/\r.2=s.2):=by
  congr 1;exact propext ⟨λh=>by rw[h];exact⟨rfl,rfl⟩,λh=>Prod.ext h.1 h.2⟩
 rw[this,<- Bool.decide_and]
theorem Fp(r s:aD):dC (bU r) (bU s)=decide (r=s):=j0 Pu r s
def bN(n:Nat)(rs:aD):D:=.tup [.int n,.lst .fz (bU rs)]
def nW(rs:aD):Prop:=∃W:Nat,0<W/\W<64/\∀r∈rs,r.1.den∣W
def Rw(n:Nat)(l:aa):Prop:=l.Nodup/\l.length<=n/\∀h∈l,0<=h/\h<(n:Int)
theorem C3.rw{n:Nat}{l:aa}(h:C3 n l):Rw n l:=⟨h.nodup,h.len,h.2⟩
structure Dp(P:aa->Prop)(k n:Nat)(rs:aD):Prop where
 n1:1<=n
 n2:n<=12
 kr:k*(rs.length+1)<=66
 fin:k*(rs.length+1)<=60\/nW rs
 len:rs.length<=1000
 lot:∀r∈rs,P r.2
 pos:∀r∈rs,0<r.1
 sm:∀r∈rs,Sm k r.1
 one:(rs.map (·.1)).sum=1
 rise:vI (rs.map (·.2))
abbrev Dr(k n:Nat)(rs:aD):Prop:=Dp (C3 n) k n rs
variable {rs:aD}
theorem Dp.imp{P Q:aa->Prop}{k n:Nat}(I:Dp P k n rs)(h:∀r∈rs,P r.2->Q r.2):Dp Q k n rs:=⟨I.n1,I.n2,I.kr,I.fin,I.len,λr hr=>h r hr (I.lot r hr),I.pos,I.sm,I.one,I.rise⟩
noncomputable def eJ(rs:aD):av:=rs.map (·.1)
section
variable {P:aa->Prop}{k n:Nat}{rs:aD}(I:Dp P k n rs)
include I
theorem Dp.HW:rO k (eJ rs):=⟨λq hq=>by
 obtain⟨r,hr,rfl⟩:=List.mem_map.mp hq;exact I.sm r hr,by
  have:=I.kr;have h:k*(eJ rs).length<=k*(rs.length+1):=aaE _ (by simp[eJ]);left,by simp[eJ];exact I.len⟩
omit I in
theorem jR{W:Nat}:∀(qs:av) (b:Nat),b∣W->(∀q∈qs,q.den∣W)->qs.foldl (λb q=>Nat.lcm b q.den) b∣W
 |[],_,h,_=>h
 |q::qs,b,h,hq=>jR qs _ (Nat.lcm_dvd h (hq q aaf)) λp hp=>hq p (aad _ hp)
theorem Dp.bot:0<bW (eJ rs)/\bW (eJ rs)<2 ^ 61/\∀q∈eJ rs,q.den∣bW (eJ rs):=by
 obtain⟨a,b,c⟩:=I.HW.lcm;refine⟨a,?_,c⟩;rcases I.fin with f|⟨W,w0,w1,w2⟩
 ·refine aaj b (aar (by decide) ?_);have h:k*(eJ rs).length<=k*(rs.length+1):=aaE _ (by simp[eJ]);left
 ·have:bW (eJ rs)∣W:=jR _ 1 (Nat.one_dvd _) λq hq=>by
   obtain⟨r,hr,rfl⟩:=List.mem_map.mp hq;exact w2 r hr
  exact aaz (abc w0 this) (aaj w1 (by decide))
theorem Dp.top{r:Row}(hr:r∈rs):(bz (bW (eJ rs)) r.1).natAbs<2 ^ 64:=by
 obtain⟨a,b,c⟩:=I.HW.lcm;have s:=I.sm r hr;unfold bz;rw[Int.natAbs_mul,Int.fdiv_eq_ediv_of_nonneg _ (by left),<- Int.natCast_ediv,Int.natAbs_natCast];have h4:(eJ rs).length=rs.length:=by simp[eJ]
 have h3:=I.kr;rcases I.fin with f|⟨W,w0,w1,w2⟩
 ·have h1:bW (eJ rs) / r.1.den<2 ^ (1+k*(eJ rs).length):=aaz (abX _ _) b;have h2:=bJ s.1 h1;refine aaj h2 (aar (by decide) ?_);rw[h4];rw[Nat.mul_succ]at f;left
 ·have:bW (eJ rs)∣W:=jR _ 1 (Nat.one_dvd _) λq hq=>by
   obtain⟨r,hr,rfl⟩:=List.mem_map.mp hq;exact w2 r hr
  have h1:bW (eJ rs) / r.1.den<2 ^ 6:=aaz (abX _ _) (aaz (abc w0 this) w1);have h2:=bJ s.1 h1;refine aaj h2 (aar (by decide) ?_);have hl:1<=rs.length:=List.length_pos_of_mem hr;have:k*2<=k*(rs.length+1):=aaE _ (by left);left
end
def nQ(m:aC):Prop:=∀(r:Row) (n:Nat),n<=12->Rw n r.2->0<r.1->m [rD r,.int n]=ok (.bl true)
noncomputable def j9:ah:=[.ifs (.or [(.not (.o_ (.v 0) .tuple)),(.cmp .ne (.bf .len [(.v 0)]) (.int 2))]) [.ret (.bl false)] [],.ifs (.not (.call 43 [(.ix (.v 0) (.int 1)),(.v 1)])) [.ret (.bl false)] [],.ret (.and [(.call 3 [(.ix (.v 0) (.int 0))]),(.cmp .gt (.ix (.ix (.v 0) (.int 0)) (.int 0)) (.int 0))])]
theorem Rw.JN{n:Nat}{l:aa}(h:Rw n l):iK (.tup (af l)) n=true:=by
 have h1:(af l).all (dw n)=true:=by
  unfold af;rw[List.all_map,List.all_eq_true];intro x hx;have:=h.2.2 x hx;simp[dw,this.1,this.2]
 have h2:tU l=l:=by
  have:=xD l [] (by simp) h.1;rw[List.nil_append]at this;exact this
 simp[iK,h1,lp,h2]
theorem Rw.cg{n:Nat}{l:aa}(h:Rw n l)(hn:n<=12):FL (.tup (af l)):=by
 have:=h.2.1;show(af l).length<64;simp;left
theorem Af(Φ:a_)(h3:eD (Φ 3))(Zt:kc (Φ 43)):nQ (mk Φ 2 2 j9):=by
 intro r n hn hl hp;have e1:=Zt (.tup (af r.2)) n (hl.cg hn);rw[hl.JN]at e1;have e2:=h3 (qD r.1);rw[xp]at e2;have Bw:=oU hp;have e3:rD r=.tup [qD r.1,.tup (af r.2)]:=rfl;have e4:qD r.1=.tup [.int r.1.num,.int r.1.den]:=rfl;simp[mk_eq,j9,e3,du,e1,e2];simp[e4,Bw]
theorem DT(pj:Φ 1022=LS){a b:aa}(h:HT.lexLt a b=true):Φ 1022 [.tup (af a),.tup (af b)]=ok (.bl false):=by
 rw[pj];show(match intsOf (af a)with|some ns=>(match intsOf (af b)with|some ms=>ok (D.bl (!HT.lexLt ns ms))|none=>none)|none=>none)=_;unfold af;rw[br,br];show ok (D.bl (!HT.lexLt a b))=_;rw[h];rfl
def lD(m:aC):Prop:=∀(rs:aD),1<=rs.length->vI (rs.map (·.2))->m [.lst .fz (bU rs)]=ok (.bl true)
noncomputable def Dx:ah:=[.ifs (.bR 1022 [(.ix (.v 1) (.int 1)),(.ix (.v 2) (.int 1))]) [.ret (.bl false)] []]
def fL:ah:=[.fr (.tp [1,2]) (.uS 1000 [(.v 0),(.bR 1020 [(.v 0),(.int 1)])]) Dx,.ret (.bl true)]
theorem wd(Φ:a_)(pj:Φ 1022=LS)(c0:aJ):∀(rs:aD) (r:Row) (c1 c2:aJ),vI ((r::rs).map (·.2)) ->
  ∃Vu K6,dJ (λd ρ=>cy (.tp [1,2]) d ρ) (λρ=>bA Φ Dx ρ) (List.zipWith (λx y=>D.tup [x,y]) (bU (r::rs)) (bU rs)) [c0,c1,c2]=ok (.nx,[c0,Vu,K6])
 |[],r,c1,c2,_=>⟨c1,c2,rfl⟩
 |s::rs,r,c1,c2,h=>by
  have h':=List.pairwise_cons.mp h;obtain⟨Vu,K6,ih⟩:=wd Φ pj c0 rs s (some (rD r)) (some (rD s)) h'.2;have hl:=h'.1 s.2 (by simp);have e:=DT pj hl;refine⟨Vu,K6,dj (ρ1:=[c0,some (rD r),some (rD s)]) (by simp) (ρ2:=[c0,some (rD r),some (rD s)]) ?_ ih⟩;have e1:∀r:Row,rD r=.tup [qD r.1,.tup (af r.2)]:=λ_=>rfl;simp[Dx,e1,e]
theorem sD(Φ:a_)(m9:Φ 1000=uq)(Pf:Φ 1020=cutD true)(pj:Φ 1022=LS):lD (mk Φ 1 3 fL):=by
 intro rs h1 hr;obtain⟨r,rs,rfl⟩:∃r oq,rs=r::oq:=by
  cases rs with
  |nil=>simp at h1
  |cons r rs=>exact⟨r,rs,rfl⟩
 obtain⟨c1,c2,e⟩:=wd Φ pj (some (.lst .fz (bU (r::rs)))) rs r none none hr;have e1:Φ 1020 [.lst .fz (bU (r::rs)),.int 1]=ok (.lst .ow (bU rs)):=by
  rw[Pf];show(if (0:Int)<=1/\(1:Int)<=((bU (r::rs)).length:Nat)then ok (D.lst .ow (aA bj (oz true (1:Int).toNat (bU (r::rs)))))else none)=_;rw[if_pos ⟨by decide,by simp;left⟩];show ok (D.lst .ow (aA bj (bU rs)))=_;simp
 have e2:Φ 1000 [.lst .fz (bU (r::rs)),.lst .ow (bU rs)]=ok (.lst .ow (List.zipWith (λx y=>D.tup [x,y]) (bU (r::rs)) (bU rs))):=by rw[m9];rfl
 have e3:aA aV (List.zipWith (λx y=>D.tup [x,y]) (bU (r::rs)) (bU rs))=List.zipWith (λx y=>D.tup [x,y]) (bU (r::rs)) (bU rs):=by
  have:=eG aV (bU (r::rs)) (bU rs);rw[ig,ig]at this;exact this
 have hit:cM Φ (.uS 1000 [(.v 0),(.bR 1020 [(.v 0),(.int 1)])]) [some (.lst .fz (bU (r::rs))),none,none]=ok (List.zipWith (λx y=>D.tup [x,y]) (bU (r::rs)) (bU rs),[some (.lst .fz (bU (r::rs))),none,none]):=by
  show bd (cz Φ [(.v 0),(.bR 1020 [(.v 0),(.int 1)])] [some (.lst .fz (bU (r::rs))),none,none]) _=_;have:cz Φ [(.v 0),(.bR 1020 [(.v 0),(.int 1)])] [some (.lst .fz (bU (r::rs))),none,none]=ok [.lst .fz (bU (r::rs)),.lst .ow (bU rs)]:=by simp[e1]
  rw[this,cC,e2,cC];show ok (aA aV (List.zipWith (λx y=>D.tup [x,y]) (bU (r::rs)) (bU rs)),if aL bp [D.lst .fz (bU (r::rs)),.lst .ow (bU rs)]then _ else _)=_;rw[e3];simp
 have hf:=eU (Φ:=Φ) (t:=.tp [1,2]) (b:=Dx) hit e;simp[mk_eq,fL,hf]
def mS(rs:aD):ab:=rs.map λr=>.tup (af r.2)
@[simp]theorem mQ(g:Fl->Fl)(rs:aD):aA g (mS rs)=mS rs:=b_ g (λr=>by simp) rs
@[simp]theorem J0(g:Fl->Bool)(rs:aD):aL g (mS rs)=false:=bH g (λr=>by simp) rs
def ur(b:Nat)(rs:aD):ab:=rs.map λr=>.tup [.int (bz b r.1),.tup (af r.2)]
@[simp]theorem NS(g:Fl->Fl)(b:Nat)(rs:aD):aA g (ur b rs)=ur b rs:=b_ g (λr=>by simp) rs
@[simp]theorem OW(g:Fl->Bool)(b:Nat)(rs:aD):aL g (ur b rs)=false:=bH g (λr=>by simp) rs
noncomputable def Fw:CE:=.comp 2 (.tp [0,1]) [] .seq [(.v 0)] [] (.v 0)
noncomputable def Ft:CE:=.comp 2 (.tp [0,1]) [] .seq [(.v 0)] [] (.v 1)
theorem PR(Φ:a_)(h:rs.length<=1000)(r:ba):bC Φ Fw (some (.lst .fz (bU rs))::r)=ok (.lst .ow (bI (eJ rs))):=by
 unfold Fw;rw[dM (xs:=[.lst .fz (bU rs)]) (items:=bU rs) (ds:=rs.map λr=>qD r.1) (by simp) (by rw[eY];simp) (cB λr hr=>?_) (by simp;exact cP (by left))]
 ·simp[bI,eJ,aY]
 ·exact⟨[some (qD r.1),some (.tup (af r.2))],by simp[bP,rD],by simp,by simp⟩
theorem N1(Φ:a_)(h:rs.length<=1000)(r:ba):bC Φ Ft (some (.lst .fz (bU rs))::r)=ok (.lst .ow (mS rs)):=by
 unfold Ft;rw[dM (xs:=[.lst .fz (bU rs)]) (items:=bU rs) (ds:=rs.map λr=>.tup (af r.2)) (by simp) (by rw[eY];simp) (cB λr hr=>?_) (by simp;exact cP (by left))]
 ·exact aaJ (λx=>ok (D.lst .ow x)) (mQ jg rs)
 ·exact⟨[some (qD r.1),some (.tup (af r.2))],by simp[bP,rD],by simp,by simp⟩
def kX(m:aC):Prop:=∀(rs:aD) k,rO k (eJ rs)->m [.lst .fz (bU rs)]=ok (.tup [.int (bW (eJ rs)),.lst .ow (ur (bW (eJ rs)) rs)])
def iR:ah:=[.asg (.nm 1) Fw,.asg (.nm 2) Ft,.asg (.nm 3) (.call 9 [(.v 1)]),.ret (.tup [(.v 3),(.bR 1040 [(.call 10 [(.v 1),(.v 3)]),(.v 2)])])]
theorem yi(Φ:a_)(h9:eP (Φ 9))(J_:iB (Φ 10))(Pe:Φ 1040=NZ):kX (mk Φ 1 4 iR):=by
 intro rs k hs;have hl:rs.length<=1000:=by have:=hs.len;simpa [eJ]using this
 have e1:=PR Φ hl;have e2:=N1 Φ hl;have e3:=λf=>h9 f (eJ rs) k hs;have e4:=λf=>J_ f (eJ rs) k (bW (eJ rs)) hs hs.Jr;generalize bW (eJ rs)=b at *;have e5:Φ 1040 [.lst .ow (af ((eJ rs).map (bz b))),.lst .al (mS rs)]=ok (.lst .ow (ur b rs)):=by
  rw[Pe];show ok (D.lst .ow (aA bj (List.zipWith pairD (af ((eJ rs).map (bz b))) (mS rs))))=_;rw[eG,cF,mQ];unfold eJ af mS ur;rw[List.map_map,List.map_map,List.zipWith_map,List.zipWith_self];rfl
 simp[mk_eq,iR,N_ Φ Fw _ rfl,N_ Φ Ft _ rfl,e1,e2,e3,e4,e5]
noncomputable def KO:CE:=.comp 2 (.tp [0,1]) [] .seq [(.ix (.v 1) (.int 1))] [] (.v 0)
def ja(m:aC):Prop:=∀(rs:aD) k,rO k (eJ rs)->(eJ rs).sum=1->m [.lst .fz (bU rs)]=ok (.bl true)
def eC:ah:=[.asg (.nm 1) (.call 14 [(.v 0)]),.ret (.cmp .eq (.bf .mH [KO]) (.ix (.v 1) (.int 0)))]
theorem zM{b:Nat}(h:∀q∈qs,q.den∣b)(h1:qs.sum=1):(qs.map (bz b)).sum=(b:Int):=by
 have:=jG h;rw[h1,Rat.one_mul,<- Rat.intCast_natCast]at this;exact Rat.intCast_inj.mp this
theorem oj(Φ:a_)(U2:kX (Φ 14)):ja (mk Φ 1 2 eC):=by
 intro rs k hs h1;have hl:rs.length<=1000:=by have:=hs.len;simpa [eJ]using this
 have e1:=U2 rs k hs;have hb:=hs.lcm;have e2:=zM hb.2.2 h1;generalize bW (eJ rs)=b at *;have e3:∀c0,bC Φ KO [c0,some (.tup [.int b,.lst .ow (ur b rs)])]=ok (.lst .ow (af ((eJ rs).map (bz b)))):=λc0=>by
  unfold KO;rw[dM (xs:=[.lst .al (ur b rs)]) (items:=ur b rs) (ds:=rs.map λr=>.int (bz b r.1)) (by simp) (by rw[eY];simp) (cB λr hr=>?_) (by simp;exact cP (by left))]
  ·simp[af,eJ,aY]
  ·exact⟨[some (.int (bz b r.1)),some (.tup (af r.2))],by simp[bP],by simp,by simp⟩
 have e4:nZ .mH [.lst .ow (af ((eJ rs).map (bz b)))]=ok (.int b):=by
  show(match intsOf (af ((eJ rs).map (bz b)))with|some ns=>ok (D.int ns.sum)|none=>none)=_;unfold af;rw[br];show ok (D.int ((eJ rs).map (bz b)).sum)=_;rw[e2]
 have e5:iy .eq (.int (b:Int)) (.int (b:Int))=ok (.bl true):=by
  show(if cO 40 (.int (b:Int))&&cO 40 (.int (b:Int))then ok (D.bl ((b:Int)==(b:Int)))else none)=_;simp[cO]
 simp[mk_eq,eC,e1,e3,e4,e5]
noncomputable def lY:ah:=[.ifs (.not (.call 12 [(.v 3),(.v 1)])) [.ret (.bl false)] []]
def gF:ah:=[.ifs (.or [(.not (.o_ (.v 0) .tuple)),(.cmp .ne (.bf .len [(.v 0)]) (.int 2))]) [.ret (.bl false)] [],.asg (.nm 1) (.ix (.v 0) (.int 0)),.asg (.nm 2) (.ix (.v 0) (.int 1)),.ifs (.or [(.not (.call 0 [(.v 1)])),(.cmp .lt (.v 1) (.int 1)),(.cmp .gt (.v 1) (.glo "MOST_HOUSES" 12))]) [.ret (.bl false)] [],.ifs (.not (.o_ (.v 2) .list)) [.ret (.bl false)] [],.fr (.nm 3) (.seq (.v 2)) lY,.ret (.and [(.call 44 [(.v 2)]),(.call 15 [(.v 2)])])]
def x4(m:aC):Prop:=∀k n rs,Dp (Rw n) k n rs->m [bN n rs]=ok (.bl true)
theorem nC(Φ:a_)(vq:nQ (Φ 12)){n:Nat}(hn:n<=12)(c0 c2:aJ):∀(rs:aD) (c3:aJ),(∀r∈rs,Rw n r.2/\0<r.1)->∃FO,dJ (λd ρ=>cy (.nm 3) d ρ) (λρ=>bA Φ lY ρ) (bU rs) [c0,some (.int n),c2,c3]=ok (.nx,[c0,some (.int n),c2,FO])
 |[],c3,_=>⟨c3,rfl⟩
 |r::rs,c3,h=>by
  obtain⟨FO,ih⟩:=nC Φ vq hn c0 c2 rs (some (rD r)) λs hs=>h s (aad _ hs);have h1:=h r aaf;have e:=vq r n hn h1.1 h1.2;refine⟨FO,dj (ρ1:=[c0,some (.int n),c2,some (rD r)]) (by simp) (ρ2:=[c0,some (.int n),c2,some (rD r)]) ?_ ih⟩;simp[lY,e]
theorem Dp.some{P:aa->Prop}{k n:Nat}(I:Dp P k n rs):1<=rs.length:=by
 cases rs with
 |nil=>have:=I.one;simp at this
 |cons r rs=>simp
theorem uO(Φ:a_)(h0:dZ (Φ 0))(vq:nQ (Φ 12))(Zx:ja (Φ 15))(Zs:lD (Φ 44)):x4 (mk Φ 1 4 gF):=by
 intro k n rs I;have n1:=I.n1;have n2:=I.n2;have e1:=Zx rs k I.HW I.one;have e2:=Zs rs I.some I.rise;have e3:Φ 0 [.int (n:Int)]=ok (.bl true):=by rw[h0];rfl
 obtain⟨c3,e4⟩:=nC Φ vq n2 (some (bN n rs)) (some (.lst .fz (bU rs))) rs none λr hr=>⟨I.lot r hr,I.pos r hr⟩
 have hit:cM Φ (.seq (.v 2)) [some (bN n rs),some (.int n),some (.lst .fz (bU rs)),none]=ok (bU rs,[some (bN n rs),some (.int n),some (.lst .fz (bU rs)),none]):=by
  rw[Be (f:=.fz) (ds:=bU rs) (by simp)];simp
 have hf:=eU (Φ:=Φ) (t:=.nm 3) (b:=lY) hit e4;have c1:iy .lt (.int (n:Int)) (.int 1)=ok (.bl false):=by
  show ok (D.bl (decide ((n:Int)<1)))=_;rw[decide_eq_false (by left)]
 have c2:iy .gt (.int (n:Int)) (.int 12)=ok (.bl false):=by
  show ok (D.bl (decide ((12:Int)<n)))=_;rw[decide_eq_false (by left)]
 have RJ:∀ds,du .tuple (.tup ds)=true:=λ_=>rfl;have Ml:∀f ds,du .list (.lst f ds)=true:=λ_ _=>rfl;unfold bN at hf ⊢;simp[mk_eq,gF,RJ,Ml,e3,c1,c2,hf,e2,e1]
noncomputable def Nk(ws xs:av):av:=(ws.zip xs).map λp=>p.1*p.2
structure Gs(j n:Nat)(ws xs:av):Prop where
 l1:ws.length=n
 l2:xs.length=n
 s1:∀q∈ws,Sm j q
 s2:∀q∈xs,Sm j q
 jj:j<=100
theorem Gs.HW{j n:Nat}{ws xs:av}(G:Gs j n ws xs)(hn:n<=12):rO (j+j) (Nk ws xs):=by
 have hl:(Nk ws xs).length=n:=by unfold Nk;rw[List.length_map,List.length_zip,G.l1,G.l2,Nat.min_self]
 have hj:=G.jj;refine⟨λq hq=>?_,?_,by left⟩
 ·obtain⟨p,hp,rfl⟩:=List.mem_map.mp hq;have m:=abd hp;exact(G.s1 _ m.1).mul (G.s2 _ m.2)
 ·rw[hl];have:(j+j)*n<=200*12:=ab6 (by left) hn;left
theorem Gs.at{j n:Nat}{ws xs:av}(G:Gs j n ws xs){h:Int}(h0:0<=h)(h1:h<n):um (Nk ws xs) h=um ws h*um xs h:=by
 obtain⟨g1,_⟩:=mq (qs:=ws) h0 (by rw[G.l1];exact h1);obtain⟨g2,_⟩:=mq (qs:=xs) h0 (by rw[G.l2];exact h1);unfold um at *;unfold Nk;rw[List.getD_eq_getElem?_getD,List.getElem?_map,List.zip,List.getElem?_zipWith,g1,g2];rfl
theorem kv{p i:Nat}{es:aG}{d d':D}(h1:cz Φ es ρ=ok xs)(h2:aL bp xs=false)(h3:ρ[i]?=some (some d))(h4:Φ p (d::xs)=ok d'):jh Φ (.mut p i es) ρ=ok (.nx,ρ.set i (some d')):=by
 show bd (cz Φ es ρ) (λxs=>uW Φ p i (mX es xs ρ))=_;rw[h1,cC];unfold mX;rw[h2,if_neg Bool.false_ne_true];unfold uW;rw[h3];show bd (Φ p (d::xs)) _=_;rw[h4];rfl
theorem iL(c:aa):∀(cs:ag) (ws:aa),bo cs (af ws) c=(bo cs ws c).map D.int
 |[],_=>by cases ‹aa› <;> rfl
 |_::_,[]=>rfl
 |c'::cs,w::ws=>by
  show(if c'=c then some (D.int w)else bo cs (af ws) c)=Option.map D.int (if c'=c then some w else bo cs ws c);by_cases e:c'=c
  ·rw[if_pos e,if_pos e];rfl
  ·rw[if_neg e,if_neg e];exact iL c cs ws
theorem oP(c:aa)(v:Int):∀(cs:ag) (ws:aa),setC cs (af ws) c (.int v)=af (setC cs ws c v)
 |[],_=>by cases ‹aa› <;> rfl
 |_::_,[]=>rfl
 |c'::cs,w::ws=>by
  show(if c'=c then D.int v else D.int w)::setC cs (af ws) c (.int v)=D.int (if c'=c then v else w)::af (setC cs ws c v);rw[oP c v cs ws];by_cases e:c'=c
  ·rw[if_pos e,if_pos e]
  ·rw[if_neg e,if_neg e]
theorem uu(cs:ag)(ws:aa)(c:aa)(v:Int):bh cs (af ws) c (.int v)=af (bh cs ws c v):=by
 unfold bh;by_cases e:c∈cs
 ·rw[if_pos e,if_pos e];exact oP c v cs ws
 ·rw[if_neg e,if_neg e];simp
def bY(cs:ag)(ws:aa)(c:aa):Int:=(bo cs ws c).getD 0
theorem m_{α:Type}{c:aa}:∀{cs:ag} (ws:List α),c∉cs->bo cs ws c=none
 |[],_,_=>by cases ‹List α› <;> rfl
 |_::_,[],_=>rfl
 |c'::cs,w::ws,h=>by
  show(if c'=c then some w else bo cs ws c)=none;rw[if_neg λe=>h (by rw[e];exact List.mem_cons_self)];exact m_ ws λz=>h (aad _ z)
theorem iM{α:Type}{c:aa}:∀{cs:ag} {ws:List α},cs.length=ws.length->c∈cs->∃w,bo cs ws c=some w/\w∈ws
 |[],_,_,h=>nomatch h
 |_::_,[],hl,_=>by simp at hl
 |c'::cs,w::ws,hl,h=>by
  by_cases e:c'=c
  ·exact⟨w,aaN e,aaf⟩
  ·have h':c∈cs:=(List.mem_cons.mp h).resolve_left λz=>e z.symm;obtain⟨w',e1,e2⟩:=iM (cs:=cs) (ws:=ws) (by simpa using hl) h';exact⟨w',(abT e).trans e1,aad _ e2⟩
theorem mP:∀{cs:ag} {ws:aa},cs.Nodup->cs.length=ws.length->cs.map (bY cs ws)=ws
 |[],[],_,_=>rfl
 |[],_::_,_,h=>by simp at h
 |_::_,[],_,h=>by simp at h
 |c::cs,w::ws,hn,hl=>by
  have tq:=List.nodup_cons.mp hn;have ih:=mP (cs:=cs) (ws:=ws) tq.2 (by simpa using hl);rw[List.map_cons];have e1:bY (c::cs) (w::ws) c=w:=by
   show(if c=c then some w else bo cs ws c).getD 0=w;rw[if_pos rfl];rfl
  have e2:cs.map (bY (c::cs) (w::ws))=cs.map (bY cs ws):=aak λx hx=>by
   show(if c=x then some w else bo cs ws x).getD 0=_;rw[if_neg (show ¬ c=x from λz=>tq.1 (by rw[z];exact hx))];rfl
  rw[e1,e2,ih]
theorem sv{c:aa}{v:Int}:∀{cs:ag} {ws:aa},cs.Nodup->cs.length=ws.length->c∈cs->(setC cs ws c v).sum=ws.sum - bY cs ws c+v/\(setC cs ws c v).length=ws.length
 |[],_,_,_,h=>nomatch h
 |_::_,[],_,h,_=>by simp at h
 |c'::cs,w::ws,hn,hl,h=>by
  have tq:=List.nodup_cons.mp hn;have nY:cs.length=ws.length:=by simpa using hl
  have es:setC (c'::cs) (w::ws) c v=(if c'=c then v else w)::setC cs ws c v:=rfl;by_cases e:c'=c
  ·have Ow:∀{cs:ag} {ws:aa},cs.length=ws.length->c∉cs->setC cs ws c v=ws:=λ{cs}=>by
    induction cs with
    |nil=>intro ws hl _;cases ws with|nil=>rfl|cons _ _=>simp at hl
    |cons d cs ih =>
     intro ws hl hc;cases ws with
     |nil=>simp at hl
     |cons w ws =>
      show(if d=c then v else w)::setC cs ws c v=_;rw[if_neg λz=>hc (by rw[z];exact List.mem_cons_self),ih (by simpa using hl) λz=>hc (List.mem_cons_of_mem _ z)]
   have Y7:c∉cs:=e▸tq.1;rw[es,if_pos e,Ow nY Y7];have eg:bY (c'::cs) (w::ws) c=w:=by
    show(if c'=c then some w else bo cs ws c).getD 0=w;rw[if_pos e];rfl
   rw[eg];refine⟨?_,rfl⟩;rw[List.sum_cons,List.sum_cons];left
  ·have h':c∈cs:=(List.mem_cons.mp h).resolve_left λz=>e z.symm;obtain⟨i1,i2⟩:=sv (v:=v) tq.2 nY h';have eg:bY (c'::cs) (w::ws) c=bY cs ws c:=by
    show(if c'=c then some w else bo cs ws c).getD 0=_;rw[if_neg e];rfl
   rw[es,if_neg e,eg];refine⟨?_,by rw[List.length_cons,List.length_cons,i2]⟩;rw[List.sum_cons,List.sum_cons,i1];left
theorem sx{c:aa}{v:Int}:∀{cs:ag} {ws:aa} {x:Int},x∈setC cs ws c v->x∈ws\/x=v
 |[],_,_,h=>by cases ‹aa› <;> exact nomatch h
 |_::_,[],_,h=>nomatch h
 |c'::cs,w::ws,x,h=>by
  have h:x∈(if c'=c then v else w)::setC cs ws c v:=h;rcases List.mem_cons.mp h with e|h
  ·by_cases q:c'=c
   ·rw[if_pos q]at e;exact .inr e
   ·rw[if_neg q]at e;rw[e];exact .inl aaf
  ·rcases sx h with h|h
   ·exact .inl (aad _ h)
   ·exact .inr h
structure Tab(P:aa->Prop)(j:Nat)(cs:ag)(ws:aa):Prop where
 nd:cs.Nodup
 ln:cs.length=ws.length
 kr:cs.length<=j
 lot:∀c∈cs,P c
 pos:∀w∈ws,1<=w
 sum:ws.sum<=7*j
 ne:1<=j->cs≠[]
variable {cs:ag}
theorem Tab.get{n:aa->Prop}{j:Nat}(T:Tab n j cs ws)(c:aa):0<=bY cs ws c:=by
 by_cases h:c∈cs
 ·obtain⟨w,e,m⟩:=iM T.ln h;unfold bY;rw[e];have:=T.pos w m;show 0<=w;left
 ·unfold bY;rw[m_ ws h];exact Int.le_refl _
theorem Tab.put{n:aa->Prop}{j:Nat}(T:Tab n j cs ws){c:aa}(hc:n c){i:Int}(h1:1<=i)(h7:i<=7):Tab n (j+1) (aI cs c) (bh cs ws c (bY cs ws c+i)):=by
 have hg:=T.get c;have hf:=T.kr;have hs:=T.sum;by_cases h:c∈cs
 ·obtain⟨s1,s2⟩:=sv (v:=bY cs ws c+i) T.nd T.ln h;unfold aI bh;rw[if_pos h,if_pos h];refine⟨T.nd,by rw[s2];exact T.ln,by left,T.lot,λw hw=>?_,by rw[s1];left,λ_ z=>by rw[z]at h;cases h⟩;rcases sx hw with hw|rfl
  ·exact T.pos w hw
  ·left
 ·have hz:bY cs ws c=0:=by unfold bY;rw[m_ ws h];rfl
  unfold aI bh;rw[if_neg h,if_neg h,hz];refine⟨?_,by rw[List.length_append,List.length_append,T.ln];rfl,by rw[List.length_append,List.length_singleton];left,λd hd=>?_,λw hw=>?_,by rw[List.sum_append];simp;left,λ_ z=>by simp at z⟩
  ·refine List.nodup_append.mpr ⟨T.nd,List.nodup_cons.mpr ⟨List.not_mem_nil,aaQ⟩,λa ha b hb e=>?_⟩;rw[List.mem_singleton.mp hb]at e;exact h (e▸ha)
  ·rcases List.mem_append.mp hd with hd|hd
   ·exact T.lot d hd
   ·rw[List.mem_singleton.mp hd];exact hc
  ·rcases List.mem_append.mp hw with hw|hw
   ·exact T.pos w hw
   ·rw[List.mem_singleton.mp hw];left
def lG(cs:ag)(ws:aa):aD:=(bc cs).map λc=>(Rat.divInt (bY cs ws c) ws.sum,c)
theorem Tab.wO{n:aa->Prop}{j:Nat}(T:Tab n j cs ws):∀w∈ws,w<=ws.sum:=λw hw=>by
 have:∀l:aa,(∀x∈l,1<=x)->0<=l.sum/\∀x∈l,x<=l.sum:=λl=>by
  induction l with
  |nil=>intro _;exact⟨Int.le_refl _,λ_ h=>nomatch h⟩
  |cons a l ih =>
   intro h;obtain⟨i1,i2⟩:=ih λx hx=>h x (aad _ hx);have ha:=h a aaf;rw[List.sum_cons];refine⟨by left,λx hx=>?_⟩;rcases List.mem_cons.mp hx with rfl|hx
   ·left
   ·have:=i2 x hx;left
 exact(this ws T.pos).2 w hw
theorem vX(W:Int)(hW:W≠0):∀ls:aa,(ls.map λx=>Rat.divInt x W).sum=Rat.divInt ls.sum W
 |[]=>by simp
 |x::ls=>by
  rw[List.map_cons,List.sum_cons,vX W hW ls,List.sum_cons,Rat.divInt_eq_div,Rat.divInt_eq_div,Rat.divInt_eq_div,Rat.intCast_add];grind
theorem Ay{a b:av}(h:a.Perm b):a.sum=b.sum:=by
 induction h with
 |nil=>rfl
 |cons x _ ih=>rw[List.sum_cons,List.sum_cons,ih]
 |swap x y l=>rw[List.sum_cons,List.sum_cons,List.sum_cons,List.sum_cons];grind
 |trans _ _ i1 i2=>rw[i1,i2]
theorem Tab.dr{P:aa->Prop}{n j:Nat}(T:Tab P j cs ws)(h1:1<=j)(h6:j<=8)(n1:1<=n)(n2:n<=12):Dp P 6 n (lG cs ws):=by
 have hp:(bc cs).Perm cs:=aay _ _;have hl:(lG cs ws).length=cs.length:=by unfold lG;rw[List.length_map];exact hp.length_eq
 have hf:=T.kr;have hs:=T.sum;have val:∀c∈bc cs,1<=bY cs ws c/\bY cs ws c<=ws.sum:=λc hc=>by
  obtain⟨w,e,m⟩:=iM T.ln (hp.mem_iff.mp hc);unfold bY;rw[e];exact⟨T.pos w m,T.wO w m⟩
 have hW:1<=ws.sum:=by
  obtain⟨c,hc⟩:=abt cs (T.ne h1);have:=val c (hp.mem_iff.mpr hc);left
 refine⟨n1,n2,by rw[hl];left,.inl (by rw[hl];left),by rw[hl];left,λr hr=>?_,λr hr=>?_,λr hr=>?_,?_,?_⟩
 ·obtain⟨c,hc,rfl⟩:=List.mem_map.mp hr;exact T.lot c (hp.mem_iff.mp hc)
 ·obtain⟨c,hc,rfl⟩:=List.mem_map.mp hr;exact jm (by have:=val c hc;left) (by left)
 ·obtain⟨c,hc,rfl⟩:=List.mem_map.mp hr;have:=val c hc;exact sj (by left) (by show _<64;left) (by show _<64;left)
 ·have e:(lG cs ws).map (·.1)=(bc cs).map λc=>Rat.divInt (bY cs ws c) ws.sum:=by
   unfold lG;rw[List.map_map];rfl
  rw[e];have e2:((bc cs).map λc=>Rat.divInt (bY cs ws c) ws.sum).sum=(cs.map λc=>Rat.divInt (bY cs ws c) ws.sum).sum:=Ay (hp.map _);have e3:(cs.map λc=>Rat.divInt (bY cs ws c) ws.sum)=(cs.map (bY cs ws)).map λx=>Rat.divInt x ws.sum:=by rw[List.map_map];rfl
  rw[e2,e3,mP T.nd T.ln,vX _ (by left),Rat.divInt_eq_div];have z:((ws.sum:Int):Rat)≠0:=λz=>by rw[Rat.intCast_eq_zero_iff]at z;left
  grind
 ·have e:(lG cs ws).map (·.2)=bc cs:=by
   unfold lG;rw[List.map_map];exact(aak λ_ _=>rfl).trans (List.map_id _)
  rw[e];exact gx T.nd
structure CH(Φ:a_):Prop where
 xb:Φ 1030=xy
 BO:Φ 1031=pC
 xa:Φ 1032=yX
 BN:Φ 1033=pA
 BM:Φ 1035=kT
 Pd:Φ 1100=nE
theorem KY(P:CH Φ)(f:Fl)(cs:ag)(ws:aa)(c:aa):Φ 1031 [.bV f cs (af ws),.tup (af c),.int 0]=ok (.int (bY cs ws c)):=by
 rw[P.BO];show(match intsOf (af c)with|some c=>if aL anyF (af ws)=false/\aH anyF (.int 0)=false then ok ((bo cs (af ws) c).getD (.int 0))else none|none=>none)=_;unfold af;rw[br];show(if aL anyF (af ws)=false/\aH anyF (.int 0)=false then ok ((bo cs (af ws) c).getD (.int 0))else none)=_;rw[if_pos ⟨tF _ _,rfl⟩,iL];unfold bY;cases bo cs ws c<;>rfl
theorem KS(P:CH Φ)(hl:cs.length<1000)(ws:aa)(c:aa)(v:Int):Φ 1033 [.bV .ow cs (af ws),.int v,.tup (af c)]=ok (.bV .ow (aI cs c) (af (bh cs ws c v))):=by
 rw[P.BN];show(match intsOf (af c)with|some c=>if bX .ow=true/\aH anyF (.int v)=false/\cs.length<cg then ok (D.bV .ow (aI cs c) (bh cs (af ws) c (.int v)))else none|none=>none)=_;unfold af;rw[br];show(if bX .ow=true/\aH anyF (.int v)=false/\cs.length<cg then ok (D.bV .ow (aI cs c) (bh cs (af ws) c (.int v)))else none)=_;rw[if_pos ⟨rfl,rfl,by show _<1000000;left⟩,uu];rfl
theorem G9(P:CH Φ)(f:Fl)(hl:cs.length=ws.length){c:aa}(h:c∈cs):Φ 1032 [.bV f cs (af ws),.tup (af c)]=ok (.int (bY cs ws c)):=by
 obtain⟨w,e,_⟩:=iM hl h;rw[P.xa];show(match intsOf (af c)with|some c=>(match bo cs (af ws) c with|some v=>if aH anyF v=false then ok v else none|none=>none)|none=>none)=_;unfold af;rw[br];show(match bo cs (af ws) c with|some v=>if aH anyF v=false then ok v else none|none=>none)=_;rw[iL,e];unfold bY;rw[e];rfl
theorem nG{t b:Int}(hb:b≠0):(Rat.divInt t b).den∣b.natAbs:=by
 obtain⟨t',b',e1,e2,h1,h2,h3,h4⟩:=mN (t:=t) hb;obtain⟨g1,g2⟩:=qP (t:=t) hb;rw[show b.fdiv (fD t b)=b' from h2]at g2;have hz:(Rat.divInt t b).den=b'.natAbs:=by left
 have:b.natAbs=(fD t b).natAbs*b'.natAbs:=by rw[<- Int.natAbs_mul,<- e2]
 rw[hz,this];exact Nat.dvd_mul_left ..
def xZ(m:aC):Prop:=∀(N:Int) (n:Nat),n<=12->∃qs:av,m [.int N,.int n]=ok (.lst .ow (bI qs))/\qs.length=n/\∀q∈qs,Sm 3 q
noncomputable def lX:ah:=[.app 2 (.call 201 [(.bin .sub (.bin .mod (.v 0) (.int 13)) (.int 6)),(.bin .add (.int 1) (.bin .mod (.bin .fdiv (.v 0) (.int 13)) (.int 4)))]),.asg (.nm 0) (.bin .fdiv (.v 0) (.int 52))]
def mn:ah:=[.asg (.nm 2) (.lst []),.fr (.nm 3) (.kn (.v 1)) lX,.ret (.v 2)]
theorem mT(Φ:a_)(tG:gI (Φ 201))(y:aJ):∀(ks:ab) (acc:av) (n:Int) (w:aJ),acc.length+ks.length<=1000->(∀q∈acc,Sm 3 q) ->
  ∃(qs:av) (n' w':aJ),dJ (λd ρ=>cy (.nm 3) d ρ) (λρ=>bA Φ lX ρ) ks [some (.int n),y,some (.lst .ow (bI acc)),w]=ok (.nx,[n',y,some (.lst .ow (bI qs)),w'])/\qs.length=acc.length+ks.length/\∀q∈qs,Sm 3 q
 |[],acc,n,w,_,hs=>⟨acc,some (.int n),w,rfl,rfl,hs⟩
 |k::ks,acc,n,w,h,hs=>by
  simp only[List.length_cons]at h;obtain⟨a1,a2⟩:=eZ n (b:=13) (by decide);obtain⟨a3,a4⟩:=eZ (n.fdiv 13) (b:=4) (by decide);have e:=tG (n.fmod 13 - 6) (1+(n.fdiv 13).fmod 4) (by left) (va (by left));have sq:Sm 3 (Rat.divInt (n.fmod 13 - 6) (1+(n.fdiv 13).fmod 4)):=sj (by left) (by left) (by left);generalize Rat.divInt (n.fmod 13 - 6) (1+(n.fdiv 13).fmod 4)=q at *;obtain⟨qs,n',w',e',l,s⟩:=mT Φ tG y ks (acc++[q]) (n.fdiv 52) (some k) (by simp;left) (λp hp=>by
   rcases List.mem_append.mp hp with hp|hp
   ·exact hs p hp
   ·have:p=q:=by simpa using hp
    subst this;exact sq)
  have hc:acc.length<cg:=by show _<1000000;left
  refine⟨qs,n',w',dj (ρ1:=[some (.int n),y,some (.lst .ow (bI acc)),some k]) (by simp) (ρ2:=[some (.int (n.fdiv 52)),y,some (.lst .ow (bI (acc++[q]))),some k]) ?_ e',by rw[l];simp;left,s⟩;simp[lX,e,hc]
theorem DN(Φ:a_)(tG:gI (Φ 201)):xZ (mk Φ 2 4 mn):=by
 intro N n hn;have hit:=yv (Φ:=Φ) (a:=.v 1) (ρ:=[some (.int N),some (.int n),some (.lst .ow []),none]) (n:=n) (by simp) (by left) (by left);obtain⟨qs,n',w',el,l,s⟩:=mT Φ tG (some (.int n)) ((List.range (n:Int).toNat).map λ(k:Nat)=>D.int (k:Int)) [] N none (by simp;left) (by simp);have hf:=eU (t:=.nm 3) (b:=lX) hit el;refine⟨qs,?_,by simpa using l,s⟩;simp[mk_eq,mn,hf]
structure Z9(i j n:Nat)(ws xs:av):Prop where
 l1:ws.length=n
 l2:xs.length=n
 s1:∀q∈ws,Sm i q
 s2:∀q∈xs,Sm j q
 jj:i+j<=20
theorem Gs.two{j n:Nat}{ws xs:av}(G:Gs j n ws xs)(hj:j<=10):Z9 j j n ws xs:=⟨G.l1,G.l2,G.s1,G.s2,by left⟩
def pN(m:aC):Prop:=∀n rs,m [bN n rs]=ok (.tup [.int n,.lst .ow (bU rs)])
noncomputable def iT:ah:=[.ret (.tup [(.ix (.v 0) (.int 0)),(.bf .list1 [(.ix (.v 0) (.int 1))])])]
theorem yj(Φ:a_):pN (mk Φ 1 1 iT):=by
 intro n rs;simp[mk_eq,iT,bN]
noncomputable def R8:ah:=[.asg (.nm 9) (.call 202 [(.v 9),(.v 10)])]
def VY:ah:=[.asg (.nm 8) (.call 51 [(.ix (.v 6) (.int 0)),(.ix (.v 6) (.int 1)),(.bf .list1 [(.v 7)])]),.ifs (.or [(.not (.call 204 [(.v 8)])),(.cmp .ne (.v 8) (.call 232 [(.v 1),(.v 3),(.v 7)]))]) [.ret (.bl false)] [],.asg (.nm 9) (.tup [(.int 0),(.int 1)]),.fr (.nm 10) (.seq (.v 7)) R8,.ifs (.or [(.not (.call 204 [(.call 52 [(.v 7)])])),(.cmp .ne (.call 52 [(.v 7)]) (.v 9))]) [.ret (.bl false)] []]
def f_(f:Fl)(n:Nat)(rs:aD):D:=.tup [.int n,.lst f (bU rs)]
@[simp]theorem QO(g:Fl->Fl)(f:Fl)(n:Nat)(rs:aD):aU g (f_ f n rs)=f_ (g f) n rs:=by simp[f_]
theorem G7(n:Nat)(rs:aD):f_ .fz n rs=bN n rs:=rfl
@[simp]theorem Q0(p:Fl->Bool)(f:Fl)(n:Nat)(rs:aD):aH p (f_ f n rs)=p f:=by simp[f_]
@[simp]theorem Tq(f:Fl)(n:Nat)(rs:aD):rL (f_ f n rs) (.int 0)=ok (.int n):=by simp[f_]
noncomputable def P5(g h:Int)(r:Row):Bool:=decide (g∈r.2)&&decide (h∈r.2)
def Nw(rs:aD)(g h:Int):Rat:=(eJ (rs.filter (P5 g h))).sum
def V1(n:Nat)(rs:aD):av:=(List.range n).map λ(k:Nat)=>Nw rs k k
@[simp]theorem Qu(n:Nat)(rs:aD):(V1 n rs).length=n:=by simp[V1]
noncomputable def Gw(q:Rat):D:=if 0<q then qD (1 / q)else .cw
@[simp]theorem Ex(g:Fl->Fl)(q:Rat):aU g (Gw q)=Gw q:=by
 unfold Gw;split
 ·simp
 ·rfl
@[simp]theorem E_(g:Fl->Bool)(q:Rat):aH g (Gw q)=false:=by
 unfold Gw;split
 ·simp
 ·rfl
@[simp]theorem Lx(g:Fl->Fl)(qs:av):aA g (qs.map Gw)=qs.map Gw:=b_ g (λq=>Ex g q) qs
@[simp]theorem LQ(g:Fl->Bool)(qs:av):aL g (qs.map Gw)=false:=bH g (λq=>E_ g q) qs
noncomputable def Gd(n:Nat)(h:Nat):av:=(List.range n).map λ(k:Nat)=>if k=h then 1 else 0
theorem cY(Φ:a_):∀(a b:ah) (ρ ρ':ba),bA Φ a ρ=ok (.nx,ρ')->bA Φ (a++b) ρ=bA Φ b ρ'
 |[],b,ρ,ρ',h=>by cases h;rfl
 |s::a,b,ρ,ρ',h=>by
  rw[bK]at h;rw[List.cons_append,bK];cases e:jh Φ s ρ with
  |none=>rw[e]at h;cases h
  |some r=>cases r with
   |error c=>rw[e]at h;cases h
   |ok r =>
    obtain⟨fo,ρ1⟩:=r;rw[e]at h;cases fo with
    |nx=>exact cY Φ a b ρ1 ρ' h
    |_=>cases h
@[simp]theorem Mj(n x:Nat):(Gd n x).length=n:=by simp[Gd]
end DI
end
section
namespace DI
open PySem PySem.Spec PyProof.Rows L2
def Df(K:aq)(x:Str)(st:Stmt):Prop:=∃f fd,F6 K x x st f fd/\PySem.W.nsIn K mainGlobals x=some (some (.ref f))
variable {K:aq}{st:Stmt}
theorem dmk{x:Str}{f:Addr}{oc:Value}{od an:Option Addr}{sl:Array (Option Value)}{kV dc pm cd ct:Value}(a:PySem.W.nsIn K mainGlobals x=some (some (.ref f)))(l:K.lookup f=some ⟨oc,od,.func (PySem.W.fnOf x x (fJ st) (dq st) (bG st) .none kV dc pm an cd ct),sl⟩)(c:PySem.W.codeIn K cd x=true)(k:PySem.W.keepIn K (.ref f)=true):Df K x st:=⟨f,_,Kd l c k,a⟩
noncomputable def W2(N P:ak)(sc:Scope):Bool:=decide (sc.kind=.function)&&(!sc.isCoroutine&&(!sc.isGenerator&&(decide N.Nodup&&(decide (N.take P.length=P)&&(P.all (λx=>decide (sc.names.lookup x=some .local\/sc.names.lookup x=some .cell))&&sc.names.all λy=>decide (y.2≠.free))))))
variable {N:ak}
theorem G1{P:ak}{sc:Scope}(h:W2 N P sc=true):iU N P sc:=by
 obtain⟨h1,h⟩:=aN h;obtain⟨h2,h⟩:=aN h;obtain⟨h3,h⟩:=aN h;obtain⟨h4,h⟩:=aN h;obtain⟨h5,h⟩:=aN h;obtain⟨h6,h7⟩:=aN h;exact⟨aac h1,lq h2,lq h3,aac h4,aac h5,λx hx=>aac (List.all_eq_true.mp h6 x hx),λy hy=>aac (List.all_eq_true.mp h7 y hy)⟩
def Rj(st:Stmt)(N ps:ak)(tb:List (Nat×Str))(bl:ak)(cs:List (Str×GK))(px:Px)(b:ah):Bool:=W2 N ps (bG st)&&j5 ⟨bG st,N,λn=>List.lookup n tb,bl,cs,px⟩ b (dq st)
theorem u1{α:Type}{P:List α->Prop}(h:∀a,P [a])(us:List α)(e:us.length=1):P us:=by obtain⟨a,rfl⟩:=N4 e;exact h a
theorem u2{α:Type}{P:List α->Prop}(h:∀a b,P [a,b])(us:List α)(e:us.length=2):P us:=by obtain⟨a,b,rfl⟩:=N3 e;exact h a b
theorem u3{α:Type}{P:List α->Prop}(h:∀a b c,P [a,b,c])(us:List α)(e:us.length=3):P us:=by obtain⟨a,b,c,rfl⟩:=N2 e;exact h a b c
theorem u4{α:Type}{P:List α->Prop}(h:∀a b c d,P [a,b,c,d])(us:List α)(e:us.length=4):P us:=by obtain⟨a,b,c,d,rfl⟩:=Te e;exact h a b c d
theorem u5{α:Type}{P:List α->Prop}(h:∀a b c d e,P [a,b,c,d,e])(us:List α)(e:us.length=5):P us:=by
 match us,e with
 |[a,b,c,d,e],_=>exact h a b c d e
variable {P:aF}{base:Heap}{mg:Str->Option Value}{w:World}
theorem Ent.u{k k':Nat}{y:Str}{m:aC}(h:Ent P w K mg base k y m)(hk:k<=k':=by decide):Ent P w K mg base k' y m:=h.up hk
theorem en{h:Heap}(X:K.In h)(G:h.Ns mainGlobals mg)⦃x:Str⦄⦃st:Stmt⦄⦃N ps bl:ak⦄⦃tb:List (Nat×Str)⦄⦃cs:List (Str×GK)⦄⦃px:Px⦄⦃b:ah⦄(k:Nat)(Φ:a_)(m:aC)(d:Df K x st)(hc:Rj st N ps tb bl cs px b=true)
  (hp:vJ px Φ/\Li px Φ) (EV:dz (λy=>mg y=none) bl) (vn:dz (λp:Str×GK=>∃u,mg p.1=some u/\F5 K p.2 u) cs)
  (hf:dz (λp:Nat×Str=>Ent P w K mg base k p.2 (Φ p.1)) tb) (hm:∀ds r,m ds=ok r->ds.length=ps.length/\p7 Φ N.length b ds=ok r) (hb:∀(kV doc pm:Value) (an:Option Addr) (i8 ct:Value) (us:ao),us.length=ps.length->bindArgs (PySem.W.fnOf x x (fJ st) (dq st) (bG st) .none kV doc pm an i8 ct) ⟨us,[]⟩=pure (ps.zip us):=by first|exact λ_ _ _ _ _ _=>u1 λ_=>rfl|exact λ_ _ _ _ _ _=>u2 λ_ _=>rfl|exact λ_ _ _ _ _ _=>u3 λ_ _ _=>rfl|exact λ_ _ _ _ _ _=>u4 λ_ _ _ _=>rfl|exact λ_ _ _ _ _ _=>u5 λ_ _ _ _ _=>rfl):Ent P w K mg base (k+1) x m:=by
 obtain⟨f,fd,Fu,a⟩:=d;obtain⟨h1,h2⟩:=aN hc;exact ent Fu (PySem.W.mg_of X G a) (Fu.binds hb) (G1 h1) h2 hp.1 hp.2 (dz.mem EV) (dz.two (P:=λy i=>∃u,mg y=some u/\F5 K i u) vn) (dz.tab (P:=λg y=>Ent P w K mg base k y (Φ g)) hf) hm
noncomputable def xm(PT F:a_)(i:Nat)(m:aC):a_:=λn=>bif Nat.ble 1000 n then PT n else bif Nat.beq n i then m else F n
theorem TM{α:Type}{Q:Nat->Prop}(p:Nat){k:Nat}{a b c:α}(h:(if p=k then a else b)=c)(h1:a=c->Q k)(h2:b=c->Q p):Q p:=by
 by_cases e:p=k
 ·subst e;rw[if_pos rfl]at h;exact h1 h
 ·rw[if_neg e]at h;exact h2 h
variable {F:Addr->Prop}{Z:Cx}{cs:aG}{Φ:a_}
theorem Bo{α:Type}{e:Expr}{p k:Nat}{a b c:α}(h:(if p=k then a else b)=c)(h1:a=c->PE Z e (tD Z F Φ (.bR k cs))/\L2.PT Z e (gh Z F Φ (.bR k cs)))(h2:b=c->PE Z e (tD Z F Φ (.bR p cs))/\L2.PT Z e (gh Z F Φ (.bR p cs))):PE Z e (tD Z F Φ (.bR p cs))/\L2.PT Z e (gh Z F Φ (.bR p cs)):=TM (Q:=λp=>PE Z e (tD Z F Φ (.bR p cs))/\L2.PT Z e (gh Z F Φ (.bR p cs))) p h h1 h2
theorem QR{α:Type}{i p k:Nat}{a b c:α}(h:(if p=k then a else b)=c)(h1:a=c->PS Z st (km Z F Φ (.mut k i cs)))(h2:b=c->PS Z st (km Z F Φ (.mut p i cs))):PS Z st (km Z F Φ (.mut p i cs)):=TM (Q:=λp=>PS Z st (km Z F Φ (.mut p i cs))) p h h1 h2
theorem TL{α:Type}{c1 c2:CE}{i p k:Nat}{a b c:α}(h:(if p=k then a else b)=c)(h1:a=c->PS Z st (km Z F Φ (.mu2 k i c1 c2)))(h2:b=c->PS Z st (km Z F Φ (.mu2 p i c1 c2))):PS Z st (km Z F Φ (.mu2 p i c1 c2)):=TM (Q:=λp=>PS Z st (km Z F Φ (.mu2 p i c1 c2))) p h h1 h2
theorem g_:True:=trivial
theorem dz.nn{K:aq}{h:Heap}{mg:aX}(X:K.In h)(G:h.Ns mainGlobals mg):∀{l:ak},dz (λy=>PySem.W.nsIn K mainGlobals y=some none) l->dz (λy=>mg y=none) l
 |[],_=>trivial
 |_::_,z=>⟨PySem.W.mg_none_of X G z.1,dz.nn X G z.2⟩
theorem ZH{P:aF}{w:World}{K:aq}{h base:Heap}{mg:aX}{bl:ak}{cs:List (Str×GK)}{px:Px}{PT:a_}(X:K.In h)(G:h.Ns mainGlobals mg)(hp:∀F i m,vJ px (xm PT F i m)/\Li px (xm PT F i m))(EV:dz (λy=>mg y=none) bl)(vn:dz (λp:Str×GK=>∃u,mg p.1=some u/\F5 K p.2 u) cs)
  ⦃x:Str⦄ ⦃st:Stmt⦄ (k:Nat) (Φ:a_) (d:Df K x st) (N:ak) (a:Nat) (tb:List (Nat×Str)) (b:ah)
  (hf:dz (λp:Nat×Str=>Ent P w K mg base k p.2 (Φ p.1)) tb) (hc:Rj st N (N.take a) tb bl cs px b=true:=by decide +kernel) (e:∃F i m,Φ=xm PT F i m:=by exact⟨_,_,_,rfl⟩) (ha:(N.take a).length=a:=by rfl) (hb:∀(kV doc pm:Value) (an:Option Addr) (i8 ct:Value) (us:ao),us.length=a->bindArgs (PySem.W.fnOf x x (fJ st) (dq st) (bG st) .none kV doc pm an i8 ct) ⟨us,[]⟩=pure ((N.take a).zip us):=by first|exact λ_ _ _ _ _ _=>u1 λ_=>rfl|exact λ_ _ _ _ _ _=>u2 λ_ _=>rfl|exact λ_ _ _ _ _ _=>u3 λ_ _ _=>rfl|exact λ_ _ _ _ _ _=>u4 λ_ _ _ _=>rfl|exact λ_ _ _ _ _ _=>u5 λ_ _ _ _ _=>rfl):Ent P w K mg base (k+1) x (mk Φ a N.length b):=by
 obtain⟨F,i,m,e⟩:=e;exact en X G k Φ _ d hc (e▸hp F i m) EV vn hf (λds r q=>⟨(uX ds r q).1.trans ha.symm,(uX ds r q).2⟩) (λkV doc pm an i8 ct us hu=>hb kV doc pm an i8 ct us (hu.trans ha))
theorem ZG{x:Str}{ps bl:ak}{tb:List (Nat×Str)}{cs:List (Str×GK)}{px:Px}{b:ah}{f:Addr}{fd:FuncData}(k:Nat)(Φ:a_)(m:aC)(Fu:F6 K x x st f fd)(hc:Rj st N ps tb bl cs px b=true)
  (hp:vJ px Φ/\Li px Φ) (EV:dz (λy=>mg y=none) bl) (vn:dz (λp:Str×GK=>∃u,mg p.1=some u/\F5 K p.2 u) cs)
  (hf:dz (λp:Nat×Str=>Ent P w K mg base k p.2 (Φ p.1)) tb) (hm:∀ds r,m ds=ok r->ds.length=ps.length/\p7 Φ N.length b ds=ok r):iZ P w K mg base zr (k+1) f fd ps (DG K ps.length m):=by
 obtain⟨h1,h2⟩:=aN hc;exact tL Fu (G1 h1) h2 hp.1 hp.2 (dz.mem EV) (dz.two (P:=λy i=>∃u,mg y=some u/\F5 K i u) vn) (λg y h=>(dz.tab (P:=λg y=>Ent P w K mg base k y (Φ g)) hf g y h).ex) hm
end DI
end
section
namespace DI
open PySem (Str)
noncomputable def CK(p:Int×Int):D:=.tup [.int p.1,.int p.2]
def Dv(ps:List (Int×Int)):ab:=ps.map CK
@[simp]theorem Ew(g:Fl->Fl)(p:Int×Int):aU g (CK p)=CK p:=by unfold CK;simp
@[simp]theorem EX(g:Fl->Bool)(p:Int×Int):aH g (CK p)=false:=by unfold CK;simp
@[simp]theorem Lv(g:Fl->Fl)(ps:List (Int×Int)):aA g (Dv ps)=Dv ps:=b_ g (Ew g) ps
@[simp]theorem LP(g:Fl->Bool)(ps:List (Int×Int)):aL g (Dv ps)=false:=bH g (EX g) ps
@[simp]theorem Mm(ps:List (Int×Int)):(Dv ps).length=ps.length:=aaW ..
@[simp]theorem Tp(p:Int×Int):rL (CK p) (.int 0)=ok (.int p.1):=by unfold CK;simp
@[simp]theorem To(p:Int×Int):rL (CK p) (.int 1)=ok (.int p.2):=by unfold CK;simp
theorem Dt(n:Nat):(oI (n:Int)).length=n:=by simp[oI]
theorem Ds{n:Nat}{h:Int}:h∈oI (n:Int) ↔ ∃k:Nat,k<n/\h=k:=by
 unfold oI;simp[eq_comm]
def Fm(M B:Nat)(q:Rat):Prop:=0<M/\∃z:Int,z.natAbs<=B/\q*(M:Rat)=(z:Rat)
section
variable {M N B C:Nat}{p q:Rat}
theorem ib{M:Nat}(h:0<M):(M:Rat)≠0:=λz=>by
 have:((M:Int):Rat)=0:=by rw[Rat.intCast_natCast];exact z
 rw[Rat.intCast_eq_zero_iff]at this;left
theorem Fm.divInt(h:Fm M B q):∃z:Int,z.natAbs<=B/\q=Rat.divInt z M:=by
 obtain⟨h0,z,hz,e⟩:=h;refine⟨z,hz,?_⟩;rw[Rat.divInt_eq_div,<- e,Rat.intCast_natCast];have:=ib h0;grind
theorem Fm.sm{k:Nat}(h:Fm M B q)(h1:M<2 ^ k)(h2:B<2 ^ k):Sm k q:=by
 have h0:=h.1;obtain⟨z,hz,rfl⟩:=h.divInt;exact oO (by left) (by left) (by simpa using h1)
theorem Fm.mono(h:Fm M B q)(hl:B<=C):Fm M C q:=⟨h.1,h.2.choose,aax h.2.choose_spec.1 hl,h.2.choose_spec.2⟩
theorem Fm.add(h:Fm M B p)(h':Fm M C q):Fm M (B+C) (p+q):=by
 obtain⟨h0,z,hz,e⟩:=h;obtain⟨_,w,hw,e'⟩:=h';exact⟨h0,z+w,by left,by rw[Rat.intCast_add,<- e,<- e'];grind⟩
theorem Fm.sub(h:Fm M B p)(h':Fm M C q):Fm M (B+C) (p - q):=by
 obtain⟨h0,z,hz,e⟩:=h;obtain⟨_,w,hw,e'⟩:=h';exact⟨h0,z - w,by left,by rw[Rat.intCast_sub,<- e,<- e'];grind⟩
theorem Fm.mul(h:Fm M B p)(h':Fm N C q):Fm (M*N) (B*C) (p*q):=by
 obtain⟨h0,z,hz,e⟩:=h;obtain⟨Zy,w,hw,e'⟩:=h';exact⟨Nat.mul_pos h0 Zy,z*w,by rw[Int.natAbs_mul];exact ab6 hz hw,by rw[Rat.intCast_mul,<- e,<- e',Rat.natCast_mul];grind⟩
theorem Fm.zero(h:0<M):Fm M 0 0:=⟨h,0,by decide,by rw[Rat.zero_mul];rfl⟩
theorem Fm.sum{qs:av}(h0:0<M)(h:∀q∈qs,Fm M B q):Fm M (qs.length*B) qs.sum:=by
 induction qs with
 |nil=>simpa using Fm.zero h0
 |cons q qs ih =>
  rw[List.sum_cons,List.length_cons,Nat.succ_mul,Nat.add_comm];exact(h q aaf).add (ih λp hp=>h p (aad _ hp))
theorem Kf(h0:0<M)(hd:q.den∣M)(hn:q.num.natAbs<=B*q.den):Fm M (B*M) q:=by
 obtain⟨c,rfl⟩:=hd;refine⟨h0,q.num*c,?_,?_⟩
 ·rw[Int.natAbs_mul,Int.natAbs_natCast,<- Nat.mul_assoc];exact abY _ hn
 ·rw[Rat.intCast_mul,oV,Rat.natCast_mul,Rat.intCast_natCast];grind
theorem U_(h:Sm 3 q):Fm 420 (7*420) q:=by
 have hp:=q.den_pos;have h1:=h.1;have h2:=h.2;refine Kf (by decide) ?_ ?_
 ·have:q.den=1\/q.den=2\/q.den=3\/q.den=4\/q.den=5\/q.den=6\/q.den=7:=by left
  rcases this with e|e|e|e|e|e|e<;>rw[e]<;>decide
 ·have:7*1<=7*q.den:=aaE _ hp;left
end
structure LsB(W M Bm Bg dv:Nat):Prop where
 w1:W<64
 m1:M<2 ^ 200
 m2:M*M<2 ^ 200
 m3:W*(M*M)<2 ^ 200
 bm:Bm<2 ^ 200
 bg:Bg<2 ^ 200
 ds:Bg+Bm<=dv
 d1:dv<2 ^ 200
 d2:dv*dv<2 ^ 200
 d3:12*(64*(dv*dv))<2 ^ 200
abbrev Rg:=Row×av
noncomputable def aT(ps:List Rg):aD:=ps.map (·.1)
def bE(f:Fl)(ps:List Rg):ab:=ps.map λp=>.lst f (bI p.2)
@[simp]theorem DR(ps:List Rg):(aT ps).length=ps.length:=aaW ..
@[simp]theorem Q4(f:Fl)(ps:List Rg):(bE f ps).length=ps.length:=aaW ..
@[simp]theorem jO(g:Fl->Fl)(f:Fl)(ps:List Rg):aA g (bE f ps)=bE (g f) ps:=by
 unfold bE;rw[aY,List.map_map];refine aak λx _=>?_;show aU g (.lst f (bI _))=_;simp
theorem gj(g:Fl->Bool)(f:Fl)(ps:List Rg)(h:g f=false):aL g (bE f ps)=false:=bH g (λx=>by simp[h]) ps
def XF(ws:av)(row:aa)(xs:av):Rat:=((row.zip ws).map λp=>p.2*um xs p.1).sum
def gp(xs:av)(p:Rg):Rat:=XF p.2 p.1.2 xs
structure Rk(j n:Nat)(ps:List Rg)(xs:av):Prop where
 dr:Dp (Rw n) 6 n (aT ps)
 ln:∀p∈ps,p.2.length=p.1.2.length
 sw:∀p∈ps,∀q∈p.2,Sm j q
 jb:(j+4)*(n+1)<=125
 l2:xs.length=n
 s2:∀q∈xs,Sm 3 q
section
variable {j n:Nat}{ps:List Rg}{xs:av}(K:Rk j n ps xs)
include K
theorem Rk.Jf:n<=12:=K.dr.n2
theorem Rk.Yx:j<=121:=by
 have:=K.jb;have h:(j+4)*1<=(j+4)*(n+1):=aaE _ (by left);left
theorem Rk.jn{l:Nat}(h:l<=n):(j+4)*l<=125:=aax (aaE _ (by left)) K.jb
theorem Rk.kr:ps.length<=10:=by have:=K.dr.kr;rw[DR]at this;left
theorem Rk.rw{p:Rg}(hp:p∈ps):Rw n p.1.2:=K.dr.lot p.1 (aav hp)
theorem Rk.at{p:Rg}(hp:p∈ps){h:Int}(hh:h∈p.1.2):nM (bI xs) h=ok (qD (um xs h))/\Sm 3 (um xs h):=by
 have:=(K.rw hp).2.2 h hh;have l:=K.l2;exact⟨P9 this.1 (by left),K.s2 _ (mq this.1 (by left)).2⟩
theorem Rk.Nj{p:Rg}(hp:p∈ps):rO (j+3) ((p.1.2.zip p.2).map λz=>z.2*um xs z.1):=by
 have hl:=(K.rw hp).2.1;have:=K.Jf;refine⟨λq hq=>?_,?_,by rw[List.length_map,List.length_zip];left⟩
 ·obtain⟨z,hz,rfl⟩:=List.mem_map.mp hq;have m:=abd hz;exact(K.sw p hp _ m.2).mul (K.at hp m.1).2
 ·have h1:=K.jn hl;have h2:(j+3)*((p.1.2.zip p.2).map λz=>z.2*um xs z.1).length<=(j+4)*p.1.2.length:=ab6 (by left) (by rw[List.length_map,List.length_zip];left);left
theorem Rk.pv{p:Rg}(hp:p∈ps):Sm 126 (gp xs p):=by
 have h:=Sm.sum (K.Nj hp).sm;have hl:=(K.rw hp).2.1;have h1:=K.jn hl;have h2:(j+4)*((p.1.2.zip p.2).map λz=>z.2*um xs z.1).length<=(j+4)*p.1.2.length:=aaE _ (by rw[List.length_map,List.length_zip];left);exact h.mono (by first|left | (rw[show j+3+1=j+4 by left];left))
theorem Rk.Nc:rO 126 (ps.map (gp xs)):=by
 have:=K.kr;refine⟨λq hq=>?_,by rw[List.length_map];left,by rw[List.length_map];left⟩;obtain⟨p,hp,rfl⟩:=List.mem_map.mp hq;exact K.pv hp
end
noncomputable def rB:ah:=[.ret (.call 45 [(.v 0)])]
theorem Ie(Φ:a_)(Zr:x4 (Φ 45)):x4 (mk Φ 1 1 rB):=by
 intro k n rs I;have e:=Zr k n rs I;have m1:aU aV (bN n rs)=bN n rs:=by simp[bN]
 have m2:aU bj (bN n rs)=bN n rs:=by simp[bN]
 simp[mk_eq,rB,m1,m2,e]
def CD(m:aC):Prop:=∀k n rs,Dp (Rw n) k n rs->m [bN n rs]=ok .cw
noncomputable def rE:ah:=[.ifs (.not (.call 72 [(.v 0)])) [.rs 1] []]
theorem Ig(Φ:a_)(Zq:x4 (Φ 72)):CD (mk Φ 1 1 rE):=by
 intro k n rs I;have e:=Zq k n rs I;have m1:aU aV (bN n rs)=bN n rs:=by simp[bN]
 have m2:aU bj (bN n rs)=bN n rs:=by simp[bN]
 simp[mk_eq,rE,m1,m2,e]
def uk(p:Rg):D:=.tup [rD p.1,.lst .fz (bI p.2)]
theorem zx(ps:List Rg):List.zipWith (λx y=>D.tup [x,y]) (bU (aT ps)) (bE .fz ps)=ps.map uk:=by
 unfold bU aT bE;rw[List.map_map,List.zipWith_map,List.zipWith_self];rfl
variable {Φ:a_}{ρ:ba}
theorem Hs(m9:Φ 1000=uq)(a b:Nat)(ps:List Rg)(ha:bC Φ (.v a) ρ=ok (.lst .fz (bU (aT ps))))(hb:bC Φ (.v b) ρ=ok (.lst .fz (bE .fz ps))):cM Φ (.uS 1000 [(.v a),(.v b)]) ρ=ok (ps.map uk,ρ):=by
 show bd (cz Φ [(.v a),(.v b)] ρ) _=_;have:cz Φ [(.v a),(.v b)] ρ=ok [.lst .fz (bU (aT ps)),.lst .fz (bE .fz ps)]:=by simp[ha,hb]
 rw[this,cC,m9];show bd (ok (D.lst .ow (List.zipWith (λx y=>D.tup [x,y]) (bU (aT ps)) (bE .fz ps)))) _=_;rw[zx,cC];have e:aA aV (ps.map uk)=ps.map uk:=b_ aV (λp=>by unfold uk;simp) ps;show ok (aA aV (ps.map uk),if aL bp [D.lst .fz (bU (aT ps)),.lst .fz (bE .fz ps)]then _ else _)=_;rw[e];have:aL bp [D.lst .fz (bU (aT ps)),.lst .fz (bE .fz ps)]=false:=by
  have:=gj bp .fz ps rfl;simp[this]
 rw[this];rfl
noncomputable def DA:ah:=[.ifs (.not (.call 40 [(.v 3),(.bf .len [(.ix (.v 2) (.int 1))])])) [.rs 8] []]
def FT:ah:=[.ifs (.or [(.not (.o_ (.v 0) .list)),(.cmp .ne (.bf .len [(.v 0)]) (.bf .len [(.v 1)]))]) [.rs 8] [],.fr (.tp [2,3]) (.uS 1000 [(.v 1),(.v 0)]) DA]
def Qf(m:aC):Prop:=∀j n ps xs,Rk j n ps xs->m [.lst .fz (bE .fz ps),.lst .fz (bU (aT ps))]=ok .cw
theorem xN(Φ:a_)(Q3:eQ (Φ 40))(c0 c1:aJ):∀(ps:List Rg) (c2 c3:aJ),(∀p∈ps,p.2.length=p.1.2.length/\p.2.length<=12)->∃K6 FO,dJ (λd ρ=>cy (.tp [2,3]) d ρ) (λρ=>bA Φ DA ρ) (ps.map uk) [c0,c1,c2,c3]=ok (.nx,[c0,c1,K6,FO])
 |[],c2,c3,_=>⟨c2,c3,rfl⟩
 |p::ps,c2,c3,h=>by
  obtain⟨K6,FO,ih⟩:=xN Φ Q3 c0 c1 ps (some (rD p.1)) (some (.lst .fz (bI p.2))) λs hs=>h s (aad _ hs);have h1:=h p aaf;have e:=λf=>Q3 (.lst f (bI p.2)) p.1.2.length (by show(bI p.2).length<=1000000;simp;left);simp only[K9,h1.1,decide_true]at e;have e1:rD p.1=.tup [qD p.1.1,.tup (af p.1.2)]:=rfl;refine⟨K6,FO,dj (ρ1:=[c0,c1,some (rD p.1),some (.lst .fz (bI p.2))]) (by simp[uk]) (ρ2:=[c0,c1,some (rD p.1),some (.lst .fz (bI p.2))]) ?_ ih⟩;simp[DA,e1,e]
theorem Sh(Φ:a_)(Q3:eQ (Φ 40))(m9:Φ 1000=uq):Qf (mk Φ 2 4 FT):=by
 intro j n ps xs K;have hn:=K.Jf;obtain⟨c2,c3,e⟩:=xN Φ Q3 (some (.lst .fz (bE .fz ps))) (some (.lst .fz (bU (aT ps)))) ps none none λp hp=>⟨K.ln p hp,by have:=(K.rw hp).2.1;have:=K.ln p hp;left⟩
 have hit:=Hs m9 1 0 ps (ρ:=[some (.lst .fz (bE .fz ps)),some (.lst .fz (bU (aT ps))),none,none]) (by simp) (by simp);have hf:=eU (Φ:=Φ) (t:=.tp [2,3]) (b:=DA) hit e;have Ml:∀f ds,du .list (.lst f ds)=true:=λ_ _=>rfl;simp[mk_eq,FT,Ml,hf]
def rK(ps:List Rg)(xs:av):Rat:=(ps.map λp=>p.1.1*gp xs p).sum
def KR(ps:List Rg)(xs:av)(m:Rat):Rat:=(ps.map λp=>p.1.1*((gp xs p - m)*(gp xs p - m))).sum
section
variable {j n:Nat}{ps:List Rg}{xs:av}(K:Rk j n ps xs)
include K
theorem Rk.tops:∀g∈(ps.map (gp xs)).map (bz (bW (ps.map (gp xs)))),g.natAbs<2 ^ 2000:=λg hg=>by
 obtain⟨q,hq,rfl⟩:=List.mem_map.mp hg;have s:=K.Nc.sm q hq;have c3:=K.Nc.lcm.2.1;have hl:=K.kr;rw[List.length_map]at c3;unfold bz;rw[Int.natAbs_mul];have f1:((bW (ps.map (gp xs)):Int).fdiv q.den).natAbs<=bW (ps.map (gp xs)):=by
  rw[Int.fdiv_eq_ediv_of_nonneg _ (by left)];have:=Int.natAbs_ediv_le_natAbs (bW (ps.map (gp xs)):Int) (q.den:Int);simpa using this
 exact aaj (bJ s.1 (aaz f1 c3)) (aar (by decide) (by left))
end
def Qd(g:List Rg->av->Rat)(m:aC):Prop:=∀j n ps xs,Rk j n ps xs->m [bN n (aT ps),.lst .fz (bE .fz ps),.lst .fz (bI xs)]=ok (qD (g ps xs))
def ML(ps:List Rg)(xs:av):Rat:=KR ps xs (rK ps xs)
def Qe(g:List Rg->av->Rat)(m:aC):Prop:=∀j n ps xs,Rk j n ps xs->Dr 6 n (aT ps)->m [bN n (aT ps),.lst .fz (bE .fz ps),.lst .fz (bI xs)]=ok (qD (g ps xs))
theorem qS{α:Type}{l:List α}{j:Nat}{x:α}(h:l[j]?=some x):l.drop j=x::l.drop (j+1):=by
 obtain⟨hj,e⟩:=List.getElem?_eq_some_iff.mp h;rw[List.drop_eq_getElem_cons hj,e]
theorem qM{α:Type}{l:List α}{j:Nat}(h:j<l.length):∃x,l[j]?=some x/\x∈l:=⟨l[j],aal h,abH h⟩
theorem G0{ps:List Rg}{j:Nat}{p:Rg}(h:ps[j]?=some p):nM (bE .fz ps) (j:Int)=ok (.lst .fz (bI p.2))/\nM (bU (aT ps)) (j:Int)=ok (rD p.1):=by
 constructor
 ·have:=at_of (ds:=bE .fz ps) (i:=(j:Int)) (d:=.lst .fz (bI p.2)) (by left) (by unfold bE;rw[Int.toNat_natCast,List.getElem?_map,h];rfl);have e:aU bj (.lst .fz (bI p.2))=.lst .fz (bI p.2):=by simp[bj]
  rw[e]at this;exact this
 ·have:=at_of (ds:=bU (aT ps)) (i:=(j:Int)) (d:=rD p.1) (by left) (by unfold bU aT;rw[Int.toNat_natCast,List.getElem?_map,List.getElem?_map,h];rfl);simpa using this
section
variable {n W:Nat}{ps:List Rg}{xs:av}(K:Rk 3 n ps xs)
include K
end
theorem Hv{i j:Nat}{e:CE}{z:Int}{ns ms:aa}{m:Nat}(h1:bC Φ e ρ=ok (.int z))(hi:ρ[i]?=some (some (.tup (af ns))))(hj:ρ[j]?=some (some (.lst .ow (af ms))))(hm:qz ms.length z=some m)(l1:ns.length<1000)(l2:ms.length<1000)(gQ:i≠j):
  jh Φ (.pop2 i j e) ρ=ok (.nx,(ρ.set j (some (.lst .ow (af (ms.eraseIdx m))))).set i (some (.tup (af (ns++[ms.getD m 0]))))):=by
 show bd (bd (bC Φ e ρ) intD) (oW i j ρ)=_;rw[h1];show oW i j ρ z=_;unfold oW;rw[hi,hj];unfold af at *;simp only[uT,br,hm,if_pos (And.intro l1 (And.intro l2 gQ))]
theorem ny:∀(l:aa) (m:Nat) (h:m<l.length),(l[m]::l.eraseIdx m).Perm l
 |[],_,h=>by cases h
 |x::l,0,_=>List.Perm.refl _
 |x::l,m+1,h=>by
  have hm:m<l.length:=by simpa using h
  show(l[m]::x::l.eraseIdx m).Perm (x::l);exact(List.Perm.swap ..).trans ((ny l m hm).cons x)
structure Pk(n:Nat)(row left:aa):Prop where
 pm:(row++left).Perm (oI n)
variable {left row:aa}
theorem Pk.ln{n:Nat}(h:Pk n row left):row.length+left.length=n:=by
 have:=h.pm.length_eq;rw[Dt,List.length_append]at this;exact this
theorem Pk.rw{n:Nat}{row left:aa}(h:Pk n row left):Rw n row:=by
 have hl:=h.ln;have nd:(oI (n:Int)).Nodup:=by
  unfold oI List.Nodup;rw[Int.toNat_natCast,List.pairwise_map];exact List.nodup_range.imp λh z=>h (by left)
 refine⟨(List.nodup_append.mp (h.pm.nodup_iff.mpr nd)).1,by left,λx hx=>?_⟩;obtain⟨k,hk,rfl⟩:=Ds.mp (h.pm.mem_iff.mp (aaA _ hx));left
theorem Pk.pop{n:Nat}(h:Pk n row left){m:Nat}(hm:m<left.length):Pk n (row++[left.getD m 0]) (left.eraseIdx m):=by
 refine⟨List.Perm.trans ?_ h.pm⟩;rw[List.append_assoc];refine List.Perm.append_left _ ?_;have:left.getD m 0=left[m]:=by rw[List.getD_eq_getElem?_getD,List.getElem?_eq_getElem hm];rfl
 rw[this];exact ny left m hm
noncomputable def vV:ah:=[.asg (.nm 6) (.bin .fdiv (.v 6) (.int 5)),.pop2 8 7 (.bin .mod (.v 6) (.bf .len [(.v 7)]))]
theorem sF(Φ:a_){n:Nat}(hn:n<=12)(c0 c1 c2 c3 c4 c5 Cs:aJ):∀(ks:ab) (row left:aa) (N:Int) (c9:aJ),Pk n row left->row.length+ks.length<=n ->
  ∃DU A7 N' xP,dJ (λd ρ=>cy (.nm 9) d ρ) (λρ=>bA Φ vV ρ) ks [c0,c1,c2,c3,c4,c5,some (.int N),some (.lst .ow (af left)),some (.tup (af row)),c9,Cs] =
   ok (.nx,[c0,c1,c2,c3,c4,c5,some (.int N'),some (.lst .ow (af A7)),some (.tup (af DU)),xP,Cs])/\Rw n DU
 |[],row,left,N,c9,h,_=>⟨row,left,N,c9,rfl,h.rw⟩
 |k::ks,row,left,N,c9,h,hl=>by
  rw[List.length_cons]at hl;have qG:=h.ln;obtain⟨f1,f2⟩:=eZ (N.fdiv 5) (b:=(left.length:Int)) (by left);have hm:qz left.length ((N.fdiv 5).fmod left.length)=some ((N.fdiv 5).fmod left.length).toNat:=by
   unfold qz;rw[if_pos f1,if_pos f2]
  obtain⟨DU,A7,N',xP,ih,hr⟩:=sF Φ hn c0 c1 c2 c3 c4 c5 Cs ks _ _ (N.fdiv 5) (some k) (h.pop (m:=((N.fdiv 5).fmod left.length).toNat) (by left)) (by rw[List.length_append,List.length_singleton];left);have e1:dy .mod (.int (N.fdiv 5)) (.int left.length)=ok (.int ((N.fdiv 5).fmod left.length)):=Hg (by left);have x1:=Hv (Φ:=Φ) (i:=8) (j:=7) (e:=.bin .mod (.v 6) (.bf .len [(.v 7)])) (ρ:=[c0,c1,c2,c3,c4,c5,some (.int (N.fdiv 5)),some (.lst .ow (af left)),some (.tup (af row)),some k,Cs]) (z:=(N.fdiv 5).fmod left.length) (ns:=row) (ms:=left) (by simp[e1]) rfl rfl hm (by left) (by left) (by decide);refine⟨DU,A7,N',xP,?_,hr⟩;refine dj (ρ1:=[c0,c1,c2,c3,c4,c5,some (.int N),some (.lst .ow (af left)),some (.tup (af row)),some k,Cs]) (by simp) (ρ2:=[c0,c1,c2,c3,c4,c5,some (.int (N.fdiv 5)),some (.lst .ow (af (left.eraseIdx ((N.fdiv 5).fmod left.length).toNat))),some (.tup (af (row++[left.getD ((N.fdiv 5).fmod left.length).toNat 0]))),some k,Cs]) ?_ ih;simp[vV];rw[x1];rfl
noncomputable def rm:CS:=.mut 1033 4 [(.bin .add (.bin .add (.bR 1031 [(.v 4),(.v 8),(.int 0)]) (.int 1)) (.bin .mod (.bin .fdiv (.v 6) (.int 64)) (.int 5))),(.v 8)]
noncomputable def pT:ah:=[.asg (.nm 6) (.call 200 [(.v 0),(.bin .add (.bin .add (.v 1) (.int 1)) (.v 5))]),.asg (.nm 7) (.bR 1041 [(.v 3)]),.asg (.nm 8) (.tup [])]
def zR:ah:=[.fr (.nm 9) (.kn (.bin .mod (.v 6) (.bin .add (.v 3) (.int 1)))) vV,rm]
def zS:ah:=pT++zR
noncomputable def KP:CE:=.comp 1 (.nm 0) [4] (.bR 1100) [(.v 4)] [] (.bR 1032 [(.v 1),(.v 0)])
noncomputable def KQ:CE:=.comp 1 (.nm 0) [10,4] .seq [(.bR 1035 [(.v 4)])] [] (.tup [(.call 201 [(.bR 1032 [(.v 2),(.v 0)]),(.v 1)]),(.v 0)])
def rA:ah:=[.asg (.nm 2) (.call 200 [(.v 0),(.v 1)]),.asg (.nm 3) (.bin .add (.int 1) (.bin .mod (.v 2) (.int 4))),.asg (.nm 2) (.bin .fdiv (.v 2) (.int 4)),.asg (.nm 4) (.bR 1030 []),.fr (.nm 5) (.kn (.bin .add (.int 1) (.bin .mod (.v 2) (.int 8)))) zS,.asg (.nm 10) (.bf .mH [KP]),.ret (.tup [(.v 3),KQ])]
theorem sE(Φ:a_)(P:CH Φ)(w_:Φ 1041=LB)(tH:nS (Φ 200))(ns:aa){a:Int}(ha:0<=a){n:Nat}(hn:n<=12)(c2:aJ):∀(k j:Nat) (cs:ag) (ws:aa) (c5 c6 c7 c8 c9:aJ),Tab (Rw n) j cs ws->j+k<=8 ->
  ∃G_ Qh FN Cr za Cq xP,dJ (λd ρ=>cy (.nm 5) d ρ) (λρ=>bA Φ zS ρ) ((List.range' j k).map λ(i:Nat)=>D.int (i:Int)) [some (.lst .sc (af ns)),some (.int a),c2,some (.int n),some (.bV .ow cs (af ws)),c5,c6,c7,c8,c9,none] =
   ok (.nx,[some (.lst .sc (af ns)),some (.int a),c2,some (.int n),some (.bV .ow G_ (af Qh)),FN,Cr,za,Cq,xP,none])/\Tab (Rw n) (j+k) G_ Qh
 |0,j,cs,ws,c5,c6,c7,c8,c9,T,_=>⟨cs,ws,c5,c6,c7,c8,c9,rfl,T⟩
 |k+1,j,cs,ws,c5,c6,c7,c8,c9,T,hj=>by
  have e1:=tH ns (a+1+j) (by left);have e2:Φ 1041 [.int (n:Int)]=ok (.lst .ow (af (oI n))):=by
   rw[w_];show(if (n:Int)<=cg /\ -cg<=(n:Int)then ok (D.lst .ow ((oI n).map D.int))else none)=_;have:(cg:Int)=1000000:=rfl;rw[if_pos (by left)];rfl
  generalize j6 ns (a+1+j)=N at *;obtain⟨t1,t2⟩:=eZ N (b:=(n:Int)+1) (by left);obtain⟨q,hq⟩:∃q:Nat,N.fmod ((n:Int)+1)=(q:Int):=⟨(N.fmod ((n:Int)+1)).toNat,by left⟩
  have e3:dy .mod (.int N) (.int ((n:Int)+1))=ok (.int q):=by rw[<- hq];exact Hg (by left)
  obtain⟨row,left,N',xP,el,hr⟩:=sF Φ hn (some (.lst .sc (af ns))) (some (.int a)) c2 (some (.int n)) (some (.bV .ow cs (af ws))) (some (.int j)) none ((List.range q).map λ(i:Nat)=>D.int (i:Int)) [] (oI n) N c9 ⟨List.Perm.refl _⟩ (by simp;left);have hit:=yv (Φ:=Φ) (a:=.bin .mod (.v 6) (.bin .add (.v 3) (.int 1))) (ρ:=[some (.lst .sc (af ns)),some (.int a),c2,some (.int n),some (.bV .ow cs (af ws)),some (.int j),some (.int N),some (.lst .ow (af (oI n))),some (.tup (af [])),c9,none]) (n:=q) (by simp[e3]) (by left) (by left);rw[Int.toNat_natCast]at hit;have hf:=eU (Φ:=Φ) (t:=.nm 9) (b:=vV) hit el;obtain⟨f1,f2⟩:=eZ (N'.fdiv 64) (b:=5) (by decide);have hw:bY cs ws row+1+(N'.fdiv 64).fmod 5=bY cs ws row+(1+(N'.fdiv 64).fmod 5):=by left
  have T':=T.put hr (i:=1+(N'.fdiv 64).fmod 5) (by left) (by left);obtain⟨G_,Qh,FN,Cr,za,Cq,Vr,ih,Z5⟩:=sE Φ P w_ tH ns ha hn c2 k (j+1) _ _ (some (.int j)) (some (.int N')) (some (.lst .ow (af left))) (some (.tup (af row))) xP T' (by left);have g1:=λf=>KY P f cs ws row;have hfw:=T.kr;have g2:=KS P (cs:=cs) (by left) ws row (bY cs ws row+(1+(N'.fdiv 64).fmod 5));have x1:jh Φ rm [some (.lst .sc (af ns)),some (.int a),c2,some (.int n),some (.bV .ow cs (af ws)),some (.int j),some (.int N'),some (.lst .ow (af left)),some (.tup (af row)),xP,none]=ok (.nx,[some (.lst .sc (af ns)),some (.int a),c2,some (.int n),some (.bV .ow (aI cs row) (af (bh cs ws row (bY cs ws row+(1+(N'.fdiv 64).fmod 5))))),some (.int j),some (.int N'),some (.lst .ow (af left)),some (.tup (af row)),xP,none]):=by
   unfold rm;refine(kv (xs:=[.int (bY cs ws row+(1+(N'.fdiv 64).fmod 5)),.tup (af row)]) (d:=.bV .ow cs (af ws)) ?_ (by simp) rfl g2).trans rfl;simp[g1,hw]
  refine⟨G_,Qh,FN,Cr,za,Cq,Vr,?_,by rw[show j+(k+1)=j+1+k by left];exact Z5⟩;rw[List.range'_succ,List.map_cons];have i0:af []=[]:=rfl;have ga:bA Φ pT [some (.lst .sc (af ns)),some (.int a),c2,some (.int n),some (.bV .ow cs (af ws)),some (.int j),c6,c7,c8,c9,none]=ok (.nx,[some (.lst .sc (af ns)),some (.int a),c2,some (.int n),some (.bV .ow cs (af ws)),some (.int j),some (.int N),some (.lst .ow (af (oI n))),some (.tup (af [])),c9,none]):=by
   simp[pT,e1,e2,i0]
  refine dj (ρ1:=[some (.lst .sc (af ns)),some (.int a),c2,some (.int n),some (.bV .ow cs (af ws)),some (.int j),c6,c7,c8,c9,none]) (by simp) (ρ2:=[some (.lst .sc (af ns)),some (.int a),c2,some (.int n),some (.bV .ow (aI cs row) (af (bh cs ws row (bY cs ws row+(1+(N'.fdiv 64).fmod 5))))),some (.int j),some (.int N'),some (.lst .ow (af left)),some (.tup (af row)),xP,none]) ((cY Φ pT _ _ _ ga).trans ?_) ih;rw[zR,bK,hf];show mF Φ [] (jh Φ rm _)=_;rw[x1];rfl
def CA(m:aC):Prop:=∀(ns:aa) (a:Int),0<=a->∃n rs,n<=4/\Dp (Rw n) 6 n rs/\nW rs/\m [.lst .sc (af ns),.int a]=ok (f_ .ow n rs)
theorem Ic(Φ:a_)(P:CH Φ)(w_:Φ 1041=LB)(tH:nS (Φ 200))(tG:gI (Φ 201)):CA (mk Φ 2 11 rA):=by
 intro ns a ha;have e1:=tH ns a ha;generalize j6 ns a=N at *;obtain⟨f1,f2⟩:=eZ N (b:=4) (by left);obtain⟨n,hn⟩:∃n:Nat,1+N.fmod 4=(n:Int):=⟨(1+N.fmod 4).toNat,by left⟩
 obtain⟨g1,g2⟩:=eZ (N.fdiv 4) (b:=8) (by decide);obtain⟨k,hk⟩:∃k:Nat,1+(N.fdiv 4).fmod 8=(k:Int):=⟨(1+(N.fdiv 4).fmod 8).toNat,by left⟩
 have T0:Tab (Rw n) 0 [] []:=⟨aaQ,rfl,aai _,(λ_ h=>nomatch h),(λ_ h=>nomatch h),by simp,λh=>by left⟩
 obtain⟨cs,ws,c5,c6,c7,c8,c9,el,T⟩:=sE Φ P w_ tH ns ha (n:=n) (by left) (some (.int (N.fdiv 4))) k 0 [] [] none none none none none T0 (by left);rw[Nat.zero_add]at T;have D6:=T.dr (n:=n) (by left) (by left) (by left) (by left);have JP:Φ 1030 []=ok (.bV .ow [] []):=by rw[P.xb];rfl
 have i0:af []=[]:=rfl;rw[i0]at el;have hit:cM Φ (.kn (.bin .add (.int 1) (.bin .mod (.v 2) (.int 8)))) [some (.lst .sc (af ns)),some (.int a),some (.int (N.fdiv 4)),some (.int n),some (.bV .ow [] []),none,none,none,none,none,none]=ok ((List.range' 0 k).map λ(i:Nat)=>D.int (i:Int),[some (.lst .sc (af ns)),some (.int a),some (.int (N.fdiv 4)),some (.int n),some (.bV .ow [] []),none,none,none,none,none,none]):=by
  rw[yv (n:=k) (by simp[hk]) (by left) (by left),Int.toNat_natCast,List.range_eq_range']
 have hf:=eU (Φ:=Φ) (t:=.nm 5) (b:=zS) hit el;have hp:(bc cs).Perm cs:=aay _ _;have lz:∀f,dU Φ (.bR 1100) [.bV f cs (af ws)]=ok (cs.map cK):=λf=>by
  show bd (Φ 1100 _) kF=_;rw[P.Pd];show ok (aA aV (cs.map cK))=_;rw[cT]
 have hfew:=T.kr;have EN:∀c,cK c=.tup (af c):=λ_=>rfl;have s1:∀r,bC Φ KP [some (.lst .sc (af ns)),some (.int a),some (.int (N.fdiv 4)),some (.int n),some (.bV .ow cs (af ws)),c5,c6,c7,c8,c9,r]=ok (.lst .ow (af (cs.map (bY cs ws)))):=λr=>by
  unfold KP;rw[dM (xs:=[.bV .al cs (af ws)]) (by simp) (lz _) (ds:=cs.map λc=>.int (bY cs ws c)) (cB λc hc=>?_) (by simp;exact cP (by left))]
  ·simp[af,aY]
  ·have e:=G9 P .fz T.ln hc;exact⟨[some (.tup (af c)),some (.bV .fz cs (af ws))],by simp[bP,EN],by simp,by simp[e]⟩
 rw[mP T.nd T.ln]at s1;have s2:nZ .mH [.lst .ow (af ws)]=ok (.int ws.sum):=by
  show(match intsOf (af ws)with|some ns=>ok (D.int ns.sum)|none=>none)=_;unfold af;rw[br]
 have hW:1<=ws.sum/\ws.sum<=56:=by
  have hs:=T.sum;refine⟨?_,by left⟩;obtain⟨c,hc⟩:=abt cs (T.ne (by left));obtain⟨w,e,m⟩:=iM T.ln hc;have:=T.pos w m;have:=T.wO w m;left
 refine⟨n,lG cs ws,by left,D6,⟨ws.sum.toNat,by left,by left,λr hr=>?_⟩,?_⟩
 ·unfold lG at hr;obtain⟨c,_,rfl⟩:=List.mem_map.mp hr;have h:ws.sum=((ws.sum.toNat:Nat):Int):=by left
  show(Rat.divInt (bY cs ws c) ws.sum).den∣_;have d:=nG (t:=bY cs ws c) (b:=ws.sum) (by left)
  rwa [show ws.sum.natAbs=ws.sum.toNat by left]at d
 have Ou:∀f,Φ 1035 [.bV f cs (af ws)]=ok (.lst .ow ((bc cs).map cK)):=λf=>by
  rw[P.BM];show(if cs.length<64 then ok (D.lst .ow ((bc cs).map cK))else none)=_;rw[if_pos (by left)]
 have s3:bC Φ KQ [some (.lst .sc (af ns)),some (.int a),some (.int (N.fdiv 4)),some (.int n),some (.bV .ow cs (af ws)),c5,c6,c7,c8,c9,some (.int ws.sum)]=ok (.lst .ow (bU (lG cs ws))):=by
  unfold KQ;rw[dM (xs:=[.lst .ow ((bc cs).map cK)]) (by simp[Ou]) (items:=(bc cs).map cK) (by rw[eY,cT]) (ds:=(bc cs).map λc=>rD (Rat.divInt (bY cs ws c) ws.sum,c)) (cB λc hc=>?_) (by rw[List.length_map];exact cP (by rw[hp.length_eq];left))]
  ·have:((bc cs).map λc=>rD (Rat.divInt (bY cs ws c) ws.sum,c))=bU (lG cs ws):=by unfold bU lG;rw[List.map_map];rfl
   rw[this,ig]
  ·have e:=G9 P .fz T.ln (hp.mem_iff.mp hc);have e':=tG (bY cs ws c) ws.sum (by left) (va (by left));exact⟨[some (.tup (af c)),some (.int ws.sum),some (.bV .fz cs (af ws))],by simp[bP,EN],by simp,by simp[e,e',rD]⟩
 simp[mk_eq,rA,e1,hn,JP];rw[hf];simp[s1,s2,s3,f_]
noncomputable def xw:CE:=.comp 1 (.nm 0) [0,1,2] .kn [(.bf .len [(.ix (.v 2) (.int 1))])] [] (.call 230 [(.call 200 [(.v 1),(.bin .add (.v 2) (.v 0))]),(.bf .len [(.ix (.ix (.ix (.v 3) (.int 1)) (.v 0)) (.int 1))])])
def xS:ah:=[.ret xw]
def Hl(m:aC):Prop:=∀(ns:aa) (a:Int) n rs,0<=a->Dp (Rw n) 6 n rs->∃ps,aT ps=rs/\(∀p∈ps,p.2.length=p.1.2.length/\∀q∈p.2,Sm 3 q)/\m [.lst .sc (af ns),.int a,bN n rs]=ok (.lst .ow (bE .ow ps))
theorem MT(Φ:a_)(tH:nS (Φ 200))(J9:xZ (Φ 230)):Hl (mk Φ 3 3 xS):=by
 intro ns a n rs ha I;have hn:=I.n2;have hf:=I.kr
 let W:Nat->Rg:=λk=>(rs.getD k (0,[]),if h:(rs.getD k (0,[])).2.length<=12 then Classical.choose (J9 (j6 ns (a+k)) (rs.getD k (0,[])).2.length h)else[])
 have wk:∀k,k<rs.length->rs[k]?=some (W k).1/\Φ 230 [.int (j6 ns (a+k)),.int (W k).1.2.length]=ok (.lst .ow (bI (W k).2))/\(W k).2.length=(W k).1.2.length/\∀q∈(W k).2,Sm 3 q:=λk hk=>by
  obtain⟨r,h1,h2⟩:=qM hk;have hr:rs.getD k (0,[])=r:=by rw[List.getD_eq_getElem?_getD,h1];rfl
  have vq:(rs.getD k (0,[])).2.length<=12:=by rw[hr];have:=(I.lot r h2).2.1;left
  have hs:=Classical.choose_spec (J9 (j6 ns (a+k)) (rs.getD k (0,[])).2.length vq);have e:W k=(rs.getD k (0,[]),Classical.choose (J9 (j6 ns (a+k)) (rs.getD k (0,[])).2.length vq)):=by show(_,_)=_;rw[dif_pos vq]
  rw[e];exact⟨by rw[h1];exact aaJ some hr.symm,hs.1,hs.2.1,hs.2.2⟩
 refine⟨(List.range rs.length).map W,?_,λp hp=>?_,?_⟩
 ·unfold aT;rw[List.map_map];refine abI (by simp) λi h1 h2=>?_;have:=(wk i h2).1;rw[List.getElem?_eq_getElem h2]at this;simpa using (Option.some.inj this).symm
 ·obtain⟨k,hk,rfl⟩:=List.mem_map.mp hp;exact(wk k (List.mem_range.mp hk)).2.2
 ·have hd:bN n rs=.tup [.int n,.lst .fz (bU rs)]:=rfl;have m1:aU aV (bN n rs)=bN n rs:=by simp[bN]
  have m2:aU bj (bN n rs)=bN n rs:=by simp[bN]
  have x1:rL (bN n rs) (.int 1)=ok (.lst .fz (bU rs)):=by rw[hd];simp
  have k1:bC Φ xw [some (.lst .sc (af ns)),some (.int a),some (bN n rs)]=ok (.lst .ow (bE .ow ((List.range rs.length).map W))):=by
   unfold xw;rw[dM (xs:=[.int rs.length]) (ds:=(List.range rs.length).map λ(k:Nat)=>.lst .ow (bI (W k).2)) (by simp[m2,x1]) (EE Φ (by left) (by left)) (cB λk hk=>⟨[some (.int k),some (.lst .sc (af ns)),some (.int a),some (bN n rs)],by simp[bP,m1,aV],by simp,?_⟩) (by simp;exact cP (by left))]
   ·have:((List.range rs.length).map λ(k:Nat)=>D.lst .ow (bI (W k).2))=bE .ow ((List.range rs.length).map W):=by unfold bE;rw[List.map_map];rfl
    rw[this,jO];rfl
   ·rw[Int.toNat_natCast,List.mem_range]at hk;obtain⟨w1,w2,w3,_⟩:=wk k hk;have e1:=tH ns (a+k) (by left);have a1:nM (bU rs) (k:Int)=ok (rD (W k).1):=by
     have:=at_of (ds:=bU rs) (i:=(k:Int)) (d:=rD (W k).1) (by left) (by unfold bU;rw[Int.toNat_natCast,List.getElem?_map,w1];rfl);simpa using this
    have hr:rD (W k).1=.tup [qD (W k).1.1,.tup (af (W k).1.2)]:=rfl;rw[hr]at a1;generalize W k=w at *;simp[m2,x1,e1,a1,w2,bj]
  have f2:=gj bp .ow ((List.range rs.length).map W) rfl;generalize (List.range rs.length).map W=ps at *;simp[mk_eq,xS,N_ Φ xw _ rfl,k1,f2]
end DI
end
section
namespace DI
open PySem PySem.Spec PyProof.Rows L2
section
variable {prog:aF}{w:World}{A:aE}{E:aw}{s:Shared}{d it:Addr}{es:Array DictEntry}{ep i:Nat}
end
section
variable {X:Cx}{pins:aj}{σ:St}{H:Hp}{s:Shared}{d:Addr}{cs:ag}{as:aO}{xs:ae}{ep:Nat}
end
section
variable {X:Cx}{pins:aj}{σ:St}{H:Hp}{s:Shared}{p b:Addr}{c:aa}{A:aE}{E:aw}
end
end DI
end
section
namespace DI
open PySem (Str)
structure Cz(most:Nat)(qs:av)(B:Nat):Prop where
 n1:1<=qs.length
 n2:qs.length<=most
 b1:1<=B
 b2:B<=9
 q0:∀q∈qs,0<=q
 q1:∀q∈qs,q<=1
 qd:∀q∈qs,q.den∣B
 su:∃s:Int,qs.sum=(s:Rat)
variable {B:Nat}{qs:av}
theorem Cz.le{m k:Nat}(h:Cz m qs B)(hk:m<=k):Cz k qs B:=⟨h.n1,aax h.n2 hk,h.b1,h.b2,h.q0,h.q1,h.qd,h.su⟩
theorem uV{q:Rat}(h:q<=1):q.num<=(q.den:Int):=by
 have h':(q.num:Rat)<=(q.den:Rat):=by
  rw[oV];have h2:(0:Rat)<=(q.den:Rat):=by exact_mod_cast aaF _
  have:=Rat.mul_le_mul_of_nonneg_right h h2
  rwa [Rat.one_mul]at this
 exact_mod_cast h'
theorem AL{q:Rat}(h:0<=q):0<=q.num:=Rat.num_nonneg.mpr h
theorem Cz.sm{m:Nat}(h:Cz m qs B){q:Rat}(hq:q∈qs):Sm 4 q:=by
 have h1:=uV (h.q1 q hq);have h2:=AL (h.q0 q hq);have h3:=abc (by have:=h.b1;left) (h.qd q hq);have:=h.b2;constructor<;>simp<;>left
theorem Cz.HW{m:Nat}(h:Cz m qs B)(hm:m<=12):rO 4 qs:=⟨λ_ hq=>h.sm hq,by have:=h.n2;left,by have:=h.n2;left⟩
theorem zN{b:Nat}(h:∀q∈qs,q.den∣b){s:Int}(hs:qs.sum=(s:Rat)):(qs.map (bz b)).sum=s*(b:Int):=by
 have:=jG h;rw[hs]at this;have e:((s*(b:Int):Int):Rat)=(s:Rat)*(b:Rat):=by rw[Rat.intCast_mul,Rat.intCast_natCast]
 rw[<- e]at this;exact Rat.intCast_inj.mp this
theorem s_(a:aa)(t:Int)(b:aa):nM (af (a++t::b)) (a.length:Int)=ok (.int t):=by
 rw[nL (d:=.int t) (by rw[pb];simp)];rfl
noncomputable def pO(W x:Int):Bool:=decide (0<x)&&decide (x<W)
def rW(W:Int):Int->aa->aa
 |_,[]=>[]
 |j,x::xs=>if pO W x then j::rW W (j+1) xs else rW W (j+1) xs
noncomputable def qr(W:Int):Int->aa->aa
 |_,[]=>[]
 |j,x::xs=>if x=W then j::qr W (j+1) xs else qr W (j+1) xs
def vals(W:Int)(p:aa):aa:=p.filter (pO W)
variable {W:Int}
theorem iG{x:Int}:pO W x=true ↔ 0<x/\x<W:=by simp[pO]
theorem lW{W:Int}:∀{p:aa} {j:Int},vals W p=[]->rW W j p=[]
 |[],_,_=>rfl
 |x::p,j,h=>by
  unfold vals at h;by_cases hx:pO W x=true
  ·rw[List.filter_cons_of_pos hx]at h;cases h
  ·rw[List.filter_cons_of_neg hx]at h;rw[rW,if_neg hx];exact lW h
theorem pP{W:Int}:∀{p q:aa} {j:Int},rW W j (p++q)=rW W j p++rW W (j+p.length) q
 |[],q,j=>by simp[rW]
 |x::p,q,j=>by
  have e:j+1+(p.length:Int)=j+((x::p).length:Int):=by simp;left
  rw[List.cons_append,rW,rW,pP (p:=p),e];split<;>simp
theorem mD(p q:aa):vals W (p++q)=vals W p++vals W q:=List.filter_append ..
theorem e_(x:Int)(p:aa):vals W (x::p)=if pO W x then x::vals W p else vals W p:=List.filter_cons ..
theorem split1{W:Int}:∀p:aa,vals W p=[]\/∃A a C,p=A++a::C/\vals W A=[]/\pO W a=true
 |[]=>.inl rfl
 |x::p=>by
  by_cases hx:pO W x=true
  ·exact .inr ⟨[],x,p,rfl,rfl,hx⟩
  ·rcases split1 p with h|⟨A,a,C,rfl,h1,h2⟩
   ·exact .inl (by rw[e_,if_neg hx,h])
   ·exact .inr ⟨x::A,a,C,rfl,by rw[e_,if_neg hx,h1],h2⟩
structure kY(n:Nat)(W:Int)(p:aa):Prop where
 len:p.length=n
 lo:∀x∈p,0<=x
 hi:∀x∈p,x<=W
 su:∃s:Int,p.sum=s*W
structure Tw(W:Int)(p A:aa)(a:Int)(B:aa)(b:Int)(C:aa):Prop where
 eq:p=A++a::(B++b::C)
 vA:vals W A=[]
 vB:vals W B=[]
 ua:pO W a=true
 ub:pO W b=true
theorem hX{W:Int}:∀{A:aa},vals W A=[]->(∀x∈A,0<=x)->(∀x∈A,x<=W)->∃k:Int,A.sum=k*W
 |[],_,_,_=>⟨0,by simp⟩
 |x::A,h,l,u=>by
  rw[e_]at h;split at h
  ·cases h
  ·rename_i hx;obtain⟨k,hk⟩:=hX h (λy hy=>l y (aad _ hy)) λy hy=>u y (aad _ hy);have l0:=l x aaf;have u0:=u x aaf;have Br:¬ (0<x/\x<W):=λz=>hx (iG.mpr z);rw[List.sum_cons,hk];by_cases e:x=0
   ·exact⟨k,by left⟩
   ·exact⟨k+1,by rw[Int.add_mul];left⟩
theorem En{a m:Int}(h0:0<a)(h1:a<W)(h:a=m*W):False:=by
 by_cases hm:m<=0
 ·have:=abf hm (show 0<=W by left);left
 ·have:=abf (show 1<=m by left) (show 0<=W by left);left
theorem kY.two{n:Nat}{p:aa}(I:kY n W p)(h:vals W p≠[]):∃A a B b C,Tw W p A a B b C:=by
 rcases split1 (W:=W) p with e|⟨A,a,C,rfl,h1,h2⟩
 ·exact absurd e h
 ·rcases split1 (W:=W) C with e|⟨B,b,C',rfl,h3,h4⟩
  ·obtain⟨s,hs⟩:=I.su;obtain⟨k1,e1⟩:=hX h1 (λx hx=>I.lo x (by simp[hx])) λx hx=>I.hi x (by simp[hx]);obtain⟨k2,e2⟩:=hX e (λx hx=>I.lo x (by simp[hx])) λx hx=>I.hi x (by simp[hx]);rw[List.sum_append,List.sum_cons,e1,e2]at hs;obtain⟨u1,u2⟩:=iG.mp h2;exact(En u1 u2 (m:=s - k1 - k2) (by rw[Int.sub_mul,Int.sub_mul];left)).elim
  ·exact⟨A,a,B,b,C',rfl,h1,h3,h2,h4⟩
noncomputable def fE(W a b:Int):Rat:=if a+b<=W then Rat.divInt a (a+b)else Rat.divInt (W - b) (2*W - a - b)
noncomputable def lO(W a b:Int):Int:=if W<a+b then W else a+b
def l_(W a b:Int):Int:=a+b - lO W a b
def AK(W:Int)(p:aa):Option (Rat×aa×aa):=match rW W 0 p with
 |i::j::_=>some (fE W (p.getD i.toNat 0) (p.getD j.toNat 0),(p.set i.toNat (lO W (p.getD i.toNat 0) (p.getD j.toNat 0))).set j.toNat (l_ W (p.getD i.toNat 0) (p.getD j.toNat 0)),(p.set j.toNat (lO W (p.getD i.toNat 0) (p.getD j.toNat 0))).set i.toNat (l_ W (p.getD i.toNat 0) (p.getD j.toNat 0)))
 |_=>none
section
variable {W a b:Int}{p A B C:aa}(T:Tw W p A a B b C)
include T
theorem Tw.rW:rW W 0 p=(A.length:Int)::((A.length+1+B.length:Nat):Int)::rW W ((A.length+1+B.length:Nat)+1) C:=by
 rw[T.eq,pP,lW T.vA,List.nil_append,DI.rW,if_pos T.ua,pP,lW T.vB,List.nil_append,DI.rW,if_pos T.ub];have e:(0:Int)+(A.length:Int)+1+(B.length:Int)=((A.length+1+B.length:Nat):Int):=by push_cast;left
 rw[e,Int.zero_add]
theorem Tw.vals:vals W p=a::b::vals W C:=by
 rw[T.eq,mD,T.vA,List.nil_append,e_,if_pos T.ua,mD,T.vB,List.nil_append,e_,if_pos T.ub]
theorem Tw.Z3:p.getD A.length 0=a:=by rw[T.eq];simp
theorem Tw.at2:p.getD (A.length+1+B.length) 0=b:=by
 rw[T.eq];have:A++a::(B++b::C)=(A++a::B)++b::C:=by simp
 rw[this,show A.length+1+B.length=(A++a::B).length by simp;left];simp
theorem Tw.Sd(x:Int):p.set A.length x=A++x::(B++b::C):=by rw[T.eq];simp[List.set_append]
theorem Tw.Sb(x:Int):p.set (A.length+1+B.length) x=A++a::(B++x::C):=by
 rw[T.eq];have:∀y,A++a::(B++y::C)=(A++a::B)++y::C:=by simp
 rw[this,this,show A.length+1+B.length=(A++a::B).length by simp;left];simp[List.set_append]
omit T in
theorem MO(A:aa)(a:Int)(B:aa)(b:Int)(C:aa)(x:Int):(A++a::(B++b::C)).set (A.length+1+B.length) x=A++a::(B++x::C):=by
 have:∀y,A++a::(B++y::C)=(A++a::B)++y::C:=by simp
 rw[this,this,show A.length+1+B.length=(A++a::B).length by simp;left];simp[List.set_append]
theorem Tw.AK:AK W p=some (fE W a b,A++lO W a b::(B++l_ W a b::C),A++l_ W a b::(B++lO W a b::C)):=by
 unfold DI.AK;rw[T.rW];dsimp only;rw[Int.toNat_natCast,Int.toNat_natCast,T.Z3,T.at2,T.Sd,T.Sb,MO];have:(A++a::(B++lO W a b::C)).set A.length (l_ W a b)=A++l_ W a b::(B++lO W a b::C):=by simp[List.set_append]
 rw[this]
theorem Tw.pq:0<a/\a<W/\0<b/\b<W:=⟨(iG.mp T.ua).1,(iG.mp T.ua).2,(iG.mp T.ub).1,(iG.mp T.ub).2⟩
theorem Tw.hl:0<=lO W a b/\lO W a b<=W/\0<=l_ W a b/\l_ W a b<=W/\lO W a b+l_ W a b=a+b/\(pO W (lO W a b)=false\/pO W (l_ W a b)=false):=by
 obtain⟨h1,h2,h3,h4⟩:=T.pq;unfold l_ lO pO;split<;>refine⟨by left,by left,by left,by left,by left,?_⟩
 ·left
 ·right;simp
end
def nv(W:Int):aa->aa
 |a::b::r=>(if pO W (lO W a b)then[lO W a b]else if pO W (l_ W a b)then[l_ W a b]else[])++r
 |_=>[]
theorem uU(W a b:Int)(r:aa):(nv W (a::b::r)).length<=r.length+1:=by
 show((if pO W (lO W a b)then[lO W a b]else if pO W (l_ W a b)then[l_ W a b]else[])++r).length<=_;rw[List.length_append];split
 ·simp;left
 ·split<;>simp;left
section
variable {n:Nat}{W a b:Int}{p A B C:aa}(I:kY n W p)(T:Tw W p A a B b C)
include I T
theorem Tw.V7{x y:Int}(hx:0<=x/\x<=W)(hy:0<=y/\y<=W)(hs:x+y=a+b):kY n W (A++x::(B++y::C)):=by
 have hl:=I.len;have lo:=I.lo;have hi:=I.hi;obtain⟨s,yE⟩:=I.su;rw[T.eq]at hl lo hi yE;refine⟨by rw[<- hl];simp,λz hz=>?_,λz hz=>?_,s,by rw[<- yE];simp;left⟩
 ·simp only[List.mem_append,List.mem_cons]at hz;rcases hz with hz|rfl|hz|rfl|hz
  ·exact lo z (by simp[hz])
  ·exact hx.1
  ·exact lo z (by simp[hz])
  ·exact hy.1
  ·exact lo z (by simp[hz])
 ·simp only[List.mem_append,List.mem_cons]at hz;rcases hz with hz|rfl|hz|rfl|hz
  ·exact hi z (by simp[hz])
  ·exact hx.2
  ·exact hi z (by simp[hz])
  ·exact hy.2
  ·exact hi z (by simp[hz])
theorem Tw.Hw:kY n W (A++lO W a b::(B++l_ W a b::C)):=by
 obtain⟨h1,h2,h3,h4,h5,_⟩:=T.hl;exact T.V7 I ⟨h1,h2⟩ ⟨h3,h4⟩ h5
theorem Tw.Jo:kY n W (A++l_ W a b::(B++lO W a b::C)):=by
 obtain⟨h1,h2,h3,h4,h5,_⟩:=T.hl;exact T.V7 I ⟨h3,h4⟩ ⟨h1,h2⟩ (by left)
omit I in
theorem Tw.Hz:DI.vals W (A++lO W a b::(B++l_ W a b::C))=nv W (DI.vals W p)/\DI.vals W (A++l_ W a b::(B++lO W a b::C))=nv W (DI.vals W p):=by
 obtain⟨_,_,_,_,_,h⟩:=T.hl;rw[T.vals];simp only[mD,e_,T.vA,T.vB,List.nil_append,nv];rcases h with h|h
 ·cases z:pO W (l_ W a b)<;>simp[h]
 ·cases z:pO W (lO W a b)<;>simp[h]
end
theorem nF{t b:Int}(hb:0<b)(h:t<b):Rat.divInt t b<1:=by
 have W0:(0:Rat)<(b:Rat):=by have:=abF (a:=0) (b:=b);simpa using this.mpr hb
 have h1:(t:Rat)<(b:Rat):=Rat.intCast_lt_intCast.mpr h;rw[Rat.divInt_eq_div,Rat.div_def];have:=Rat.mul_lt_mul_of_pos_right h1 (Rat.inv_pos.mpr W0)
 rwa [Rat.mul_inv_cancel _ (Rat.ne_of_gt W0)]at this
theorem Cf{a b:Int}(h1:0<a)(h2:a<W)(h3:0<b)(h4:b<W)(hW:W<=9):0<fE W a b/\fE W a b<1/\Sm 5 (fE W a b):=by
 unfold fE;split
 ·exact⟨jm h1 (by left),nF (by left) (by left),sj (by left) (by show _<32;left) (by show _<32;left)⟩
 ·exact⟨jm (by left) (by left),nF (by left) (by left),sj (by left) (by show _<32;left) (by show _<32;left)⟩
noncomputable def ind(x y:aa):Rat:=if x=y then 1 else 0
def Pr(W:Int):Nat->aa->aa->Rat
 |0,p,l=>ind (qr W 0 p) l
 |n+1,p,l=>match AK W p with
  |none=>ind (qr W 0 p) l
  |some z=>z.1*Pr W n z.2.1 l+(1 - z.1)*Pr W n z.2.2 l
theorem AJ{p:aa}(h:vals W p=[]):AK W p=none:=by unfold AK;rw[lW h]
theorem nU{p:aa}(h:vals W p=[])(k:Nat)(l:aa):Pr W k p l=ind (qr W 0 p) l:=by
 cases k with
 |zero=>rfl
 |succ k=>rw[Pr,AJ h]
theorem mv{n:Nat}{W:Int}(l:aa):∀(k:Nat) (p:aa),kY n W p->(vals W p).length<=k->Pr W k p l=Pr W (k+1) p l
 |0,p,I,h=>by
  have:vals W p=[]:=List.length_eq_zero_iff.mp (by left);rw[nU this,nU this]
 |k+1,p,I,h=>by
  by_cases e:vals W p=[]
  ·rw[nU e,nU e]
  ·obtain⟨A,a,B,b,C,T⟩:=I.two e;obtain⟨v1,v2⟩:=T.Hz;have hv:=T.vals;have hn:=uU W a b (vals W C);rw[hv]at h v1 v2;simp only[List.length_cons]at h;rw[Pr,Pr,T.AK];dsimp only;rw[mv l k _ (T.Hw I) (by rw[v1];left),mv l k _ (T.Jo I) (by rw[v2];left)]
variable {A C:aa}
theorem F2{n:Nat}(l:aa){k:Nat}{p B:aa}{a b:Int}(I:kY n W p)(T:Tw W p A a B b C)(h:(vals W p).length<=k):
  Pr W k p l=fE W a b*Pr W k (A++lO W a b::(B++l_ W a b::C)) l+(1 - fE W a b)*Pr W k (A++l_ W a b::(B++lO W a b::C)) l:=by
 obtain⟨v1,v2⟩:=T.Hz;have hv:=T.vals;have hn:=uU W a b (vals W C);rw[hv]at h v1 v2;simp only[List.length_cons]at h;obtain⟨k,rfl⟩:∃j,k=j+1:=⟨k - 1,by left⟩
 rw[Pr,T.AK];dsimp only;rw[mv l k _ (T.Hw I) (by rw[v1];left),mv l k _ (T.Jo I) (by rw[v2];left)]
theorem fB{α:Type}(f:aa->α)(k:aa):∀ks:ag,bo ks (ks.map f) k=if k∈ks then some (f k)else none
 |[]=>rfl
 |j::ks=>by
  show(if j=k then some (f j)else bo ks (ks.map f) k)=_;rw[fB f k ks];by_cases e:j=k
  ·subst e;simp
  ·rw[if_neg e];have:k∈j::ks ↔ k∈ks:=by rw[List.mem_cons];exact⟨λh=>h.resolve_left λz=>e z.symm,.inr⟩
   simp only[this]
theorem sy{α:Type}(f:aa->α)(k:aa)(v:α):∀ks:ag,setC ks (ks.map f) k v=ks.map λj=>if j=k then v else f j
 |[]=>rfl
 |j::ks=>by
  show(if j=k then v else f j)::setC ks (ks.map f) k v=_;rw[sy f k v ks,List.map_cons]
theorem oH{α:Type}(f:aa->α)(k:aa)(v:α)(ks:ag):bh ks (ks.map f) k v=(aI ks k).map λj=>if j=k then v else f j:=by
 unfold bh aI;by_cases h:k∈ks
 ·rw[if_pos h,if_pos h,sy]
 ·rw[if_neg h,if_neg h,List.map_append];congr 1
  ·refine aak λj hj=>?_;rw[if_neg (show ¬ j=k from λz=>h (z▸hj))]
  ·simp
variable {ks:ag}
theorem bQ{c k:aa}:k∈aI ks c ↔ k∈ks\/k=c:=by
 unfold aI;split
 ·rename_i h;exact⟨.inl,λz=>z.elim id λe=>e▸h⟩
 ·simp
theorem jT(h:ks.Nodup)(c:aa):(aI ks c).Nodup:=by
 unfold aI;split
 ·exact h
 ·rename_i hc;rw[List.nodup_append];exact⟨h,by simp,λa ha b hb=>by rw[List.mem_singleton.mp hb];exact λz=>hc (z▸ha)⟩
theorem cZ(ks:ag)(c:aa):(aI ks c).length<=ks.length+1:=by
 unfold aI;split<;>simp
structure CJ(Φ:a_):Prop where
 xb:Φ 1030=xy
 BO:Φ 1031=pC
 xa:Φ 1032=yX
 BN:Φ 1033=pA
 BM:Φ 1035=kT
variable {Φ:a_}
theorem PC(P:CJ Φ)(f:Fl){cs:ag}{ws:aa}(hl:cs.length=ws.length){c:aa}(h:c∈cs):Φ 1032 [.bV f cs (af ws),.tup (af c)]=ok (.int (bY cs ws c)):=by
 obtain⟨w,e,_⟩:=iM hl h;rw[P.xa];show(match intsOf (c.map D.int)with|some c=>(match bo cs (af ws) c with|some v=>if aH anyF v=false then ok v else none|none=>none)|none=>none)=_;rw[br];show(match bo cs (af ws) c with|some v=>if aH anyF v=false then ok v else none|none=>none)=_;rw[iL,e];unfold bY;rw[e];rfl
theorem Mu{α:Type}(P:CJ Φ)(e:α->D)(he:∀a,aH anyF (e a)=false)(f:Fl)(ks:ag)(w:aa->α)(z:α)(c:aa)(h:c∉ks->w c=z):Φ 1031 [.bV f ks (ks.map λk=>e (w k)),.tup (af c),e z]=ok (e (w c)):=by
 rw[P.BO];show(match intsOf (c.map D.int)with|some c=>if aL anyF (ks.map λk=>e (w k))=false/\aH anyF (e z)=false then ok ((bo ks (ks.map λk=>e (w k)) c).getD (e z))else none|none=>none)=_;rw[br];show(if aL anyF (ks.map λk=>e (w k))=false/\aH anyF (e z)=false then ok ((bo ks (ks.map λk=>e (w k)) c).getD (e z))else none)=_;rw[if_pos ⟨bH anyF (λk=>he _) ks,he _⟩,fB (λk=>e (w k))];by_cases hc:c∈ks
 ·rw[if_pos hc];rfl
 ·rw[if_neg hc,h hc];rfl
theorem Mq{α:Type}(P:CJ Φ)(e:α->D)(he:∀a,aH anyF (e a)=false)(hl:ks.length<1000)(w:aa->α)(c:aa)(v:α):Φ 1033 [.bV .ow ks (ks.map λk=>e (w k)),e v,.tup (af c)]=ok (.bV .ow (aI ks c) ((aI ks c).map λk=>e (if k=c then v else w k))):=by
 rw[P.BN];show(match intsOf (c.map D.int)with|some c=>if bX .ow=true/\aH anyF (e v)=false/\ks.length<cg then ok (D.bV .ow (aI ks c) (bh ks (ks.map λk=>e (w k)) c (e v)))else none|none=>none)=_;rw[br];show(if bX .ow=true/\aH anyF (e v)=false/\ks.length<cg then ok (D.bV .ow (aI ks c) (bh ks (ks.map λk=>e (w k)) c (e v)))else none)=_;rw[if_pos ⟨rfl,he _,by show _<1000000;left⟩,oH (λk=>e (w k))];congr 2;refine aak λj _=>?_;by_cases z:j=c
 ·rw[if_pos z,if_pos z]
 ·rw[if_neg z,if_neg z]
theorem VV{α:Type}(P:CJ Φ)(e:α->D)(he:∀a,aH anyF (e a)=false)(f:Fl)(w:aa->α){c:aa}(h:c∈ks):Φ 1032 [.bV f ks (ks.map λk=>e (w k)),.tup (af c)]=ok (e (w c)):=by
 rw[P.xa];show(match intsOf (c.map D.int)with|some c=>(match bo ks (ks.map λk=>e (w k)) c with|some v=>if aH anyF v=false then ok v else none|none=>none)|none=>none)=_;rw[br];show(match bo ks (ks.map λk=>e (w k)) c with|some v=>if aH anyF v=false then ok v else none|none=>none)=_;rw[fB (λk=>e (w k)),if_pos h];exact aaN (he _)
theorem Ge(P:CJ Φ)(f:Fl)(vs:ab)(h:ks.length<64):Φ 1035 [.bV f ks vs]=ok (.lst .ow ((bc ks).map cK)):=by
 rw[P.BM];show(if ks.length<64 then ok (D.lst .ow ((bc ks).map cK))else none)=_;rw[if_pos h]
noncomputable def kN(ks:ag)(w F:aa->Rat):Rat:=(ks.map λk=>w k*F k).sum
noncomputable def bZ{α:Type}[Add α](w:aa->α)(c:aa)(x:α):aa->α:=λk=>if k=c then w k+x else w k
theorem pU(a b:av):(a++b).sum=a.sum+b.sum:=by
 induction a with
 |nil=>simp;grind
 |cons x a ih=>rw[List.cons_append,List.sum_cons,List.sum_cons,ih];grind
theorem wQ(c:aa)(x:Rat)(w F:aa->Rat):∀ks:ag,ks.Nodup->c∈ks->kN ks (bZ w c x) F=kN ks w F+x*F c
 |[],_,h=>nomatch h
 |k::ks,hn,h=>by
  obtain⟨h1,h2⟩:=List.nodup_cons.mp hn;unfold kN at *;rw[List.map_cons,List.map_cons,List.sum_cons,List.sum_cons];by_cases e:k=c
  ·have:(ks.map λk=>bZ w c x k*F k)=ks.map λk=>w k*F k:=aak λj hj=>by
    unfold bZ;rw[if_neg λz=>h1 (by rw[e,<- z];exact hj)]
   rw[this];unfold bZ;rw[if_pos e,e];grind
  ·have ih:=wQ c x w F ks h2 ((List.mem_cons.mp h).resolve_left λz=>e z.symm);unfold kN at ih;rw[ih];unfold bZ;rw[if_neg e];grind
theorem sV{c:aa}{x:Rat}{w:aa->Rat}(F:aa->Rat)(hn:ks.Nodup)(h0:c∉ks->w c=0):kN (aI ks c) (bZ w c x) F=kN ks w F+x*F c:=by
 unfold aI;split
 ·rename_i h;exact wQ c x w F ks hn h
 ·rename_i h;unfold kN;rw[List.map_append,pU];have:(ks.map λk=>bZ w c x k*F k)=ks.map λk=>w k*F k:=aak λj hj=>by
   unfold bZ;rw[if_neg λz=>h (by rw[<- z];exact hj)]
  rw[this];simp only[List.map_cons,List.map_nil,List.sum_cons,List.sum_nil,bZ,if_pos,h0 h];grind
structure Tb{α:Type}(z:α)(pos:α->Prop)(ks:ag)(w:aa->α):Prop where
 nd:ks.Nodup
 out:∀k,k∉ks->w k=z
 EJ:∀k∈ks,pos (w k)
theorem Tb.add{α:Type}[Add α]{z:α}{pos:α->Prop}{w:aa->α}(T:Tb z pos ks w){x:α}(hx:pos (z+x))(hp:∀a,pos a->pos (a+x))(c:aa):Tb z pos (aI ks c) (bZ w c x):=by
 refine⟨jT T.nd c,λk hk=>?_,λk hk=>?_⟩
 ·have h:¬ (k∈ks\/k=c):=λz=>hk (bQ.mpr z);unfold bZ;rw[if_neg λz=>h (.inr z)];exact T.out k λz=>h (.inl z)
 ·unfold bZ;by_cases e:k=c
  ·rw[if_pos e];by_cases hc:k∈ks
   ·exact hp _ (T.EJ k hc)
   ·rw[T.out k hc];exact hx
  ·rw[if_neg e];exact T.EJ k ((bQ.mp hk).resolve_right e)
noncomputable def cq(w:aa->Int):aa->Rat:=λk=>(w k:Rat)
theorem Cc(w:aa->Int)(c:aa)(x:Int):cq (bZ w c x)=bZ (cq w) c (x:Rat):=by
 funext k;unfold cq bZ;split
 ·rw[Rat.intCast_add]
 ·rfl
def mz(W:Int)(p:aa):aa:=match AK W p with|some z=>z.2.1|none=>[]
def jQ(W:Int)(p:aa):aa:=match AK W p with|some z=>z.2.2|none=>[]
def po(W cn cd:Int)(w0:aa->Int):ag->ag->(aa->Int)->ag×(aa->Int)
 |[],ks,w=>(ks,w)
 |p::ps,ks,w=>po W cn cd w0 ps (aI (aI ks (mz W p)) (jQ W p)) (bZ (bZ w (mz W p) (w0 p*cn)) (jQ W p) (w0 p*(cd - cn)))
structure Wy(n:Nat)(W:Int)(v:aa)(ks:ag)(w:aa->Int):Prop where
 tb:Tb (0:Int) (λx=>1<=x) ks w
 ok:∀p∈ks,kY n W p
 vs:∀p∈ks,vals W p=v
theorem wx(W cn cd:Int)(w0:aa->Int)(F:aa->Rat):∀(ps ks:ag) (w:aa->Int),Tb (0:Int) (λx=>1<=x) ks w->(∀p∈ps,1<=w0 p)->1<=cn->cn<cd ->
  Tb (0:Int) (λx=>1<=x) (po W cn cd w0 ps ks w).1 (po W cn cd w0 ps ks w).2/\(∀k,k∈(po W cn cd w0 ps ks w).1 ↔ k∈ks\/∃p∈ps,k=mz W p\/k=jQ W p)/\(po W cn cd w0 ps ks w).1.length<=ks.length+2*ps.length /\
  kN (po W cn cd w0 ps ks w).1 (cq (po W cn cd w0 ps ks w).2) F=kN ks (cq w) F+(ps.map λp=>(w0 p:Rat)*((cn:Rat)*F (mz W p)+((cd - cn:Int):Rat)*F (jQ W p))).sum
 |[],ks,w,T,_,_,_=>by
  refine⟨T,λk=>?_,by simp[po],?_⟩
  ·simp[po]
  ·simp[po];grind
 |p::ps,ks,w,T,h0,h1,h2=>by
  have hp:=h0 p aaf;have a1:1<=w0 p*cn:=by have:=ab7 hp h1 (by decide) (by left);left
  have a2:1<=w0 p*(cd - cn):=by have:=ab7 hp (show 1<=cd - cn by left) (by decide) (by left);left
  have T1:=T.add (x:=w0 p*cn) (by left) (λa ha=>by left) (mz W p);have T2:=T1.add (x:=w0 p*(cd - cn)) (by left) (λa ha=>by left) (jQ W p);obtain⟨g1,g2,g3,g4⟩:=wx W cn cd w0 F ps _ _ T2 (λq hq=>h0 q (aad _ hq)) h1 h2;refine⟨g1,λk=>?_,?_,?_⟩
  ·rw[po,g2,bQ,bQ];simp only[List.mem_cons];constructor
   ·rintro (((h|h)|h)|⟨q,hq,h⟩)
    ·exact .inl h
    ·exact .inr ⟨p,.inl rfl,.inl h⟩
    ·exact .inr ⟨p,.inl rfl,.inr h⟩
    ·exact .inr ⟨q,.inr hq,h⟩
   ·rintro (h|⟨q,rfl|hq,h⟩)
    ·exact .inl (.inl (.inl h))
    ·exact .inl (h.elim (λz=>.inl (.inr z)) .inr)
    ·exact .inr ⟨q,hq,h⟩
  ·have l1:=cZ ks (mz W p);have l2:=cZ (aI ks (mz W p)) (jQ W p);rw[po];simp only[List.length_cons];left
  ·rw[po,g4,Cc,sV F T1.nd (λh=>by unfold cq;rw[T1.out _ h];rfl),Cc,sV F T.nd (λh=>by unfold cq;rw[T.out _ h];rfl),List.map_cons,List.sum_cons,Rat.intCast_mul,Rat.intCast_mul];grind
theorem Wy.step{n:Nat}{v:aa}{w:aa->Int}(I:Wy n W v ks w)(hW:W<=9)(hv:v≠[])(hk:ks≠[]):
  ∃a b r,v=a::b::r/\0<a/\a<W/\0<b/\b<W/\Wy n W (nv W v) (po W (fE W a b).num (fE W a b).den w ks [] λ_=>0).1 (po W (fE W a b).num (fE W a b).den w ks [] λ_=>0).2/\(po W (fE W a b).num (fE W a b).den w ks [] λ_=>0).1≠[]/\(po W (fE W a b).num (fE W a b).den w ks [] λ_=>0).1.length<=2*ks.length /\
   ∀l k,v.length<=k->kN (po W (fE W a b).num (fE W a b).den w ks [] λ_=>0).1 (cq (po W (fE W a b).num (fE W a b).den w ks [] λ_=>0).2) (λp=>Pr W k p l)=((fE W a b).den:Rat)*kN ks (cq w) (λp=>Pr W k p l):=by
 obtain⟨p0,Bv⟩:=abt ks hk;obtain⟨A0,a,B0,b,C0,T0⟩:=(I.ok p0 Bv).two (by rw[I.vs p0 Bv];exact hv);have ev:=T0.vals;rw[I.vs p0 Bv]at ev;obtain⟨q1,q2,q3,q4⟩:=T0.pq;obtain⟨c0,c1,_⟩:=Cf q1 q2 q3 q4 hW;have hn:1<=(fE W a b).num:=by have:=oU c0;left
 have hd:(fE W a b).num<((fE W a b).den:Int):=by
  have h':((fE W a b).num:Rat)<((fE W a b).den:Rat):=by
   rw[oV];have h2:(0:Rat)<((fE W a b).den:Rat):=by exact_mod_cast (fE W a b).den_pos
   have:=Rat.mul_lt_mul_of_pos_right c1 h2
   rwa [Rat.one_mul]at this
  exact_mod_cast h'
 have tw:∀p∈ks,∃A B C,Tw W p A a B b C:=λp hp=>by
  obtain⟨A,a',B,b',C,T⟩:=(I.ok p hp).two (by rw[I.vs p hp];exact hv);have e:=T.vals;rw[I.vs p hp,ev]at e;obtain⟨h1,e'⟩:=abb e;obtain⟨h2,_⟩:=abb e';rw[<- h1,<- h2]at T;exact⟨A,B,C,T⟩
 have Hw:∀{p A B C},Tw W p A a B b C->mz W p=A++lO W a b::(B++l_ W a b::C)/\jQ W p=A++l_ W a b::(B++lO W a b::C):=λT=>by
  unfold mz jQ;rw[T.AK];exact⟨rfl,rfl⟩
 have Z4:Tb (0:Int) (λx=>1<=x) [] λ_=>0:=⟨aaQ,λ_ _=>rfl,λ_ h=>nomatch h⟩
 have M:=λF=>wx W (fE W a b).num (fE W a b).den w F ks [] (λ_=>0) Z4 (λp hp=>I.tb.EJ p hp) hn hd;obtain⟨m1,m2,m3,_⟩:=M λ_=>0;refine⟨a,b,vals W C0,ev,q1,q2,q3,q4,⟨m1,λk hk=>?_,λk hk=>?_⟩,?_,by simpa using m3,λl k hl=>?_⟩
 ·rcases(m2 k).mp hk with h|⟨p,hp,h⟩
  ·exact nomatch h
  ·obtain⟨A,B,C,T⟩:=tw p hp;obtain⟨e1,e2⟩:=Hw T;rw[e1,e2]at h;rcases h with rfl|rfl
   ·exact T.Hw (I.ok p hp)
   ·exact T.Jo (I.ok p hp)
 ·rcases(m2 k).mp hk with h|⟨p,hp,h⟩
  ·exact nomatch h
  ·obtain⟨A,B,C,T⟩:=tw p hp;obtain⟨e1,e2⟩:=Hw T;obtain⟨v1,v2⟩:=T.Hz;rw[I.vs p hp]at v1 v2;rw[e1,e2]at h;rcases h with rfl|rfl
   ·exact v1
   ·exact v2
 ·intro z;have:=(m2 (mz W p0)).mpr (.inr ⟨p0,Bv,.inl rfl⟩);rw[z]at this;exact nomatch this
 ·obtain⟨_,_,_,m4⟩:=M λp=>Pr W k p l;rw[m4];unfold kN;rw[List.map_nil,List.sum_nil,Rat.zero_add];have:∀qs:ag,(∀p∈qs,p∈ks)->(qs.map λp=>(w p:Rat)*(((fE W a b).num:Rat)*Pr W k (mz W p) l+(((fE W a b).den - (fE W a b).num:Int):Rat)*Pr W k (jQ W p) l)).sum=((fE W a b).den:Rat)*(qs.map λp=>cq w p*Pr W k p l).sum:=λqs=>by
   induction qs with
   |nil=>intro _;simp
   |cons p qs ih =>
    intro h;rw[List.map_cons,List.map_cons,List.sum_cons,List.sum_cons,ih λq hq=>h q (List.mem_cons_of_mem _ hq)];have hp:=h p aaf;obtain⟨A,B,C,T⟩:=tw p hp;obtain⟨e1,e2⟩:=Hw T;rw[e1,e2,F2 l (k:=k) (I.ok p hp) T (by rw[I.vs p hp];exact hl)];have en:((fE W a b).num:Rat)=fE W a b*((fE W a b).den:Rat):=oV _;rw[Rat.intCast_sub,Rat.intCast_natCast,en];unfold cq;grind
  exact this ks λ_ h=>h
theorem Tw.d1{a b:Int}{p B:aa}(T:Tw W p A a B b C):nM (af p) (A.length:Int)=ok (.int a):=by rw[T.eq];exact s_ A a _
theorem Tw.d2{a b:Int}{p B:aa}(T:Tw W p A a B b C):nM (af p) ((A.length+1+B.length:Nat):Int)=ok (.int b):=by
 rw[T.eq];have e:A++a::(B++b::C)=(A++a::B)++b::C:=by simp
 have:=s_ (A++a::B) b C;rw[e,show A.length+1+B.length=(A++a::B).length by simp;left];exact this
noncomputable def mG(f:Fl)(ks:ag)(w:aa->Int):D:=.bV f ks (ks.map λk=>.int (w k))
theorem ql(g:Fl->Fl)(f:Fl)(ks:ag)(w:aa->Int):aU g (mG f ks w)=mG (g f) ks w:=by
 show D.bV (g f) ks (aA g (ks.map λk=>.int (w k)))=_;rw[b_ g (λk=>sW g _)];rfl
theorem EZ(g:Fl->Bool)(f:Fl)(ks:ag)(w:aa->Int):aH g (mG f ks w)=g f:=by
 show(g f||aL g (ks.map λk=>.int (w k)))=_;rw[bH g (λk=>jY g _),Bool.or_false]
theorem Gv(a:Int):aH anyF (D.int a)=false:=rfl
theorem zL(P:CJ Φ)(hl:ks.length<1000)(w:aa->Int)(c:aa)(x:Int):Φ 1033 [mG .ow ks w,.int (w c+x),.tup (af c)]=ok (mG .ow (aI ks c) (bZ w c x)):=by
 have:=Mq P (e:=D.int) Gv hl w c (w c+x);unfold mG;rw[this];congr 2;refine aak λk _=>?_;unfold bZ;by_cases h:k=c
 ·rw[if_pos h,if_pos h,h]
 ·rw[if_neg h,if_neg h]
noncomputable def B4:CE:=.comp 1 (.nm 0) [1,2] .seq [(.bR 1035 [(.v 1)])] [(.cmp .gt (.bR 1032 [(.v 1),(.v 0)]) (.int 0))] (.tup [(.call 2 [(.bR 1032 [(.v 1),(.v 0)]),(.v 2)]),(.v 0)])
def xT:ah:=[.ret (.tup [(.v 0),B4])]
def vz(cs:ag)(ws:aa)(b:Int):aD:=((bc cs).filter λc=>decide (0<bY cs ws c)).map λc=>(Rat.divInt (bY cs ws c) b,c)
def Hn(m:aC):Prop:=∀f (n:Int) (cs:ag) (ws:aa) (b:Int),cs.length=ws.length->cs.length<64->b≠0->b.natAbs<2 ^ 9000->m [.int n,.bV f cs (af ws),.int b]=ok (.tup [.int n,.lst .ow (bU (vz cs ws b))])
theorem MV(Φ:a_)(P:CJ Φ)(h2:eE (Φ 2)):Hn (mk Φ 3 3 xT):=by
 intro f n cs ws b hl rN hb m7;have hp:(bc cs).Perm cs:=aay _ _;have e1:bC Φ B4 [some (.int n),some (.bV f cs (af ws)),some (.int b)]=ok (.lst .ow (bU (vz cs ws b))):=by
  unfold B4;rw[dM (xs:=[.lst .ow ((bc cs).map cK)]) (items:=(bc cs).map cK) (ds:=bU (vz cs ws b)) (by simp[Ge P _ _ rN]) (by rw[eY,cT]) ?_ (by
   have:=List.length_filter_le (λc=>decide (0<bY cs ws c)) (bc cs);have nY:=hp.length_eq;rw[DS];unfold vz;rw[List.length_map];exact cP (by left))]
  ·rw[ig]
  ·unfold bU vz;rw[List.map_map];refine lB λc hc=>?_;have ph:c∈cs:=hp.mem_iff.mp hc;have d1:=λf=>PC P f hl ph;have f1:=h2.1 (bY cs ws c) b hb m7;have m1:aU bj (cK c)=.tup (af c):=by show D.tup (aA bj (c.map D.int))=_;rw[mR];rfl
   refine⟨[some (cK c),some (.bV (aV f) cs (af ws)),some (.int b)],by simp[bP],by simp[m1,d1],λ_=>?_⟩;simp[m1,d1,f1];rfl
 simp[mk_eq,xT,e1]
noncomputable def lv(u:Nat):Nat:=2 ^ (u - 1)
structure Pg(n:Nat)(W:Int)(p0 v:aa)(ks:ag)(w:aa->Int)(bt:Int):Prop where
 wy:Wy n W v ks w
 ne:ks≠[]
 kr:ks.length*lv v.length<=32
 b1:1<=bt
 b2:bt*32 ^ v.length<=2 ^ 60
 vl:v.length<=12
 ma:∀l,kN ks (cq w) (λp=>Pr W 12 p l)=(bt:Rat)*Pr W 12 p0 l
theorem Pg.next{n:Nat}{p0 v:aa}{w:aa->Int}{bt:Int}(I:Pg n W p0 v ks w bt)(hW:W<=9)(hv:v≠[]):∃a b r,v=a::b::r/\Sm 5 (fE W a b)/\(nv W v).length<v.length/\Pg n W p0 (nv W v) (po W (fE W a b).num (fE W a b).den w ks [] λ_=>0).1 (po W (fE W a b).num (fE W a b).den w ks [] λ_=>0).2 (bt*(fE W a b).den):=by
 obtain⟨a,b,r,ev,q1,q2,q3,q4,g1,g2,g3,g4⟩:=I.wy.step hW hv I.ne;obtain⟨_,_,sm⟩:=Cf q1 q2 q3 q4 hW;have hd1:=(fE W a b).den_pos;have hd2:=sm.2;have Ui:=uU W a b r;have CN:v.length=r.length+2:=by rw[ev];rfl
 refine⟨a,b,r,ev,sm,by rw[ev]at *;simp only[List.length_cons]at *;left,g1,g2,?_,?_,?_,?_,λl=>?_⟩
 ·have f:=I.kr;have e1:lv v.length=2*2 ^ r.length:=by unfold lv;rw[CN,show r.length+2 - 1=r.length+1 by left,Nat.pow_succ,Nat.mul_comm]
  have e2:lv (nv W v).length<=2 ^ r.length:=by
   unfold lv;refine aar (by decide) ?_;rw[ev];left
  rw[e1]at f;refine aax (ab6 g3 e2) ?_;rw[Nat.mul_comm 2,Nat.mul_assoc];exact f
 ·have:=ab7 I.b1 (show(1:Int)<=((fE W a b).den:Int) by left) (by decide) (by have:=I.b1;left);left
 ·have b1:=I.b1;have b2:=I.b2;have e1:(32:Int) ^ (nv W v).length<=32 ^ (r.length+1):=by
   have:32 ^ (nv W v).length<=32 ^ (r.length+1):=aar (by decide) (by rw[ev];exact Ui)
   exact_mod_cast this
  rw[CN,Int.pow_succ]at b2;have h1:bt*((fE W a b).den:Int)<=bt*32:=Int.mul_le_mul_of_nonneg_left (by left) (by left);have h2:bt*((fE W a b).den:Int)*32 ^ (nv W v).length<=(bt*32)*32 ^ (r.length+1):=ab7 h1 e1 (Int.le_of_lt (Int.pow_pos (by decide))) (by left);refine Int.le_trans h2 ?_;rw[Int.mul_assoc,Int.mul_comm 32];exact b2
 ·have:=I.vl;rw[CN]at this;rw[ev];left
 ·rw[g4 l 12 I.vl,I.ma l,Rat.intCast_mul,Rat.intCast_natCast];grind
def VP(W:Int)(p0:aa)(rs:aD):Prop:=∃ls:ag,ls.Nodup/\(∀l,l∈ls ↔ 0<Pr W 12 p0 l)/\rs=(bc ls).map λl=>(Pr W 12 p0 l,l)
theorem VP.one{p0:aa}{rs oq:aD}(h:VP W p0 rs)(h':VP W p0 oq):rs=oq:=by
 obtain⟨ls,n1,m1,rfl⟩:=h;obtain⟨Wb,n2,m2,rfl⟩:=h';have hp:ls.Perm Wb:=(List.perm_ext_iff_of_nodup n1 n2).mpr λl=>(m1 l).trans (m2 l).symm;have e:bc ls=bc Wb:=sg n2 (gx n1) ((aay _ _).trans hp);rw[e]
theorem EK{x y:aa}(h:x=y):ind x y=1:=aaN h
theorem EL{x y:aa}(h:¬ x=y):ind x y=0:=abT h
theorem zO{b:Nat}(hb:0<b){q:Rat}(hd:q.den∣b)(h0:0<=q)(h1:q<=1):0<=bz b q/\bz b q<=(b:Int):=by
 obtain⟨k,rfl⟩:=hd;have e:(((q.den*k:Nat):Int)).fdiv q.den=(k:Int):=by
  rw[Int.natCast_mul,Int.mul_comm];exact Int.mul_fdiv_cancel _ (iV q)
 unfold bz;rw[e];have n0:=AL h0;have n1:=uV h1;refine⟨Int.mul_nonneg n0 (by left),?_⟩;rw[Int.natCast_mul];exact abf n1 (by left)
theorem Cz.bot{m:Nat}(I:Cz m qs B)(hm:m<=12):0<bW qs/\bW qs<=9/\∀q∈qs,q.den∣bW qs:=by
 obtain⟨a,_,c⟩:=(I.HW hm).lcm;have:bW qs∣B:=jR qs 1 (Nat.one_dvd _) I.qd;exact⟨a,aax (abc (by have:=I.b1;left) this) I.b2,c⟩
def V3(qs:av):aa:=qs.map (bz (bW qs))
theorem Cz.p0{m:Nat}(I:Cz m qs B)(hm:m<=12):kY qs.length (bW qs) (V3 qs):=by
 obtain⟨a,b,c⟩:=I.bot hm;obtain⟨s,hs⟩:=I.su;refine⟨by simp[V3],λx hx=>?_,λx hx=>?_,s,zN c hs⟩
 ·obtain⟨q,hq,rfl⟩:=List.mem_map.mp hx;exact(zO a (c q hq) (I.q0 q hq) (I.q1 q hq)).1
 ·obtain⟨q,hq,rfl⟩:=List.mem_map.mp hx;exact(zO a (c q hq) (I.q0 q hq) (I.q1 q hq)).2
noncomputable def qW(W x:Int):Rat:=Rat.divInt x W
noncomputable def toQ(W:Int)(p:aa):av:=p.map (qW W)
@[simp]theorem Qo(W:Int)(p:aa):(toQ W p).length=p.length:=aaW ..
section
variable {W:Int}(h0:0<W)
include h0
end
noncomputable abbrev zh:=Rat×aa
noncomputable def tQ(f:Fl)(ks:ag)(S:aa->Rat):D:=.bV f ks (ks.map λk=>qD (S k))
theorem qk(g:Fl->Fl)(f:Fl)(ks:ag)(S:aa->Rat):aU g (tQ f ks S)=tQ (g f) ks S:=by
 show D.bV (g f) ks (aA g (ks.map λk=>qD (S k)))=_;rw[b_ g (λk=>uZ g _)];rfl
theorem EY(g:Fl->Bool)(f:Fl)(ks:ag)(S:aa->Rat):aH g (tQ f ks S)=g f:=by
 show(g f||aL g (ks.map λk=>qD (S k)))=_;rw[bH g (λk=>fA g _),Bool.or_false]
def uv(W:Int)(z:zh):Nat:=(vals W z.2).length
noncomputable def Gq(W:Int)(l:aa)(st:List zh):Rat:=(st.map λz=>z.1*Pr W 12 z.2 l).sum
noncomputable def Wa(W:Int)(st:List zh):Nat:=(st.map λz=>lv (uv W z)).sum
structure Lw(n:Nat)(W:Int)(p0:aa)(st:List zh)(ks:ag)(S:aa->Rat)(j:Nat):Prop where
 ok:∀z∈st,kY n W z.2
 pos:∀z∈st,0<z.1
 sm:∀z∈st,Sm (1+5*(12 - uv W z)) z.1
 tb:Tb (0:Rat) (λx=>0<x) ks S
 ss:∀l,Sm (1+80*j) (S l)
 kj:ks.length<=j
 kr:j+Wa W st<=32
 ma:∀l,S l+Gq W l st=Pr W 12 p0 l
theorem kY.uv{n:Nat}{p:aa}(I:kY n W p):(vals W p).length<=n:=by rw[<- I.len];exact abN _ _
theorem Lw.put{n:Nat}{p0:aa}{z:zh}{st:List zh}{S:aa->Rat}{j:Nat}(I:Lw n W p0 (z::st) ks S j)(hv:vals W z.2=[]):Lw n W p0 st (aI ks (qr W 0 z.2)) (bZ S (qr W 0 z.2) z.1) (j+1):=by
 have hz:z∈z::st:=aaf;have hs:=I.sm z hz;have hp:=I.pos z hz;refine⟨λy hy=>I.ok y (aad _ hy),λy hy=>I.pos y (aad _ hy),λy hy=>I.sm y (aad _ hy),I.tb.add (by grind) (λa ha=>by grind) _,λl=>?_,?_,?_,λl=>?_⟩
 ·unfold bZ;split
  ·exact((I.ss l).add hs).mono (by left)
  ·exact(I.ss l).mono (by left)
 ·have:=cZ ks (qr W 0 z.2);have:=I.kj;left
 ·have f:=I.kr;unfold Wa at *;rw[List.map_cons,List.sum_cons]at f;have:lv (uv W z)=1:=by unfold uv;rw[hv];rfl
  left
 ·have m:=I.ma l;unfold Gq at *;rw[List.map_cons,List.sum_cons,nU hv]at m;unfold bZ;by_cases e:l=qr W 0 z.2
  ·rw[if_pos e];rw[EK e.symm]at m;grind
  ·rw[if_neg e];rw[EL λh=>e h.symm]at m;grind
end DI
end
section
namespace DI
open PySem PySem.Spec PyProof.Rows L2
section
variable {prog:aF}{w:World}{A:aE}{E:aw}{s:Shared}
def kh(prog:aF)(w:World)(h:Heap)(k:aa)(a:Addr):Prop:=∃(o:Obj) (items:aP) (n:Nat) (b:Addr) (i:Int) (t:Tok) (lot:aa),h.get? a=some o/\o.cls=.type "tuple" /\ o.data=.seq items n/\items.toList=[.ref b,.int i t]/\k=i::lot/\IsTupleKey (intKind prog w) h lot b
theorem kh.inj{h:Heap}{a:Addr}{x y:aa}(hx:kh prog w h x a)(hy:kh prog w h y a):x=y:=by
 obtain⟨o,aK,n,b,i,t,lot,h1,_,h3,h4,rfl,h5⟩:=hx;obtain⟨o',its',n',b',i',t',A5,g1,_,g3,g4,rfl,g5⟩:=hy;obtain rfl:o=o':=aap (h1.symm.trans g1);rw[h3]at g3;cases g3;rw[h4]at g4;cases g4;rw[h5.inj g5]
theorem kh.keeps{h h':Heap}{k:aa}{a d:Addr}{o:Obj}{es:Array DictEntry}{ep:Nat}(x:kh prog w h k a)(ho:h.get? d=some o)(hd:o.data=.dict es ep)(hs:Heap.SameBut d h h'):kh prog w h' k a:=by
 obtain⟨o',aK,n,b,i,t,lot,h1,h2,h3,h4,rfl,h5⟩:=x;have Bx:a≠d:=by
  rintro rfl;obtain rfl:o'=o:=aap (h1.symm.trans ho);rw[hd]at h3;exact nomatch h3
 exact⟨o',aK,n,b,i,t,lot,(hs.2 a Bx).trans h1,h2,h3,h4,rfl,h5.keeps ho hd hs⟩
theorem DV{n:Nat}{ks:aa}{a:Addr}{Q:Bool->Shared->Prop}(hk:IsTupleKey (intKind prog w) s.heap ks a)(h:Q true s):wpAny (model prog w) A (eqIsQuiet (n+1) (.ref a)) Q E s:=by
 have hT:=hk.typeIs;obtain⟨o,items,n,ho,_,hd,hi⟩:=hk;unfold eqIsQuiet;refine aaa (abe hT F.slot_tuple_eq.lookup ?_);show wpAny _ _ (isInstance (.ref a) (.type "tuple") >>= _) _ _ s;refine aaa (aa9 hT abO ?_);simp only[Bool.not_true,Bool.false_eq_true,if_false];refine aaa (aaH ho hd ?_);refine aaa ?_;show wpAny _ _ (forIn items _ _) _ _ s;rw[<- Array.forIn_toList];refine abJ _ (λrest r s'=>r.1=none/\s'=s/\∀v∈rest,carriedByValue v=true) _ ?_ ?_ _ _ ⟨rfl,rfl,hi.byValue⟩
 ·rintro v rest r s' ⟨hr,rfl,vp⟩;rw[eqIsQuiet_byValue _ (vp v List.mem_cons_self)];refine aaa (aab ?_);simp only[Bool.not_true,Bool.false_eq_true,if_false];exact aab ⟨rfl,rfl,λu qC=>vp u (aad _ qC)⟩
 ·rintro ⟨r1,r2⟩ s' ⟨hr,rfl,_⟩;simp only at hr;subst hr;exact aab h
theorem Al{k:aa}{a:Addr}{Q:Bool->Shared->Prop}(hk:kh prog w s.heap k a)(h:Q true s):wpAny (model prog w) A (eqIsQuiet 8 (.ref a)) Q E s:=by
 obtain⟨o,items,n,b,i,t,lot,ho,hc,hd,hi,rfl,hb⟩:=hk;have hT:s.TypeIs (.ref a) "tuple":=⟨o,ho,hc⟩
 unfold eqIsQuiet;refine aaa (abe hT F.slot_tuple_eq.lookup ?_);show wpAny _ _ (isInstance (.ref a) (.type "tuple") >>= _) _ _ s;refine aaa (aa9 hT abO ?_);simp only[Bool.not_true,Bool.false_eq_true,if_false];refine aaa (aaH ho hd ?_);refine aaa ?_;show wpAny _ _ (forIn items _ _) _ _ s;rw[<- Array.forIn_toList];refine abJ _ (λrest r s'=>r.1=none/\s'=s/\∀v∈rest,v=.ref b\/v=.int i t) _ ?_ ?_ _ _ ⟨rfl,rfl,λv hv=>by rw[hi]at hv;simpa using hv⟩
 ·rintro v rest r s' ⟨hr,rfl,vp⟩;refine aaa (show wpAny (model prog w) A (eqIsQuiet 7 v) _ E s' from ?_);have fin:wpAny (model prog w) A (eqIsQuiet 7 v) (λq s1=>q=true/\s1=s') E s':=by
   rcases vp v aaf with rfl|rfl
   ·exact DV (n:=6) hb ⟨rfl,rfl⟩
   ·rw[eqIsQuiet_byValue _ rfl];exact aab ⟨rfl,rfl⟩
  refine aaw fin (λq s1 bL=>?_) λ_ _ e=>e;obtain⟨e1,e2⟩:=bL;subst e1 e2;simp only[Bool.not_true,Bool.false_eq_true,if_false];exact aab ⟨rfl,rfl,λu qC=>vp u (aad _ qC)⟩
 ·rintro ⟨r1,r2⟩ s' ⟨hr,rfl,_⟩;simp only at hr;subst hr;exact aab h
theorem EW{k:aa}{a:Addr}{Q:Int->Shared->Prop}(hu:A.units+1<cLine)(hk:kh prog w s.heap k a)(h:Q (qa k) { s with toks:=s.toks+(k.length+2) }):wpAny (model prog w) A (pyHash (.ref a)) Q E s:=by
 obtain⟨o,items,n,b,i,t,lot,ho,hc,hd,hi,rfl,hb⟩:=hk;have hT:s.TypeIs (.ref a) "tuple":=⟨o,ho,hc⟩
 unfold pyHash
 first|unfold pyHashByItsType|skip
 first|refine aaa (wpAny_cRoomFor_or (.inr (by left)) ?_)|skip
 refine aaa (abe hT F.slot_tuple_hash.lookup ?_);show wpAny _ _ (if (some (Value.builtin "tuple.__hash__")==some Value.none)=true then _ else _) Q E s;rw[if_neg (by rw[beq_builtin_none];exact Bool.false_ne_true)];refine aaa (abe hT F.slot_tuple_hash.lookup ?_);show wpAny _ _ (callSpecialIfBoundUnlessNone? (.ref a) "__hash__" _ >>= _) Q E s;refine aaa (wpAny_callSpecialIfBoundUnlessNone?_slot hT F.slot_tuple_hash (aaD F.slot_tuple_hash hT F.entry_tuple_hash ?_ (F.args_tuple_hash_1 _)));show wpAny _ _ (Builtin.Tuple.tupleItemsOf (.ref a) >>= _) _ _ s;refine aaa (aca ho hd ?_);refine aaa ?_;rw[<- Array.forIn_toList,hi];have h1:reduceHash (Builtin.Tuple.tupleHashOf (lot.map hashInt))=(tupleKind (intKind prog w)).hash lot:=rfl;refine abJ _
  (λrest (z:Array Int) s'=>(rest=[.ref b,.int i t]/\z.toList=[]/\s'=s)\/(rest=[.int i t]/\z.toList=[(tupleKind (intKind prog w)).hash lot]/\s'={ s with toks:=s.toks+(lot.length+1) })\/(rest=[]/\z.toList=[(tupleKind (intKind prog w)).hash lot,hashInt i]/\s'={ s with toks:=s.toks+(lot.length+1)+1 }))
  _ ?_ ?_ _ _ (.inl ⟨rfl,rfl,rfl⟩)
 ·rintro x rest z s' (⟨hr,hz,rfl⟩|⟨hr,hz,rfl⟩|⟨hr,_⟩)
  ·cases hr;refine aaa ((tupleKind (intKind prog w)).pyHash (by first|exact hu | (show _<_;left)) hb ?_)
   first
    |exact aab (.inr (.inl ⟨rfl,by simp[hz],rfl⟩))
    |exact aaa (aab (aab (.inr (.inl ⟨rfl,by simp[hz],rfl⟩))))
  ·cases hr;refine aaa (wpAny_pyHash_int ?_)
   first
    |exact aab (.inr (.inr ⟨rfl,by simp[hz],rfl⟩))
    |exact aaa (aab (aab (.inr (.inr ⟨rfl,by simp[hz],rfl⟩))))
  ·cases hr
 ·rintro z s' (⟨hr,_⟩|⟨hr,_⟩|⟨_,hz,rfl⟩)
  ·cases hr
  ·cases hr
  show wpAny _ _ (retInt (Builtin.Tuple.tupleHashOf z.toList)) _ _ _;rw[hz];refine wpAny_ret_mkInt ?_;have he:qa (i::lot)=reduceHash (Builtin.Tuple.tupleHashOf [(tupleKind (intKind prog w)).hash lot,hashInt i]):=rfl;rw[he]at h;generalize Builtin.Tuple.tupleHashOf [(tupleKind (intKind prog w)).hash lot,hashInt i]=V at h ⊢;show wpAny _ _ (if (decide (-(2:Int) ^ 63<=V)&&decide (V<2 ^ 63))=true then _ else _) Q E _;unfold reduceHash at h;have e:s.toks+(lot.length+1)+1+1=s.toks+((i::lot).length+2):=by rw[List.length_cons];left
  by_cases hr:(decide (-(2:Int) ^ 63<=V)&&decide (V<2 ^ 63))=true
  ·rw[if_pos hr];rw[if_pos hr]at h;exact aab (by simpa [e]using h)
  ·rw[if_neg hr];rw[if_neg hr]at h;exact aaa (aa5 (aab (by simpa [e]using h)))
theorem vv{x y:aa}{a b:Addr}{P:Fin->Shared->Prop}(hu:A.units<cLine)(hx:kh prog w s.heap x a)(hy:kh prog w s.heap y b)(h:P (.done (.ret (.bool (decide (x=y))))) s):
  wpAny (model prog w) A (Builtin.«tuple.__eq__» ⟨[.ref a,.ref b],[]⟩) P E s:=by
 obtain⟨oa,xs,na,a1,i,t,lot,YO,hca,Y4,OL,rfl,ha⟩:=hx;obtain⟨ob,ys,nb,b1,j,u,A5,WH,Y8,JV,WL,rfl,hb⟩:=hy;have Zh:s.TypeIs (.ref b) "tuple":=⟨ob,WH,Y8⟩
 show wpAny _ _ (isInstance (.ref b) (.type "tuple") >>= _) _ _ s;refine aaa (aa9 Zh abO ?_);simp only[Bool.not_true,Bool.false_eq_true,if_false];refine aaa (aca YO Y4 ?_);refine aaa (aca WH JV ?_);refine aaa ?_;have hsz:(xs.size==ys.size)=true:=by
  rw[<- Array.length_toList,<- Array.length_toList,OL,WL];rfl
 rw[OL,WL];refine abJ _
  (λrest r s'=>r.1=none/\s'=s/\((rest=[(.ref a1,.ref b1),(.int i t,.int j u)])\/(rest=[(.int i t,.int j u)]/\lot=A5)\/(rest=[]/\lot=A5/\i=j)))
  _ ?_ ?_ _ _ ⟨rfl,rfl,.inl rfl⟩
 ·rintro ⟨p,q⟩ rest r s' ⟨hr,rfl,(z|⟨z,rfl⟩|⟨z,_⟩)⟩
  ·cases z;refine aaa ((tupleKind (intKind prog w)).eqBool hu ha hb ?_);by_cases hk:lot=A5
   ·rw[decide_eq_true hk];simp only[Bool.not_true,Bool.false_eq_true,if_false];exact aab ⟨by first|rfl|trivial,by first|rfl|trivial,by simp[hk]⟩
   ·rw[decide_eq_false hk];simp only[Bool.not_false,if_true];have hf:decide (i::lot=j::A5)=false:=by simp[hk]
    rw[hf]at h;exact aaa (aab (aab (aab h)))
  ·cases z;refine aaa (wpAny_eqBool_int ?_);by_cases hk:i=j
   ·rw[show(i==j)=true from beq_iff_eq.mpr hk];simp only[Bool.not_true,Bool.false_eq_true,if_false];exact aab ⟨by first|rfl|trivial,by first|rfl|trivial,by simp[hk]⟩
   ·rw[show(i==j)=false from beq_eq_false_iff_ne.mpr hk];simp only[Bool.not_false,if_true];have hf:decide (i::lot=j::lot)=false:=by simp[hk]
    rw[hf]at h;exact aaa (aab (aab (aab h)))
  ·cases z
 ·rintro ⟨r1,r2⟩ s' ⟨hr,rfl,(z|⟨z,_⟩|⟨_,rfl,rfl⟩)⟩
  ·cases z
  ·cases z
  simp only at hr;subst hr;refine aab ?_;show P (.done (.ret (.bool (xs.size==ys.size)))) s';rw[hsz];rw[decide_eq_true rfl]at h;exact h
theorem Pt{x y:aa}{a b:Addr}{Q:Bool->Shared->Prop}(hu:A.units+1<cLine)(hx:kh prog w s.heap x a)(hy:kh prog w s.heap y b)(h:Q (decide (x=y)) s):
  wpAny (model prog w) A (eqBool (.ref a) (.ref b)) Q E s:=by
 have ta:s.TypeIs (.ref a) "tuple":=by obtain⟨o,_,_,_,_,_,_,h1,h2,_⟩:=hx;exact⟨o,h1,h2⟩
 have tb:s.TypeIs (.ref b) "tuple":=by obtain⟨o,_,_,_,_,_,_,h1,h2,_⟩:=hy;exact⟨o,h1,h2⟩
 unfold eqBool
 try with_reducible refine aaG ?_
 show wpAny _ _ (if (Value.ref a==Value.ref b)=true then _ else _) Q E s;by_cases qK:(Value.ref a==Value.ref b)=true
 ·rw[if_pos qK];have e:a=b:=by have:=eq_of_beq qK;injection this
  subst e;obtain rfl:=hx.inj hy;exact aaa (aa5 (aab (by simpa using h)))
 ·rw[if_neg qK];exact aaa (wpAny_richCompare_same_room (op:=.Eq) ta tb F.slot_tuple_eq
   (aaD F.slot_tuple_eq ta F.entry_tuple_eq (vv (by first|exact hu | (show _<_;left)) hx hy ⟨_,rfl,(λe=>nomatch e),aaR h⟩) (F.args_tuple_eq_2 _ _)) (by left))
end
def eF(prog:aF)(w:World):HeapKind prog w (aa) where
 is:=kh prog w
 hash:=qa
 draws:=λks=>ks.length+2
 room:=λA=>A.units+1<cLine
 inj:=λhx hy=>hx.inj hy
 keeps:=λx ho hd hs=>x.keeps ho hd hs
 pyHash:=λhu hk h=>EW hu hk h
 eqBool:=λhu hx hy h=>Pt hu hx hy h
 quiet:=λhk h=>Al hk h
variable {Q:Value->Shared->Prop}
section
variable {prog:aF}{w:World}{K:Type}[DecidableEq K]{knd:HeapKind prog w K}{A:aE}{E:aw}{s:Shared}
theorem sr{d a:Addr}{xs:List (K×Addr×Value)}{k:K}{v:Value}(hu:knd.room A)(vm:knd.is s.heap k a)(hm:s.heap.DictOfH knd d xs)
  (h1:∀p,atKey xs k=some p->Q p.2 { s with toks:=s.toks+knd.draws k })
  (h2:atKey xs k=none->∀h',h'.DictOfH knd d (storedH xs k a v)->Heap.SameBut d s.heap h'->Q v { s with heap:=h',toks:=s.toks+knd.draws k })
  (hsz:xs.length<=sizeLine):wpAny (model prog w) A (dictSetDefault d (.ref a) v) Q E s:=by
 obtain⟨o,es,ep,ho,hc,hd,he,WJ,hn⟩:=hm;unfold dictSetDefault
 try with_reducible refine aaG ?_
 refine aaa (knd.pyHash hu vm ?_);refine aaa (wpAny_dictFind_heap (s:={ s with toks:=s.toks+knd.draws k }) hu vm ho hd he WJ hn ?_ ?_)
 ·intro CP;have Uh:k∉xs.map (·.1):=not_mem_keys_of_get CP;have h2:=h2 (atKey_none_of_get CP);refine aaa (aa5 (aaa (wpAny_updateDictKeys (hz:=by have e:=size_of_entries he;left) (s:={ s with toks:=s.toks+knd.draws k }) ho hd (aab (h2 _ ⟨_,_,ep+1,aaO _ ho (Obj.isFreed_of_dict (Obj.data_mapDictKeys hd _)),
   hc.mapDictKeys _,Obj.data_mapDictKeys hd _,?_,?_,?_⟩ (aaM ..))))))
  ·rw[storedH_new (atKey_none_of_get CP)];simp[he,entryOfKey]
  ·rw[storedH_new (atKey_none_of_get CP)];intro x hx;rcases List.mem_append.mp hx with hx|hx
   ·exact knd.keeps (WJ x hx) ho hd (aaM ..)
   ·simp only[List.mem_singleton]at hx;subst hx;exact knd.keeps vm ho hd (aaM ..)
  ·rw[storedH_new (atKey_none_of_get CP)];rw[List.map_append,List.nodup_append];refine⟨hn,by simp,?_⟩;intro x hx y hy;simp only[List.map_cons,List.map_nil,List.mem_singleton]at hy;subst hy;exact λe=>Uh (e▸hx)
 ·intro j p hj;refine aaa (abB (s:={ s with toks:=s.toks+knd.draws k }) ho hd ?_);rw[entry_at he j,hj];exact aaa (aa5 (aab (h1 p (atKey_of_get hn hj))))
theorem pY(d a:Addr)(hd:(d==sysModules)=false)(v:Value):
  MeetsIn prog w (Builtin.«dict.setdefault» ⟨[.ref d,.ref a,v],[]⟩) (λA R s=>knd.room A.in1/\∃k xs,knd.is s.heap k a/\s.heap.DictOfH knd d xs/\xs.length<=sizeLine /\
   (∀p,atKey xs k=some p->R (.ok (.ret p.2)) { s with toks:=s.toks+knd.draws k }) /\
   (atKey xs k=none->∀h',h'.DictOfH knd d (storedH xs k a v)->Heap.SameBut d s.heap h'->R (.ok (.ret v)) { s with heap:=h',toks:=s.toks+knd.draws k })) :=
 .of_wp λA R s bL=>by
  obtain⟨hu,k,xs,vm,hm,hz,h1,h2⟩:=bL;unfold Builtin.«dict.setdefault»;refine aaa ?_;unfold Builtin.Dict.keyAndDefault;refine aaa (wpAny_notOrdered_dict hm.typeIs ?_);show wpAny _ _ (pure (d,Value.ref a,some v)) _ _ s;refine aab ?_;show wpAny _ _ (if (d==sysModules)=true then _ else(dictSetDefault d (.ref a) v >>= _)) _ _ s;rw[if_neg (by rw[hd];exact Bool.false_ne_true)];exact aaa (sr hu vm hm (λp hp=>aab ⟨p.2,rfl,h1 p hp⟩) (λhn h' YU yE=>aab ⟨v,rfl,h2 hn h' YU yE⟩) hz)
end
variable {p1 p2 pos:Pos}
section
variable {X:Cx}{pins:aj}{σ:St}{H:Hp}{s:Shared}{p b:Addr}{cs:ag}{as:aO}{xs:ae}{ep:Nat}{c:aa}{A:aE}{E:aw}
theorem jU(I:Inv X pins σ H s)(h:jr (aR X.K H) b c):kh X.prog X.w s.heap c b:=by
 obtain⟨i,lot,b',rfl,h1,h2⟩:=h;obtain⟨aK,rv,⟨o,g1,g2,n,g3⟩,_⟩:=I.tuple h1;have hk:=mW I h2;obtain⟨w1,w2,rfl,r1,r2⟩:=vals2 rv;cases r1;obtain⟨t,rfl⟩:=r2;exact⟨o,_,n,b',i,t,lot,g1,g2,g3,by simp,rfl,hk⟩
theorem jN(I:Inv X pins σ H s)(h:H p=some (.ext (PJ p cs as xs ep)))(k:eK (aR X.K H) as cs):
  ∃(zs:List (aa×Addr×Value)) (o:Obj) (es:Array DictEntry),zs.map (·.1)=cs/\zs.map (·.2.1)=as/\Vals xs (zs.map (·.2.2))/\s.heap.get? p=some o/\o.ExactDict/\o.data=.dict es ep /\
   s.heap.DictOfH (eF X.prog X.w) p zs/\cs.length<=sizeLine/\(p==sysModules)=false:=by
 obtain⟨⟨zs,o,es,e1,e2,e3,ho,hx,hd,he,hn,hl,hs⟩,_⟩:=(show cD X.prog X.w H s.heap p (.ext (PJ p cs as xs ep)) from I.cQ p _ h)
 refine⟨zs,o,es,e1,e2,e3,ho,hx,hd,⟨o,es,ep,ho,hx,hd,he,λz hz=>?_,by rw[e1];exact hn⟩,hl,hs⟩;obtain⟨j,hj⟩:=List.mem_iff_getElem?.mp hz;exact jU I (k.key j z.2.1 z.1 (by rw[<- e2,List.getElem?_map,hj];rfl) (by rw[<- e1,List.getElem?_map,hj];rfl))
theorem oZ(I:Inv X pins σ H s)(h:H p=some (.ext (PJ p cs as xs ep))):s.TypeIs (.ref p) "dict" /\ ∀b,Value.ref p=.ref b->∃ob,s.heap.get? b=some ob/\ob.dict=none:=by
 obtain⟨⟨zs,o,es,e1,e2,e3,ho,hx,_⟩,_⟩:=(show cD X.prog X.w H s.heap p (.ext (PJ p cs as xs ep)) from I.cQ p _ h)
 exact⟨⟨o,ho,hx.1⟩,λb q=>by cases q;exact⟨o,ho,hx.2.1⟩⟩
theorem sP{r:Value}{v:V}{h':Heap}{t:Nat}{zs:List (aa×Addr×Value)}(I:Inv X pins σ H s)(h:H p=some (.ext (PJ p cs as xs ep)))(e1:zs.map (·.1)=cs)(e2:zs.map (·.2.1)=as)(e3:Vals xs (zs.map (·.2.2)))(hl:cs.length<sizeLine)(hs:(p==sysModules)=false)(rv:RelV v r)
  (dd:h'.DictOfH (eF X.prog X.w) p (storedH zs c b r)) (sb:Heap.SameBut p s.heap h'):∃gu,Inv X pins σ (upd H p (.ext (PJ p (aI cs c) (gG cs as c b) (bh cs xs c v) gu))) { s with heap:=h',toks:=t }:=by
 obtain⟨q,CZ,gu,hq,h2,h3,h4,_,h5⟩:=dd;refine⟨gu,I.write (x:=p) (e:=p) (by rw[h];exact True.intro) (.inl rfl) (λb q hb z=>(sb.2 b hb).trans z) ⟨q,hq⟩ ⟨⟨storedH zs c b r,q,CZ,?_,?_,?_,hq,h2,h3,h4,?_,?_,hs⟩,⟨q,hq⟩,?_⟩⟩
 ·rw[fH,e1]
 ·rw[lh,e1,e2]
 ·rw[lg,e1];exact rS e3 rv
 ·rw[<- e1,<- fH (zs:=zs) (c:=c) b r];exact h5
 ·unfold aI;split
  ·left
  ·rw[List.length_append,List.length_singleton];left
 ·rintro h1 U1 ⟨F9,o',es'',f1,f2,f3,f4,f5⟩ kk;exact⟨F9,o',es'',f1,f2,f3,kk _ f4,f5⟩
theorem yV{z:V}{r:Value}(hu:A.units+2<cLine)(I:Inv X pins σ H s)(h:H p=some (.ext (PJ p cs as xs ep)))(k:eK (aR X.K H) as cs)(hb:jr (aR X.K H) b c)(rz:RelV z r)(fu:cs.length<sizeLine)
  (h1:∀v w' s',bo cs xs c=some v->Inv X pins σ H s'->RelV v w'->Q w' s')
  (h2:c∉cs->∀gu s',Inv X pins σ (upd H p (.ext (PJ p (aI cs c) (gG cs as c b) (bh cs xs c z) gu))) s'->Q r s') :
  wpAny (model X.prog X.w) A (call (.builtin "dict.setdefault") [.ref p,.ref b,r]) Q E s:=by
 obtain⟨zs,o,es,e1,e2,e3,ho,hx,hd,dd,hl,hs⟩:=jN I h k;have hz:zs.length<=sizeLine:=by rw[<- e1,List.length_map]at hl;exact hl
 refine call_meetsIn PySem.F.slot_dict_setdefault dd.typeIs PySem.F.entry_dict_setdefault (PySem.F.args_dict_setdefault_3 _ _ _) (pY (knd:=eF X.prog X.w) p b hs r) ⟨(show _+1<cLine by first|exact hu | (show A.units+1+1<cLine;left)),c,zs,jU I hb,dd,hz,λq hq=>?_,λhn h' PH sb=>?_⟩
 ·have hg:=gd (cs:=cs) e3 c;have:(atKey zs c).map (·.2)=bo cs (zs.map (·.2.2)) c:=by rw[fc,e1]
  rw[hq]at this;rw[<- this]at hg;cases q2:bo cs xs c with
  |none=>rw[q2]at hg;exact hg.elim
  |some v=>rw[q2]at hg;exact h1 v _ _ q2 (I.tok _) hg
 ·have Uk:c∉cs:=λhc=>by
   have:=(dB zs c).mpr (by rw[e1];exact hc);rw[hn]at this;cases this
  obtain⟨gu,I'⟩:=sP (t:=s.toks+(eF X.prog X.w).draws c) I h e1 e2 e3 fu hs rz PH sb;exact h2 Uk gu _ I'
theorem D_:PE X (.Dict [] [] pos) (λ_ H Q=>∀p,H p=none->Q (.ref p) (upd H p (.ext (PJ p [] [] [] 0)))):=λpins s σ H Q I h=>by
 have JY:sysModules<s.heap.objs.size:=abj (by decide) (show mainGlobals<s.heap.objs.size from(I.mod.glob.keeps I.bk).lt);refine wpAny_Dict_empty ⟨.ref s.heap.objs.size,_,I.laid (a:=s.heap.objs.size) (o:=.ext (PJ s.heap.objs.size [] [] [] 0)) (t':=s.toks) (λ_ _ q=>aag _ q) (aai _) ?_,rfl,h _ (I.cQ.fresh (aai _))⟩;have hg:(s.heap.push { cls:=.type "dict",data:=.dict #[] }).get? s.heap.objs.size=some { cls:=.type "dict",data:=.dict #[] }:=aan _ rfl;refine⟨⟨[],_,#[],rfl,rfl,.nil,hg,⟨rfl,rfl,rfl⟩,rfl,rfl,aaQ,aaF _,beq_eq_false_iff_ne.mpr (aaC (aam JY))⟩,⟨_,hg⟩,?_⟩;rintro h1 U1 ⟨F9,o',es'',f1,f2,f3,f4,f5⟩ kk;exact⟨F9,o',es'',f1,f2,f3,kk _ f4,f5⟩
end
variable {X:Cx}{ta:TA}{td:TE}
theorem IF{x:Str}{p:Pos}{a b:Expr}(hu:X.A.units+2<cLine)(ho:PE X (.Name x p) td)(ha:PA X [a,b] ta)(s1:∀es,starEach (a::es) X.env=(false,eval a X.env)::starEach es X.env)(s2:∀es,starEach (b::es) X.env=(false,eval b X.env)::starEach es X.env)(hl:(p1.endLine==p2.line)=true):
  PE X (.Call (.Attribute (.Name x p) ("setdefault" : Str) p1) [a,b] [] p2) (λσ H Q=>td σ H λv H1=>∃q cs as xs ep,v=.ref q/\H1 q=some (.ext (PJ q cs as xs ep))/\ta σ H1 λys H2=>∃k c z,ys=[.ref k,z]/\H2 q=some (.ext (PJ q cs as xs ep))/\eK (aR X.K H2) as cs/\jr (aR X.K H2) k c/\cs.length<sizeLine/\(∀u,bo cs xs c=some u->Q u H2)/\(c∉cs->∀gu,Q z (upd H2 q (.ext (PJ q (aI cs c) (gG cs as c k) (bh cs xs c z) gu))))):=by
 intro pins s σ H Q I h;refine acg rfl (by rw[s1,s2];rfl) hl abz PySem.F.slot_dict_setdefault PySem.F.type_dict_setdefault (cJ (ho pins s σ H _ I h) λu MW bL=>?_);obtain⟨v,H1,I1,rx,q,cs,as,xs,ep,ex,hd,q1⟩:=bL;subst ex;obtain rfl:u=Value.ref q:=rx;obtain⟨t1,t2⟩:=oZ I1 hd;refine⟨t1,t2,?_⟩;have hA:=ha p2 pins MW σ H1 _ I1 q1;rw[s1]at hA ⊢;refine aa1 (by show(false||(backTo p2 (starEach [b] X.env)).any (·.1))=false;rw[s2];rfl) (abl ?_);refine cJ hA λus s3 bL=>?_;obtain⟨ys,H2,I2,r2,k,c,z,ey,hd2,hk,hb,fu,q2,q3⟩:=bL;subst ey;obtain⟨w1,w2,rfl,MX,Lq⟩:=vals2 r2;cases MX;exact yV hu I2 hd2 hk hb Lq fu (λv w' s' hv I' rv=>⟨v,H2,I',rv,q2 v hv⟩) λhn gu s' I'=>⟨z,_,I',Lq,q3 hn gu⟩
theorem qB{A:aE}{k:Nat}(hr:fT k A):A.units+2<cLine:=aaz (ab4 (by decide:2<=64) _) hr.units
noncomputable def QG(c:aa):D->Option (aa)
 |.int h=>some (h::c)
 |_=>none
theorem IC{c e:aa}{d:D}(h:QG c d=some e):∃i,d=.int i/\e=i::c:=by
 cases d<;>first|exact nk h | (cases h;done)|skip
 cases h;exact⟨_,rfl,rfl⟩
def Nm(z:D×D):Option (aa):=match keyOf z.1 with
 |some c=>QG c z.2
 |none=>none
def SO(ds:ab):Option (aa):=match two ds with
 |some z=>Nm z
 |none=>none
def bO(d:D):Option (aa):=match d with
 |.tup ds=>SO ds
 |_=>none
theorem ym{d:D}{c:aa}(h:bO d=some c):∃i lot,c=i::lot/\d=.tup [.tup (lot.map D.int),.int i]:=by
 cases d<;>first|exact nk h | (cases h;done)|skip
 rename_i ds;replace h:SO ds=some c:=h;unfold SO at h;cases h1:two ds with
 |none=>rw[h1]at h;exact nk h
 |some z =>
  rw[h1]at h;replace h:Nm z=some c:=h;unfold Nm at h;cases h2:keyOf z.1 with
  |none=>rw[h2]at h;exact nk h
  |some lot =>
   rw[h2]at h;obtain⟨i,e1,e2⟩:=IC (show QG lot z.2=some c from h);exact⟨i,lot,e2,by rw[fO (x:=z.1) (y:=z.2) h1,jV h2,e1]⟩
variable {N:gZ}{T:ka}
theorem l5{k:bq}{v:V}{d:D}{c:aa}(hk:bO d=some c)(r:Rep T N k v d):∃b,v=.ref b/\jr T b c:=by
 obtain⟨i,lot,rfl,rfl⟩:=ym hk;obtain⟨b,xs,rfl,h1,r1⟩:=r.x8;cases r1 with
 |cons h t=>cases t with
  |cons h' t' =>
   cases t';cases h';obtain⟨b',ys,rfl,h2,r2⟩:=h.x8;cases r2.ofInts;exact⟨b,rfl,i,lot,b',rfl,h1,h2⟩
variable {F R:Addr->Prop}{H:Hp}{K:aq}{τ:Addr->Option bq}
theorem bT.S9{G:Addr->Prop}{fv:aQ}{H':Hp}{p:Addr}(hp:H p=none)(hl:H' p=some (.ext (PJ p [] [] [] 0))):bT K G R τ fv H H' (.ref p) (.cL .ow [] []):=by
 refine⟨λq=>if q=p then some []else none,λq k hq=>?_,.cL (ep:=0) (as:=[]) (xs:=[]) ⟨hl,by simp⟩ ⟨rfl,λj a c h=>by simp at h⟩ .nil⟩;by_cases rM:q=p
 ·subst rM;exact hp
 ·simp[rM]at hq
noncomputable def wz(xs:ab):O D:=match xs with
 |[]=>ok (.cL .ow [] [])
 |_::_=>none
variable {args:au}{cs:aG}{Φ:a_}
theorem D5{n:Nat}(hΦ:Φ n=wz){sc:Scope}{bl:ak}{k:Nat}(L:PX X sc bl k){e:Expr}(he:iO sc bl e=some args)(hs:kg X F Φ cs args):PE X e (tD X F Φ (.bR n cs))/\PT X e (gh X F Φ (.bR n cs)):=by
 have h1:∃pos,e=.Dict [] [] pos/\args=[]:=by
  unfold iO at he;split at he
  ·cases he;exact⟨_,rfl,rfl⟩
  ·cases he
 obtain⟨pos,rfl,rfl⟩:=h1;cases cs with
 |cons _ _=>exact hs.elim
 |nil =>
  have this:PE X (.Dict [] [] pos) (tD X F Φ (.bR n [])):=by
   refine PE.imp (D_ (X:=X) (pos:=pos)) λσ H Q hq p hp=>?_;obtain⟨R,τ,ρ,d,Si,ev,hq⟩:=hq;have ev:Φ n []=ok d:=ev;rw[hΦ]at ev;cases ev;exact hq _ _ (aM.upd hp) (bT.S9 hp aS)
  exact⟨this,cE this λ_=>rfl⟩
noncomputable def kL:Fl->Bool
 |.fz=>false
 |_=>true
noncomputable def mM:D->Option (ag×ab)
 |.cL _ cs vs=>some (cs,vs)
 |_=>none
theorem sS{d:D}{z:ag×ab}(h:mM d=some z):∃f,d=.cL f z.1 z.2:=by
 cases d<;>first | (cases h;done) | (cases h;exact⟨_,rfl⟩)
def qb(xs:ab):O D:=match two xs with
 |some z=>match mM z.1 with
  |some d=>match bO z.2 with
   |some c=>match bo d.1 d.2 c with
    |some v=>if aH kL v=false then ok v else none
    |none=>none
   |none=>none
  |none=>none
 |none=>none
variable {ds xs:ab}
theorem D7{r:D}(h:qb xs=ok r):∃f cs vs c kd,xs=[.cL f cs vs,kd]/\bO kd=some c/\bo cs vs c=some r/\aH kL r=false:=by
 unfold qb at h;cases h1:two xs with
 |none=>rw[h1]at h;cases h
 |some z =>
  rw[h1]at h;have h:(match mM z.1 with|some d=>(match bO z.2 with|some c=>(match bo d.1 d.2 c with|some v=>if aH kL v=false then ok v else none|none=>none)|none=>none)|none=>none)=ok r:=h;cases h2:mM z.1 with
  |none=>rw[h2]at h;cases h
  |some d =>
   rw[h2]at h;have h:(match bO z.2 with|some c=>(match bo d.1 d.2 c with|some v=>if aH kL v=false then ok v else none|none=>none)|none=>none)=ok r:=h;cases h3:bO z.2 with
   |none=>rw[h3]at h;cases h
   |some c =>
    rw[h3]at h;have h:(match bo d.1 d.2 c with|some v=>if aH kL v=false then ok v else none|none=>none)=ok r:=h;cases h4:bo d.1 d.2 c with
    |none=>rw[h4]at h;cases h
    |some v =>
     rw[h4]at h;obtain⟨hf,rfl⟩:=me (show(if aH kL v=false then ok v else none)=ok r from h);obtain⟨f,e1⟩:=sS h2;exact⟨f,d.1,d.2,c,z.2,by rw[fO h1,e1],h3,h4,hf⟩
theorem Ik{A A':Addr->Prop}{τ':Addr->Option bq}{k k':bq}{v:V}{d:D}(h:Rep (aR K H) (nd K R A τ H) k v d)(hf:aH kL d=false):Rep (aR K H) (nd K R A' τ' H) k' v d:=by
 have:=Rep.gen (T':=aR K H) (N':=nd K R A' τ' H) (g:=id) (P:=kL) (C:=λ_ _=>True) (I:=λ_ _=>True) (λ_ _ h=>h) trivial (λ_ _ e=>e) (λ_ _ _ _ e _=>e) (λk k' p xs f _ hz h=>by
  cases f<;>first | (cases hz;done)|exact h) h (k':=k') trivial hf
 rw[dH]at this;exact this
def Sy(K:aq):R2:=λx y H Q=>∃p b cs as xs ep c v,x=.ref p/\y=.ref b/\H p=some (.ext (PJ p cs as xs ep))/\eK (aR K H) as cs/\jr (aR K H) b c/\bo cs xs c=some v/\Q v H
theorem Bd(hu:X.A.units+2<cLine):F4 X (Sy X.K):=by
 intro value slice pins s σ H x y v u Q I rx ry h hs;obtain⟨p,b,cs,as,xs,ep,c,w,rfl,rfl,hp,hk,hb,hg,q⟩:=h;cases rx;cases ry;obtain⟨zs,o,es,e1,e2,e3,ho,hx,hd,dd,hl,Bt⟩:=jN I hp hk;have OM:=gd (cs:=cs) e3 c;rw[hg]at OM;obtain⟨u,qC,ru⟩:=kf.some_of OM;have:(atKey zs c).map (·.2)=some u:=by rw[fc,e1];exact qC
 obtain⟨q',T8,rfl⟩:=Option.map_eq_some_iff.mp this;exact abg (x:=q'.2) dd.typeIs PySem.F.slot_dict_getitem.lookup
  (wpAny_getItem_heap (knd:=eF X.prog X.w) (Q:=λr s'=>r=q'.2/\EP X pins σ Q r s') (show X.A.units+1+1<cLine from hu) (jU I hb) dd T8 ⟨rfl,w,H,I.tok _,ru,q⟩) hs
theorem ID{n:Nat}(hΦ:Φ n=qb){sc:Scope}{bl:ak}{k:Nat}(L:PX X sc bl k){e:Expr}(he:kW sc bl e=some args)(hs:kg X F Φ cs args):PE X e (tD X F Φ (.bR n cs))/\PT X e (gh X F Φ (.bR n cs)):=by
 unfold kW at he;cases h1:gU e with
 |none=>rw[h1]at he;cases he
 |some z =>
  rw[h1]at he;cases he;obtain⟨pos,rfl⟩:=gw h1;obtain⟨⟨c1,c2,rfl,p1,p2⟩,_⟩:=fj hs;have this:PE X (.Subscript z.1 z.2 pos) (tD X F Φ (.bR n [c1,c2])):=by
   refine PE.imp (sR (Bd (qB L.room)) p1 p2 hs.2.2.2.2.2.1) λσ H Q hq=>?_;obtain⟨R,τ,ρ,d,Si,ev,hq⟩:=hq;obtain⟨xs,cc,ev⟩:=aB ev;rw[hΦ]at ev;obtain⟨f,cs,vs,c,kd,rfl,Us,hg,hf⟩:=D7 ev;obtain⟨x,ex,cc⟩:=aB cc;obtain⟨ys,nr,cc⟩:=aB cc;obtain⟨y,ey,Fh⟩:=aB nr;cases Fh;cases cc;refine tD.intro Si ex λv H1 e1 r1=>tD.intro (Si.go e1) ey λu H2 e2 r2=>?_;obtain⟨τ1,f1,q1⟩:=r1;obtain⟨τ2,f2,q2⟩:=r2;obtain⟨b,rfl,hb⟩:=l5 Us q2;cases q1 with
   |cL hn hk hr =>
    rcases hZ hr c with ⟨_,hz⟩|⟨w,d',k',g1,g2,g3,_⟩
    ·rw[hg]at hz;cases hz
    ·rw[hg]at g2;cases g2;refine⟨_,b,_,_,_,_,c,w,rfl,rfl,e2 _ _ hn.pat,hk.imp λ_ _ h=>aR.same e2 h,hb,g1,hq w H2 (e1.trans e2) ⟨λ_=>none,λ_ _ h=>by simp at h,?_⟩⟩;exact(Ik (A':=iY (gP X F) τ (gR (.bR n [c1,c2]))) (τ':=λ_=>none) (k':=[]) g3 hf).imp (λ_ _ h=>aR.same e2 h) λ_ _ _ _ h=>nd.same e2 h
  exact⟨this,cE this λ_=>rfl⟩
def kH:ag->ab->aa->D->Option (ab)
 |[],vs,_,d=>if vs.length=0 then some [.lst .ow [d]]else none
 |c'::cs,vs,c,d=>match vs with
  |[]=>none
  |v::vs=>if c'=c then(match wK v with
    |some gs=>if gs.length<cg then some (.lst .ow (gs++[d])::vs)else none
    |none=>none)else(kH cs vs c d).map (v :: ·)
theorem xi{α:Type}{c:aa}:∀{cs:ag} {xs:List α},c∉cs->bo cs xs c=none
 |[],_,_=>by unfold bo;rfl
 |c'::cs,[],_=>rfl
 |c'::cs,x::xs,h=>by
  show(if c'=c then some x else bo cs xs c)=none;rw[if_neg (λe:c'=c=>h (e▸List.mem_cons_self)),xi λz=>h (List.mem_cons_of_mem _ z)]
theorem vR{d:D}:∀{vs:ab} {j n m:Nat},fZ (j+m) d (n+m) vs=fZ j d n vs
 |[],_,_,_=>rfl
 |v::vs,j,n,m=>by
  show(if n+m=j+m then d else v)::fZ (j+m) d (n+m+1) vs=(if n=j then d else v)::fZ j d (n+1) vs;rw[show n+m+1=n+1+m by left,vR];by_cases e:n=j
  ·rw[if_pos e,if_pos (by left)]
  ·rw[if_neg e,if_neg (by left)]
theorem zG{d:D}:∀{vs:ab} {j n:Nat},j<n->fZ j d n vs=vs
 |[],_,_,_=>rfl
 |v::vs,j,n,h=>by
  show(if n=j then d else v)::fZ j d (n+1) vs=_;rw[if_neg (by left),zG (by left)]
theorem pZ{c:aa}{d:D}:∀{cs:ag} {vs ws:ab},kH cs vs c d=some ws->(c∉cs/\cs.length=vs.length/\ws=vs++[.lst .ow [d]])\/∃j gs,vs[j]?=some (.lst .ow gs)/\gs.length<cg/\c∈cs/\(∀(xs:ae),xs.length=vs.length->bo cs xs c=xs[j]?)/\ws=fZ j (.lst .ow (gs++[d])) 0 vs
 |[],vs,ws,h=>by
  unfold kH at h;by_cases hv:vs.length=0
  ·rw[if_pos hv]at h;cases h;obtain rfl:=List.length_eq_zero_iff.mp hv;exact .inl ⟨by simp,rfl,rfl⟩
  ·rw[if_neg hv]at h;exact nk h
 |c'::cs,[],ws,h=>nk h
 |c'::cs,v::vs,ws,h=>by
  have h:(if c'=c then(match wK v with|some gs=>if gs.length<cg then some (D.lst .ow (gs++[d])::vs)else none|none=>none)else(kH cs vs c d).map (v :: ·))=some ws:=h;by_cases e:c'=c
  ·rw[if_pos e]at h;cases h1:wK v with
   |none=>rw[h1]at h;exact nk h
   |some gs =>
    rw[h1]at h;have h:(if gs.length<cg then some (D.lst .ow (gs++[d])::vs)else none)=some ws:=h;by_cases hg:gs.length<cg
    ·rw[if_pos hg]at h;cases h;refine .inr ⟨0,gs,by rw[qf h1];rfl,hg,e▸aaf,λxs hx=>?_,?_⟩
     ·cases xs with
      |nil=>cases hx
      |cons x xs=>exact aaN e
     ·show _=(if 0=0 then _ else v)::fZ 0 _ 1 vs;rw[if_pos rfl,zG (by left)]
    ·rw[if_neg hg]at h;exact nk h
  ·rw[if_neg e]at h;obtain⟨us,h1,rfl⟩:=Option.map_eq_some_iff.mp h;rcases pZ h1 with ⟨h2,h3,rfl⟩|⟨j,gs,h2,h3,h4,h5,rfl⟩
   ·exact .inl ⟨λz=>(List.mem_cons.mp z).elim (λq=>e q.symm) h2,by rw[List.length_cons,List.length_cons,h3],rfl⟩
   ·refine .inr ⟨j+1,gs,h2,h3,aad _ h4,λxs hx=>?_,?_⟩
    ·cases xs with
     |nil=>cases hx
     |cons x xs =>
      show(if c'=c then some x else bo cs xs c)=_;rw[if_neg e,h5 xs (Nat.succ.inj hx)];rfl
    ·show _=(if 0=j+1 then _ else v)::fZ (j+1) _ (0+1) vs;rw[if_neg (by left),vR]
def uR(xs:ab):O D:=match three xs with
 |some z=>match z.1 with
  |.cL f cs vs=>match bO z.2.1 with
   |some c=>match kH cs vs c z.2.2 with
    |some ws=>if bX f=true/\cs.length<cg then ok (.cL .ow (aI cs c) ws)else none
    |none=>none
   |none=>none
  |_=>none
 |none=>none
variable {kd:D}
theorem DZ{x d r:D}(h:uR [x,kd,d]=ok r):∃cs vs c ws,x=.cL .ow cs vs/\bO kd=some c/\kH cs vs c d=some ws/\cs.length<cg/\r=.cL .ow (aI cs c) ws:=by
 cases x<;>first|exact nk h | (cases h;done)|skip
 rename_i f cs vs;replace h:(match bO kd with|some c=>(match kH cs vs c d with|some ws=>if bX f=true/\cs.length<cg then ok (D.cL .ow (aI cs c) ws)else none|none=>none)|none=>none)=ok r:=h;cases h1:bO kd with
 |none=>rw[h1]at h;exact nk h
 |some c =>
  rw[h1]at h;replace h:(match kH cs vs c d with|some ws=>if bX f=true/\cs.length<cg then ok (D.cL .ow (aI cs c) ws)else none|none=>none)=ok r:=h;cases h2:kH cs vs c d with
  |none=>rw[h2]at h;exact nk h
  |some ws =>
   rw[h2]at h;obtain⟨⟨hf,hl⟩,rfl⟩:=me (show(if bX f=true/\cs.length<cg then ok (D.cL .ow (aI cs c) ws)else none)=ok r from h);cases f<;>first | (cases hf;done)|exact⟨cs,vs,c,ws,rfl,rfl,h2,hl,rfl⟩
def Ln(e:Expr):Option (Expr×Expr):=match jc e with
 |some z=>match lb z.1 with
  |some y=>match two z.2.1 with
   |some w=>match ux w.2 with
    |some l=>if y.2.1=("setdefault" : Str)/\z.2.2.1=[]/\(y.2.2.endLine==z.2.2.2.line)=true/\l=[]then some (y.1,w.1)else none
    |none=>none
   |none=>none
  |none=>none
 |none=>none
variable {o:Expr}
theorem HB{e k:Expr}(h:Ln e=some (o,k)):∃p1 p2 pl,e=.Call (.Attribute o ("setdefault" : Str) p1) [k,.List [] pl] [] p2/\(p1.endLine==p2.line)=true:=by
 unfold Ln at h;cases h1:jc e with
 |none=>rw[h1]at h;exact nk h
 |some z =>
  obtain⟨f,as,ks,p2⟩:=z;rw[h1]at h;obtain rfl:=iF h1;replace h:(match lb f with|some y=>(match two as with|some w=>(match ux w.2 with|some l=>if y.2.1=("setdefault" : Str)/\ks=[]/\(y.2.2.endLine==p2.line)=true/\l=[]then some (y.1,w.1)else none|none=>none)|none=>none)|none=>none)=some (o,k):=h;cases h2:lb f with
  |none=>rw[h2]at h;exact nk h
  |some y =>
   obtain⟨ob,nm,p1⟩:=y;rw[h2]at h;obtain rfl:=jE h2;replace h:(match two as with|some w=>(match ux w.2 with|some l=>if nm=("setdefault" : Str)/\ks=[]/\(p1.endLine==p2.line)=true/\l=[]then some (ob,w.1)else none|none=>none)|none=>none)=some (o,k):=h;cases h3:two as with
   |none=>rw[h3]at h;exact nk h
   |some w =>
    obtain⟨a,b⟩:=w;rw[h3]at h;obtain rfl:=fO h3;replace h:(match ux b with|some l=>if nm=("setdefault" : Str)/\ks=[]/\(p1.endLine==p2.line)=true/\l=[]then some (ob,a)else none|none=>none)=some (o,k):=h;cases h4:ux b with
    |none=>rw[h4]at h;exact nk h
    |some l =>
     rw[h4]at h;obtain⟨pl,rfl⟩:=vO h4;replace h:(if nm=("setdefault" : Str)/\ks=[]/\(p1.endLine==p2.line)=true/\l=[]then some (ob,a)else none)=some (o,k):=h;by_cases hc:nm=("setdefault" : Str)/\ks=[]/\(p1.endLine==p2.line)=true/\l=[]
     ·rw[if_pos hc]at h;cases h;obtain⟨rfl,rfl,hl,rfl⟩:=hc;exact⟨p1,p2,pl,rfl,hl⟩
     ·rw[if_neg hc]at h;exact nk h
def qX(_:Scope)(_:ak)(st:Stmt):Option (Expr×au):=match i4 ("append" : Str) st with
 |some z=>match one z.2 with
  |some e=>match Ln z.1 with
   |some y=>some (y.1,[y.2,e])
   |none=>none
  |none=>none
 |none=>none
variable {st:Stmt}
theorem yZ{sc:Scope}{bl:ak}(h:qX sc bl st=some (o,args)):∃k e p1 p2 p3 p4 pl pos,args=[k,e]/\st=.Expr (.Call (.Attribute (.Call (.Attribute o ("setdefault" : Str) p1) [k,.List [] pl] [] p2) ("append" : Str) p3) [e] [] p4) pos/\(p1.endLine==p2.line)=true/\(p3.endLine==p4.line)=true:=by
 unfold qX at h;cases h1:i4 ("append" : Str) st with
 |none=>rw[h1]at h;exact nk h
 |some z =>
  obtain⟨b,as⟩:=z;rw[h1]at h;replace h:(match one as with|some e=>(match Ln b with|some y=>some (y.1,[y.2,e])|none=>none)|none=>none)=some (o,args):=h;cases h2:one as with
  |none=>rw[h2]at h;exact nk h
  |some e =>
   rw[h2]at h;obtain rfl:=cf h2;replace h:(match Ln b with|some y=>some (y.1,[y.2,e])|none=>none)=some (o,args):=h;cases h3:Ln b with
   |none=>rw[h3]at h;exact nk h
   |some y =>
    rw[h3]at h;cases h;obtain⟨p1,p2,pl,rfl,hl⟩:=HB h3;obtain⟨p3,p4,pos,rfl,nY⟩:=jD h1;exact⟨_,e,p1,p2,p3,p4,pl,pos,rfl,rfl,hl,nY⟩
theorem Jg{n i:Nat}{ρ:ba}{d:D}{r:Fo×ba}(h:AY Φ n i ρ kd d=ok r):∃x x',ρ[i]?=some (some x)/\aH anyF kd=false/\aH anyF d=false/\Φ n [x,kd,d]=ok x'/\r=(.nx,ρ.set i (some x')):=by
 unfold AY at h;split at h
 ·rename_i x hx;split at h
  ·rename_i hc;obtain⟨x',h1,h2⟩:=aB h;cases h2;exact⟨x,x',hx,hc.1,hc.2,h1,rfl⟩
  ·cases h
 ·cases h
variable {as:aO}
section
variable {X:Cx}{F R:ai}{τ:Addr->Option bq}{ρ:ba}{σ:St}{H:Hp}
theorem SI.Ny{i:Nat}{cs:ag}(Si:SI X F R τ ρ σ H)(hi:ρ[i]?=some (some (.cL .ow cs ds))):
  ∃p as xs ep,σ[i]?=some (some (.ref p))/\H p=some (.ext (PJ p cs as xs ep))/\τ p=some [i]/\eK (aR X.K H) as cs/\az (aR X.K H) (nd X.K R (λ_=>False) τ H) [i] 0 xs ds:=by
 obtain⟨v,hv,rp⟩:=Si.rep i _ hi;cases rp with
 |cL h k r=>exact⟨_,_,_,_,hv,h.1,h.2,k,r⟩
theorem SI.drop(i:Nat)(S:SI X F R τ ρ σ H):SI X F R τ (ρ.set i none) σ H:=by
 refine⟨by simp[S.len],λj d hj=>?_,S.rt,S.rh,S.rf,S.th,S.t0,S.same⟩;have gQ:i≠j:=by
  rintro rfl;by_cases h:i<ρ.length
  ·rw[List.getElem?_set_self h]at hj;cases hj
  ·rw[List.getElem?_eq_none (by rw[List.length_set];left)]at hj;cases hj
 rw[List.getElem?_set_ne gQ]at hj;exact S.rep j d hj
theorem kO{cs:ag}(k:eK T as cs){b:Addr}{c:aa}(hb:jr T b c):eK T (gG cs as c b) (aI cs c):=by
 unfold gG aI;by_cases e:c∈cs
 ·rw[if_pos e,if_pos e];exact k
 ·rw[if_neg e,if_neg e];refine⟨by rw[List.length_append,List.length_append,k.len];rfl,λj a c' ha hc=>?_⟩;by_cases hj:j<as.length
  ·rw[List.getElem?_append_left hj]at ha;rw[List.getElem?_append_left (by rw[<- k.len];exact hj)]at hc;exact k.key j a c' ha hc
  ·rw[List.getElem?_append_right (by left)]at ha;rw[List.getElem?_append_right (by rw[<- k.len];left),<- k.len]at hc;cases hz:j - as.length with
   |zero =>
    rw[hz]at ha hc;cases ha;cases hc;exact hb
   |succ m=>rw[hz]at ha;cases ha
theorem SI.Vx{i j:Nat}{cs:ag}{vs gs:ab}{d:D}{u:V}{p q:Addr}{xs:ae}{ep:Nat}(Si:SI X F R τ ρ σ H)(ho:ρ[i]?=some (some (.cL .ow cs vs)))(hv:σ[i]?=some (some (.ref q)))(hq:H q=some (.ext (PJ q cs as xs ep)))(YJ:τ q=some [i])(hk:eK (aR X.K H) as cs)
  (rs:az (aR X.K H) (nd X.K R (λ_=>False) τ H) [i] 0 xs vs) (hx:xs[j]?=some (.ref p)) (hj:vs[j]?=some (.lst .ow gs)) {k:bq} (ru:Rep (aR X.K H) N k u d) (hf:aH anyF d=false) :
  ∃zs,H p=some (.lst zs)/\zs.length=gs.length/\τ p=some [j,i]/\SI X F R τ (ρ.set i (some (.cL .ow cs (fZ j (.lst .ow (gs++[d])) 0 vs)))) σ (upd H p (.lst (zs++[u]))):=by
 obtain⟨w,hw,gy⟩:=rs.get hj;rw[Nat.zero_add]at gy;rw[hx]at hw;cases hw;cases gy with
 | @lst _ _ zs _ _ hp rz =>
 refine⟨zs,hp.1,rz.length,hp.2,Si.Ri ho hp.1 hp.2 hv (.cL (as:=as) (ep:=ep) (xs:=xs) (Si.Es (n:=.ej cs as xs ep) (f:=.ow) hp.1 hp.2 (λz=>?_) ⟨hq,YJ⟩) (hk.imp λ_ _ h=>eu hp.1 h) (az.fZ (λ_ _ h=>eu hp.1 h) (λc m a n f hm h=>Si.Es hp.1 hp.2 (λz=>?_) h) rs λm w Oj hm=>?_))⟩
 ·have:=aaJ List.length z;simp at this
 ·have:=aaJ List.reverse z;simp at this;exact hm this.1
 ·rw[Nat.zero_add]at hm;subst hm;rw[hx]at Oj;cases Oj;refine .lst ⟨aS,hp.2⟩ (az.si (az.child (λ_ _ h=>eu hp.1 h) (λc n a ys f h=>Si.Es hp.1 hp.2 (λz=>?_) h) rz) ((dE (N':=nd X.K R (λ_=>False) τ (upd H p (.lst (zs++[u])))) ru hf).imp (q:=(0+gs.length)::[m,i]) (λ_ _ h=>eu hp.1 h) λ_ _ _ _ h=>h))
  ·have:=aaJ List.length z;simp at this
end
theorem Iy{n:Nat}(hΦ:Φ n=uR){sc:Scope}{bl:ak}{k:Nat}(L:PX X sc bl k)(hN:X.N.Nodup)(qI:∀x,X.fn x=true){x:Str}(he:qX sc bl st=some (.Name x pos,args))
  {i:Nat} (hi:X.N[i]?=some x) (hl:L2.Loc X.env.scope x) (pe:PE X (.Name x pos) (n9 i)) {c1 c2:CE} (hs:kg X F Φ [c1,c2] args):PS X st (km X F Φ (.mu2 n i c1 c2)):=by
 obtain⟨ke,ve,p1,p2,p3,p4,pl,pos',rfl,rfl,w6,tu⟩:=yZ he;obtain⟨⟨a1,a2,e0,h1,h2⟩,_,s1,s2⟩:=fj hs;cases e0;refine PS.imp (jM (wI aaZ aa8 abx kM (IF (qB L.room) pe (cA h1 (cA (AD dF) dF) (s1 _)) s1 (λ_=>rfl) w6) (cA h2 dF (s2 _)) (hfew:=by rw[s2];rfl) (hline:=tu) (hs:=s2 _))) λD σ H hq=>?_;obtain⟨R,τ,ρ,r,Si,ev,hq⟩:=hq;obtain⟨kd,ZI,ev⟩:=aB ev;obtain⟨d,ed,ev⟩:=aB ev;obtain⟨x0,x',ho,hfk,UB,Br,rfl⟩:=Jg ev;rw[hΦ]at Br;obtain⟨cs,vs,c,ws,rfl,Ut,WD,lQ,rfl⟩:=DZ Br;obtain⟨q,as,xs,ep,hv,hd,ht,hk,rs⟩:=Si.Ny ho;have Y9:cg=1000000:=rfl;have GS:sizeLine=16777216:=aaP;have LN:i<ρ.length:=by
  by_cases z:i<ρ.length
  ·exact z
  ·rw[List.getElem?_eq_none (by left)]at ho;cases ho
 have fin:∀{H':Hp} {τ':Addr->Option bq} {ρ1:ba} {LX:ag} {Vw:aO} {Ll:ae} {W8:Nat} {vs1 gs:List DI.D} {j:Nat} {u:V},SI X F R τ' ρ1 σ H'->Kp R H R H'->ρ1[i]?=some (some (.cL .ow LX vs1))->ρ1.set i none=ρ.set i none->vs1[j]?=some (.lst .ow gs)->gs.length<cg->LX=aI cs c->ws=fZ j (.lst .ow (gs++[d])) 0 vs1 ->
   H' q=some (.ext (PJ q LX Vw Ll W8))->τ' q=some [i]->eK (aR X.K H') Vw LX->az (aR X.K H') (nd X.K R (λ_=>False) τ' H') [i] 0 Ll vs1->Ll[j]?=some u->Qk X.K "list" u H'/\zU (tD X F Φ c2) HH σ H' λxs H2=>wm u xs H2 λ_ H3=>D.nx σ H3:=by
  intro H' τ' ρ1 LX Vw Ll W8 vs1 gs j u fM kp GX Ov hj hg ek ew CT WB CQ oq Ww;have Xu:=fM.drop i;rw[Ov]at Xu;obtain⟨w,hw,gy⟩:=oq.get hj;rw[Ww]at hw;cases hw;obtain⟨l,zs,rfl,nY,rz⟩:=gy.n6;refine⟨.inl ⟨rfl,_,cX.of nY.1⟩,tD.intro Xu ed λy H3 e3 r3=>?_⟩;obtain⟨τ3,f3,q3⟩:=r3;obtain⟨XC,g4,g5,g6,L4⟩:=(fM.go e3).Vx GX hv (e3 _ _ CT) WB (CQ.imp λ_ _ h=>aR.same e3 h) (oq.imp (λ_ _ h=>aR.same e3 h) λ_ _ _ _ h=>nd.same e3 h) Ww hj q3 UB;refine⟨l,XC,y,rfl,rfl,g4,by left,?_⟩;have er:ρ1.set i (some (.cL .ow LX (fZ j (.lst .ow (gs++[d])) 0 vs1)))=ρ.set i (some (.cL .ow (aI cs c) ws)):=by
   rw[ek,<- ew];have:=aaJ (λz:ba=>z.set i (some (.cL .ow (aI cs c) ws))) Ov;simpa using this
  rw[er]at L4;exact hq σ _ R τ' L4 (kp.trans (gC (n:=.l _) (fM.go e3) e3 (λ_ h=>h) g4 g6))
 refine⟨.ref q,hv,q,cs,as,xs,ep,rfl,hd,tD.intro Si ZI λu H1 e1 ru=>⟨by simp,λl nY=>?_⟩⟩;obtain⟨τ1,f1,r1⟩:=ru;obtain⟨b,rfl,hb⟩:=l5 Ut r1;have e2:aM H1 (upd H1 l (.lst [])):=aM.upd nY;have es:=e1.trans e2;have lC:=Si.go es;have QW:=hk.imp λ_ _ h=>aR.same es h;have UI:jr (aR X.K (upd H1 l (.lst []))) b c:=hb.imp λ_ _ h=>aR.same e2 h;have uQ:az (aR X.K (upd H1 l (.lst []))) (nd X.K R (λ_=>False) τ (upd H1 l (.lst []))) [i] 0 xs vs:=rs.imp (λ_ _ h=>aR.same es h) λ_ _ _ _ h=>nd.same es h;refine⟨b,c,.ref l,rfl,es _ _ hd,QW,UI,by left,λw hw=>?_,λhn gu=>?_⟩
 ·rcases pZ WD with ⟨CP,_,_⟩|⟨j,gs,g1,g2,g3,g4,g5⟩
  ·rw[xi CP]at hw;exact nk hw
  ·rw[g4 xs rs.length]at hw;exact fin lC (Kp.of es λ_ h=>h) ho rfl g1 g2 (by unfold aI;rw[if_pos g3]) g5 (es _ _ hd) ht QW uQ hw
 ·rcases pZ WD with ⟨CP,hlen,hws⟩|⟨j,gs,g1,g2,g3,g4,g5⟩
  ·have qG:H l=none:=e1.free nY;have hlq:l≠q:=λz=>by rw[z,hd]at qG;cases qG
   have rk:gn X R τ (upd H1 l (.lst [])) (.ref l) (.lst .ow []):=⟨λa=>if a=l then some []else none,λa z hz=>by
    by_cases ha:a=l
    ·subst ha;refine⟨?_,λhr=>Si.rh a hr qG,?_,by rw[aS];simp⟩
     ·cases Oq:τ a with
      |none=>rfl
      |some z=>exact absurd qG (Si.th a z Oq)
     ·cases h0:X.H₀ a with
      |none=>rfl
      |some o=>rw[Si.same a o h0]at qG;cases qG
    ·simp[ha]at hz,.lst ⟨aS,by simp⟩ .nil⟩
   have LK:dN (upd H1 l (.lst [])) q (.ej cs as xs ep):=es _ _ hd;have ekc:aI cs c=cs++[c]:=by unfold aI;rw[if_neg CP]
   have W7:bh cs xs c (.ref l)=xs++[.ref l]:=by unfold bh;rw[if_neg CP]
   obtain⟨τ3,oD,YK,Yb⟩:=lC.Nf (m:=vs.length) (n':=.ej (aI cs c) (gG cs as c b) (bh cs xs c (.ref l)) gu) (o:=.ext (PJ q (aI cs c) (gG cs as c b) (bh cs xs c (.ref l)) gu)) (d1:=.cL .ow (aI cs c) (vs++[.lst .ow []])) (xs':=bh cs xs c (.ref l)) (ds':=vs++[.lst .ow []]) ho hv LK ht uQ rk aS
    (λhN r=>.cL hN (kO (QW.imp λ_ _ h=>hJ LK h) (UI.imp λ_ _ h=>hJ LK h)) r) (λrs r=>by have h:=az.si rs (by simpa using r);rw[<- W7]at h;exact h)
   refine fin (vs1:=vs++[.lst .ow []]) (gs:=[]) (j:=vs.length) oD (gC lC es (λ_ h=>h) LK ht) (by rw[List.getElem?_set_self LN]) (by simp) (by simp) (by simp;left) rfl ?_ aS YK (kO (QW.imp λ_ _ h=>hJ LK h) (UI.imp λ_ _ h=>hJ LK h)) Yb (by rw[W7,List.getElem?_append_right (by rw[rs.length];exact Nat.le_refl _),rs.length];simp);rw[hws];have:∀(vs:List DI.D) (n:Nat),fZ (n+vs.length) (.lst .ow [d]) n (vs++[.lst .ow []])=vs++[.lst .ow [d]]:=λvs=>by
    induction vs with
    |nil=>intro n;show(if n=n+0 then _ else _)::fZ _ _ _ []=_;rw[if_pos (by left)];rfl
    |cons v vs ih =>
     intro n;show(if n=n+(vs.length+1)then _ else v)::fZ (n+(vs.length+1)) _ (n+1) (vs++[.lst .ow []])=_;rw[if_neg (by left),show n+(vs.length+1)=n+1+vs.length by left,ih];rfl
   have h0:=this vs 0;rw[Nat.zero_add]at h0;exact h0.symm
  ·exact absurd g3 hn
section
variable {X:Cx}{pins:aj}{σ:St}{H:Hp}{s:Shared}{p b:Addr}{cs:ag}{as:aO}{xs:ae}{ep:Nat}{c:aa}{A:aE}{E:aw}
theorem Fz{d:V}{r:Value}(hu:A.units+2<cLine)(I:Inv X pins σ H s)(h:H p=some (.ext (PJ p cs as xs ep)))(k:eK (aR X.K H) as cs)(hb:jr (aR X.K H) b c)(rd:RelV d r)(hQ:∀w' s',Inv X pins σ H s'->RelV ((bo cs xs c).getD d) w'->Q w' s'):
  wpAny (model X.prog X.w) A (call (.builtin "dict.get") [.ref p,.ref b,r]) Q E s:=by
 obtain⟨zs,o,es,e1,e2,e3,ho,hx,hd,dd,hl,hs⟩:=jN I h k;refine call_meetsIn abk dd.typeIs PySem.F.entry_dict_get (PySem.F.args_dict_get_3 _ _ _) (meetsH_dict_get_default (eF X.prog X.w) p b hs r) ⟨(show A.units+1+1<cLine from hu),c,zs,jU I hb,dd,hQ _ _ (I.tok _) ?_⟩;rw[fc,e1];have hg:=gd (cs:=cs) e3 c;cases q:bo cs xs c with
 |none =>
  rw[q]at hg;rw[kf.none_of hg];exact rd
 |some v =>
  rw[q]at hg;obtain⟨u,qC,ru⟩:=kf.some_of hg;rw[qC];exact ru
theorem vy{v:V}{r:Value}{Q:Unit->Shared->Prop}(hu:A.units+2<cLine)(I:Inv X pins σ H s)(h:H p=some (.ext (PJ p cs as xs ep)))(k:eK (aR X.K H) as cs)(hb:jr (aR X.K H) b c)(rv:RelV v r)(fu:cs.length<sizeLine)
  (hQ:∀gu s',Inv X pins σ (upd H p (.ext (PJ p (aI cs c) (gG cs as c b) (bh cs xs c v) gu))) s'->Q () s') :
  wpAny (model X.prog X.w) A (setItem (.ref p) (.ref b) r) Q E s:=by
 obtain⟨zs,o,es,e1,e2,e3,ho,hx,hd,dd,hl,hs⟩:=jN I h k;have hz:zs.length<=sizeLine:=by rw[<- e1,List.length_map]at hl;exact hl
 refine wpAny_setItem_heap (knd:=eF X.prog X.w) (hsz:=hz) (show A.units+1+1<cLine from hu) (jU I hb) dd λh' PH yD=>?_;obtain⟨gu,I'⟩:=sP (t:=s.toks+(eF X.prog X.w).draws c) I h e1 e2 e3 fu hs rv PH yD;exact hQ gu _ I'
end
theorem yn{x:Str}{p:Pos}{a b:Expr}(hu:X.A.units+2<cLine)(ho:PE X (.Name x p) td)(ha:PA X [a,b] ta)(s1:∀es,starEach (a::es) X.env=(false,eval a X.env)::starEach es X.env)(s2:∀es,starEach (b::es) X.env=(false,eval b X.env)::starEach es X.env)(hl:(p1.endLine==p2.line)=true):
  PE X (.Call (.Attribute (.Name x p) ("get" : Str) p1) [a,b] [] p2) (λσ H Q=>td σ H λv H1=>∃q cs as xs ep,v=.ref q/\H1 q=some (.ext (PJ q cs as xs ep))/\ta σ H1 λys H2=>∃k c z,ys=[.ref k,z]/\H2 q=some (.ext (PJ q cs as xs ep))/\eK (aR X.K H2) as cs/\jr (aR X.K H2) k c/\Q ((bo cs xs c).getD z) H2):=by
 intro pins s σ H Q I h;refine acg rfl (by rw[s1,s2];rfl) hl abz abk PySem.F.type_dict_get (cJ (ho pins s σ H _ I h) λu MW bL=>?_);obtain⟨v,H1,I1,rx,q,cs,as,xs,ep,ex,hd,q1⟩:=bL;subst ex;obtain rfl:u=Value.ref q:=rx;obtain⟨t1,t2⟩:=oZ I1 hd;refine⟨t1,t2,?_⟩;have hA:=ha p2 pins MW σ H1 _ I1 q1;rw[s1]at hA ⊢;refine aa1 (by show(false||(backTo p2 (starEach [b] X.env)).any (·.1))=false;rw[s2];rfl) (abl ?_);refine cJ hA λus s3 bL=>?_;obtain⟨ys,H2,I2,r2,k,c,z,ey,hd2,hk,hb,q2⟩:=bL;subst ey;obtain⟨w1,w2,rfl,MX,Lq⟩:=vals2 r2;cases MX;exact Fz hu I2 hd2 hk hb Lq λw' s4 I4 gy=>⟨_,H2,I4,gy,q2⟩
def oY(xs:ab):O D:=match three xs with
 |some z=>match mM z.1 with
  |some d=>match bO z.2.1 with
   |some c=>if aL anyF d.2=false/\aH anyF z.2.2=false then ok ((bo d.1 d.2 c).getD z.2.2)else none
   |none=>none
  |none=>none
 |none=>none
theorem Av{r:D}(h:oY xs=ok r):∃f cs vs c kd x,xs=[.cL f cs vs,kd,x]/\bO kd=some c/\aL anyF vs=false/\aH anyF x=false/\r=(bo cs vs c).getD x:=by
 unfold oY at h;cases h1:three xs with
 |none=>rw[h1]at h;cases h
 |some z =>
  rw[h1]at h;have h:(match mM z.1 with|some d=>(match bO z.2.1 with|some c=>if aL anyF d.2=false/\aH anyF z.2.2=false then ok ((bo d.1 d.2 c).getD z.2.2)else none|none=>none)|none=>none)=ok r:=h;cases h2:mM z.1 with
  |none=>rw[h2]at h;cases h
  |some d =>
   rw[h2]at h;have h:(match bO z.2.1 with|some c=>if aL anyF d.2=false/\aH anyF z.2.2=false then ok ((bo d.1 d.2 c).getD z.2.2)else none|none=>none)=ok r:=h;cases h3:bO z.2.1 with
   |none=>rw[h3]at h;cases h
   |some c =>
    rw[h3]at h;obtain⟨⟨hf,hx⟩,rfl⟩:=me (show(if aL anyF d.2=false/\aH anyF z.2.2=false then ok ((bo d.1 d.2 c).getD z.2.2)else none)=ok r from h);obtain⟨f,e1⟩:=sS h2;exact⟨f,d.1,d.2,c,z.2.1,z.2.2,by rw[mE h1,e1],h3,hf,hx,rfl⟩
theorem D9{n:Nat}(hΦ:Φ n=oY){sc:Scope}{bl:ak}{k:Nat}(L:PX X sc bl k){e:Expr}(he:iP sc bl e=some args)(hs:kg X F Φ cs args):PE X e (tD X F Φ (.bR n cs))/\PT X e (gh X F Φ (.bR n cs)):=by
 obtain⟨x,p,p1,p2,a,b,rfl,rfl,hl⟩:=nJ he;cases cs with
 |nil=>exact hs.elim
 |cons c0 cs =>
  obtain⟨h0,_,_,yE⟩:=hs;obtain⟨⟨c1,c2,rfl,_,_⟩,pa,s1,s2⟩:=fj yE;have this:PE X (.Call (.Attribute (.Name x p) ("get" : Str) p1) [a,b] [] p2) (tD X F Φ (.bR n [c0,c1,c2])):=by
   refine PE.imp (yn (qB L.room) h0 pa s1 s2 hl) λσ H Q hq=>?_;obtain⟨R,τ,ρ,d,Si,ev,hq⟩:=hq;obtain⟨xs,cc,ev⟩:=aB ev;rw[hΦ]at ev;obtain⟨f,cs,vs,c,kd,y,rfl,Us,hf,hy,rfl⟩:=Av ev;obtain⟨x0,ex,cc⟩:=aB cc;obtain⟨ys,nr,cc⟩:=aB cc;cases cc;refine tD.intro Si ex λv H1 e1 r1=>?_;obtain⟨τ1,f1,q1⟩:=r1;cases q1 with
   |cL hn hk hr =>
    refine⟨_,_,_,_,_,rfl,hn.pat,R,τ,ρ,_,Si.go e1,nr,λus H2 e2 r2=>?_⟩;obtain⟨τ2,f2,q2⟩:=r2;cases q2 with
    |cons Uu t=>cases t with
     |cons hx1 t' =>
      cases t';obtain⟨b',rfl,m7⟩:=l5 Us Uu;refine⟨b',c,_,rfl,e2 _ _ hn.pat,hk.imp λ_ _ h=>aR.same e2 h,m7,?_⟩;refine hq _ H2 (e1.trans e2) ⟨λ_=>none,λ_ _ h=>by simp at h,?_⟩;rcases hZ hr c with ⟨g1,g2⟩|⟨w,d',k',g1,g2,g3,g4⟩
      ·rw[g1,g2];exact dE (T:=aR X.K H2) hx1 hy
      ·rw[g1,g2];exact(dE (N':=nd X.K R (iY (gP X F) τ (gR (.bR n [c0,c1,c2]))) (λ_=>none) H1) (k':=[]) g3 (kP hf _ g4)).imp (λ_ _ h=>aR.same e2 h) λ_ _ _ _ h=>nd.same e2 h
  exact⟨this,cE this λ_=>rfl⟩
def sO(xs:ab):O D:=match three xs with
 |some z=>match z.1 with
  |.cL f cs vs=>match bO z.2.2 with
   |some c=>if bX f=true/\aH anyF z.2.1=false/\aH anyF z.2.2=false/\cs.length<cg then ok (.cL .ow (aI cs c) (bh cs vs c z.2.1))else none
   |none=>none
  |_=>none
 |none=>none
theorem sN{d x y r:D}(h:sO [d,x,y]=ok r):∃cs vs c,d=.cL .ow cs vs/\bO y=some c/\aH anyF x=false/\aH anyF y=false/\cs.length<cg/\r=.cL .ow (aI cs c) (bh cs vs c x):=by
 cases d<;>first|exact nk h | (cases h;done)|skip
 rename_i f cs vs;replace h:(match bO y with|some c=>if bX f=true/\aH anyF x=false/\aH anyF y=false/\cs.length<cg then ok (D.cL .ow (aI cs c) (bh cs vs c x))else none|none=>none)=ok r:=h;cases h3:bO y with
 |none=>rw[h3]at h;exact nk h
 |some c =>
  rw[h3]at h;obtain⟨⟨hf,hx,hy,hl⟩,rfl⟩:=me (show(if bX f=true/\aH anyF x=false/\aH anyF y=false/\cs.length<cg then ok (D.cL .ow (aI cs c) (bh cs vs c x))else none)=ok r from h);cases f<;>first | (cases hf;done)|exact⟨cs,vs,c,rfl,rfl,hx,hy,hl,rfl⟩
theorem D0{x:Str}{p0 pos':Pos}{value i:Expr}{tv to ti:TE}(hu:X.A.units+2<cLine)(hv:PE X value tv)(ho:PE X (.Name x p0) to)(hi:PE X i ti):
  PS X (.Assign [.Subscript (.Name x p0) i pos'] value pos) (λD σ H=>tv σ H λv H1=>to σ H1 λo H2=>ti σ H2 λy H3=>∃q b cs as xs ep c,o=.ref q/\y=.ref b/\H3 q=some (.ext (PJ q cs as xs ep))/\eK (aR X.K H3) as cs/\jr (aR X.K H3) b c/\cs.length<sizeLine /\
   ∀gu,D.nx σ (upd H3 q (.ext (PJ q (aI cs c) (gG cs as c b) (bh cs xs c v) gu)))):=by
 intro pins s σ H D I h;refine wpAny_Assign_Subscript (cJ (hv pins s σ H _ I h) λr s1 ⟨v,H1,I1,rv,q1⟩=>cJ (ho pins s1 σ H1 _ I1 q1) λu s2 ⟨o,H2,I2,rx,q2⟩=>cJ (hi pins s2 σ H2 _ I2 q2) λiv s3 bL=>?_) zX;obtain⟨y,H3,I3,ry,q,b,cs,as,xs,ep,c,eo,ey,hd,hk,hb,hl,q3⟩:=bL;subst eo ey;obtain rfl:u=Value.ref q:=rx;obtain rfl:iv=Value.ref b:=ry;exact vy hu I3 hd hk hb rv hl λgu s4 I4=>⟨σ,_,I4,q3 gu⟩
theorem D3{n:Nat}(hΦ:Φ n=sO){sc:Scope}{bl:ak}{k:Nat}(L:PX X sc bl k)(hN:X.N.Nodup)(qI:∀x,X.fn x=true){x:Str}(he:iN sc bl st=some (.Name x pos,args))
  {i:Nat} (hi:X.N[i]?=some x) (hl:L2.Loc X.env.scope x) (pe:PE X (.Name x pos) (n9 i)) (hs:kg X F Φ cs args):PS X st (km X F Φ (.mut n i cs)):=by
 obtain⟨v,ix,p1,p2,rfl,rfl⟩:=nI he;obtain⟨⟨c1,c2,rfl,h1,h2⟩,_⟩:=fj hs;refine PS.imp (D0 (qB L.room) h1 pe h2) λD σ H hq=>?_;obtain⟨R,τ,ρ,r,Si,ev,hq⟩:=hq;obtain⟨xs,cc,ev⟩:=aB ev;obtain⟨y,ey,cc⟩:=aB cc;obtain⟨ys,nr,cc⟩:=aB cc;cases cc;obtain⟨kd,ek,Fh⟩:=aB nr;cases Fh;have key:∃cs vs c,bO kd=some c/\ρ[i]?=some (some (.cL .ow cs vs))/\aH anyF y=false/\cs.length<cg/\r=(.nx,ρ.set i (some (.cL .ow (aI cs c) (bh cs vs c y)))):=by
  cases hz:aL bp [y,kd]with
  |true =>
   obtain⟨d,d',h⟩:=qi ev hz;rw[hΦ]at h;obtain⟨cs,vs,c,_,_,e2,e3,_⟩:=sN (x:=aU aV y) (y:=aU aV kd) h;have a1:aH bp y=false:=jq y (by rw[<- any_map aV y];exact e2);have a2:aH bp kd=false:=jq kd (by rw[<- any_map aV kd];exact e3);have:aL bp [y,kd]=false:=by show(aH bp y||(aH bp kd||false))=false;rw[a1,a2];rfl
   rw[this]at hz;cases hz
  |false =>
   obtain⟨d,d',h,h',rfl⟩:=l9 ev hz;rw[hΦ]at h';obtain⟨cs,vs,c,rfl,e1,e2,_,e3,rfl⟩:=sN h';exact⟨cs,vs,c,e1,h,e2,e3,rfl⟩
 obtain⟨cs,vs,c,Ut,ho,hf,hc,rfl⟩:=key;obtain⟨p,as,zs,ep,hv,hd,ht,hk,rs⟩:=Si.Ny ho;refine tD.intro Si ey λu H1 e1 ru=>⟨.ref p,hv,tD.intro (Si.go e1) ek λw H2 e2 gy=>?_⟩
 obtain⟨τ1,f1,q1⟩:=ru;obtain⟨τ2,f2,q2⟩:=gy;obtain⟨b,rfl,hb⟩:=l5 Ut q2;have es:=e1.trans e2;have lC:=Si.go es;have hd2:=es _ _ hd;have lQ:cg=1000000:=rfl;have hz:sizeLine=16777216:=aaP;refine⟨p,b,cs,as,zs,ep,c,rfl,rfl,hd2,hk.imp λ_ _ h=>aR.same es h,hb,by left,λgu=>?_⟩;have hn:dN H2 p (.ej cs as zs ep):=hd2;have rk:gn X R τ H2 u y:=jL ((dE (N':=nd X.K R (λ_=>False) τ H1) (k':=[]) q1 hf).imp (λ_ _ h=>aR.same e2 h) λ_ _ _ _ h=>nd.same e2 h) hf;obtain⟨τ3,oD⟩:=lC.Iu (m:=0) (n':=.ej (aI cs c) (gG cs as c b) (bh cs zs c u) gu) (o:=.ext (PJ p (aI cs c) (gG cs as c b) (bh cs zs c u) gu)) (d1:=.cL .ow (aI cs c) (bh cs vs c y)) (xs':=bh cs zs c u) (ds':=bh cs vs c y) ho hv hn ht (rs.imp (λ_ _ h=>aR.same es h) λ_ _ _ _ h=>nd.same es h) rk aS
  (λhN r=>.cL hN (kO ((hk.imp λ_ _ h=>aR.same es h).imp λ_ _ h=>hJ hn h) (hb.imp λ_ _ h=>hJ hn h)) r) (λrs r=>sI (λk=>dE r hf) rs)
 exact hq σ _ R τ3 oD (gC lC es (λ_ h=>h) hn ht)
def La(ds:ab)(j:Nat)(e:D):Option (ab):=match ds[j]? with
 |some d=>match wK d with
  |some gs=>if gs.length<cg/\aH anyF e=false then some (fZ j (.lst .ow (gs++[e])) 0 ds)else none
  |none=>none
 |none=>none
theorem K_{es:ab}{j:Nat}{e:D}(h:La ds j e=some es):∃gs,ds[j]?=some (.lst .ow gs)/\gs.length<cg/\aH anyF e=false/\es=fZ j (.lst .ow (gs++[e])) 0 ds:=by
 unfold La at h;cases h1:ds[j]? with
 |none=>rw[h1]at h;exact nk h
 |some d =>
  rw[h1]at h;have h:(match wK d with|some gs=>if gs.length<cg/\aH anyF e=false then some (fZ j (.lst .ow (gs++[e])) 0 ds)else none|none=>none)=some es:=h;cases h2:wK d with
  |none=>rw[h2]at h;exact nk h
  |some gs =>
   rw[h2]at h;have h:(if gs.length<cg/\aH anyF e=false then some (fZ j (.lst .ow (gs++[e])) 0 ds)else none)=some es:=h;by_cases hc:gs.length<cg/\aH anyF e=false
   ·rw[if_pos hc]at h;cases h;exact⟨gs,by rw[qf h2],hc.1,hc.2,rfl⟩
   ·rw[if_neg hc]at h;exact nk h
def Ru(ds:ab)(e:D):D->O D
 |.int k=>if 0<=k then(match La ds k.toNat e with|some es=>ok (.lst .ow es)|none=>none)else none
 |_=>none
theorem Lb{e y d:D}(h:Ru ds e y=ok d):∃(k:Int) (gs:ab),y=.int k/\0<=k/\ds[k.toNat]?=some (.lst .ow gs)/\gs.length<cg/\aH anyF e=false/\d=.lst .ow (fZ k.toNat (.lst .ow (gs++[e])) 0 ds):=by
 cases y<;>first|exact nk h | (cases h;done)|skip
 rename_i k;replace h:(if 0<=k then(match La ds k.toNat e with|some es=>ok (D.lst .ow es)|none=>none)else none)=ok d:=h;by_cases hk:0<=k
 ·rw[if_pos hk]at h;cases h1:La ds k.toNat e with
  |none=>rw[h1]at h;exact nk h
  |some es =>
   rw[h1]at h;cases h;obtain⟨gs,a,b,c,rfl⟩:=K_ h1;exact⟨k,gs,rfl,hk,a,b,c,rfl⟩
 ·rw[if_neg hk]at h;exact nk h
def ze(xs:ab):O D:=match three xs with
 |some z=>match wK z.1 with
  |some ds=>Ru ds z.2.2 z.2.1
  |none=>none
 |none=>none
theorem xX{x y e d:D}(h:ze [x,y,e]=ok d):∃(ds:ab) (k:Int) (gs:ab),x=.lst .ow ds/\y=.int k/\0<=k/\ds[k.toNat]?=some (.lst .ow gs)/\gs.length<cg/\aH anyF e=false/\d=.lst .ow (fZ k.toNat (.lst .ow (gs++[e])) 0 ds):=by
 replace h:(match wK x with|some ds=>Ru ds e y|none=>none)=ok d:=h;cases h1:wK x with
 |none=>rw[h1]at h;exact nk h
 |some ds =>
  rw[h1]at h;obtain⟨k,gs,a⟩:=Lb (show Ru ds e y=ok d from h);exact⟨ds,k,gs,qf h1,a⟩
def ra(_:Scope)(_:ak)(st:Stmt):Option (Expr×au):=match i4 ("append" : Str) st with
 |some z=>match one z.2 with
  |some e=>match gU z.1 with
   |some y=>some (y.1,[y.2,e])
   |none=>none
  |none=>none
 |none=>none
theorem y4{sc:Scope}{bl:ak}(h:ra sc bl st=some (o,args)):∃k e p0 p1 p2 pos,args=[k,e]/\st=.Expr (.Call (.Attribute (.Subscript o k p0) ("append" : Str) p1) [e] [] p2) pos/\(p1.endLine==p2.line)=true:=by
 unfold ra at h;cases h1:i4 ("append" : Str) st with
 |none=>rw[h1]at h;exact nk h
 |some z =>
  obtain⟨b,as⟩:=z;rw[h1]at h;replace h:(match one as with|some e=>(match gU b with|some y=>some (y.1,[y.2,e])|none=>none)|none=>none)=some (o,args):=h;cases h2:one as with
  |none=>rw[h2]at h;exact nk h
  |some e =>
   rw[h2]at h;obtain rfl:=cf h2;replace h:(match gU b with|some y=>some (y.1,[y.2,e])|none=>none)=some (o,args):=h;cases h3:gU b with
   |none=>rw[h3]at h;exact nk h
   |some y =>
    rw[h3]at h;cases h;obtain⟨p0,rfl⟩:=gw h3;obtain⟨p1,p2,pos,rfl,hl⟩:=jD h1;exact⟨_,e,p0,p1,p2,pos,rfl,rfl,hl⟩
theorem Lc{n:Nat}(hΦ:Φ n=ze){sc:Scope}{bl:ak}{k:Nat}(L:PX X sc bl k)(hN:X.N.Nodup)(qI:∀x,X.fn x=true){x:Str}(he:ra sc bl st=some (.Name x pos,args))
  {i:Nat} (hi:X.N[i]?=some x) (hl:L2.Loc X.env.scope x) (pe:PE X (.Name x pos) (n9 i)) (hs:kg X F Φ cs args):PS X st (km X F Φ (.mut n i cs)):=by
 obtain⟨ke,ve,p0,p1,p2,pos',rfl,rfl,qG⟩:=y4 he;obtain⟨⟨c1,c2,rfl,h1,h2⟩,_,s1,s2⟩:=fj hs;refine PS.imp (jM (wI aaZ aa8 abx kM (sR qx pe h1 hs.2.2.1) (cA h2 dF (s2 _)) (hfew:=by rw[s2];rfl) (hline:=qG) (hs:=s2 _))) λD σ H hq=>?_;obtain⟨R,τ,ρ,r,Si,ev,hq⟩:=hq;obtain⟨xs,cc,ev⟩:=aB ev;obtain⟨y,ey,cc⟩:=aB cc;obtain⟨ys,nr,cc⟩:=aB cc;cases cc;obtain⟨d,ed,Fh⟩:=aB nr;cases Fh;have key:∃(k:Int) (ds gs:List DI.D),y=.int k/\ρ[i]?=some (some (.lst .ow ds))/\0<=k/\ds[k.toNat]?=some (.lst .ow gs)/\gs.length<cg/\aH anyF d=false/\r=(.nx,ρ.set i (some (.lst .ow (fZ k.toNat (.lst .ow (gs++[d])) 0 ds)))):=by
  cases hz:aL bp [y,d]with
  |true =>
   obtain⟨x0,d',h⟩:=qi ev hz;rw[hΦ]at h;obtain⟨ds,k,gs,_,h3,_,_,_,h4,_⟩:=xX (x:=x0) (y:=aU aV y) (e:=aU aV d) h;have a1:aH bp d=false:=jq d (by rw[<- any_map aV d];exact h4);have a2:aH bp y=false:=jq y (by rw[<- any_map aV y,h3];rfl);have:aL bp [y,d]=false:=by show(aH bp y||(aH bp d||false))=false;rw[a1,a2];rfl
   rw[this]at hz;cases hz
  |false =>
   obtain⟨x0,d',h,h',rfl⟩:=l9 ev hz;rw[hΦ]at h';obtain⟨ds,k,gs,rfl,h3,h4,h5,h6,h7,rfl⟩:=xX h';exact⟨k,ds,gs,h3,h,h4,h5,h6,h7,rfl⟩
 obtain⟨k,ds,gs,rfl,ho,hk,hg,yH,UB,rfl⟩:=key;obtain⟨v,hv,_⟩:=Si.rep i _ ho;refine⟨v,hv,tD.intro Si ey λu H1 e1 ru=>?_⟩;cases ru.isInt;have lU:=Si.go e1;obtain⟨a,xs,GV,ha,Wx,Oq,rs⟩:=lU.own ho;rw[hv]at GV;cases GV;obtain⟨w,hw,gy⟩:=rs.get hg;rw[Nat.zero_add]at gy;obtain⟨p,zs,rfl,hp,rz⟩:=gy.n6;have fu:k.toNat<xs.length:=by
  by_cases z:k.toNat<xs.length
  ·exact z
  ·rw[List.getElem?_eq_none (by left)]at hw;cases hw
 have h4:C2 xs k=some (.ref p):=by
  unfold C2 L2.qz;rw[if_pos hk,if_pos (by left)];exact hw
 have Y9:cg=1000000:=rfl;have GS:sizeLine=16777216:=aaP;refine⟨a,xs,k,_,rfl,rfl,cX.of ha,h4,.inl ⟨rfl,_,cX.of hp.1⟩,tD.intro lU ed λu2 H2 e2 MY=>?_⟩;obtain⟨τ2,f2,q2⟩:=MY;have lC:=lU.go e2;have ER:H2 p=some (.lst zs):=e2 _ _ hp.1;have uQ:az (aR X.K H2) (nd X.K R (λ_=>False) τ H2) [i] 0 xs ds:=rs.imp (λ_ _ h=>aR.same e2 h) λ_ _ _ _ h=>nd.same e2 h;have X9:az (aR X.K H2) (nd X.K R (λ_=>False) τ H2) [k.toNat,i] 0 zs gs:=rz.imp (λ_ _ h=>aR.same e2 h) λ_ _ _ _ h=>nd.same e2 h;refine⟨p,zs,u2,rfl,rfl,ER,by rw[rz.length];left,?_⟩;refine hq σ _ R τ (lC.Ri ho ER hp.2 hv (.lst (lC.Es (n:=.l xs) (f:=.ow) ER hp.2 (λz=>?_) ⟨e2 _ _ ha,Oq⟩) (az.fZ (λ_ _ h=>eu ER h) (λc m a n f hm h=>lC.Es ER hp.2 (λz=>?_) h) uQ λm w Oj hm=>?_))) (gC (n:=.l _) lC (e1.trans e2) (λ_ h=>h) ER hp.2)
 ·have:=aaJ List.length z;simp at this
 ·have:=aaJ List.reverse z;simp at this;exact hm this.1
 ·rw[Nat.zero_add]at hm;subst hm;rw[hw]at Oj;cases Oj;refine .lst ⟨aS,hp.2⟩ (az.si (az.child (λ_ _ h=>eu ER h) (λc n a ys f h=>lC.Es ER hp.2 (λz=>?_) h) X9) ((dE (N':=nd X.K R (λ_=>False) τ (upd H2 p (.lst (zs++[u2])))) q2 UB).imp (q:=(0+gs.length)::[k.toNat,i]) (λ_ _ h=>eu ER h) λ_ _ _ _ h=>h));have:=aaJ List.length z;simp at this
end DI
end
section
namespace DI
open PySem (Str)
section
variable {α:Type}
theorem uJ(f g:α->Rat):∀l:List α,(l.map λx=>f x+g x).sum=(l.map f).sum+(l.map g).sum
 |[]=>by show(0:Rat)=0+0;grind
 |x::l=>by rw[List.map_cons,List.map_cons,List.map_cons,List.sum_cons,List.sum_cons,List.sum_cons,uJ f g l];grind
theorem lZ{f:α->Rat}:∀{l:List α},(∀x∈l,f x=0)->(l.map f).sum=0
 |[],_=>rfl
 |x::l,h=>by rw[List.map_cons,List.sum_cons,h x List.mem_cons_self,lZ λy hy=>h y (List.mem_cons_of_mem _ hy)];grind
theorem z6{f:α->Rat}:∀{l:List α},(∀x∈l,0<=f x)->0<=(l.map f).sum
 |[],_=>Rat.le_refl
 |x::l,h=>by
  rw[List.map_cons,List.sum_cons];have h1:=h x aaf;have h2:=z6 λy hy=>h y (aad _ hy);grind
theorem Gr{f:α->Rat}:∀{l:List α} {y:α},(∀x∈l,0<=f x)->y∈l->f y<=(l.map f).sum
 |x::l,y,h,hy=>by
  rw[List.map_cons,List.sum_cons];have h1:=h x aaf;have h2:=z6 λy hy=>h y (aad _ hy);rcases List.mem_cons.mp hy with rfl|hy
  ·grind
  ·have:=Gr (λy hy=>h y (aad _ hy)) hy;grind
theorem z9{β:Type}[DecidableEq β](y:β)(F:β->Rat):∀{cs:List β},cs.Nodup->(cs.map λc=>if y=c then F c else 0).sum=if y∈cs then F y else 0
 |[],_=>by simp
 |c::cs,h=>by
  obtain⟨h1,h2⟩:=List.nodup_cons.mp h;rw[List.map_cons,List.sum_cons,z9 y F h2];by_cases e:y=c
  ·subst e;rw[if_pos rfl,if_neg h1,if_pos List.mem_cons_self];grind
  ·rw[if_neg e];by_cases m:y∈cs
   ·rw[if_pos m,if_pos (List.mem_cons_of_mem _ m)];grind
   ·rw[if_neg m,if_neg λz=>(List.mem_cons.mp z).elim e m];grind
theorem wj{β:Type}[DecidableEq β](s:α->β)(f:α->Rat)(F:β->Rat){cs:List β}(hn:cs.Nodup):∀(l:List α),(∀x∈l,s x∈cs)->(cs.map λc=>F c*(l.map λx=>if s x=c then f x else 0).sum).sum=(l.map λx=>F (s x)*f x).sum
 |[],_=>by
  rw[List.map_nil,List.sum_nil];exact lZ λc _=>by simp
 |x::l,h=>by
  have ih:=wj s f F hn l λy hy=>h y (aad _ hy);rw[List.map_cons,List.sum_cons,<- ih];have e1:(cs.map λc=>F c*((x::l).map λx=>if s x=c then f x else 0).sum).sum=(cs.map λc=>(if s x=c then F c*f x else 0)+F c*(l.map λx=>if s x=c then f x else 0).sum).sum:=by
   congr 1;refine aak λc _=>?_;rw[List.map_cons,List.sum_cons];by_cases e:s x=c
   ·rw[if_pos e,if_pos e];grind
   ·rw[if_neg e,if_neg e];grind
  rw[e1,uJ,z9 (s x) (λc=>F c*f x) hn,if_pos (h x List.mem_cons_self)]
end
def aZ(ks:ag)(rs:aD):ag:=rs.foldl (λks r=>aI ks (sortI r.2)) ks
theorem gi:∀{rs:aD} {ks:ag} {c:aa},c∈aZ ks rs ↔ c∈ks\/∃r∈rs,sortI r.2=c
 |[],ks,c=>by simp[aZ]
 |r::rs,ks,c=>by
  show c∈aZ (aI ks (sortI r.2)) rs ↔ _;rw[gi,bQ];constructor
  ·rintro ((h|h)|⟨s,h1,h2⟩)
   ·exact .inl h
   ·exact .inr ⟨r,aaf,h.symm⟩
   ·exact .inr ⟨s,aad _ h1,h2⟩
  ·rintro (h|⟨s,h1,h2⟩)
   ·exact .inl (.inl h)
   ·rcases List.mem_cons.mp h1 with rfl|h1
    ·exact .inl (.inr h2.symm)
    ·exact .inr ⟨s,h1,h2⟩
theorem qq:∀{rs:aD} {ks:ag},ks.Nodup->(aZ ks rs).Nodup
 |[],_,h=>h
 |r::rs,ks,h=>qq (rs:=rs) (jT h _)
theorem jP:∀{rs:aD} {ks:ag},(aZ ks rs).length<=ks.length+rs.length
 |[],ks=>aai _
 |r::rs,ks=>by
  have:=jP (rs:=rs) (ks:=aI ks (sortI r.2));have h:=cZ ks (sortI r.2);show(aZ (aI ks (sortI r.2)) rs).length<=_;rw[List.length_cons];left
def dR(rs:aD)(c:aa):Rat:=(rs.map λr=>if sortI r.2=c then r.1 else 0).sum
def jd(b:Nat)(rs:aD)(c:aa):Int:=(rs.map λr=>if sortI r.2=c then bz b r.1 else 0).sum
def eN(rs:aD):aD:=(bc (aZ [] rs)).map λc=>(dR rs c,c)
theorem vU{b:Nat}:∀{rs:aD} (c:aa),(∀r∈rs,r.1.den∣b)->((jd b rs c:Int):Rat)=dR rs c*(b:Rat)
 |[],c,_=>by show((0:Int):Rat)=0*_;rw[Rat.zero_mul];rfl
 |r::rs,c,h=>by
  have ih:=vU (rs:=rs) c λs hs=>h s (aad _ hs);have e1:jd b (r::rs) c=(if sortI r.2=c then bz b r.1 else 0)+jd b rs c:=rfl;have e2:dR (r::rs) c=(if sortI r.2=c then r.1 else 0)+dR rs c:=rfl;rw[e1,e2,Rat.intCast_add,ih];by_cases e:sortI r.2=c
  ·rw[if_pos e,if_pos e,fg (h r List.mem_cons_self)];grind
  ·rw[if_neg e,if_neg e];have:((0:Int):Rat)=0:=rfl;rw[this];grind
theorem Rw.X7{n:Nat}{l:aa}(h:Rw n l):C3 n (sortI l):=by
 have hp:=sortI_perm l;have hle:=sh l;have zk:(sortI l).Nodup:=hp.nodup_iff.mpr h.1;refine⟨?_,λx hx=>h.2.2 x (hp.mem_iff.mp hx)⟩;exact(List.pairwise_and_iff.mpr ⟨hle,zk⟩).imp λ⟨a,b⟩=>by left
theorem KZ{W:Nat}{q:Rat}(h:∃z:Int,q*(W:Rat)=(z:Rat))(hW:0<W):q.den∣W:=by
 obtain⟨z,e⟩:=h;have hq:q=Rat.divInt z W:=by
  rw[Rat.divInt_eq_div,<- e,Rat.intCast_natCast];have:=ib hW;grind
 rw[hq];have:=nG (t:=z) (b:=(W:Int)) (by left);simpa using this
section
variable {n:Nat}{rs:aD}(I:Dp (Rw n) 6 n rs)
include I
theorem nK{c:aa}(hc:c∈aZ [] rs):0<dR rs c:=by
 rcases gi.mp hc with h|⟨r,hr,e⟩
 ·exact nomatch h
 ·have h0:∀s∈rs,0<=(if sortI s.2=c then s.1 else 0):=λs hs=>by
   have:=I.pos s hs;split
   ·exact abZ this
   ·exact Rat.le_refl
  have h1:=Gr h0 hr;rw[if_pos e]at h1;have h2:=I.pos r hr;unfold dR;grind
theorem Ha(c:aa):dR rs c<=1:=by
 have h1:=I.one;have h2:(rs.map (·.1)).sum=dR rs c+(rs.map λr=>if sortI r.2=c then 0 else r.1).sum:=by
  unfold dR;rw[<- uJ];congr 1;refine aak λr _=>?_;split<;>grind
 have h3:0<=(rs.map λr=>if sortI r.2=c then 0 else r.1).sum:=z6 λr hr=>by
  have:=I.pos r hr;split
  ·exact Rat.le_refl
  ·exact abZ this
 grind
theorem BX(Fi:nW rs):Dr 6 n (eN rs)/\nW (eN rs):=by
 have hp:(bc (aZ [] rs)).Perm (aZ [] rs):=aay _ _;have hl:(eN rs).length<=rs.length:=by
  have:=jP (rs:=rs) (ks:=[]);unfold eN;rw[List.length_map,hp.length_eq];simpa using this
 obtain⟨W,w0,w1,w2⟩:=Fi;have OR:∀c,(dR rs c).den∣W:=λc=>KZ ⟨jd W rs c,(vU c w2).symm⟩ w0;have mem:∀r∈eN rs,∃c∈aZ [] rs,r=(dR rs c,c):=λr hr=>by
  obtain⟨c,hc,rfl⟩:=List.mem_map.mp hr;exact⟨c,hp.mem_iff.mp hc,rfl⟩
 have hF:nW (eN rs):=⟨W,w0,w1,λr hr=>by obtain⟨c,_,rfl⟩:=mem r hr;exact OR c⟩
 refine⟨⟨I.n1,I.n2,aax (aaE _ (by left)) I.kr,.inr hF,by have:=I.len;left,λr hr=>?_,λr hr=>?_,λr hr=>?_,?_,?_⟩,hF⟩
 ·obtain⟨c,hc,rfl⟩:=mem r hr;rcases gi.mp hc with h|⟨s,hs,rfl⟩
  ·exact nomatch h
  ·exact(I.lot s hs).X7
 ·obtain⟨c,hc,rfl⟩:=mem r hr;exact nK I hc
 ·obtain⟨c,hc,rfl⟩:=mem r hr;have h1:=uV (Ha I c);have h2:=AL (abZ (nK I hc));have h3:=abc w0 (OR c);exact⟨by show(dR rs c).num.natAbs<64;left,by show(dR rs c).den<64;left⟩
 ·have e:(eN rs).map (·.1)=(bc (aZ [] rs)).map λc=>1*dR rs c:=by
   unfold eN;rw[List.map_map];exact aak λc _=>by show dR rs c=1*dR rs c;rw[Rat.one_mul]
  rw[e];have h:=wj (λr:Row=>sortI r.2) (λr=>r.1) (λ_=>1) (hp.nodup_iff.mpr (qq (rs:=rs) aaQ)) rs λr hr=>hp.mem_iff.mpr (gi.mpr (.inr ⟨r,hr,rfl⟩));unfold dR;rw[h];have e2:(rs.map λr=>1*r.1)=rs.map (·.1):=aak λr _=>Rat.one_mul _;rw[e2];exact I.one
 ·have e:(eN rs).map (·.2)=bc (aZ [] rs):=by
   unfold eN;rw[List.map_map];exact(aak λ_ _=>rfl).trans (List.map_id _)
  rw[e];exact gx (qq aaQ)
end
noncomputable def Dz:ah:=[.asg (.nm 5) (.bf .tuple1 [(.bf .cN [(.v 4)])]),.mut 1033 2 [(.bin .add (.bR 1031 [(.v 2),(.v 5),(.int 0)]) (.v 3)),(.v 5)]]
def FR:ah:=[.ex (.call 73 [(.v 0)]),.asg (.nm 1) (.call 14 [(.ix (.v 0) (.int 1))]),.asg (.nm 2) (.bR 1030 []),.fr (.tp [3,4]) (.seq (.ix (.v 1) (.int 1))) Dz,.ret (.call 18 [(.ix (.v 0) (.int 0)),(.v 2),(.ix (.v 1) (.int 0))])]
def CB(m:aC):Prop:=∀n rs,Dp (Rw n) 6 n rs->nW rs->m [bN n rs]=ok (f_ .ow n (eN rs))
theorem xr(Φ:a_)(P:CJ Φ)(b:Nat)(c0 c1:aJ):∀(l:aD) (ks:ag) (w:aa->Int) (c3 c4 c5:aJ),(∀r∈l,r.2.length<=12)->ks.length+l.length<900->(∀c,c∉ks->w c=0) ->
  ∃FO P0 FN,dJ (λd ρ=>cy (.tp [3,4]) d ρ) (λρ=>bA Φ Dz ρ) (ur b l) [c0,c1,some (mG .ow ks w),c3,c4,c5]=ok (.nx,[c0,c1,some (mG .ow (aZ ks l) λc=>w c+jd b l c),FO,P0,FN])
 |[],ks,w,c3,c4,c5,_,_,_=>⟨c3,c4,c5,by
   have:(λc=>w c+jd b [] c)=w:=funext λc=>by show w c+0=w c;left
   rw[this];rfl⟩
 |r::l,ks,w,c3,c4,c5,hr,hl,hz=>by
  rw[List.length_cons]at hl;have vq:=hr r aaf;have g1:=λf=>Mu P (e:=D.int) Gv f ks w 0 (sortI r.2) (hz _);have g2:=zL P (ks:=ks) (by left) w (sortI r.2) (bz b r.1);have hk:=cZ ks (sortI r.2);obtain⟨d3,d4,d5,ih⟩:=xr Φ P b c0 c1 l (aI ks (sortI r.2)) (bZ w (sortI r.2) (bz b r.1)) (some (.int (bz b r.1))) (some (.tup (af r.2))) (some (.tup (af (sortI r.2)))) (λs hs=>hr s (aad _ hs)) (by left) (λc hc=>by
   unfold bZ;rw[if_neg λz=>hc (bQ.mpr (.inr z))];exact hz c λz=>hc (bQ.mpr (.inl z)))
  have ef:(λc=>bZ w (sortI r.2) (bz b r.1) c+jd b l c)=λc=>w c+jd b (r::l) c:=funext λc=>by
   have e:jd b (r::l) c=(if sortI r.2=c then bz b r.1 else 0)+jd b l c:=rfl;rw[e];unfold bZ;by_cases z:c=sortI r.2
   ·rw[if_pos z,if_pos z.symm];left
   ·rw[if_neg z,if_neg (Ne.symm z)];left
  rw[ef]at ih;have es:nZ .cN [.tup (af r.2)]=ok (.lst .ow (af (sortI r.2))):=qR (by left);have et:nZ .tuple1 [.lst .ow (af (sortI r.2))]=ok (.tup (af (sortI r.2))):=by
   show ok (D.tup (aA bj (af (sortI r.2))))=_;rw[cF]
  refine⟨d3,d4,d5,dj (x:=.tup [.int (bz b r.1),.tup (af r.2)]) (ρ1:=[c0,c1,some (mG .ow ks w),some (.int (bz b r.1)),some (.tup (af r.2)),c5]) (by simp) (ρ2:=[c0,c1,some (mG .ow (aI ks (sortI r.2)) (bZ w (sortI r.2) (bz b r.1))),some (.int (bz b r.1)),some (.tup (af r.2)),some (.tup (af (sortI r.2)))]) ?_ ih⟩;have x1:=kv (Φ:=Φ) (p:=1033) (i:=2) (es:=[(.bin .add (.bR 1031 [(.v 2),(.v 5),(.int 0)]) (.v 3)),(.v 5)]) (ρ:=[c0,c1,some (mG .ow ks w),some (.int (bz b r.1)),some (.tup (af r.2)),some (.tup (af (sortI r.2)))]) (xs:=[.int (w (sortI r.2)+bz b r.1),.tup (af (sortI r.2))]) (by
   have m:=ql bj .ow ks w;have ZA:Φ 1031 [mG .al ks w,.tup (af (sortI r.2)),.int 0]=ok (.int (w (sortI r.2))):=g1 .al;simp[m,bj,ZA]) (by simp) rfl g2
  simp only[List.set]at x1;have a1:jh Φ (.asg (.nm 5) (.bf .tuple1 [(.bf .cN [(.v 4)])])) [c0,c1,some (mG .ow ks w),some (.int (bz b r.1)),some (.tup (af r.2)),c5]=ok (.nx,[c0,c1,some (mG .ow ks w),some (.int (bz b r.1)),some (.tup (af r.2)),some (.tup (af (sortI r.2)))]):=by
   simp[es,et]
  rw[Dz,bK,a1];show bA Φ [.mut 1033 2 _] _=_;rw[bK,x1];rfl
theorem Sg(Φ:a_)(P:CJ Φ)(U2:kX (Φ 14))(Zw:Hn (Φ 18))(Zp:CD (Φ 73)):CB (mk Φ 1 6 FR):=by
 intro n rs I Fi;have e1:=Zp 6 n rs I;have e2:=U2 rs 6 I.HW;obtain⟨b0,b1,b2⟩:=I.bot;have hf:=I.kr;have w2:∀r∈rs,r.1.den∣bW (eJ rs):=λr hr=>b2 _ (aav hr);generalize bW (eJ rs)=b at *;have Ur:∀r∈rs,r.2.length<=12:=λr hr=>aax (I.lot r hr).2.1 I.n2;have Um:=jP (rs:=rs) (ks:=[]);have hp:(bc (aZ [] rs)).Perm (aZ [] rs):=aay _ _;obtain⟨c3,c4,c5,el⟩:=xr Φ P b (some (bN n rs)) (some (.tup [.int b,.lst .fz (ur b rs)])) rs [] (λ_=>0) none none none Ur (by simp;left) (λ_ _=>rfl);have ew:(λc=>(0:Int)+jd b rs c)=jd b rs:=funext λc=>by left
 rw[ew]at el;have e3:=Zw .fz n (aZ [] rs) ((aZ [] rs).map (jd b rs)) b (by simp) (by simp at Um;left) (by left) (aaj (show(b:Int).natAbs<2 ^ 61 by simpa using b1) (aar (by decide) (by decide)));have ed:vz (aZ [] rs) ((aZ [] rs).map (jd b rs)) b=eN rs:=by
  have hg:∀c∈bc (aZ [] rs),bY (aZ [] rs) ((aZ [] rs).map (jd b rs)) c=jd b rs c:=λc hc=>by
   unfold bY;rw[fB,if_pos (hp.mem_iff.mp hc)];rfl
  have hq:∀c∈bc (aZ [] rs),0<jd b rs c/\Rat.divInt (jd b rs c) b=dR rs c:=λc hc=>by
   have ph:=nK I (hp.mem_iff.mp hc);have ht:=vU c w2;have hb:=ib b0;have m7:(0:Rat)<(b:Rat):=by exact_mod_cast b0
   refine⟨?_,?_⟩
   ·have:(0:Rat)<((jd b rs c:Int):Rat):=by rw[ht];exact Rat.mul_pos ph m7
    exact_mod_cast this
   ·rw[Rat.divInt_eq_div,ht,Rat.intCast_natCast];grind
  unfold vz eN;rw[List.filter_eq_self.mpr λc hc=>by rw[hg c hc];exact decide_eq_true (hq c hc).1];exact aak λc hc=>by rw[hg c hc,(hq c hc).2]
 rw[ed]at e3;have e3:Φ 18 [.int n,mG .fz (aZ [] rs) (jd b rs),.int b]=ok (f_ .ow n (eN rs)):=by
  have:af ((aZ [] rs).map (jd b rs))=(aZ [] rs).map λk=>.int (jd b rs k):=by unfold af;rw[List.map_map];rfl
  rw[this]at e3;exact e3
 have m1:aU aV (bN n rs)=bN n rs:=by simp[bN]
 have m2:aU bj (bN n rs)=bN n rs:=by simp[bN]
 have hd:bN n rs=.tup [.int n,.lst .fz (bU rs)]:=rfl;have x0:rL (bN n rs) (.int 0)=ok (.int n):=by rw[hd];simp
 have x1:rL (bN n rs) (.int 1)=ok (.lst .fz (bU rs)):=by rw[hd];simp
 have e0:Φ 1030 []=ok (mG .ow [] λ_=>0):=by rw[P.xb];rfl
 have hit:cM Φ (.seq (.ix (.v 1) (.int 1))) [some (bN n rs),some (.tup [.int b,.lst .ow (ur b rs)]),some (mG .ow [] λ_=>0),none,none,none]=ok (ur b rs,[some (bN n rs),some (.tup [.int b,.lst .fz (ur b rs)]),some (mG .ow [] λ_=>0),none,none,none]):=by
  rw[Be (f:=.al) (ds:=ur b rs) (by simp)];simp[gR]
 have OO:=eU (Φ:=Φ) (t:=.tp [3,4]) (b:=Dz) hit el;have o2:∀ks w,aH bp (mG .ow ks w)=false:=λks w=>EZ _ _ _ _;have o3:∀f ks w,aU bj (mG f ks w)=mG (bj f) ks w:=λf ks w=>ql _ _ _ _;have o4:∀f ks w,aU aV (mG f ks w)=mG (aV f) ks w:=λf ks w=>ql _ _ _ _;simp[mk_eq,FR,m1,m2,x0,x1,e0,e1,e2,o2,OO,o3,o4,bj,aV,e3,f_]
variable {Φ:a_}{ρ:ba}
theorem Ma{p i:Nat}{k e:CE}{kd d x d':D}(h1:bC Φ k ρ=ok kd)(h2:bC Φ e (ρ.set i none)=ok d)(h3:ρ[i]?=some (some x))(h4:aH anyF kd=false)(h5:aH anyF d=false)(h6:Φ p [x,kd,d]=ok d'):jh Φ (.mu2 p i k e) ρ=ok (.nx,ρ.set i (some d')):=by
 show bd (bC Φ k ρ) (λkd=>bd (bC Φ e (ρ.set i none)) λd=>AY Φ p i ρ kd d)=_;rw[h1,cC,h2,cC];unfold AY;rw[h3];show(if aH anyF kd=false/\aH anyF d=false then bd (Φ p [x,kd,d]) λd'=>ok (Fo.nx,ρ.set i (some d'))else none)=_;rw[if_pos ⟨h4,h5⟩,h6];rfl
def o5(f:Fl)(ks:ag)(g:aa->av):D:=.cL f ks (ks.map λk=>.lst f (bI (g k)))
theorem wR(m:Fl->Fl)(f:Fl)(ks:ag)(g:aa->av):aU m (o5 f ks g)=o5 (m f) ks g:=by
 show D.cL (m f) ks (aA m (ks.map λk=>.lst f (bI (g k))))=_;rw[aY,List.map_map];congr 1;exact aak λk _=>by show aU m (.lst f (bI (g k)))=_;simp
noncomputable def fI(g:aa->av)(c:aa)(q:Rat):aa->av:=λk=>if k=c then g k++[q]else g k
theorem sA(g:aa->av)(c:aa)(q:Rat)(hg:(g c).length<cg):∀ks:ag,ks.Nodup->(c∉ks->g c=[])->kH ks (ks.map λk=>.lst .ow (bI (g k))) c (qD q)=some ((aI ks c).map λk=>.lst .ow (bI (fI g c q k)))
 |[],_,h0=>by
  have e:aI [] c=[c]:=by unfold aI;rw[if_neg (by simp)];rfl
  have e2:fI g c q c=[q]:=by unfold fI;rw[if_pos rfl,h0 (by simp)];rfl
  rw[e,List.map_cons,e2];rfl
 |k::ks,hn,h0=>by
  obtain⟨h1,h2⟩:=List.nodup_cons.mp hn;show(if k=c then(match wK (.lst .ow (bI (g k)))with|some gs=>if gs.length<cg then some (.lst .ow (gs++[qD q])::ks.map λk=>.lst .ow (bI (g k)))else none|none=>none)else(kH ks (ks.map λk=>.lst .ow (bI (g k))) c (qD q)).map (D.lst .ow (bI (g k)) :: ·))=_;by_cases e:k=c
  ·subst e;rw[if_pos rfl];show(if (bI (g k)).length<cg then some (D.lst .ow (bI (g k)++[qD q])::ks.map λk=>.lst .ow (bI (g k)))else none)=_;rw[if_pos (by simpa using hg)];have ek:aI (k::ks) k=k::ks:=by unfold aI;rw[if_pos List.mem_cons_self]
   rw[ek,List.map_cons];congr 2
   ·unfold fI;rw[if_pos rfl];simp[bI]
   ·refine aak λj hj=>?_;unfold fI;rw[if_neg λz:j=k=>h1 (z▸hj)]
  ·rw[if_neg e,sA g c q hg ks h2 λz=>h0 λm=>(List.mem_cons.mp m).elim (λw=>e w.symm) z];have ek:aI (k::ks) c=k::aI ks c:=by
    unfold aI;by_cases m:c∈ks
    ·rw[if_pos m,if_pos (List.mem_cons_of_mem _ m)]
    ·rw[if_neg m,if_neg λz=>(List.mem_cons.mp z).elim (λw=>e w.symm) m];rfl
   rw[ek,List.map_cons];have e2:fI g c q k=g k:=by unfold fI;rw[if_neg e]
   rw[e2];rfl
theorem h_(lot:aa)(h:Int):bO (.tup [.tup (af lot),.int h])=some (h::lot):=by
 show Nm (D.tup (lot.map D.int),D.int h)=_;unfold Nm;have:keyOf (.tup (lot.map D.int))=some lot:=br lot;show(match keyOf (.tup (lot.map D.int))with|some c=>QG c (.int h)|none=>none)=_;rw[this];rfl
variable {ks:ag}
theorem Ng(jZ:Φ 1200=uR)(hn:ks.Nodup)(hl:ks.length<1000)(g:aa->av)(lot:aa)(h:Int)(q:Rat)(hg:(g (h::lot)).length<1000)(h0:h::lot∉ks->g (h::lot)=[]):Φ 1200 [o5 .ow ks g,.tup [.tup (af lot),.int h],qD q]=ok (o5 .ow (aI ks (h::lot)) (fI g (h::lot) q)):=by
 rw[jZ];show(match bO (.tup [.tup (af lot),.int h])with|some c=>(match kH ks (ks.map λk=>.lst .ow (bI (g k))) c (qD q)with|some ws=>if bX .ow=true/\ks.length<cg then ok (D.cL .ow (aI ks c) ws)else none|none=>none)|none=>none)=_;rw[h_];show(match kH ks (ks.map λk=>.lst .ow (bI (g k))) (h::lot) (qD q)with|some ws=>if bX .ow=true/\ks.length<cg then ok (D.cL .ow (aI ks (h::lot)) ws)else none|none=>none)=_;rw[sA g _ q (by show _<1000000;left) ks hn h0];exact aaN ⟨rfl,by show _<1000000;left⟩
theorem Nn(iu:Φ 1062=qb)(g:aa->av)(lot:aa)(h:Int)(hm:h::lot∈ks):Φ 1062 [o5 .fz ks g,.tup [.tup (af lot),.int h]]=ok (.lst .fz (bI (g (h::lot)))):=by
 rw[iu];show(match bO (.tup [.tup (af lot),.int h])with|some c=>(match bo ks (ks.map λk=>D.lst .fz (bI (g k))) c with|some v=>if aH kL v=false then ok v else none|none=>none)|none=>none)=_;rw[h_];show(match bo ks (ks.map λk=>D.lst .fz (bI (g k))) (h::lot)with|some v=>if aH kL v=false then ok v else none|none=>none)=_;rw[fB (λk=>D.lst .fz (bI (g k))),if_pos hm];exact aaN (by simp[kL])
noncomputable def eI(c:aa)(q:Rat)(zs:List (Int×Rat))(k:aa):av:=(zs.filter λz=>decide (z.1::c=k)).map λz=>q*z.2
def lM(c:aa)(ks:ag)(zs:List (Int×Rat)):ag:=zs.foldl (λks z=>aI ks (z.1::c)) ks
noncomputable def Bp:ah:=[.mu2 1200 3 (.tup [(.v 6),(.v 7)]) (.call 6 [(.ix (.v 4) (.int 0)),(.v 8)])]
def Dy:ah:=[.asg (.nm 6) (.bf .tuple1 [(.bf .cN [(.ix (.v 4) (.int 1))])]),.fr (.tp [7,8]) (.uS 1015 [(.ix (.v 4) (.int 1)),(.v 5)]) Bp]
abbrev oi(c0 c1 c2:aJ)(ks:ag)(g:aa->av)(c4 c5 c6 c7 c8:aJ):ba:=[c0,c1,c2,some (o5 .ow ks g),c4,c5,c6,c7,c8,none,none]
theorem gB{c:aa}:∀{zs:List (Int×Rat)} {ks:ag} {k:aa},k∈lM c ks zs ↔ k∈ks\/∃z∈zs,z.1::c=k
 |[],ks,k=>by simp[lM]
 |z::zs,ks,k=>by
  show k∈lM c (aI ks (z.1::c)) zs ↔ _;rw[gB,bQ];constructor
  ·rintro ((h|h)|⟨s,h1,h2⟩)
   ·exact .inl h
   ·exact .inr ⟨z,aaf,h.symm⟩
   ·exact .inr ⟨s,aad _ h1,h2⟩
  ·rintro (h|⟨s,h1,h2⟩)
   ·exact .inl (.inl h)
   ·rcases List.mem_cons.mp h1 with rfl|h1
    ·exact .inl (.inr h2.symm)
    ·exact .inr ⟨s,h1,h2⟩
theorem Ba{c:aa}:∀{zs:List (Int×Rat)} {ks:ag},ks.Nodup->(lM c ks zs).Nodup
 |[],_,h=>h
 |z::zs,ks,h=>Ba (zs:=zs) (jT h _)
theorem qw{c:aa}:∀{zs:List (Int×Rat)} {ks:ag},(lM c ks zs).length<=ks.length+zs.length
 |[],ks=>aai _
 |z::zs,ks=>by
  have:=qw (c:=c) (zs:=zs) (ks:=aI ks (z.1::c));have h:=cZ ks (z.1::c);show(lM c (aI ks (z.1::c)) zs).length<=_;rw[List.length_cons];left
theorem tN(Φ:a_)(h6:kb (Φ 6))(jZ:Φ 1200=uR){j:Nat}(hj:j<=121)(c0 c1 c2 c5:aJ)(r:Row)(hr:Sm 6 r.1)(c:aa):∀(zs:List (Int×Rat)) (ks:ag) (g:aa->av) (c7 c8:aJ) (B:Nat),(∀z∈zs,Sm j z.2)->ks.Nodup->ks.length+zs.length<900->B+zs.length<900->(∀k,(g k).length<=B)->(∀k,k∉ks->g k=[]) ->
  ∃za Cq,dJ (λd ρ=>cy (.tp [7,8]) d ρ) (λρ=>bA Φ Bp ρ) (zs.map λz=>.tup [.int z.1,qD z.2]) (oi c0 c1 c2 ks g (some (rD r)) c5 (some (.tup (af c))) c7 c8)=ok (.nx,oi c0 c1 c2 (lM c ks zs) (λk=>g k++eI c r.1 zs k) (some (rD r)) c5 (some (.tup (af c))) za Cq)
 |[],ks,g,c7,c8,B,_,_,_,_,_,_=>⟨c7,c8,by
   have:(λk=>g k++eI c r.1 [] k)=g:=funext λk=>List.append_nil _;rw[this];rfl⟩
 |z::zs,ks,g,c7,c8,B,hz,hn,hl,hB,hg,h0=>by
  rw[List.length_cons]at hl hB;have s:=hz z aaf;have e1:=h6 r.1 z.2 (hr.mono (by decide)) (s.mono (by left));have e2:=Ng jZ hn (by left) g c z.1 (r.1*z.2) (by have:=hg (z.1::c);left) (h0 _);have hk:=cZ ks (z.1::c);obtain⟨d7,d8,ih⟩:=tN Φ h6 jZ hj c0 c1 c2 c5 r hr c zs (aI ks (z.1::c)) (fI g (z.1::c) (r.1*z.2)) (some (.int z.1)) (some (qD z.2)) (B+1) (λy hy=>hz y (aad _ hy)) (jT hn _) (by left) (by left) (λk=>by
   unfold fI;have:=hg k;split
   ·rw[List.length_append,List.length_singleton];left
   ·left) (λk CQ=>by
   unfold fI;rw[if_neg λw=>CQ (bQ.mpr (.inr w))];exact h0 k λw=>CQ (bQ.mpr (.inl w)))
  have ef:(λk=>fI g (z.1::c) (r.1*z.2) k++eI c r.1 zs k)=λk=>g k++eI c r.1 (z::zs) k:=funext λk=>by
   unfold fI eI;by_cases w:k=z.1::c
   ·rw[if_pos w,List.filter_cons_of_pos (by simpa using w.symm)];simp
   ·rw[if_neg w,List.filter_cons_of_neg (by simpa using Ne.symm w)]
  rw[ef]at ih;have er:rD r=.tup [qD r.1,.tup (af r.2)]:=rfl;refine⟨d7,d8,dj (ρ1:=oi c0 c1 c2 ks g (some (rD r)) c5 (some (.tup (af c))) (some (.int z.1)) (some (qD z.2))) (by simp) (ρ2:=oi c0 c1 c2 (aI ks (z.1::c)) (fI g (z.1::c) (r.1*z.2)) (some (rD r)) c5 (some (.tup (af c))) (some (.int z.1)) (some (qD z.2))) ?_ ih⟩;have x1:=Ma (Φ:=Φ) (p:=1200) (i:=3) (k:=.tup [(.v 6),(.v 7)]) (e:=.call 6 [(.ix (.v 4) (.int 0)),(.v 8)]) (ρ:=oi c0 c1 c2 ks g (some (rD r)) c5 (some (.tup (af c))) (some (.int z.1)) (some (qD z.2))) (kd:=.tup [.tup (af c),.int z.1]) (d:=qD (r.1*z.2)) (by simp) (by simp[er,e1]) rfl (by simp) (by simp) e2;rw[Bp,bK,x1];rfl
theorem xq(Φ:a_)(h6:kb (Φ 6))(xf:Φ 1015=rQ)(jZ:Φ 1200=uR){j:Nat}(hj:j<=121)(c0 c1 c2:aJ):∀(ps:List Rg) (ks:ag) (g:aa->av) (c4 c5 c6 c7 c8:aJ) (B:Nat),(∀p∈ps,Sm 6 p.1.1/\p.1.2.length<=12/\p.2.length=p.1.2.length/\∀q∈p.2,Sm j q)->ks.Nodup->ks.length+12*ps.length<900->B+12*ps.length<900->(∀k,(g k).length<=B)->(∀k,k∉ks->g k=[]) ->
  ∃P0 FN Cr za Cq,dJ (λd ρ=>cy (.tp [4,5]) d ρ) (λρ=>bA Φ Dy ρ) (ps.map uk) (oi c0 c1 c2 ks g c4 c5 c6 c7 c8)=ok (.nx,oi c0 c1 c2 (ps.foldl (λks p=>lM (sortI p.1.2) ks (p.1.2.zip p.2)) ks) (λk=>g k++ps.flatMap λp=>eI (sortI p.1.2) p.1.1 (p.1.2.zip p.2) k) P0 FN Cr za Cq)
 |[],ks,g,c4,c5,c6,c7,c8,B,_,_,_,_,_,_=>⟨c4,c5,c6,c7,c8,by
   have:(λk=>g k++[].flatMap λp:Rg=>eI (sortI p.1.2) p.1.1 (p.1.2.zip p.2) k)=g:=funext λk=>List.append_nil _;rw[this];rfl⟩
 |p::ps,ks,g,c4,c5,c6,c7,c8,B,hp,hn,hl,hB,hg,h0=>by
  rw[List.length_cons]at hl hB;obtain⟨p1,p2,p3,p4⟩:=hp p aaf;have Yz:(p.1.2.zip p.2).length<=12:=by rw[List.length_zip];left
  obtain⟨d7,d8,ei⟩:=tN Φ h6 jZ hj c0 c1 c2 (some (.lst .fz (bI p.2))) p.1 p1 (sortI p.1.2) (p.1.2.zip p.2) ks g c7 c8 B (λz hz=>p4 _ (abd hz).2) hn (by left) (by left) hg h0;have hk:=qw (c:=sortI p.1.2) (zs:=p.1.2.zip p.2) (ks:=ks);obtain⟨e4,e5,e6,e7,e8,ih⟩:=xq Φ h6 xf jZ hj c0 c1 c2 ps (lM (sortI p.1.2) ks (p.1.2.zip p.2)) (λk=>g k++eI (sortI p.1.2) p.1.1 (p.1.2.zip p.2) k) (some (rD p.1)) (some (.lst .fz (bI p.2))) (some (.tup (af (sortI p.1.2)))) d7 d8 (B+12) (λq hq=>hp q (aad _ hq)) (Ba hn) (by left) (by left) (λk=>by
   have h1:=hg k;have h2:(eI (sortI p.1.2) p.1.1 (p.1.2.zip p.2) k).length<=(p.1.2.zip p.2).length:=by unfold eI;rw[List.length_map];exact abN _ _
   rw[List.length_append];left) (λk CQ=>by
   have h1:=h0 k λw=>CQ (gB.mpr (.inl w));have h2:eI (sortI p.1.2) p.1.1 (p.1.2.zip p.2) k=[]:=by
    unfold eI;rw[List.filter_eq_nil_iff.mpr λz hz w=>CQ (gB.mpr (.inr ⟨z,hz,by simpa using w⟩))];rfl
   rw[h1,h2];rfl)
  have ef:(λk=>(g k++eI (sortI p.1.2) p.1.1 (p.1.2.zip p.2) k)++ps.flatMap λp=>eI (sortI p.1.2) p.1.1 (p.1.2.zip p.2) k)=λk=>g k++(p::ps).flatMap λp=>eI (sortI p.1.2) p.1.1 (p.1.2.zip p.2) k:=funext λk=>by
   rw[List.flatMap_cons,List.append_assoc]
  rw[ef]at ih;have er:rD p.1=.tup [qD p.1.1,.tup (af p.1.2)]:=rfl;have es:nZ .cN [.tup (af p.1.2)]=ok (.lst .ow (af (sortI p.1.2))):=qR (by left);have et:nZ .tuple1 [.lst .ow (af (sortI p.1.2))]=ok (.tup (af (sortI p.1.2))):=by
   show ok (D.tup (aA bj (af (sortI p.1.2))))=_;rw[cF]
  have hit:cM Φ (.uS 1015 [(.ix (.v 4) (.int 1)),(.v 5)]) (oi c0 c1 c2 ks g (some (rD p.1)) (some (.lst .fz (bI p.2))) (some (.tup (af (sortI p.1.2)))) c7 c8)=ok ((p.1.2.zip p.2).map λz=>.tup [.int z.1,qD z.2],oi c0 c1 c2 ks g (some (rD p.1)) (some (.lst .fz (bI p.2))) (some (.tup (af (sortI p.1.2)))) c7 c8):=by
   have hI:∀ρ,cM Φ (.uS 1015 [(.ix (.v 4) (.int 1)),(.v 5)]) ρ=bd (cz Φ [(.ix (.v 4) (.int 1)),(.v 5)] ρ) λxs=>bd (Φ 1015 xs) λd=>bd (kF d) λitems=>ok (items,if aL bp xs then gY (cW [(.ix (.v 4) (.int 1)),(.v 5)]) ρ else ρ):=λ_=>rfl;rw[hI];have ee:cz Φ [(.ix (.v 4) (.int 1)),(.v 5)] (oi c0 c1 c2 ks g (some (rD p.1)) (some (.lst .fz (bI p.2))) (some (.tup (af (sortI p.1.2)))) c7 c8)=ok [.tup (af p.1.2),.lst .fz (bI p.2)]:=by simp[er]
   rw[ee,cC,xf];show ok (aA aV (List.zipWith (λx y=>D.tup [x,y]) (af p.1.2) (bI p.2)),if aL bp [D.tup (af p.1.2),.lst .fz (bI p.2)]then _ else _)=_;have h1:=eG aV (af p.1.2) (bI p.2);rw[A3,cF]at h1;have h2:aL bp [D.tup (af p.1.2),.lst .fz (bI p.2)]=false:=by simp[bp]
   rw[h2];have h3:aA aV (List.zipWith (λx y=>D.tup [x,y]) (af p.1.2) (bI p.2))=(p.1.2.zip p.2).map λz=>.tup [.int z.1,qD z.2]:=by
    refine Eq.trans h1 ?_;unfold bI af;rw[List.zipWith_map,List.zip,List.map_zipWith];rfl
   rw[h3];rfl
  have hf:=eU (Φ:=Φ) (t:=.tp [7,8]) (b:=Bp) hit ei;refine⟨e4,e5,e6,e7,e8,dj (x:=uk p) (ρ1:=oi c0 c1 c2 ks g (some (rD p.1)) (some (.lst .fz (bI p.2))) c6 c7 c8) (by simp[uk]) (ρ2:=oi c0 c1 c2 (lM (sortI p.1.2) ks (p.1.2.zip p.2)) (λk=>g k++eI (sortI p.1.2) p.1.1 (p.1.2.zip p.2) k) (some (rD p.1)) (some (.lst .fz (bI p.2))) (some (.tup (af (sortI p.1.2)))) d7 d8) ?_ ih⟩;have a1:jh Φ (.asg (.nm 6) (.bf .tuple1 [(.bf .cN [(.ix (.v 4) (.int 1))])])) (oi c0 c1 c2 ks g (some (rD p.1)) (some (.lst .fz (bI p.2))) c6 c7 c8)=ok (.nx,oi c0 c1 c2 ks g (some (rD p.1)) (some (.lst .fz (bI p.2))) (some (.tup (af (sortI p.1.2)))) c7 c8):=by
   simp[er,es,et]
  rw[Dy,bK,a1];show bA Φ [.fr (.tp [7,8]) _ Bp] _=_;rw[bK,hf];rfl
noncomputable def Lm(p:Rg)(h:Int):Rat:=((p.1.2.zip p.2).map λz=>if z.1=h then z.2 else 0).sum
def GH(ps:List Rg)(c:aa)(h:Int):Rat:=(ps.map λp=>if sortI p.1.2=c then p.1.1*Lm p h else 0).sum
def iW(ps:List Rg):List Rg:=(eN (aT ps)).map λr=>(r,r.2.map λh=>GH ps r.2 h / r.1)
theorem BY(ps:List Rg):aT (iW ps)=eN (aT ps):=by
 unfold aT iW;rw[List.map_map];exact(aak λ_ _=>rfl).trans (List.map_id _)
theorem xF(c0 c:aa)(q:Rat)(h:Int):∀zs:List (Int×Rat),(eI c0 q zs (h::c)).sum=if c0=c then q*(zs.map λz=>if z.1=h then z.2 else 0).sum else 0
 |[]=>by
  show(0:Rat)=if c0=c then q*0 else 0
  split<;>grind
 |z::zs=>by
  have ih:=xF c0 c q h zs;unfold eI at ih ⊢;by_cases e:z.1::c0=h::c
  ·rw[List.filter_cons_of_pos (by simpa using e),List.map_cons,List.sum_cons,ih];injection e with e1 e2
   rw[if_pos e2,if_pos e2,List.map_cons,List.sum_cons,if_pos e1];grind
  ·rw[List.filter_cons_of_neg (by simpa using e),ih];by_cases e2:c0=c
   ·have e1:z.1≠h:=λw=>e (by rw[w,e2]);rw[if_pos e2,if_pos e2,List.map_cons,List.sum_cons,if_neg e1];grind
   ·rw[if_neg e2,if_neg e2]
theorem kQ(c:aa)(h:Int):∀ps:List Rg,(ps.flatMap λp=>eI (sortI p.1.2) p.1.1 (p.1.2.zip p.2) (h::c)).sum=GH ps c h
 |[]=>rfl
 |p::ps=>by
  rw[List.flatMap_cons,pU,kQ c h ps,xF];rfl
noncomputable def Fv:CE:=.comp 1 (.nm 0) [10,3,6] .seq [(.v 6)] [] (.call 7 [(.call 42 [(.bR 1062 [(.v 2),(.tup [(.v 3),(.v 0)])])]),(.v 1)])
def r9:ah:=[.app 9 Fv]
noncomputable def AF:ah:=[.asg (.nm 2) (.call 76 [(.v 0)]),.ex (.call 74 [(.v 1),(.ix (.v 0) (.int 1))]),.asg (.nm 3) (.bR 1060 [])]
def AE:ah:=[.fr (.tp [4,5]) (.uS 1000 [(.ix (.v 0) (.int 1)),(.v 1)]) Dy]
def GD:ah:=[.asg (.nm 9) (.lst []),.fr (.tp [10,6]) (.seq (.ix (.v 2) (.int 1))) r9,.ret (.v 9)]
def Cu:ah:=AF++(AE++GD)
def F0(m:aC):Prop:=∀j n ps xs,Rk j n ps xs->nW (aT ps)->m [bN n (aT ps),.lst .fz (bE .fz ps)]=ok (.lst .ow (bE .ow (iW ps)))
section
variable (Φ:a_)(h7:Lh (Φ 7))(O8:gH (Φ 42))(iu:Φ 1062=qb){ks:ag}{g:aa->av}{k:Nat}(hk:k<=150)(hg:∀c,rO k (g c))(yH:∀c,(g c).length*(k+1)<=3000)
include h7 O8 iu hk hg yH
theorem Fg{r:Row}(hr:Sm 6 r.1)(h0:0<r.1)(hl:r.2.length<=12)(hm:∀h∈r.2,h::r.2∈ks)(r3:ρ[3]?=some (some (o5 .ow ks g)))(r6:ρ[6]?=some (some (.tup (af r.2))))(Ye:ρ[10]?=some (some (qD r.1))):bC Φ Fv ρ=ok (.lst .ow (bI (r.2.map λh=>(g (h::r.2)).sum / r.1))):=by
 unfold Fv;rw[dM (xs:=[.tup (af r.2)]) (items:=r.2.map D.int) (ds:=r.2.map λh=>qD ((g (h::r.2)).sum / r.1)) (by simp[r6]) (by rw[qA,cF];rfl) (cB λh hh=>⟨[some (.int h),some (qD r.1),some (o5 .fz ks g),some (.tup (af r.2))],by simp[bP,r3,r6,Ye,wR,aV],by simp,?_⟩) (by simp;exact cP (by left))]
 ·simp[bI,aY]
 ·have e1:=Nn iu g r.2 h (hm h hh);have e2:=O8 .fz _ k (hg (h::r.2));have s:=Sm.sum (hg (h::r.2)).sm;have hb:=yH (h::r.2);have hz:r.1≠0:=λz=>by rw[z]at h0;exact absurd h0 (by decide)
  have e3:=h7.1 _ r.1 (s.mono (by rw[Nat.mul_comm];left)) (hr.mono (by decide)) hz;have o3:aU bj (o5 .fz ks g)=o5 .fz ks g:=wR _ _ _ _;simp[o3,e1,e2,e3]
theorem tM(c0 c1 c2 c4 c5 c7 c8:aJ):∀(l:aD) (acc:List Rg) (c6 Cs:aJ),(∀r∈l,Sm 6 r.1/\0<r.1/\r.2.length<=12/\∀h∈r.2,h::r.2∈ks)->acc.length+l.length<900 ->
  ∃Cr Vt,dJ (λd ρ=>cy (.tp [10,6]) d ρ) (λρ=>bA Φ r9 ρ) (bU l) [c0,c1,c2,some (o5 .ow ks g),c4,c5,c6,c7,c8,some (.lst .ow (bE .ow acc)),Cs]=ok (.nx,[c0,c1,c2,some (o5 .ow ks g),c4,c5,Cr,c7,c8,some (.lst .ow (bE .ow (acc++l.map λr=>(r,r.2.map λh=>(g (h::r.2)).sum / r.1)))),Vt])
 |[],acc,c6,Cs,_,_=>⟨c6,Cs,by simp[bU,qQ]⟩
 |r::l,acc,c6,Cs,hr,hl=>by
  rw[List.length_cons]at hl;obtain⟨r1,r2,r3,r4⟩:=hr r aaf;have e1:=Fg Φ h7 O8 iu hk hg yH r1 r2 r3 r4 (ρ:=[c0,c1,c2,some (o5 .ow ks g),c4,c5,some (.tup (af r.2)),c7,c8,some (.lst .ow (bE .ow acc)),some (qD r.1)]) rfl rfl rfl;obtain⟨d6,Xp,ih⟩:=tM c0 c1 c2 c4 c5 c7 c8 l (acc++[(r,r.2.map λh=>(g (h::r.2)).sum / r.1)]) (some (.tup (af r.2))) (some (qD r.1)) (λs hs=>hr s (aad _ hs)) (by simp;left);have hc:(bE .ow acc).length<cg:=by show _<1000000;simp;left
  have ea:bE .ow acc++[.lst .ow (bI (r.2.map λh=>(g (h::r.2)).sum / r.1))]=bE .ow (acc++[(r,r.2.map λh=>(g (h::r.2)).sum / r.1)]):=by simp[bE]
  refine⟨d6,Xp,dj (x:=rD r) (ρ1:=[c0,c1,c2,some (o5 .ow ks g),c4,c5,some (.tup (af r.2)),c7,c8,some (.lst .ow (bE .ow acc)),some (qD r.1)]) (by simp[rD]) (ρ2:=[c0,c1,c2,some (o5 .ow ks g),c4,c5,some (.tup (af r.2)),c7,c8,some (.lst .ow (bE .ow (acc++[(r,r.2.map λh=>(g (h::r.2)).sum / r.1)]))),some (qD r.1)]) ?_ (ih.trans (by simp))⟩;rw[r9,bK,Ga,N_ Φ Fv _ rfl,e1,jW (by simp)];generalize bE .ow acc=es at *;simp[hc,ea]
end
theorem qv{c:aa}:∀{ps:List Rg} {ks:ag},(c∈ks\/∃p∈ps,∃z∈p.1.2.zip p.2,z.1::sortI p.1.2=c)->c∈ps.foldl (λks p=>lM (sortI p.1.2) ks (p.1.2.zip p.2)) ks
 |[],ks,h=>by
  rcases h with h|⟨p,hp,_⟩
  ·exact h
  ·exact nomatch hp
 |p::ps,ks,h=>by
  refine qv (ps:=ps) ?_;rcases h with h|⟨q,hq,z,hz,e⟩
  ·exact .inl (gB.mpr (.inl h))
  ·rcases List.mem_cons.mp hq with rfl|hq
   ·exact .inl (gB.mpr (.inr ⟨z,hz,e⟩))
   ·exact .inr ⟨q,hq,z,hz,e⟩
theorem Sf(Φ:a_)(h6:kb (Φ 6))(h7:Lh (Φ 7))(O8:gH (Φ 42))(Zo:Qf (Φ 74))(J5:CB (Φ 76))(m9:Φ 1000=uq)(xf:Φ 1015=rQ)(BK:Φ 1060=wz)(iu:Φ 1062=qb)(jZ:Φ 1200=uR):F0 (mk Φ 2 11 Cu):=by
 intro j n ps xs K Fi;have hn:=K.Jf;have hfew:=K.kr;have e1:=J5 n (aT ps) K.dr Fi;have e2:=Zo j n ps xs K;have hj:=K.Yx;have hjn:(j+4)*n<=125:=K.jn (aai n);obtain⟨J,_⟩:=BX K.dr Fi;have m1:aU aV (bN n (aT ps))=bN n (aT ps):=by simp[bN]
 have m2:aU bj (bN n (aT ps))=bN n (aT ps):=by simp[bN]
 have hd:bN n (aT ps)=.tup [.int n,.lst .fz (bU (aT ps))]:=rfl;have x1:rL (bN n (aT ps)) (.int 1)=ok (.lst .fz (bU (aT ps))):=by rw[hd];simp
 have e0:Φ 1060 []=ok (o5 .ow [] λ_=>[]):=by rw[BK];rfl
 have op:aH bp (o5 .ow [] λ_=>[])=false:=rfl;have ga:bA Φ AF [some (bN n (aT ps)),some (.lst .fz (bE .fz ps)),none,none,none,none,none,none,none,none,none]=ok (.nx,oi (some (bN n (aT ps))) (some (.lst .fz (bE .fz ps))) (some (f_ .ow n (eN (aT ps)))) [] (λ_=>[]) none none none none none):=by
  simp[AF,m1,m2,x1,e1,e2,e0,op,bj,aV]
 have EM:∀p∈ps,Sm 6 p.1.1/\p.1.2.length<=12/\p.2.length=p.1.2.length/\∀q∈p.2,Sm j q:=λp hp=>⟨K.dr.sm p.1 (aav hp),by have:=(K.rw hp).2.1;left,K.ln p hp,K.sw p hp⟩
 obtain⟨c4,c5,c6,c7,c8,el⟩:=xq Φ h6 xf jZ hj (some (bN n (aT ps))) (some (.lst .fz (bE .fz ps))) (some (f_ .ow n (eN (aT ps)))) ps [] (λ_=>[]) none none none none none 0 EM aaQ (by simp;left) (by left) (λ_=>aai _) (λ_ _=>rfl);have eg:(λk=>[]++ps.flatMap λp=>eI (sortI p.1.2) p.1.1 (p.1.2.zip p.2) k)=λk=>ps.flatMap λp=>eI (sortI p.1.2) p.1.1 (p.1.2.zip p.2) k:=funext λk=>List.nil_append _;rw[eg]at el;have YW:∀r∈eN (aT ps),∀h∈r.2,h::r.2∈ps.foldl (λks p=>lM (sortI p.1.2) ks (p.1.2.zip p.2)) []:=λr hr h hh=>by
  obtain⟨c,hc,rfl⟩:=List.mem_map.mp hr;have hc:c∈aZ [] (aT ps):=(aay _ _).mem_iff.mp hc;rcases gi.mp hc with z|⟨s,hs,e⟩
  ·exact nomatch z
  obtain⟨p,hp,rfl⟩:=List.mem_map.mp hs;subst e;have Ux:h∈p.1.2:=(sortI_perm _).mem_iff.mp hh;obtain⟨i,hi,rfl⟩:=List.mem_iff_getElem.mp Ux;refine qv (.inr ⟨p,hp,(p.1.2[i],p.2[i]'(by rw[K.ln p hp];exact hi)),?_,rfl⟩);exact aaq (i:=i) (by rw[List.getElem?_zip_eq_some];exact⟨aal hi,aal _⟩)
 have YZ:∀c,∀q∈(ps.flatMap λp=>eI (sortI p.1.2) p.1.1 (p.1.2.zip p.2) c),Sm (6+j) q:=λc q hq=>by
  obtain⟨p,hp,hq⟩:=List.mem_flatMap.mp hq;obtain⟨z,hz,rfl⟩:=List.mem_map.mp hq;exact(EM p hp).1.mul ((EM p hp).2.2.2 _ (abd (List.mem_filter.mp hz).1).2)
 have yH:∀c,(ps.flatMap λp=>eI (sortI p.1.2) p.1.1 (p.1.2.zip p.2) c).length<=10*n:=λc=>by
  have:∀l:List Rg,(∀p∈l,p.1.2.length<=n)->(l.flatMap λp=>eI (sortI p.1.2) p.1.1 (p.1.2.zip p.2) c).length<=l.length*n:=λl=>by
   induction l with
   |nil=>intro _;simp
   |cons p l ih =>
    intro h;have h1:=ih λq hq=>h q (aad _ hq);have h2:=h p aaf;have h3:(eI (sortI p.1.2) p.1.1 (p.1.2.zip p.2) c).length<=(p.1.2.zip p.2).length:=by unfold eI;rw[List.length_map];exact abN _ _
    rw[List.length_zip]at h3;rw[List.flatMap_cons,List.length_append,List.length_cons,Nat.succ_mul];left
  have h1:=this ps λp hp=>(K.rw hp).2.1;exact aax h1 (abY _ (by left))
 have hb:∀c,(ps.flatMap λp=>eI (sortI p.1.2) p.1.1 (p.1.2.zip p.2) c).length*(6+j+1)<=3000:=λc=>by
  have h1:=abY (6+j+1) (yH c);have h2:10*n*(6+j+1)=10*((j+4)*n)+30*n:=by
   rw[Nat.mul_assoc,Nat.mul_comm n,show 6+j+1=(j+4)+3 by left,Nat.add_mul,Nat.mul_add];left
  left
 have hS:∀c,rO (6+j) (ps.flatMap λp=>eI (sortI p.1.2) p.1.1 (p.1.2.zip p.2) c):=λc=>⟨YZ c,by
  have h1:=hb c;rw[Nat.mul_succ,Nat.mul_comm]at h1;left,by have:=yH c;left⟩
 obtain⟨d6,Xp,eo⟩:=tM Φ h7 O8 iu (ks:=ps.foldl (λks p=>lM (sortI p.1.2) ks (p.1.2.zip p.2)) []) (k:=6+j) (by left) hS hb (some (bN n (aT ps))) (some (.lst .fz (bE .fz ps))) (some (bN n (eN (aT ps)))) c4 c5 c7 c8 (eN (aT ps)) [] c6 none (λr hr=>⟨J.sm r hr,J.pos r hr,by have:=(J.lot r hr).len;left,YW r hr⟩) (by have:=J.kr;simp;left);have KJ:((eN (aT ps)).map λr=>(r,r.2.map λh=>(ps.flatMap λp=>eI (sortI p.1.2) p.1.1 (p.1.2.zip p.2) (h::r.2)).sum / r.1))=iW ps:=by
  unfold iW;refine aak λr _=>?_;congr 1;exact aak λh _=>by rw[kQ]
 rw[List.nil_append,KJ]at eo;generalize ps.foldl (λks p=>lM (sortI p.1.2) ks (p.1.2.zip p.2)) []=kk at *;generalize (λk=>ps.flatMap λp=>eI (sortI p.1.2) p.1.1 (p.1.2.zip p.2) k)=gg at *;have hit:cM Φ (.uS 1000 [(.ix (.v 0) (.int 1)),(.v 1)]) (oi (some (bN n (aT ps))) (some (.lst .fz (bE .fz ps))) (some (f_ .ow n (eN (aT ps)))) [] (λ_=>[]) none none none none none)=ok (ps.map uk,oi (some (bN n (aT ps))) (some (.lst .fz (bE .fz ps))) (some (f_ .ow n (eN (aT ps)))) [] (λ_=>[]) none none none none none):=by
  have hI:∀ρ,cM Φ (.uS 1000 [(.ix (.v 0) (.int 1)),(.v 1)]) ρ=bd (cz Φ [(.ix (.v 0) (.int 1)),(.v 1)] ρ) λxs=>bd (Φ 1000 xs) λd=>bd (kF d) λitems=>ok (items,if aL bp xs then gY (cW [(.ix (.v 0) (.int 1)),(.v 1)]) ρ else ρ):=λ_=>rfl;rw[hI];have:cz Φ [(.ix (.v 0) (.int 1)),(.v 1)] (oi (some (bN n (aT ps))) (some (.lst .fz (bE .fz ps))) (some (f_ .ow n (eN (aT ps)))) [] (λ_=>[]) none none none none none)=ok [.lst .fz (bU (aT ps)),.lst .fz (bE .fz ps)]:=by simp[m2,x1,bj]
  rw[this,cC,m9];show bd (ok (D.lst .ow (List.zipWith (λx y=>D.tup [x,y]) (bU (aT ps)) (bE .fz ps)))) _=_;rw[zx,cC];have e:aA aV (ps.map uk)=ps.map uk:=b_ aV (λp=>by unfold uk;simp[aV]) ps;show ok (aA aV (ps.map uk),if aL bp [D.lst .fz (bU (aT ps)),.lst .fz (bE .fz ps)]then _ else _)=_;rw[e];have:aL bp [D.lst .fz (bU (aT ps)),.lst .fz (bE .fz ps)]=false:=by
   have:=gj bp .fz ps rfl;simp[this,bp]
  rw[this];rfl
 have hf:=eU (Φ:=Φ) (t:=.tp [4,5]) (b:=Dy) hit el;have gb:bA Φ AE (oi (some (bN n (aT ps))) (some (.lst .fz (bE .fz ps))) (some (f_ .ow n (eN (aT ps)))) [] (λ_=>[]) none none none none none)=ok (.nx,oi (some (bN n (aT ps))) (some (.lst .fz (bE .fz ps))) (some (f_ .ow n (eN (aT ps)))) kk gg c4 c5 c6 c7 c8):=by
  rw[AE,bK,hf];rfl
 have JT:cM Φ (.seq (.ix (.v 2) (.int 1))) [some (bN n (aT ps)),some (.lst .fz (bE .fz ps)),some (f_ .ow n (eN (aT ps))),some (o5 .ow kk gg),c4,c5,c6,c7,c8,some (.lst .ow []),none]=ok (bU (eN (aT ps)),[some (bN n (aT ps)),some (.lst .fz (bE .fz ps)),some (bN n (eN (aT ps))),some (o5 .ow kk gg),c4,c5,c6,c7,c8,some (.lst .ow []),none]):=by
  rw[Be (f:=.al) (ds:=bU (eN (aT ps))) (by simp[f_])];simp[gR,G7]
 have UE:=eU (Φ:=Φ) (t:=.tp [10,6]) (b:=r9) JT eo;have g0:∀c4 c5 c6 c7 c8:aJ,jh Φ (.asg (.nm 9) (.lst [])) (oi (some (bN n (aT ps))) (some (.lst .fz (bE .fz ps))) (some (f_ .ow n (eN (aT ps)))) kk gg c4 c5 c6 c7 c8)=ok (.nx,[some (bN n (aT ps)),some (.lst .fz (bE .fz ps)),some (f_ .ow n (eN (aT ps))),some (o5 .ow kk gg),c4,c5,c6,c7,c8,some (.lst .ow []),none]):=λ_ _ _ _ _=>by simp
 rw[mk_eq (show[bN n (aT ps),D.lst .fz (bE .fz ps)].length=2 from rfl)];show kS (bA Φ Cu [some (bN n (aT ps)),some (.lst .fz (bE .fz ps)),none,none,none,none,none,none,none,none,none])=_;rw[Cu,cY Φ _ _ _ _ ga,cY Φ _ _ _ _ gb,GD,bK,g0];show kS (bA Φ [.fr (.tp [10,6]) _ r9,.ret (.v 9)] _)=_;rw[bK,UE];have ow:aH bX (.lst .ow (bE .ow (iW ps)))=true:=by simp[bX]
 simp[ow]
section
variable {j n:Nat}{ps:List Rg}{xs:av}(K:Rk j n ps xs)
include K
end
theorem wM{α β:Type}[DecidableEq β](s:α->β)(f:α->Rat):∀{l:List α} {x:α},(l.map s).Nodup->x∈l->(l.map λy=>if s y=s x then f y else 0).sum=f x
 |y::l,x,hn,hx=>by
  rw[List.map_cons]at hn;obtain⟨h1,h2⟩:=List.nodup_cons.mp hn;rw[List.map_cons,List.sum_cons];rcases List.mem_cons.mp hx with rfl|hx
  ·rw[if_pos rfl,lZ λy hy=>if_neg λz=>h1 (by rw[<- z];exact List.mem_map_of_mem hy)];grind
  ·rw[if_neg λz=>h1 (by rw[z];exact List.mem_map_of_mem hx),wM s f h2 hx];grind
theorem vM{α β:Type}:∀{a:List α} {b:List β},b.length=a.length->(a.zip b).map (·.1)=a
 |[],[],_=>rfl
 |x::a,y::b,h=>by rw[List.zip_cons_cons,List.map_cons,vM (by simpa using h)]
theorem Mc{p:Rg}(hn:p.1.2.Nodup)(hl:p.2.length=p.1.2.length){z:Int×Rat}(hz:z∈p.1.2.zip p.2):Lm p z.1=z.2:=wM (λz:Int×Rat=>z.1) (λz=>z.2) (by rw[vM hl];exact hn) hz
theorem Hy{n:Nat}{p:Rg}(hr:Rw n p.1.2)(hl:p.2.length=p.1.2.length)(hw:∀q∈p.2,Sm 3 q)(h:Int):Sm 3 (Lm p h):=by
 by_cases hz:∃z∈p.1.2.zip p.2,z.1=h
 ·obtain⟨z,hz,rfl⟩:=hz;rw[Mc hr.1 hl hz];exact hw _ (abd hz).2
 ·have:Lm p h=0:=lZ λz YC=>abT λe=>hz ⟨z,YC,e⟩;rw[this];exact⟨by decide,by decide⟩
theorem AV{W:Nat}(c:aa)(h:Int):∀l:List Rg,(∀p∈l,0<p.1.1/\p.1.1.den∣W/\Sm 3 (Lm p h))->∃z:Int,(z.natAbs:Int)<=2940*jd W (aT l) c/\GH l c h*((W:Rat)*420)=(z:Rat)
 |[],_=>⟨0,by show(0:Int)<=2940*0;decide,by show(0:Rat)*_=((0:Int):Rat);rw[Rat.zero_mul];rfl⟩
 |p::l,hl=>by
  obtain⟨z,z1,z2⟩:=AV c h l λq hq=>hl q (aad _ hq);obtain⟨p1,p2,p3⟩:=hl p aaf;have e1:jd W (aT (p::l)) c=(if sortI p.1.2=c then bz W p.1.1 else 0)+jd W (aT l) c:=rfl;have e2:GH (p::l) c h=(if sortI p.1.2=c then p.1.1*Lm p h else 0)+GH l c h:=rfl;rw[e1,e2];by_cases e:sortI p.1.2=c
  ·rw[if_pos e,if_pos e];obtain⟨_,b,b1,b2⟩:=U_ p3;have ht:=fg p2;have h0:0<=bz W p.1.1:=by
    have:(0:Rat)<=((bz W p.1.1:Int):Rat):=by
     rw[ht];exact Rat.mul_nonneg (abZ p1) (by exact_mod_cast aaF _)
    exact_mod_cast this
   refine⟨bz W p.1.1*b+z,?_,?_⟩
   ·have h1:(bz W p.1.1*b).natAbs<=(bz W p.1.1).natAbs*2940:=by rw[Int.natAbs_mul];exact aaE _ b1
    have h2:=Int.natAbs_add_le (bz W p.1.1*b) z;left
   ·rw[Rat.intCast_add,Rat.intCast_mul,ht,<- z2,<- b2];have:((420:Nat):Rat)=420:=rfl;rw[this];grind
  ·rw[if_neg e,if_neg e];exact⟨z,by left,by rw[Rat.zero_add];exact z2⟩
variable {ps:List Rg}{xs:av}
theorem Po{n:Nat}(K:Rk 3 n ps xs)(Fi:nW (aT ps)):∀p∈iW ps,p.2.length=p.1.2.length/\∀q∈p.2,Sm 18 q:=λp hp=>by
 obtain⟨W,w0,w1,w2⟩:=Fi;obtain⟨r,hr,rfl⟩:=List.mem_map.mp hp;refine⟨by simp,λq hq=>?_⟩;obtain⟨c,hc,rfl⟩:=List.mem_map.mp hr;obtain⟨h,hh,rfl⟩:=List.mem_map.mp hq;have ph:c∈aZ [] (aT ps):=(aay _ _).mem_iff.mp hc;show Sm 18 (GH ps c h / dR (aT ps) c);have JL:=nK K.dr ph;have hle:=Ha K.dr c;have ht:=vU c w2;obtain⟨z,z1,z2⟩:=AV (W:=W) c h ps λp hp=>⟨K.dr.pos p.1 (aav hp),w2 p.1 (aav hp),Hy (K.rw hp) (K.ln p hp) (K.sw p hp) h⟩
 have hW:(0:Rat)<(W:Rat):=by exact_mod_cast w0
 have hA:0<jd W (aT ps) c:=by
  have:(0:Rat)<((jd W (aT ps) c:Int):Rat):=by rw[ht];exact Rat.mul_pos JL hW
  exact_mod_cast this
 have hAW:jd W (aT ps) c<=W:=by
  have:((jd W (aT ps) c:Int):Rat)<=((W:Int):Rat):=by
   rw[ht,Rat.intCast_natCast];have:=Rat.mul_le_mul_of_nonneg_right hle (abZ hW)
   rwa [Rat.one_mul]at this
  exact_mod_cast this
 obtain⟨A,eA⟩:∃A:Nat,(A:Int)=jd W (aT ps) c:=⟨(jd W (aT ps) c).toNat,by left⟩
 have ZS:((A:Nat):Rat)=dR (aT ps) c*W:=by rw[<- ht,<- eA,Rat.intCast_natCast]
 have F:Fm (420*A) (2940*A) (GH ps c h / dR (aT ps) c):=⟨by left,z,by left,by
  have e:((420*A:Nat):Rat)=420*(A:Rat):=by exact_mod_cast rfl
  rw[e,ZS,<- z2];have:dR (aT ps) c≠0:=λq=>by rw[q]at JL;exact absurd JL (by decide)
  grind⟩
 exact F.sm (by show _<262144;left) (by show _<262144;left)
section
variable {j n:Nat}{ps:List Rg}{xs:av}(K:Rk j n ps xs)
include K
end
structure Z7(Φ:a_):Prop where
 J5:CB (Φ 76)
 h77:Qd rK (Φ 77)
 h78:Qd ML (Φ 78)
 O6:F0 (Φ 79)
 h80:Qe rK (Φ 80)
 h81:Qe ML (Φ 81)
 Zv:F1 (Φ 223)
section
variable (Φ:a_)(Q:Z7 Φ)(ns:aa){n:Nat}{ps:List Rg}(hn:n<=4)(I:Dp (Rw n) 6 n (aT ps))(Fi:nW (aT ps))(OA:∀p∈ps,p.2.length=p.1.2.length/\∀q∈p.2,Sm 3 q)
include Q hn I Fi OA
end
noncomputable def ll(f:Fl)(ks:ag)(g:aa->Rat):D:=.cL f ks (ks.map λk=>qD (g k))
theorem qm(m:Fl->Fl)(f:Fl)(ks:ag)(g:aa->Rat):aU m (ll f ks g)=ll (m f) ks g:=by
 show D.cL (m f) ks (aA m (ks.map λk=>qD (g k)))=_;rw[b_ m (λk=>uZ m _)];rfl
theorem Fb(m:Fl->Bool)(f:Fl)(ks:ag)(g:aa->Rat):aH m (ll f ks g)=m f:=by
 show(m f||aL m (ks.map λk=>qD (g k)))=_;rw[bH m (λk=>fA m _),Bool.or_false]
theorem Np(BJ:Φ 1061=oY)(f:Fl)(ks:ag)(g:aa->Rat)(lot:aa)(h:Int)(h0:h::lot∉ks->g (h::lot)=0):Φ 1061 [ll f ks g,.tup [.tup (af lot),.int h],qD 0]=ok (qD (g (h::lot))):=by
 rw[BJ];show(match bO (.tup [.tup (af lot),.int h])with|some c=>if aL anyF (ks.map λk=>qD (g k))=false/\aH anyF (qD 0)=false then ok ((bo ks (ks.map λk=>qD (g k)) c).getD (qD 0))else none|none=>none)=_;rw[h_];show(if aL anyF (ks.map λk=>qD (g k))=false/\aH anyF (qD 0)=false then ok ((bo ks (ks.map λk=>qD (g k)) (h::lot)).getD (qD 0))else none)=_;rw[if_pos ⟨bH anyF (λk=>fA _ _) ks,fA _ _⟩,fB (λk=>qD (g k))];by_cases hc:h::lot∈ks
 ·rw[if_pos hc];rfl
 ·rw[if_neg hc,h0 hc];rfl
theorem Nl(BI:Φ 1063=sO)(hl:ks.length<1000)(g:aa->Rat)(lot:aa)(h:Int)(x:Rat):Φ 1063 [ll .ow ks g,qD (g (h::lot)+x),.tup [.tup (af lot),.int h]]=ok (ll .ow (aI ks (h::lot)) (bZ g (h::lot) x)):=by
 rw[BI];show(match bO (.tup [.tup (af lot),.int h])with|some c=>if bX .ow=true/\aH anyF (qD (g (h::lot)+x))=false/\aH anyF (.tup [.tup (af lot),.int h])=false/\ks.length<cg then ok (D.cL .ow (aI ks c) (bh ks (ks.map λk=>qD (g k)) c (qD (g (h::lot)+x))))else none|none=>none)=_;rw[h_];show(if bX .ow=true/\aH anyF (qD (g (h::lot)+x))=false/\aH anyF (.tup [.tup (af lot),.int h])=false/\ks.length<cg then ok (D.cL .ow (aI ks (h::lot)) (bh ks (ks.map λk=>qD (g k)) (h::lot) (qD (g (h::lot)+x))))else none)=_;rw[if_pos ⟨rfl,fA _ _,by simp,by show _<1000000;left⟩,oH (λk=>qD (g k))];unfold ll;congr 2;refine aak λj _=>?_;unfold bZ;by_cases z:j=h::lot
 ·rw[if_pos z,if_pos z,z]
 ·rw[if_neg z,if_neg z]
theorem SQ(iu:Φ 1062=qb)(f:Fl)(g:aa->Rat)(lot:aa)(h:Int)(hm:h::lot∈ks):Φ 1062 [ll f ks g,.tup [.tup (af lot),.int h]]=ok (qD (g (h::lot))):=by
 rw[iu];show(match bO (.tup [.tup (af lot),.int h])with|some c=>(match bo ks (ks.map λk=>qD (g k)) c with|some v=>if aH kL v=false then ok v else none|none=>none)|none=>none)=_;rw[h_];show(match bo ks (ks.map λk=>qD (g k)) (h::lot)with|some v=>if aH kL v=false then ok v else none|none=>none)=_;rw[fB (λk=>qD (g k)),if_pos hm];exact aaN (fA _ _)
theorem Mp(P:CJ Φ)(hl:ks.length<1000)(w:aa->Rat)(c:aa)(x:Rat):Φ 1033 [tQ .ow ks w,qD (w c+x),.tup (af c)]=ok (tQ .ow (aI ks c) (bZ w c x)):=by
 have:=Mq P (e:=qD) (λa=>fA _ a) hl w c (w c+x);unfold tQ;rw[this];congr 2;refine aak λk _=>?_;unfold bZ;by_cases h:k=c
 ·rw[if_pos h,if_pos h,h]
 ·rw[if_neg h,if_neg h]
noncomputable def Bq:ah:=[.asg (.nm 9) (.tup [(.v 7),(.ix (.v 6) (.v 8))]),.mut 1063 3 [(.call 202 [(.bR 1061 [(.v 3),(.v 9),(.tup [(.int 0),(.int 1)])]),(.call 203 [(.v 5),(.ix (.ix (.v 1) (.v 4)) (.v 8))])]),(.v 9)]]
noncomputable def Le:ah:=[.asg (.tp [5,6]) (.ix (.ix (.v 0) (.int 1)) (.v 4)),.asg (.nm 7) (.bf .tuple1 [(.bf .cN [(.v 6)])])]
noncomputable def Hb:CS:=.mut 1033 2 [(.call 202 [(.bR 1031 [(.v 2),(.v 7),(.tup [(.int 0),(.int 1)])]),(.v 5)]),(.v 7)]
def vW:ah:=Le++(Hb::[.fr (.nm 8) (.kn (.bf .len [(.v 6)])) Bq])
abbrev mK(n:Nat)(ps:List Rg)(c2:D)(ks:ag)(g:aa->Rat)(c4 c5 c6 c7 c8 c9:aJ):ba:=[some (bN n (aT ps)),some (.lst .fz (bE .fz ps)),some c2,some (ll .ow ks g),c4,c5,c6,c7,c8,c9,none,none]
structure Du(Φ:a_):Prop where
 P:CJ Φ
 tG:gI (Φ 201)
 Pc:Hk (Φ 202)
 Pb:kb (Φ 203)
 BK:Φ 1060=wz
 BJ:Φ 1061=oY
 iu:Φ 1062=qb
 BI:Φ 1063=sO
section
variable (Φ:a_)(U:Du Φ){n:Nat}{ps:List Rg}{xs:av}(K:Rk 3 n ps xs)
include U K
theorem tS{p:Rg}{i:Nat}(hi:ps[i]?=some p)(c2:D):∀(k j:Nat) (ks:ag) (g:aa->Rat) (t:Nat) (c8 c9:aJ),j+k=p.1.2.length->ks.length+k<900->(∀c,c∉ks->g c=0)->(∀c,Sm (1+11*t) (g c))->t+k<=150 ->
  ∃Cq xP,dJ (λd ρ=>cy (.nm 8) d ρ) (λρ=>bA Φ Bq ρ) ((List.range' j k).map λ(z:Nat)=>D.int (z:Int)) (mK n ps c2 ks g (some (.int i)) (some (qD p.1.1)) (some (.tup (af p.1.2))) (some (.tup (af (sortI p.1.2)))) c8 c9)=ok (.nx,mK n ps c2 (lM (sortI p.1.2) ks ((p.1.2.zip p.2).drop j)) (λc=>g c+(eI (sortI p.1.2) p.1.1 ((p.1.2.zip p.2).drop j) c).sum) (some (.int i)) (some (qD p.1.1)) (some (.tup (af p.1.2))) (some (.tup (af (sortI p.1.2)))) Cq xP)/\∀c,Sm (1+11*(t+k)) (g c+(eI (sortI p.1.2) p.1.1 ((p.1.2.zip p.2).drop j) c).sum)
 |0,j,ks,g,t,c8,c9,hj,_,_,hs,_=>by
  have hp:=aaq hi;have hl:=K.ln p hp;rw[List.drop_eq_nil_of_le (by rw[List.length_zip];left)];have e:(λc=>g c+(eI (sortI p.1.2) p.1.1 [] c).sum)=g:=funext λc=>by show g c+0=g c;grind
  have e':∀c,g c+(eI (sortI p.1.2) p.1.1 [] c).sum=g c:=λc=>congrFun e c;exact⟨c8,c9,by rw[e];rfl,λc=>by rw[e' c];exact hs c⟩
 |k+1,j,ks,g,t,c8,c9,hj,hl,h0,hs,ht=>by
  have hp:=aaq hi;have qG:=K.ln p hp;have hw:=(K.rw hp).2.1;have hn:=K.Jf;obtain⟨h,h1,h2⟩:=qM (l:=p.1.2) (j:=j) (by left);obtain⟨w,w1,w2⟩:=qM (l:=p.2) (j:=j) (by left);have hz:(p.1.2.zip p.2)[j]?=some (h,w):=by rw[List.getElem?_zip_eq_some];exact⟨h1,w1⟩
  have b1:nM (af p.1.2) (j:Int)=ok (.int h):=at_of (d:=.int h) (by left) (by unfold af;rw[Int.toNat_natCast,List.getElem?_map,h1];rfl);have b2:nM (bI p.2) (j:Int)=ok (qD w):=by
   have:=at_of (ds:=bI p.2) (i:=(j:Int)) (d:=qD w) (by left) (by unfold bI;rw[Int.toNat_natCast,List.getElem?_map,w1];rfl);simpa using this
  obtain⟨g1,_⟩:=G0 hi;have s1:Sm 6 p.1.1:=K.dr.sm p.1 (aav hp);have s3:=K.sw p hp w w2;have e1:=U.Pb p.1.1 w (s1.mono (by decide)) (s3.mono (by decide));have s4:Sm 9 (p.1.1*w):=s1.mul s3;have e2:=U.Pc (g (h::sortI p.1.2)) (p.1.1*w) ((hs _).mono (by left)) (s4.mono (by decide));have e3:=λf=>Np U.BJ f ks g (sortI p.1.2) h (h0 _);have e4:=Nl U.BI (ks:=ks) (by left) g (sortI p.1.2) h (p.1.1*w);have hk:=cZ ks (h::sortI p.1.2);have sa:∀c,Sm (1+11*(t+1)) (bZ g (h::sortI p.1.2) (p.1.1*w) c):=λc=>by
   unfold bZ;split
   ·exact((hs c).add s4).mono (by left)
   ·exact(hs c).mono (by left)
  obtain⟨d8,d9,ih,TJ⟩:=tS hi c2 k (j+1) (aI ks (h::sortI p.1.2)) (bZ g (h::sortI p.1.2) (p.1.1*w)) (t+1) (some (.int j)) (some (.tup [.tup (af (sortI p.1.2)),.int h])) (by left) (by left) (λc hc=>by
   unfold bZ;rw[if_neg λz=>hc (bQ.mpr (.inr z))];exact h0 c λz=>hc (bQ.mpr (.inl z))) sa (by left)
  have ef:∀c,bZ g (h::sortI p.1.2) (p.1.1*w) c+(eI (sortI p.1.2) p.1.1 ((p.1.2.zip p.2).drop (j+1)) c).sum=g c+(eI (sortI p.1.2) p.1.1 ((p.1.2.zip p.2).drop j) c).sum:=λc=>by
   rw[qS hz];unfold bZ eI;by_cases z:c=h::sortI p.1.2
   ·rw[if_pos z,List.filter_cons_of_pos (by simpa using z.symm),List.map_cons,List.sum_cons];grind
   ·rw[if_neg z,List.filter_cons_of_neg (by simpa using Ne.symm z)]
  have ek:lM (sortI p.1.2) ks ((p.1.2.zip p.2).drop j)=lM (sortI p.1.2) (aI ks (h::sortI p.1.2)) ((p.1.2.zip p.2).drop (j+1)):=by rw[qS hz];rfl
  rw[show(λc=>bZ g (h::sortI p.1.2) (p.1.1*w) c+(eI (sortI p.1.2) p.1.1 ((p.1.2.zip p.2).drop (j+1)) c).sum)=λc=>g c+(eI (sortI p.1.2) p.1.1 ((p.1.2.zip p.2).drop j) c).sum from funext ef,<- ek]at ih;rw[List.range'_succ,List.map_cons];refine⟨d8,d9,dj (ρ1:=mK n ps c2 ks g (some (.int i)) (some (qD p.1.1)) (some (.tup (af p.1.2))) (some (.tup (af (sortI p.1.2)))) (some (.int j)) c9) (by simp) (ρ2:=mK n ps c2 (aI ks (h::sortI p.1.2)) (bZ g (h::sortI p.1.2) (p.1.1*w)) (some (.int i)) (some (qD p.1.1)) (some (.tup (af p.1.2))) (some (.tup (af (sortI p.1.2)))) (some (.int j)) (some (.tup [.tup (af (sortI p.1.2)),.int h]))) ?_ ih,λc=>by rw[<- ef c];exact(TJ c).mono (by left)⟩;have z0:D.tup [.int 0,.int 1]=qD 0:=rfl;have a1:jh Φ (.asg (.nm 9) (.tup [(.v 7),(.ix (.v 6) (.v 8))])) (mK n ps c2 ks g (some (.int i)) (some (qD p.1.1)) (some (.tup (af p.1.2))) (some (.tup (af (sortI p.1.2)))) (some (.int j)) c9)=ok (.nx,mK n ps c2 ks g (some (.int i)) (some (qD p.1.1)) (some (.tup (af p.1.2))) (some (.tup (af (sortI p.1.2)))) (some (.int j)) (some (.tup [.tup (af (sortI p.1.2)),.int h]))):=by
   simp[b1]
  have x1:=kv (Φ:=Φ) (p:=1063) (i:=3) (es:=[(.call 202 [(.bR 1061 [(.v 3),(.v 9),(.tup [(.int 0),(.int 1)])]),(.call 203 [(.v 5),(.ix (.ix (.v 1) (.v 4)) (.v 8))])]),(.v 9)]) (ρ:=mK n ps c2 ks g (some (.int i)) (some (qD p.1.1)) (some (.tup (af p.1.2))) (some (.tup (af (sortI p.1.2)))) (some (.int j)) (some (.tup [.tup (af (sortI p.1.2)),.int h]))) (xs:=[qD (g (h::sortI p.1.2)+p.1.1*w),.tup [.tup (af (sortI p.1.2)),.int h]]) (by
   have m:=qm bj .ow ks g;simp[m,bj,z0,e3,g1,b2,e1,e2]) (by simp) rfl e4
  rw[Bq,bK,a1];show bA Φ [.mut 1063 3 _] _=_;rw[bK,x1];rfl
end
section
variable (Φ:a_)(U:Du Φ){n:Nat}{ps:List Rg}{xs:av}(K:Rk 3 n ps xs)
include U K
theorem tR:∀(k j:Nat) (kl:ag) (S:aa->Rat) (ks:ag) (g:aa->Rat) (t:Nat) (c4 c5 c6 c7 c8 c9:aJ),j+k=ps.length->kl.length+k<900->ks.length+12*k<900->(∀c,c∉kl->S c=0)->(∀c,c∉ks->g c=0)->(∀c,Sm (1+8*j) (S c))->(∀c,Sm (1+11*t) (g c))->t+12*k<=150 ->
  ∃P0 FN Cr za Cq xP,dJ (λd ρ=>cy (.nm 4) d ρ) (λρ=>bA Φ vW ρ) ((List.range' j k).map λ(z:Nat)=>D.int (z:Int)) (mK n ps (tQ .ow kl S) ks g c4 c5 c6 c7 c8 c9)=ok (.nx,mK n ps (tQ .ow (aZ kl (aT (ps.drop j))) λc=>S c+dR (aT (ps.drop j)) c) ((ps.drop j).foldl (λks p=>lM (sortI p.1.2) ks (p.1.2.zip p.2)) ks) (λc=>g c+((ps.drop j).flatMap λp=>eI (sortI p.1.2) p.1.1 (p.1.2.zip p.2) c).sum) P0 FN Cr za Cq xP)/\∀c,Sm 1700 (g c+((ps.drop j).flatMap λp=>eI (sortI p.1.2) p.1.1 (p.1.2.zip p.2) c).sum)
 |0,j,kl,S,ks,g,t,c4,c5,c6,c7,c8,c9,hj,_,_,_,_,_,hs,ht=>by
  rw[List.drop_eq_nil_of_le (by left)];have e1:(λc=>S c+dR (aT []) c)=S:=funext λc=>by show S c+0=S c;grind
  have e2:∀c,g c+(([]:List Rg).flatMap λp=>eI (sortI p.1.2) p.1.1 (p.1.2.zip p.2) c).sum=g c:=λc=>by show g c+0=g c;grind
  exact⟨c4,c5,c6,c7,c8,c9,by rw[e1,funext e2];rfl,λc=>by rw[e2];exact(hs c).mono (by left)⟩
 |k+1,j,kl,S,ks,g,t,c4,c5,c6,c7,c8,c9,hj,hl,hlk,h0,h0g,hS,hs,ht=>by
  have hf:=K.kr;have hn:=K.Jf;obtain⟨p,h1,hp⟩:=qM (l:=ps) (j:=j) (by left);obtain⟨_,g2⟩:=G0 h1;have hw:=(K.rw hp).2.1;have s1:Sm 6 p.1.1:=K.dr.sm p.1 (aav hp);have e1:=λf=>Mu U.P (e:=qD) (λa=>fA _ a) f kl S 0 (sortI p.1.2) (h0 _);have e2:=U.Pc (S (sortI p.1.2)) p.1.1 ((hS _).mono (by left)) (s1.mono (by decide));have e3:=Mp U.P (ks:=kl) (by left) S (sortI p.1.2) p.1.1;have hk:=cZ kl (sortI p.1.2);have hky:=qw (c:=sortI p.1.2) (zs:=p.1.2.zip p.2) (ks:=ks);have Yz:(p.1.2.zip p.2).length<=12:=by rw[List.length_zip];left
  obtain⟨d8,d9,ei,W9⟩:=tS Φ U K h1 (tQ .ow (aI kl (sortI p.1.2)) (bZ S (sortI p.1.2) p.1.1)) p.1.2.length 0 ks g t c8 c9 (by left) (by left) h0g hs (by left);rw[List.drop_zero]at ei W9;have sa:∀c,Sm (1+8*(j+1)) (bZ S (sortI p.1.2) p.1.1 c):=λc=>by
   unfold bZ;split
   ·exact((hS c).add s1).mono (by left)
   ·exact(hS c).mono (by left)
  obtain⟨f4,f5,f6,f7,f8,f9,ih,TJ⟩:=tR k (j+1) (aI kl (sortI p.1.2)) (bZ S (sortI p.1.2) p.1.1) (lM (sortI p.1.2) ks (p.1.2.zip p.2)) (λc=>g c+(eI (sortI p.1.2) p.1.1 (p.1.2.zip p.2) c).sum) (t+12) (some (.int j)) (some (qD p.1.1)) (some (.tup (af p.1.2))) (some (.tup (af (sortI p.1.2)))) d8 d9 (by left) (by left) (by left) (λc hc=>by
   unfold bZ;rw[if_neg λz=>hc (bQ.mpr (.inr z))];exact h0 c λz=>hc (bQ.mpr (.inl z))) (λc hc=>by
   have q1:=h0g c λz=>hc (gB.mpr (.inl z));have q2:eI (sortI p.1.2) p.1.1 (p.1.2.zip p.2) c=[]:=by
    unfold eI;rw[List.filter_eq_nil_iff.mpr λz hz w=>hc (gB.mpr (.inr ⟨z,hz,by simpa using w⟩))];rfl
   rw[q1,q2];show(0:Rat)+0=0;grind) sa (λc=>(W9 c).mono (by left)) (by left)
  have ed:ps.drop j=p::ps.drop (j+1):=qS h1;have ef:(λc=>bZ S (sortI p.1.2) p.1.1 c+dR (aT (ps.drop (j+1))) c)=λc=>S c+dR (aT (ps.drop j)) c:=funext λc=>by
   rw[ed];have e:dR (aT (p::ps.drop (j+1))) c=(if sortI p.1.2=c then p.1.1 else 0)+dR (aT (ps.drop (j+1))) c:=rfl;rw[e];unfold bZ;by_cases z:c=sortI p.1.2
   ·rw[if_pos z,if_pos z.symm];grind
   ·rw[if_neg z,if_neg (Ne.symm z)];grind
  have eg:∀c,(g c+(eI (sortI p.1.2) p.1.1 (p.1.2.zip p.2) c).sum)+((ps.drop (j+1)).flatMap λp=>eI (sortI p.1.2) p.1.1 (p.1.2.zip p.2) c).sum=g c+((ps.drop j).flatMap λp=>eI (sortI p.1.2) p.1.1 (p.1.2.zip p.2) c).sum:=λc=>by
   rw[ed,List.flatMap_cons,pU,Rat.add_assoc]
  have el:aZ kl (aT (ps.drop j))=aZ (aI kl (sortI p.1.2)) (aT (ps.drop (j+1))):=by rw[ed];rfl
  have ek:(ps.drop j).foldl (λks p=>lM (sortI p.1.2) ks (p.1.2.zip p.2)) ks=(ps.drop (j+1)).foldl (λks p=>lM (sortI p.1.2) ks (p.1.2.zip p.2)) (lM (sortI p.1.2) ks (p.1.2.zip p.2)):=by rw[ed];rfl
  rw[ef,funext eg,<- el,<- ek]at ih;have m2:aU bj (bN n (aT ps))=bN n (aT ps):=by simp[bN]
  have hd:bN n (aT ps)=.tup [.int n,.lst .fz (bU (aT ps))]:=rfl;have x1:rL (bN n (aT ps)) (.int 1)=ok (.lst .fz (bU (aT ps))):=by rw[hd];simp
  have es:nZ .cN [.tup (af p.1.2)]=ok (.lst .ow (af (sortI p.1.2))):=qR (by left);have et:nZ .tuple1 [.lst .ow (af (sortI p.1.2))]=ok (.tup (af (sortI p.1.2))):=by
   show ok (D.tup (aA bj (af (sortI p.1.2))))=_;rw[cF]
  have er:rD p.1=.tup [qD p.1.1,.tup (af p.1.2)]:=rfl;have z0:D.tup [.int 0,.int 1]=qD 0:=rfl;have ga:bA Φ Le (mK n ps (tQ .ow kl S) ks g (some (.int j)) c5 c6 c7 c8 c9)=ok (.nx,mK n ps (tQ .ow kl S) ks g (some (.int j)) (some (qD p.1.1)) (some (.tup (af p.1.2))) (some (.tup (af (sortI p.1.2)))) c8 c9):=by
   simp[Le,m2,x1,g2,er,es,et]
  have x2:=kv (Φ:=Φ) (p:=1033) (i:=2) (es:=[(.call 202 [(.bR 1031 [(.v 2),(.v 7),(.tup [(.int 0),(.int 1)])]),(.v 5)]),(.v 7)]) (ρ:=mK n ps (tQ .ow kl S) ks g (some (.int j)) (some (qD p.1.1)) (some (.tup (af p.1.2))) (some (.tup (af (sortI p.1.2)))) c8 c9) (xs:=[qD (S (sortI p.1.2)+p.1.1),.tup (af (sortI p.1.2))]) (by
   have m:=qk bj .ow kl S;have G6:Φ 1031 [tQ .al kl S,.tup (af (sortI p.1.2)),qD 0]=ok (qD (S (sortI p.1.2))):=e1 .al;simp[m,bj,z0,G6,e2]) (by simp) rfl e3
  have hit:=yv (Φ:=Φ) (a:=.bf .len [(.v 6)]) (ρ:=mK n ps (tQ .ow (aI kl (sortI p.1.2)) (bZ S (sortI p.1.2) p.1.1)) ks g (some (.int j)) (some (qD p.1.1)) (some (.tup (af p.1.2))) (some (.tup (af (sortI p.1.2)))) c8 c9) (n:=p.1.2.length) (by simp) (by left) (by left);rw[Int.toNat_natCast,List.range_eq_range']at hit;have OO:=eU (Φ:=Φ) (t:=.nm 8) (b:=Bq) hit ei;rw[List.range'_succ,List.map_cons];refine⟨f4,f5,f6,f7,f8,f9,dj (ρ1:=mK n ps (tQ .ow kl S) ks g (some (.int j)) c5 c6 c7 c8 c9) (by simp) ?_ ih,λc=>by have:=TJ c;rw[eg c]at this;exact this⟩;have x3:jh Φ Hb (mK n ps (tQ .ow kl S) ks g (some (.int j)) (some (qD p.1.1)) (some (.tup (af p.1.2))) (some (.tup (af (sortI p.1.2)))) c8 c9)=ok (.nx,mK n ps (tQ .ow (aI kl (sortI p.1.2)) (bZ S (sortI p.1.2) p.1.1)) ks g (some (.int j)) (some (qD p.1.1)) (some (.tup (af p.1.2))) (some (.tup (af (sortI p.1.2)))) c8 c9):=x2;rw[vW,cY Φ _ _ _ _ ga,bK,x3];show bA Φ [.fr (.nm 8) _ Bq] (mK n ps (tQ .ow (aI kl (sortI p.1.2)) (bZ S (sortI p.1.2) p.1.1)) ks g (some (.int j)) (some (qD p.1.1)) (some (.tup (af p.1.2))) (some (.tup (af (sortI p.1.2)))) c8 c9)=_;rw[bK,OO];rfl
end
noncomputable def tP:CE:=.comp 1 (.nm 0) [11,3,7] .seq [(.v 7)] [] (.call 203 [(.bR 1062 [(.v 2),(.tup [(.v 3),(.v 0)])]),(.v 1)])
def r_:ah:=[.asg (.nm 11) (.call 201 [(.ix (.bR 1032 [(.v 2),(.v 7)]) (.int 1)),(.ix (.bR 1032 [(.v 2),(.v 7)]) (.int 0))]),.app 10 tP]
noncomputable def B3:CE:=.comp 1 (.nm 0) [2] .seq [(.bR 1035 [(.v 2)])] [] (.tup [(.bR 1032 [(.v 1),(.v 0)]),(.v 0)])
noncomputable def Ao:ah:=[.asg (.nm 2) (.bR 1030 []),.asg (.nm 3) (.bR 1060 [])]
def An:ah:=[.fr (.nm 4) (.kn (.bf .len [(.v 1)])) vW]
def Am:ah:=[.asg (.nm 10) (.lst []),.fr (.nm 7) (.seq (.bR 1035 [(.v 2)])) r_]
def Gy:ah:=[.ret (.lst [(.tup [(.ix (.v 0) (.int 0)),B3]),(.v 10)])]
def uf:ah:=Ao++(An++(Am++Gy))
def Hm(m:aC):Prop:=∀n ps xs,Rk 3 n ps xs->nW (aT ps)->m [bN n (aT ps),.lst .fz (bE .fz ps)]=ok (.lst .fz [bN n (eN (aT ps)),.lst .fz (bE .fz (iW ps))])
theorem xx(Φ:a_)(U:Du Φ){kl:ag}{S:aa->Rat}{ks:ag}{g:aa->Rat}(hg:∀c,Sm 1700 (g c))(c0 c1 c4 c5 c6 c8 c9:aJ):∀(l:ag) (acc:List Rg) (c7 L3:aJ),(∀c∈l,c∈kl/\0<S c/\Sm 6 (S c)/\c.length<=12/\∀h∈c,h::c∈ks)->acc.length+l.length<900 ->
  ∃za Vs,dJ (λd ρ=>cy (.nm 7) d ρ) (λρ=>bA Φ r_ ρ) (l.map cK) [c0,c1,some (tQ .ow kl S),some (ll .ow ks g),c4,c5,c6,c7,c8,c9,some (.lst .ow (bE .ow acc)),L3]=ok (.nx,[c0,c1,some (tQ .ow kl S),some (ll .ow ks g),c4,c5,c6,za,c8,c9,some (.lst .ow (bE .ow (acc++l.map λc=>((S c,c),c.map λh=>g (h::c) / S c)))),Vs])
 |[],acc,c7,L3,_,_=>⟨c7,L3,by simp[qQ]⟩
 |c::l,acc,c7,L3,hc,hl=>by
  rw[List.length_cons]at hl;obtain⟨h1,h2,h3,h4,h5⟩:=hc c aaf;have hz:S c≠0:=λz=>by rw[z]at h2;exact absurd h2 (by decide)
  have Bw:(S c).num≠0:=λz=>hz (Rat.num_eq_zero.mp z);have e1:=λf=>VV U.P (e:=qD) (λa=>fA _ a) f (ks:=kl) S h1;have e2:=U.tG (S c).den (S c).num Bw (aaj h3.1 (aar (by decide) (by decide)));have ei:Rat.divInt (S c).den (S c).num=1 / S c:=by
   rw[Rat.divInt_eq_div,Rat.intCast_natCast];have:=oV (S c);have tq:((S c).num:Rat)≠0:=λz=>Bw (by rw[Rat.intCast_eq_zero_iff]at z;exact z);have CT:((S c).den:Rat)≠0:=ib (Rat.den_pos _);grind
  rw[ei]at e2;have s1:Sm 6 (1 / S c):=by
   rw[<- ei];exact sj Bw (by simpa using h3.2) h3.1
  have X_:cK c=.tup (af c):=rfl;have ec:bC Φ tP [c0,c1,some (tQ .ow kl S),some (ll .ow ks g),c4,c5,c6,some (.tup (af c)),c8,c9,some (.lst .ow (bE .ow acc)),some (qD (1 / S c))]=ok (.lst .ow (bI (c.map λh=>g (h::c) / S c))):=by
   unfold tP;rw[dM (xs:=[.tup (af c)]) (items:=c.map D.int) (ds:=c.map λh=>qD (g (h::c) / S c)) (by simp) (by rw[qA,cF];rfl) (cB λh hh=>⟨[some (.int h),some (qD (1 / S c)),some (ll .fz ks g),some (.tup (af c))],by simp[bP,qm,aV],by simp,?_⟩) (by simp;exact cP (by left))]
   ·simp[bI,aY]
   ·have k1:=λf=>SQ U.iu f g c h (h5 h hh);have k2:=U.Pb (g (h::c)) (1 / S c) ((hg _).mono (by decide)) (s1.mono (by decide));have k3:g (h::c)*(1 / S c)=g (h::c) / S c:=by grind
    rw[k3]at k2;have o3:aU bj (ll .fz ks g)=ll .fz ks g:=qm _ _ _ _;simp[o3,k1,k2]
  obtain⟨d7,Rf,ih⟩:=xx Φ U hg c0 c1 c4 c5 c6 c8 c9 l (acc++[((S c,c),c.map λh=>g (h::c) / S c)]) (some (.tup (af c))) (some (qD (1 / S c))) (λd hd=>hc d (aad _ hd)) (by simp;left);have Y6:(bE .ow acc).length<cg:=by show _<1000000;simp;left
  have ea:bE .ow acc++[.lst .ow (bI (c.map λh=>g (h::c) / S c))]=bE .ow (acc++[((S c,c),c.map λh=>g (h::c) / S c)]):=by simp[bE]
  refine⟨d7,Rf,dj (x:=cK c) (ρ1:=[c0,c1,some (tQ .ow kl S),some (ll .ow ks g),c4,c5,c6,some (.tup (af c)),c8,c9,some (.lst .ow (bE .ow acc)),L3]) (by simp[X_]) (ρ2:=[c0,c1,some (tQ .ow kl S),some (ll .ow ks g),c4,c5,c6,some (.tup (af c)),c8,c9,some (.lst .ow (bE .ow (acc++[((S c,c),c.map λh=>g (h::c) / S c)]))),some (qD (1 / S c))]) ?_ (ih.trans (by simp))⟩;have eq:qD (S c)=.tup [.int (S c).num,.int (S c).den]:=rfl;have G6:Φ 1032 [tQ .al kl S,.tup (af c)]=ok (qD (S c)):=e1 .al;have m:=qk bj .ow kl S;have x0:rL (qD (S c)) (.int 0)=ok (.int (S c).num):=by rw[eq];simp
  have x1:rL (qD (S c)) (.int 1)=ok (.int (S c).den):=by rw[eq];simp
  have a1:jh Φ (.asg (.nm 11) (.call 201 [(.ix (.bR 1032 [(.v 2),(.v 7)]) (.int 1)),(.ix (.bR 1032 [(.v 2),(.v 7)]) (.int 0))])) [c0,c1,some (tQ .ow kl S),some (ll .ow ks g),c4,c5,c6,some (.tup (af c)),c8,c9,some (.lst .ow (bE .ow acc)),L3]=ok (.nx,[c0,c1,some (tQ .ow kl S),some (ll .ow ks g),c4,c5,c6,some (.tup (af c)),c8,c9,some (.lst .ow (bE .ow acc)),some (qD (1 / S c))]):=by
   simp[m,bj,G6,x0,x1,e2]
  rw[r_,bK,a1];show bA Φ [.app 10 tP] _=_;rw[bK,Ga,N_ Φ tP _ rfl,ec,jW (by simp)];generalize bE .ow acc=es at *;simp[Y6,ea]
theorem MU(Φ:a_)(U:Du Φ):Hm (mk Φ 2 12 uf):=by
 intro n ps xs K Fi;have hn:=K.Jf;have hfew:=K.kr;obtain⟨J,_⟩:=BX K.dr Fi;have hp:(bc (aZ [] (aT ps))).Perm (aZ [] (aT ps)):=aay _ _;have Um:=jP (rs:=aT ps) (ks:=[]);have z1:Sm 1 (0:Rat):=⟨by decide,by decide⟩
 obtain⟨c4,c5,c6,c7,c8,c9,el,hs⟩:=tR Φ U K ps.length 0 [] (λ_=>0) [] (λ_=>0) 0 none none none none none none (by left) (by simp;left) (by simp;left) (λ_ _=>rfl) (λ_ _=>rfl) (λ_=>z1) (λ_=>z1) (by left);rw[List.drop_zero]at el hs;have e1:(λc=>(0:Rat)+dR (aT ps) c)=dR (aT ps):=funext λc=>Rat.zero_add _;have e2:∀c,(0:Rat)+(ps.flatMap λp=>eI (sortI p.1.2) p.1.1 (p.1.2.zip p.2) c).sum=(ps.flatMap λp=>eI (sortI p.1.2) p.1.1 (p.1.2.zip p.2) c).sum:=λc=>Rat.zero_add _;rw[e1,funext e2]at el;have yE:∀c,Sm 1700 (ps.flatMap λp=>eI (sortI p.1.2) p.1.1 (p.1.2.zip p.2) c).sum:=λc=>by have:=hs c;rw[e2]at this;exact this
 have JQ:∀c∈bc (aZ [] (aT ps)),c∈aZ [] (aT ps)/\0<dR (aT ps) c/\Sm 6 (dR (aT ps) c)/\c.length<=12/\∀h∈c,h::c∈ps.foldl (λks p=>lM (sortI p.1.2) ks (p.1.2.zip p.2)) []:=λc hc=>by
  have ph:=hp.mem_iff.mp hc;have hr:(dR (aT ps) c,c)∈eN (aT ps):=List.mem_map.mpr ⟨c,hc,rfl⟩;refine⟨ph,nK K.dr ph,J.sm _ hr,by have:c.length<=n:=(J.lot _ hr).len;left,λh hh=>?_⟩;rcases gi.mp ph with z|⟨s,hs,e⟩
  ·exact nomatch z
  obtain⟨p,hp,rfl⟩:=List.mem_map.mp hs;subst e;have Ux:h∈p.1.2:=(sortI_perm _).mem_iff.mp hh;obtain⟨i,hi,rfl⟩:=List.mem_iff_getElem.mp Ux;refine qv (.inr ⟨p,hp,(p.1.2[i],p.2[i]'(by rw[K.ln p hp];exact hi)),?_,rfl⟩);exact aaq (i:=i) (by rw[List.getElem?_zip_eq_some];exact⟨aal hi,aal _⟩)
 have hsl:(bc (aZ [] (aT ps))).length<=10:=by rw[hp.length_eq];simp at Um;left
 obtain⟨d7,Rf,ed⟩:=xx Φ U (kl:=aZ [] (aT ps)) (S:=dR (aT ps)) (ks:=ps.foldl (λks p=>lM (sortI p.1.2) ks (p.1.2.zip p.2)) []) yE (some (bN n (aT ps))) (some (.lst .fz (bE .fz ps))) c4 c5 c6 c8 c9 (bc (aZ [] (aT ps))) [] c7 none JQ (by simp;left);have KJ:((bc (aZ [] (aT ps))).map λc=>((dR (aT ps) c,c),c.map λh=>(ps.flatMap λp=>eI (sortI p.1.2) p.1.1 (p.1.2.zip p.2) (h::c)).sum / dR (aT ps) c))=iW ps:=by
  unfold iW eN;rw[List.map_map];refine aak λc _=>?_;show((dR (aT ps) c,c),_)=((dR (aT ps) c,c),c.map λh=>GH ps c h / dR (aT ps) c)
  congr 1;exact aak λh _=>by rw[kQ]
 rw[List.nil_append,KJ]at ed;generalize hkk:ps.foldl (λks p=>lM (sortI p.1.2) ks (p.1.2.zip p.2)) []=kk at *;generalize hgg:(λc=>(ps.flatMap λp=>eI (sortI p.1.2) p.1.1 (p.1.2.zip p.2) c).sum)=gg at *;have P:=U.P;have e0:Φ 1030 []=ok (tQ .ow [] λ_=>0):=by rw[P.xb];rfl
 have ZV:Φ 1060 []=ok (ll .ow [] λ_=>0):=by rw[U.BK];rfl
 have o1:aH bp (tQ .ow [] λ_=>0)=false:=EY _ _ _ _;have o2:aH bp (ll .ow [] λ_=>0)=false:=Fb _ _ _ _;have ga:bA Φ Ao [some (bN n (aT ps)),some (.lst .fz (bE .fz ps)),none,none,none,none,none,none,none,none,none,none]=ok (.nx,mK n ps (tQ .ow [] λ_=>0) [] (λ_=>0) none none none none none none):=by
  simp[Ao,e0,ZV,o1,o2]
 have hit:=yv (Φ:=Φ) (a:=.bf .len [(.v 1)]) (ρ:=mK n ps (tQ .ow [] λ_=>0) [] (λ_=>0) none none none none none none) (n:=ps.length) (by
  have l1:nZ .len [.lst .fz (bE .fz ps)]=ok (.int ps.length):=by show ok (D.int ((bE .fz ps).length:Int))=_;simp
  simp[bj,l1]) (by left) (by left)
 rw[Int.toNat_natCast,List.range_eq_range']at hit;have hf:=eU (Φ:=Φ) (t:=.nm 4) (b:=vW) hit el;have gb:bA Φ An (mK n ps (tQ .ow [] λ_=>0) [] (λ_=>0) none none none none none none)=ok (.nx,mK n ps (tQ .ow (aZ [] (aT ps)) (dR (aT ps))) kk gg c4 c5 c6 c7 c8 c9):=by
  rw[An,bK,hf];rfl
 have ts:=λf=>Ge P f ((aZ [] (aT ps)).map λk=>qD (dR (aT ps) k)) (ks:=aZ [] (aT ps)) (by rw[<- hp.length_eq];left);have VU:∀f,Φ 1035 [tQ f (aZ [] (aT ps)) (dR (aT ps))]=ok (.lst .ow ((bc (aZ [] (aT ps))).map cK)):=ts;have mt:=λg f=>qk g f (aZ [] (aT ps)) (dR (aT ps));have JT:cM Φ (.seq (.bR 1035 [(.v 2)])) [some (bN n (aT ps)),some (.lst .fz (bE .fz ps)),some (tQ .ow (aZ [] (aT ps)) (dR (aT ps))),some (ll .ow kk gg),c4,c5,c6,c7,c8,c9,some (.lst .ow []),none]=ok ((bc (aZ [] (aT ps))).map cK,[some (bN n (aT ps)),some (.lst .fz (bE .fz ps)),some (tQ .ow (aZ [] (aT ps)) (dR (aT ps))),some (ll .ow kk gg),c4,c5,c6,c7,c8,c9,some (.lst .ow []),none]):=by
  have UD:∀l:ag,aL bp (l.map cK)=false:=λl=>bH bp (λc=>by show aL bp (c.map D.int)=false;exact m8 _ c) l;rw[Be (f:=.ow) (ds:=(bc (aZ [] (aT ps))).map cK) (by simp[mt,VU])];simp[cT,UD,bp]
 have UE:=eU (Φ:=Φ) (t:=.nm 7) (b:=r_) JT ed;have gc:bA Φ Am (mK n ps (tQ .ow (aZ [] (aT ps)) (dR (aT ps))) kk gg c4 c5 c6 c7 c8 c9)=ok (.nx,[some (bN n (aT ps)),some (.lst .fz (bE .fz ps)),some (tQ .ow (aZ [] (aT ps)) (dR (aT ps))),some (ll .ow kk gg),c4,c5,c6,d7,c8,c9,some (.lst .ow (bE .ow (iW ps))),Rf]):=by
  have a1:jh Φ (.asg (.nm 10) (.lst [])) (mK n ps (tQ .ow (aZ [] (aT ps)) (dR (aT ps))) kk gg c4 c5 c6 c7 c8 c9)=ok (.nx,[some (bN n (aT ps)),some (.lst .fz (bE .fz ps)),some (tQ .ow (aZ [] (aT ps)) (dR (aT ps))),some (ll .ow kk gg),c4,c5,c6,c7,c8,c9,some (.lst .ow []),none]):=by simp
  rw[Am,bK,a1];show bA Φ [.fr (.nm 7) _ r_] _=_;rw[bK,UE];rfl
 have ec:bC Φ B3 [some (bN n (aT ps)),some (.lst .fz (bE .fz ps)),some (tQ .ow (aZ [] (aT ps)) (dR (aT ps))),some (ll .ow kk gg),c4,c5,c6,d7,c8,c9,some (.lst .ow (bE .ow (iW ps))),Rf]=ok (.lst .ow (bU (eN (aT ps)))):=by
  unfold B3;rw[dM (xs:=[.lst .ow ((bc (aZ [] (aT ps))).map cK)]) (items:=(bc (aZ [] (aT ps))).map cK) (ds:=(bc (aZ [] (aT ps))).map λc=>rD (dR (aT ps) c,c)) (by simp[mt,VU]) (by rw[eY,cT]) (cB λc hc=>?_) (by simp;exact cP (by left))]
  ·have:((bc (aZ [] (aT ps))).map λc=>rD (dR (aT ps) c,c))=bU (eN (aT ps)):=by unfold bU eN;rw[List.map_map];rfl
   rw[this,ig]
  ·have k1:=λf=>VV P (e:=qD) (λa=>fA _ a) f (ks:=aZ [] (aT ps)) (dR (aT ps)) (hp.mem_iff.mp hc);have Yw:Φ 1032 [tQ .fz (aZ [] (aT ps)) (dR (aT ps)),.tup (af c)]=ok (qD (dR (aT ps) c)):=k1 .fz;have EN:cK c=.tup (af c):=rfl;exact⟨[some (.tup (af c)),some (tQ .fz (aZ [] (aT ps)) (dR (aT ps)))],by simp[bP,EN,mt,aV],by simp,by simp[mt,bj,Yw,rD]⟩
 have m2:aU bj (bN n (aT ps))=bN n (aT ps):=by simp[bN]
 have hd:bN n (aT ps)=.tup [.int n,.lst .fz (bU (aT ps))]:=rfl;have x0:rL (bN n (aT ps)) (.int 0)=ok (.int n):=by rw[hd];simp
 rw[mk_eq (show[bN n (aT ps),D.lst .fz (bE .fz ps)].length=2 from rfl)];show kS (bA Φ uf [some (bN n (aT ps)),some (.lst .fz (bE .fz ps)),none,none,none,none,none,none,none,none,none,none])=_;rw[uf,cY Φ _ _ _ _ ga,cY Φ _ _ _ _ gb,cY Φ _ _ _ _ gc,Gy];have fa:aL bp (bE .al (iW ps))=aL bp (bE .al (iW ps)):=rfl;have mg:∀(g:Fl->Fl) f,aA g (bE f (iW ps))=bE (g f) (iW ps):=λg f=>jO g f _;refine Eq.trans (b:=ok (D.lst Fl.fz [D.tup [D.int n,D.lst Fl.fz (bU (eN (aT ps)))],D.lst Fl.fz (bE Fl.fz (iW ps))])) ?_ rfl;simp[m2,x0,ec,mg,bj,aV,VD,bp]
noncomputable def B5:CE:=.comp 1 (.nm 0) [] .seq [(.v 2)] [] (.bf .list1 [(.v 0)])
theorem K5(Φ:a_)(hl:ps.length<=10)(c0 c1:aJ)(r:ba):bC Φ B5 (c0::c1::some (.lst .fz (bE .fz ps))::r)=ok (.lst .ow (bE .ow ps)):=by
 unfold B5;rw[dM (xs:=[.lst .fz (bE .fz ps)]) (items:=ps.map λp=>.lst .fz (bI p.2)) (ds:=ps.map λp=>.lst .ow (bI p.2)) (by simp[bj]) (by rw[eY,jO];rfl) (cB λp hp=>⟨[some (.lst .fz (bI p.2))],by simp[bP,aV],by simp,by simp[bj]⟩) (by simp;exact cP (by left))];show ok (D.lst .ow (aA jg (bE .ow ps)))=_;rw[jO];rfl
noncomputable def IQ:ah:=[.asg (.nm 1) (.call 242 [(.v 0),(.int 0)]),.asg (.nm 2) (.call 243 [(.v 0),(.int 10),(.v 1)]),.asg (.nm 3) (.call 209 [(.v 1),(.v 2)])]
def IP:ah:=[.asg (.nm 4) (.lst [(.call 215 [(.v 1)]),B5])]
noncomputable def P4:CE:=.or [(.not (.o_ (.v 6) .tuple)),(.not (.o_ (.v 7) .list)),(.cmp .ne (.lst [(.v 6),(.v 7)]) (.v 3))]
noncomputable def HK:ah:=[.asg (.nm 6) (.call 76 [(.ix (.v 4) (.int 0))]),.asg (.nm 7) (.call 79 [(.ix (.v 4) (.int 0)),(.ix (.v 4) (.int 1))])]
def HJ:ah:=[.ifs P4 [.ret (.bl false)] [],.ifs (.cmp .ne (.v 4) (.lst [(.v 1),(.v 2)])) [.ret (.bl false)] []]
noncomputable def ME:ah:=[.mut 1014 6 [(.int 1)],.mut 1018 7 [(.int 0),(.int 0)]]
def MF:ah:=HK++(HJ++ME)
def IM:ah:=[.fr (.nm 5) (.kn (.int 2)) MF]
noncomputable def Nx:ah:=[.ret (.bl true)]
def j8:ah:=IQ++(IP++(IM++Nx))
abbrev oQ(ns:aa)(n:Nat)(ps:List Rg)(c5 c6 c7:aJ):ba:=[some (.lst .sc (af ns)),some (bN n (aT ps)),some (.lst .fz (bE .fz ps)),some (.lst .fz [bN n (eN (aT ps)),.lst .fz (bE .fz (iW ps))]),some (.lst .ow [f_ .ow n (aT ps),.lst .ow (bE .ow ps)]),c5,c6,c7]
theorem AW(f g a b c a' b' c':Fl)(n:Nat)(rs:aD)(ps:List Rg):iy .ne (.lst f [f_ a n rs,.lst b (bE c ps)]) (.lst g [f_ a' n rs,.lst b' (bE c' ps)])=ok (.bl false):=by
 have k1:∀a,cO 39 (f_ a n rs)=true:=λa=>by
  unfold f_;rw[l6];simp only[List.all_cons,List.all_nil,gz,Bool.true_and,Bool.and_true];rw[l7];exact l8 (NG 35) _
 have k3:∀b c,cO 39 (.lst b (bE c ps))=true:=λb c=>by
  rw[l7];exact l8 (λp=>I_ 36 _ _) ps
 rw[PZ (by rw[l7];simp only[List.all_cons,List.all_nil,k1,k3,Bool.and_self]) (by rw[l7];simp only[List.all_cons,List.all_nil,k1,k3,Bool.and_self])];have k2:ku (f_ a n rs) (f_ a' n rs)=true:=by
  show(((n:Int)==(n:Int))&&(dC (bU rs) (bU rs)&&true))=true;rw[Fp];simp
 have k4:∀l:List Rg,dC (bE c l) (bE c' l)=true:=λl=>by
  induction l with
  |nil=>rfl
  |cons p l ih =>
   show(dC (bI p.2) (bI p.2)&&dC (bE c l) (bE c' l))=true;rw[ih,Fq];simp
 show ok (D.bl (!(ku (f_ a n rs) (f_ a' n rs)&&(dC (bE c ps) (bE c' ps)&&true))))=_;rw[k2,k4];rfl
theorem zV(Φ:a_)(J5:CB (Φ 76))(O6:F0 (Φ 79))(xg:Φ 1014=Ce)(xc:Φ 1018=ze)(ns:aa){n:Nat}(K:Rk 3 n ps xs)(Fi:nW (aT ps))(c5 c6 c7:aJ):∃Cr za,bA Φ MF (oQ ns n ps c5 c6 c7)=ok (.nx,oQ ns n ps c5 Cr za):=by
 have e1:=J5 n (aT ps) K.dr Fi;have e2:=O6 3 n ps xs K Fi;obtain⟨J,_⟩:=BX K.dr Fi;have f1:=gj bp .ow (iW ps) rfl;have ga:bA Φ HK (oQ ns n ps c5 c6 c7)=ok (.nx,oQ ns n ps c5 (some (f_ .ow n (eN (aT ps)))) (some (.lst .ow (bE .ow (iW ps))))):=by
  simp[HK,G7,bj,aV,jg,e1,e2,f1]
 have q1:=λf g a b c a' b' c'=>AW f g a b c a' b' c' n (eN (aT ps)) (iW ps);have q2:=λf g a b c a' b' c'=>AW f g a b c a' b' c' n (aT ps) ps;have RJ:∀f,du .tuple (f_ f n (eN (aT ps)))=true:=λ_=>rfl;have Ml:∀f ds,du .list (.lst f ds)=true:=λ_ _=>rfl;have yJ:∀rs,bN n rs=f_ .fz n rs:=λ_=>rfl;have gb:bA Φ HJ (oQ ns n ps c5 (some (f_ .ow n (eN (aT ps)))) (some (.lst .ow (bE .ow (iW ps)))))=ok (.nx,oQ ns n ps c5 (some (f_ .ow n (eN (aT ps)))) (some (.lst .ow (bE .ow (iW ps))))):=by
  simp[HJ,P4,oQ,yJ,bj,aV,RJ,Ml,q1,q2]
 have Bx:iW ps≠[]:=λz=>by
  have h1:=J.one;rw[<- BY,z]at h1;exact absurd h1 (by decide)
 obtain⟨r,l,el⟩:∃r l,iW ps=r::l:=by
  cases h:iW ps with
  |nil=>exact absurd h Bx
  |cons r l=>exact⟨r,l,rfl⟩
 have m1:jh Φ (.mut 1014 6 [(.int 1)]) (oQ ns n ps c5 (some (f_ .ow n (eN (aT ps)))) (some (.lst .ow (bE .ow (iW ps)))))=ok (.nx,oQ ns n ps c5 (some (.tup [.int n,.lst .ow []])) (some (.lst .ow (bE .ow (iW ps))))) :=
  kv (xs:=[.int 1]) (d:=f_ .ow n (eN (aT ps))) rfl rfl rfl (by rw[xg];rfl)
 have EM:r.2.length<cg:=by
  have:=(Po K Fi r (by rw[el];exact aaf)).1;have h2:=(J.lot r.1 (by rw[<- BY,el];exact aaf)).len;have h3:=K.Jf;show _<1000000;left
 have ZU:ze [.lst .ow (bE .ow (r::l)),.int 0,.int 0]=ok (.lst .ow (fZ 0 (.lst .ow (bI r.2++[.int 0])) 0 (bE .ow (r::l)))):=by
  show(match La (bE .ow (r::l)) 0 (.int 0)with|some es=>ok (D.lst .ow es)|none=>none)=_;have:La (bE .ow (r::l)) 0 (.int 0)=some (fZ 0 (.lst .ow (bI r.2++[.int 0])) 0 (bE .ow (r::l))):=by
   show(if (bI r.2).length<cg/\aH anyF (.int 0)=false then some (fZ 0 (.lst .ow (bI r.2++[.int 0])) 0 (bE .ow (r::l)))else none)=_;rw[if_pos ⟨by simpa using EM,rfl⟩]
  rw[this]
 have m2:jh Φ (.mut 1018 7 [(.int 0),(.int 0)]) (oQ ns n ps c5 (some (.tup [.int n,.lst .ow []])) (some (.lst .ow (bE .ow (r::l)))))=ok (.nx,oQ ns n ps c5 (some (.tup [.int n,.lst .ow []])) (some (.lst .ow (fZ 0 (.lst .ow (bI r.2++[.int 0])) 0 (bE .ow (r::l)))))) :=
  kv (xs:=[.int 0,.int 0]) (d:=.lst .ow (bE .ow (r::l))) rfl rfl rfl (by rw[xc];exact ZU)
 rw[<- el]at m2;refine⟨some (.tup [.int n,.lst .ow []]),some (.lst .ow (fZ 0 (.lst .ow (bI r.2++[.int 0])) 0 (bE .ow (iW ps)))),?_⟩;rw[MF,cY Φ _ _ _ _ ga,cY Φ _ _ _ _ gb,ME,bK,m1];show bA Φ [.mut 1018 7 [(.int 0),(.int 0)]] _=_;rw[bK,m2];rfl
theorem N5(Φ:a_)(J5:CB (Φ 76))(O6:F0 (Φ 79))(tH:nS (Φ 200))(U0:Hm (Φ 209))(UZ:pN (Φ 215))(UY:CA (Φ 242))(UX:Hl (Φ 243))(xg:Φ 1014=Ce)(xc:Φ 1018=ze)(ns:aa):mk Φ 1 8 j8 [.lst .sc (af ns)]=ok (.bl true):=by
 obtain⟨n,rs,hn,I,Fi,e1⟩:=UY ns 0 (by decide);obtain⟨ps,rfl,OA,e2⟩:=UX ns 10 n rs (by decide) I;have K:Rk 3 n ps (List.replicate n 0):=⟨I,λp hp=>(OA p hp).1,λp hp=>(OA p hp).2,by left,by simp,λq hq=>by rw[List.eq_of_mem_replicate hq];exact⟨by decide,by decide⟩⟩
 have e3:=U0 n ps _ K Fi;have e4:Φ 215 [bN n (aT ps)]=ok (f_ .ow n (aT ps)):=UZ n (aT ps);have hfew:=K.kr;have f1:=gj bp .ow ps rfl;have f2:=gj bp .al (iW ps);have ga:bA Φ IQ [some (.lst .sc (af ns)),none,none,none,none,none,none,none]=ok (.nx,[some (.lst .sc (af ns)),some (bN n (aT ps)),some (.lst .fz (bE .fz ps)),some (.lst .fz [bN n (eN (aT ps)),.lst .fz (bE .fz (iW ps))]),none,none,none,none]):=by
  have yJ:∀rs,bN n rs=f_ .fz n rs:=λ_=>rfl;rw[yJ,yJ];rw[yJ]at e2;rw[yJ,yJ]at e3;simp[IQ,e1,e2,e3,f1,bj,aV,jg,bp,gR,cW]
 have gb:bA Φ IP [some (.lst .sc (af ns)),some (bN n (aT ps)),some (.lst .fz (bE .fz ps)),some (.lst .fz [bN n (eN (aT ps)),.lst .fz (bE .fz (iW ps))]),none,none,none,none]=ok (.nx,oQ ns n ps none none none):=by
  have ec:=K5 Φ (ps:=ps) hfew (some (.lst .sc (af ns))) (some (bN n (aT ps))) [some (.lst .fz [bN n (eN (aT ps)),.lst .fz (bE .fz (iW ps))]),none,none,none,none];have m1:aU aV (bN n (aT ps))=bN n (aT ps):=by simp[bN]
  have m2:aU bj (bN n (aT ps))=bN n (aT ps):=by simp[bN]
  simp[IP,m1,m2,e4,ec,f1,jg]
 obtain⟨a6,a7,t1⟩:=zV Φ J5 O6 xg xc ns K Fi (some (.int 0)) none none;obtain⟨b6,b7,t2⟩:=zV Φ J5 O6 xg xc ns K Fi (some (.int 1)) a6 a7;have hit:cM Φ (.kn (.int 2)) (oQ ns n ps none none none)=ok ([.int 0,.int 1],oQ ns n ps none none none):=by
  rw[yv (n:=2) (by simp) (by left) (by left)];rfl
 have el:dJ (λd ρ=>cy (.nm 5) d ρ) (λρ=>bA Φ MF ρ) [.int 0,.int 1] (oQ ns n ps none none none)=ok (.nx,oQ ns n ps (some (.int 1)) b6 b7):=by
  refine dj (ρ1:=oQ ns n ps (some (.int 0)) none none) (by simp) (by exact t1) ?_;refine dj (ρ1:=oQ ns n ps (some (.int 1)) a6 a7) (by simp) (by exact t2) ?_;rw[qQ]
 have hf:=eU (Φ:=Φ) (t:=.nm 5) (b:=MF) hit el;have gc:bA Φ IM (oQ ns n ps none none none)=ok (.nx,oQ ns n ps (some (.int 1)) b6 b7):=by
  rw[IM,bK,hf];rfl
 rw[mk_eq (show[D.lst .sc (af ns)].length=1 from rfl)];show kS (bA Φ j8 [some (.lst .sc (af ns)),none,none,none,none,none,none,none])=_;rw[j8,cY Φ _ _ _ _ ga,cY Φ _ _ _ _ gb,cY Φ _ _ _ _ gc,Nx];simp
end DI
end
namespace PySem.W.Fast
def tw15829681191557144635:=0
def tw14421988150538074222:=0
def tw16047159435143161554:=0
def tw15449448956264680134:=0
def tw12004524392251122451:=0
def tw14190533196513039689:=0
def tw7979978357313817293:=0
def tw17705721401405828783:=0
def tw11679014426710143226:=0
def tw524048706902459609:=0
def tw9924356503234717742:=0
def tw16155028261800725578:=0
def tw1216297705464566435:=0
def tw5485387768587814605:=0
def tw5058266936490276364:=0
def tw7009231491469446087:=0
def tw2932582331937932970:=0
def tw5549187257251132348:=0
def tw4222527274921064975:=0
def tw15955515147349606570:=0
def tw13523266224899216538:=0
def tw3071311049095665286:=0
def tw15725315141529769778:=0
def tw1264374565459893013:=0
def tw11319726422920643544:=0
def tw3684290005774351365:=0
def tw6506963014742991661:=0
def tw16375704642601348299:=0
def tw13908218750990557188:=0
def tw8089770500766581200:=0
def tw8614081902623378876:=0
def tw6189162638047959158:=0
def tw3769854881593449199:=0
def tw16655985246679185451:=0
def tw408914037952078770:=0
def tw16179969790218456720:=0
def tw2302797076303776328:=0
def tw9293633654756718114:=0
def tw624456214875800382:=0
def tw13871025178947737705:=0
def tw10768499519623092088:=0
def tw4342192503479817547:=0
def tw17664998027674219145:=0
def tw9125652382362393914:=0
def tw2625422061092054156:=0
def tw11312140714016279943:=0
def tw3958012125424288491:=0
def tw285685232261624437:=0
def tw4013799265057603235:=0
def tw6048959118980304291:=0
def tw16597385144520047725:=0
def tw9816402208960386653:=0
def tw13427554049857266165:=0
def tw5737522198916228784:=0
def tw15095446721437135915:=0
def tw3396512352618036194:=0
def tw11301935406853553817:=0
def tw8770682173017074250:=0
def tw10475745922767322063:=0
def tw660355481233692750:=0
def tw4682684136009323316:=0
def tw5554510460434350459:=0
def tw3162869133583649020:=0
def tw8818870957295087281:=0
def tw18161513128390113727:=0
def tw18191607156100383255:=0
def tw7085892004565556077:=0
def tw3663085094083478270:=0
def tw3178023076441299123:=0
def tw17759403464143336111:=0
def tw6206380105530846039:=0
def tw142093370441601183:=0
def tw6630484968724435928:=0
def tw2230835110438398671:=0
def tw15604258972686371557:=0
def tw9095536396792781442:=0
def tw9076675480506170394:=0
def tw16304930698625672265:=0
def tw13246510156877256258:=0
def tw12090307799612305539:=0
def tw18418549314954464377:=0
def tw17820251167698647922:=0
def tw12956920331354198891:=0
def tw12942508941065897590:=0
def tw12261965288607426517:=0
def tw15807008307306105968:=0
def tw5388901801271569122:=0
def tw17733797315364179074:=0
def tw7670236755480289438:=0
def tw1351585934622441311:=0
def tw2229980942592950217:=0
def tw9094513177056625854:=0
def tw15080929859433008734:=0
def tw13761247615097893121:=0
def tw4905905130021693398:=0
def tw18295146932393447171:=0
def tw11741171873311257256:=0
def tw13654573788004383888:=0
def tw2992694243379601032:=0
def tw17368492829717766554:=0
def tw8483011883107105477:=0
def tw8816327612699596103:=0
def tw4060514227869337303:=0
def tw4084946610912402293:=0
def tw3940389004396347061:=0
def tw12565982871264316226:=0
def tw17587963705994726788:=0
def tw6412278803839000626:=0
def tw583993374098234198:=0
def tw7301582975500739189:=0
def tw2903752049904562816:=0
def tw8237911257899551772:=0
def tw13572410506744859112:=0
def tw5103781034554915590:=0
def tw15506396807697352574:=0
def tw5831366074928638411:=0
def tw5746332402295470910:=0
def tw4628067386613381807:=0
end PySem.W.Fast
namespace Asm
open PySem PySem.Spec PyProof.Rows L2 DI
noncomputable def top(i:Nat):Stmt:=PySem.Challenge.pw_sharesample_k33_order_forgotten.main.body.getD i (.Pass ⟨0,0,0,0⟩)
def px:Px:=⟨λn sc bl e=>if n=1020 then qY true sc bl e else if n=1022 then xM sc bl e else if n=1030 then iO sc bl e else if n=1031 then iP sc bl e else if n=1032 then kW sc bl e else if n=1035 then iz "sorted" sc bl e else if n=1040 then xJ sc bl e else if n=1041 then xK sc bl e else if n=1060 then iO sc bl e else if n=1061 then iP sc bl e else if n=1062 then kW sc bl e else none,λn sc bl e=>if n=1000 then fR sc bl e else if n=1015 then fR sc bl e else if n=1100 then Cn sc bl e else none,λn sc bl e=>if n=1014 then q_ sc bl e else if n=1018 then ra sc bl e else if n=1033 then iN sc bl e else if n=1063 then iN sc bl e else none,λn sc bl e=>if n=1200 then qX sc bl e else none⟩
noncomputable def PT:a_
 |1000=>uq
 |1014=>Ce
 |1015=>rQ
 |1018=>ze
 |1020=>(cutD true)
 |1022=>LS
 |1030=>xy
 |1031=>pC
 |1032=>yX
 |1033=>pA
 |1035=>kT
 |1040=>NZ
 |1041=>LB
 |1060=>wz
 |1061=>oY
 |1062=>qb
 |1063=>sO
 |1100=>nE
 |1200=>uR
 |_=>λ_=>none
theorem pr(F:a_)(i:Nat)(m:aC):vJ px (xm PT F i m)/\Li px (xm PT F i m):=⟨⟨(λX sc bl k L p e args he F cs hs=>Bo he (λhe=>K0 rfl L he hs) λhe=>Bo he (λhe=>Ph rfl L he hs) λhe=>Bo he (λhe=>FA rfl L he hs) λhe=>Bo he (λhe=>FD rfl L he hs) λhe=>Bo he (λhe=>KW rfl L he hs) λhe=>Bo he (λhe=>B7 rfl L he hs) λhe=>Bo he (λhe=>NY rfl L he hs) λhe=>Bo he (λhe=>N0 rfl L he hs) λhe=>Bo he (λhe=>D5 rfl L he hs) λhe=>Bo he (λhe=>D9 rfl L he hs) λhe=>Bo he (λhe=>ID rfl L he hs) λhe=>nomatch he),(λX sc bl k L p e args he F cs tg ht hs pins s σ H R τ ρ xs d items I Si cc ed ei Rr hR=>by
  dsimp only[px]at he;by_cases hp:p=1000
  ·subst hp;rw[if_pos rfl]at he;exact Hr rfl L he ht hs I Si cc ed ei Rr hR
  rw[if_neg hp]at he;clear hp;by_cases hp:p=1015
  ·subst hp;rw[if_pos rfl]at he;exact C_ rfl L he ht hs I Si cc ed ei Rr hR
  rw[if_neg hp]at he;clear hp;by_cases hp:p=1100
  ·subst hp;rw[if_pos rfl]at he;exact B8 rfl L he ht hs I Si cc ed ei Rr hR
  rw[if_neg hp]at he;clear hp;cases he)⟩,⟨(λX sc bl k L hN qI p st x pos args he i hi hl pe F cs hs=>QR he (λhe=>K3 rfl L hN qI he hi hl pe hs) λhe=>QR he (λhe=>Lc rfl L hN qI he hi hl pe hs) λhe=>QR he (λhe=>Fy rfl L hN qI he hi hl pe hs) λhe=>QR he (λhe=>D3 rfl L hN qI he hi hl pe hs) λhe=>nomatch he),(λX sc bl k L hN qI p st x pos args he i hi hl pe F c1 c2 hs=>TL he (λhe=>Iy rfl L hN qI he hi hl pe hs) λhe=>nomatch he)⟩⟩
noncomputable def xt(F:a_)(i a b:Nat)(c:ah):a_:=xm PT F i (mk F a b c)
noncomputable def BL:ak:=["abs","all","bool","int","isinstance","len","list","range","set","sorted","sum","tuple","zip"]
noncomputable def CC:List (Str×GK):=[("MOST_HOUSES",GK.i 12)]
noncomputable def gJ:a_:=xm PT PT 0 λ_=>none
noncomputable def jw:a_:=xt gJ 215 1 1 (iT)
noncomputable def k8:a_:=xt jw 201 2 4 (j7)
noncomputable def k0:a_:=xt k8 202 2 2 (xR 201)
noncomputable def k7:a_:=xt k0 203 2 2 (iS 201)
noncomputable def jx:a_:=xt k7 209 2 12 (uf)
noncomputable def ju:a_:=xt jx 200 2 4 (eO)
noncomputable def jv:a_:=xt ju 242 2 11 (rA)
noncomputable def fV:a_:=xt jv 230 2 4 (mn)
noncomputable def jy:a_:=xt fV 243 3 3 (xS)
noncomputable def gN:a_:=xt jy 0 1 1 (gE)
noncomputable def eh:a_:=xt gN 43 2 2 (df)
noncomputable def fW:a_:=xt eh 1 2 3 (de)
noncomputable def nX:a_:=xt fW 3 1 1 (b9)
noncomputable def iD:a_:=xt nX 12 2 2 (j9)
noncomputable def eR:a_:=xt iD 44 1 3 (fL)
noncomputable def iC:a_:=xt eR 9 1 3 (cH)
noncomputable def fF:a_:=xt iC 10 2 2 (fK)
noncomputable def fU:a_:=xt fF 14 1 4 (iR)
noncomputable def jz:a_:=xt fU 15 1 2 (eC)
noncomputable def d_:a_:=xt jz 45 1 4 (gF)
noncomputable def dm:a_:=xt d_ 72 1 1 (rB)
noncomputable def fX:a_:=xt dm 73 1 1 (rE)
noncomputable def gM:a_:=xt fX 2 2 3 (cI)
noncomputable def dk:a_:=xt gM 18 3 3 (xT)
noncomputable def eT:a_:=xt dk 76 1 6 (FR)
noncomputable def fY:a_:=xt eT 40 2 2 (cm)
noncomputable def k9:a_:=xt fY 74 2 4 (FT)
noncomputable def gL:a_:=xt k9 7 2 2 (Cv 2)
noncomputable def jt:a_:=xt gL 6 2 2 (iS 2)
noncomputable def gK:a_:=xt jt 41 1 2 (gD)
noncomputable def dO:a_:=xt gK 42 1 2 (e9)
noncomputable def CG:a_:=xt dO 79 2 11 (Cu)
def R4:=yj gJ
def zW:=DP jw
def R7:=MS k8 (f:=201) zW
def R6:=wc k0 (f:=201) zW
def R5:=MU k7 ⟨⟨rfl,rfl,rfl,rfl,rfl⟩,zW,R7,R6,rfl,rfl,rfl,rfl⟩
def HL:=Ih jx
def RY:=Ic ju ⟨rfl,rfl,rfl,rfl,rfl,rfl⟩ rfl HL zW
def RZ:=DN jv zW
def RX:=MT fV HL RZ
def t0:=uN jy
def X1:=p6 gN t0
def t1:=kI eh
def t3:=om fW t0 t1
def X6:=Af nX t3 X1
def X0:=sD iD rfl rfl rfl
def t9:=lJ eR t1
def V0:=sC iC
def VZ:=yi fF t9 V0 rfl
def X5:=oj fU VZ
def XZ:=uO jz t0 X6 X5 X0
def XY:=Ie d_ XZ
def XX:=Ig dm XY
def t2:=oo fX t1
def VY:=MV gM ⟨rfl,rfl,rfl,rfl,rfl⟩ t2
def VX:=Sg dk ⟨rfl,rfl,rfl,rfl,rfl⟩ VZ VY XX
def X4:=lK eT t3
def XW:=Sh fY X4 rfl
def t7:=s_by k9 (f:=2) t2
def t6:=wc gL (f:=2) t2.1
def X3:=uM jt t9 V0
def X2:=p5 gK t2 X3
def XU:=Sf dO t6 t7 X2 XW VX rfl rfl rfl rfl rfl
theorem yt:∀ns:aa,(mk CG 1 8 (j8)) [.lst .sc (af ns)]=ok (.bl true):=N5 CG VX XU HL R5 R4 RY RX rfl rfl
theorem K4:Rj (top 42) ["_law_script","_law_drawing","_law_guess","_law_due_here","_law_handed","_law_turn","_law_lots","_law_told"] ["_law_script"] [(76,"forgotten_drawing"),(79,"forgotten_guess"),(209,"_law_due"),(215,"_law_copied"),(242,"_law_rows"),(243,"_law_weights")] BL CC px (j8)=true:=by decide +kernel
theorem all_mk{l:PySem.W.OpenLaw}{w:World}{K:aq}{h:Heap}{mg:aX}{fa:Addr}{u0:Value}(X:K.In h)(G:h.Ns mainGlobals mg)(UD:mg "law" = some (.ref fa))
  (a0:Df K "_law_copied" (top 40))
  (a1:Df K "_law_frac" (top 34))
  (a2:Df K "_law_add" (top 35))
  (a3:Df K "_law_mul" (top 36))
  (a4:Df K "_law_due" (top 41))
  (a5:Df K "_law_cell" (top 33))
  (a6:Df K "_law_rows" (top 38))
  (a7:Df K "_law_list" (top 37))
  (a8:Df K "_law_weights" (top 39))
  (a9:Df K "is_whole" (top 6))
  (a10:Df K "are_houses" (top 19))
  (a11:Df K "common_divisor" (top 7))
  (a12:Df K "is_fraction" (top 9))
  (a13:Df K "is_row" (top 20))
  (a14:Df K "rows_rise" (top 21))
  (a15:Df K "common_bottom" (top 13))
  (a16:Df K "tops_over" (top 14))
  (a17:Df K "weighed_lots" (top 22))
  (a18:Df K "sums_to_one" (top 23))
  (a19:Df K "is_drawn" (top 24))
  (a20:Df K "is_row_drawing" (top 27))
  (a21:Df K "check_row_drawing" (top 28))
  (a22:Df K "fraction_of" (top 8))
  (a23:Df K "drawing_of" (top 25))
  (a24:Df K "forgotten_drawing" (top 30))
  (a25:Df K "are_fractions" (top 10))
  (a26:Df K "check_guess" (top 29))
  (a27:Df K "frac_by" (top 12))
  (a28:Df K "frac_times" (top 11))
  (a29:Df K "over_one" (top 15))
  (a30:Df K "frac_total" (top 16))
  (a31:Df K "forgotten_guess" (top 31))
  (a32:Df K "law" (top 42))
  (z:dz (λy=>PySem.W.nsIn K mainGlobals y=some none) BL)
  (q0:PySem.W.nsIn K mainGlobals "MOST_HOUSES" = some (some u0)) (r0:RelV (.int 12) u0) :
  ∃fd:FuncData,(∀(s:Shared) (v:Value),BindsTo s fd ⟨[v],[]⟩ [("_law_script",v)])/\∀base:Heap,K.In base->base.Ns mainGlobals mg->iZ l.prog w K mg base zr 34 fa fd ["_law_script"] (DG K 1 qp):=by
 obtain⟨f,fd,Fu,a⟩:=a32;have e:=UD.symm.trans (PySem.W.mg_of X G a);cases e;obtain⟨oc,od,kV,dc,pm,an,cd,ct,sl,rfl,_,_⟩:=id Fu.ex;have Y:=dz.nn X G z;have x0:∃u,mg "MOST_HOUSES" = some u/\F5 K (GK.i 12) u:=⟨_,PySem.W.mg_of X G q0,r0⟩
 refine⟨PySem.W.fnOf "law" "law" (fJ (top 42)) (dq (top 42)) (bG (top 42)) .none kV dc pm an cd ct,λs v=>.of_eq rfl,λbase _ _=>?_⟩;have N:=@ZH l.prog w K h base mg BL CC px PT X G pr Y ⟨x0,g_⟩;have E0:=N 1 gJ a0 ["_law_drawing"] 1 [] (iT) g_;have E1:=N 2 jw a1 ["_law_top","_law_bottom","_law_one","_law_other"] 2 [] (j7) g_;have E2:=N 3 k8 a2 ["_law_one","_law_other"] 2 [(201,"_law_frac")] (xR 201) ⟨E1.u,g_⟩;have E3:=N 4 k0 a3 ["_law_one","_law_other"] 2 [(201,"_law_frac")] (iS 201) ⟨E1.u,g_⟩;have E4:=N 5 k7 a4 ["_law_drawing","_law_guess","_law_lots","_law_sums","_law_k","_law_chance","_law_row","_law_lot","_law_place","_law_key","_law_told","_law_through"] 2 [(201,"_law_frac"),(202,"_law_add"),(203,"_law_mul")] (uf) ⟨E1.u,E2.u,E3.u,g_⟩;have E5:=N 6 jx a5 ["_law_script","_law_k","_law_cell_here","_law_number"] 2 [] (eO) g_;have E6:=N 7 ju a6 ["_law_script","_law_at","_law_number","_law_many","_law_found","_law_k","_law_other","_law_left","_law_row","_law_turn","_law_whole"] 2 [(200,"_law_cell"),(201,"_law_frac")] (rA) ⟨E5.u,E1.u,g_⟩;have E7:=N 8 jv a7 ["_law_number","_law_many","_law_found","_law_k"] 2 [(201,"_law_frac")] (mn) ⟨E1.u,g_⟩;have E8:=N 9 fV a8 ["_law_script","_law_at","_law_drawing"] 3 [(200,"_law_cell"),(230,"_law_list")] (xS) ⟨E5.u,E7.u,g_⟩;have E9:=N 10 jy a9 ["thing"] 1 [] (gE) g_;have E10:=N 11 gN a10 ["thing","many"] 2 [(0,"is_whole")] (df) ⟨E9.u,g_⟩;have VO:=N 12 eh a11 ["one","other","rest"] 2 [] (de) g_;have XB:=N 13 fW a12 ["thing"] 1 [(0,"is_whole"),(1,"common_divisor")] (b9) ⟨E9.u,VO.u,g_⟩;have E13:=N 14 nX a13 ["thing","many"] 2 [(3,"is_fraction"),(43,"are_houses")] (j9) ⟨XB.u,E10.u,g_⟩;have E14:=N 15 iD a14 ["rows","ahead","behind"] 1 [] (fL) g_;have XA:=N 16 eR a15 ["some","bottom","part"] 1 [(1,"common_divisor")] (cH) ⟨VO.u,g_⟩;have Xz:=N 17 iC a16 ["some","bottom"] 2 [] (fK) g_;have Xy:=N 18 fF a17 ["rows","chances","lots","bottom"] 1 [(9,"common_bottom"),(10,"tops_over")] (iR) ⟨XA.u,Xz.u,g_⟩;have E18:=N 19 fU a18 ["rows","weighed"] 1 [(14,"weighed_lots")] (eC) ⟨Xy.u,g_⟩;have E19:=N 20 jz a19 ["thing","many","rows","row"] 1 [(0,"is_whole"),(12,"is_row"),(15,"sums_to_one"),(44,"rows_rise")] (gF) ⟨E9.u,E13.u,E18.u,E14.u,g_⟩;have E20:=N 21 d_ a20 ["thing"] 1 [(45,"is_drawn")] (rB) ⟨E19.u,g_⟩;have E21:=N 22 dm a21 ["thing"] 1 [(72,"is_row_drawing")] (rE) ⟨E20.u,g_⟩;have RA:=N 23 fX a22 ["top","bottom","divisor"] 2 [(1,"common_divisor")] (cI) ⟨VO.u,g_⟩;have E23:=N 24 gM a23 ["many","weights","bottom"] 3 [(2,"fraction_of")] (xT) ⟨RA.u,g_⟩;have Xx:=N 25 dk a24 ["drawing","weighed","weights","weight","row","lot"] 1 [(14,"weighed_lots"),(18,"drawing_of"),(73,"check_row_drawing")] (FR) ⟨Xy.u,E23.u,E21.u,g_⟩;have E25:=N 26 eT a25 ["thing","many"] 2 [(3,"is_fraction")] (cm) ⟨XB.u,g_⟩;have E26:=N 27 fY a26 ["thing","rows","row","weights"] 2 [(40,"are_fractions")] (FT) ⟨E25.u,g_⟩;have E27:=N 28 k9 a27 ["one","other"] 2 [(2,"fraction_of")] (Cv 2) ⟨RA.u,g_⟩;have E28:=N 29 gL a28 ["one","other"] 2 [(2,"fraction_of")] (iS 2) ⟨RA.u,g_⟩;have E29:=N 30 jt a29 ["some","bottom"] 1 [(9,"common_bottom"),(10,"tops_over")] (gD) ⟨XA.u,Xz.u,g_⟩;have E30:=N 31 gK a30 ["some","tops"] 1 [(2,"fraction_of"),(41,"over_one")] (e9) ⟨RA.u,E29.u,g_⟩;have Z_:=N 32 dO a31 ["drawing","guess","lots","parts","row","weights","lot","house","weight","told","chance"] 2 [(6,"frac_times"),(7,"frac_by"),(42,"frac_total"),(74,"check_guess"),(76,"forgotten_drawing")] (Cu) ⟨E28.u,E27.u,E30.u,E26.u,Xx.u,g_⟩;exact ZG 33 CG qp Fu K4 (pr _ _ _) Y ⟨x0,g_⟩ ⟨Xx.u,Z_.u,E4.u,E0.u,E6.u,E8.u,g_⟩ (A4 λns _=>(uX _ _ (yt ns)).2)
theorem walk{l:PySem.W.OpenLaw}{q:aF}{loose:ak}{XP:(aX)->Heap->Prop}{YP:World->Heap->Prop}{d:DefRec}{K:Params->aq}(hn:l.most=some 63)(OQ:d.params.defaults=[])
  (hY:∀(w:World) (h:Heap),YP w h->(K w.params).In h)
  (F:∀(w:World) (mg:aX) (fa:Addr) (h:Heap),(K w.params).In h->h.Ns mainGlobals mg->mg d.name=some (.ref fa) ->
   ∃fd:FuncData,(∀(s:Shared) (u:Value),BindsTo s fd ⟨[u],[]⟩ [("_law_script",u)])/\∀base:Heap,(K w.params).In base->base.Ns mainGlobals mg->iZ l.prog w (K w.params) mg base zr 34 fa fd ["_law_script"] (DG (K w.params) 1 qp)) :
  PySem.W.WalkO q loose XP YP l.row.toRowW d [] (λf vs=>PySem.call f vs) :=
 L2.De (n:=63) (k:=34) (x:="_law_script") (CX:=λ_=>zr) (sp:=λw=>DG (K w.params) 1 qp) hn (by decide) OQ ⟨rfl,by decide,by decide⟩ hY F (λw H a ns hl hO hS=>Js (K w.params) H a ns qp (Ez hl) hO hS) λ_ _ _ _ _ z=>z
end Asm
end
open PySem PySem.W PyProof.Rows
set_option maxRecDepth 100000 in
set_option maxHeartbeats 0 in
theorem PySem.Challenge.cw_sharesample_k33_order_forgotten_holds : PySem.Challenge.rw_sharesample_k33_order_forgotten.Holds := by
 w_on;o_law;k_head;(case hw=>w_witness2)
 k_fill
 refine Asm.walk (l:=PySem.Challenge.rw_sharesample_k33_order_forgotten) rfl rfl (fun w h Y=>PySem.W.kIn_of Y) ?F
 case F =>
  intro w mg fa h KX G hmg
  refine' Asm.all_mk KX G hmg ?a0 ?a1 ?a2 ?a3 ?a4 ?a5 ?a6 ?a7 ?a8 ?a9 ?a10 ?a11 ?a12 ?a13 ?a14 ?a15 ?a16 ?a17 ?a18 ?a19 ?a20 ?a21 ?a22 ?a23 ?a24 ?a25 ?a26 ?a27 ?a28 ?a29 ?a30 ?a31 ?a32 ?zz ?q0 ?r0
  case a0 | a1 | a2 | a3 | a4 | a5 | a6 | a7 | a8 | a9 | a10 | a11 | a12 | a13 | a14 | a15 | a16 | a17 | a18 | a19 | a20 | a21 | a22 | a23 | a24 | a25 | a26 | a27 | a28 | a29 | a30 | a31 | a32 =>
   refine' DI.dmk ?x ?y ?z ?w
   case x | y | z | w=>k_is
  (case zz=>refine' ⟨?_,?_,?_,?_,?_,?_,?_,?_,?_,?_,?_,?_,?_,trivial⟩ <;> show PySem.W.nsIn _ _ _ = some none <;> k_is)
  (case q0=>k_is);(case r0=>exact ⟨_,rfl⟩)
